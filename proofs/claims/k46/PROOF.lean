import PyProof.Rows.All
import Wide.All
import OpenK.AllK
import Wide.FinOn
import Lean
import PyProof.EqAt
import PyProof.EqKinds
import PyProof.TupleCall
import PyProof.EnumMake
import PyProof.ZipIter
import PyProof.ExcClass2
import PyProof.ExcInit
import PyProof.ExcBaseAll.ValueError
import PyProof.FString2
import PyProof.ExcArgsOwn
import PyProof.InstStoreFacts
import ObjForm.Fk.InstStore
import ObjForm.Fk.InstLoad
import PyProof.StationsW
import PyProof.RulesAs
import PyProof.NsDelKeeps
import OpenK.KMore
import PyProof.IsiBase
import OpenK.KNot
import PyProof.Rows.RuleN_isinstance
import PyProof.NeData
import PyProof.P3In
import PyProof.StrWalks
import PyProof.ConsumeWalk
import PyProof.SliceStr2
import PyProof.MeetsStr
import KE.KItem
import KE.KUnpack
import KE.KRevSl
import PyProof.Rows.SetFrom
import PyProof.SetRoads
import PyProof.Rows.Range3
import PyProof.CallType
import PyProof.Rows.CallKwBuiltin
import PyProof.Rows.MinMaxN
import PyProof.SumWalkG
import PyProof.Rows.SeqMore
import PyProof.Rows.SortWalk
import PyProof.Rows.SumAny
import PyProof.Rows.SeqMore2
import KE.KSortTup
import PyProof.Rows.SortShellK
import PyProof.ReprRoads
import PyProof.ReprBulk
import PyProof.CallFns
import PyProof.NeKinds
import PyProof.Rows.StrJoinMade
import PyProof.StrCalls
import KE.KIntText
import PyProof.ReprDict
import PyProof.DictIter
import PyProof.Rows.DictUnroll
import PyProof.MeetsStr2
import PyProof.Rows.StrNews
import PyProof.StrLawsChain
import PyProof.Rows.StrItems
import PyProof.SeqRoads2
import PySem.Challenge.RW_wishdeal_k46_what_was_dealt_is_kept
set_option compiler.extract_closed false
set_option Elab.async false
set_option linter.all false
set_option maxRecDepth 100000
set_option maxHeartbeats 4000000
theorem Qa:type_of% @of_decide_eq_true:=@of_decide_eq_true
theorem Qk:type_of% @if_pos:=@if_pos
theorem Qs:type_of% @if_neg:=@if_neg
theorem QO:type_of% @decide_eq_false:=@decide_eq_false
theorem Q6:type_of% @decide_eq_true_eq:=@decide_eq_true_eq
theorem Q7:type_of% @decide_eq_true:=@decide_eq_true
theorem Jh:type_of% @of_decide_eq_false:=@of_decide_eq_false
open List renaming length_map→Qb,getElem?_eq_getElem→Qd,getElem?_map→Qe,getElem?_eq_some_iff→Qg,getD_eq_getElem?_getD→Qh,length_append→Qj,mem_cons_of_mem→Ql,mem_cons_self→Qo,getElem?_set_ne→Qp,map_cons→Qq,length_range→Qr,mem_of_getElem?→Qt,mem_map→Qu,length_cons→Qv,getElem?_append_right→Qw,getElem?_append_left→Qy,getElem?_replicate→QA,map_append→QB,getElem?_eq_none→QC,length_replicate→QF,getElem?_set_self→QH,size_toArray→QI,mem_append_right→QJ,flatten_cons→QL,length_nil→QN,replicate_succ→QQ,zip_cons_cons→QR,mem_cons→QT,drop_eq_getElem_cons→QU,length_take→QW,lookup_cons→QY,getElem?_range→QZ,mem_append→Q0,mem_singleton→Q4,length_set→Q5,mem_range→Q8,length_singleton→Q9,map_map→Ja,length_reverse→Jb,sum_cons→Jc,mem_append_left→Jf,append_assoc→Jg,append_nil→Jj,length_drop→Jk,length_filterMap_le→Jl,mem_filterMap→Jm,filter_cons→Jo,ext_getElem?→Jr,pairwise_cons→Ju,all_eq_true→Jx,filterMap_cons→Jz,map_congr_left→JB,count_cons→JE,take_succ→JH,nil_append→JJ,length_zip→JK,sum_append→JL,getElem_mem→JM,take_length→JN,map_replicate→JO,getElem?_zip_eq_some→JQ,take_zero→JV,getElem_map→JX,map_nil→JZ,getElem_range→J0,drop_eq_nil_of_le→J4,foldl_cons→J6,getElem?_reverse→J9,take_append_drop→Ua,mem_flatten→Ud,length_pos_iff→Uf,any_cons→Ug,range_succ→Ui,mem_filter→Ul,nodup_cons→Um,range→Uz,replicate→UA,Pairwise→UK
open PySem renaming wpAny_bind→Qf,wpAny_pure→Qn,wpAny_mono→QG,wpAny_loadPart_at→QK,wpAny_truthy_bool→Q2,wpAny_isSubtype_exc→Jp,wpAny_standAt→Jq,wpAny_passesOwn→Js,codeAny_builtin→JF,wpAny_pyIter_list→JI,mem_of_lookup→JU,Value→Up,Shared→Uq,Program→Ur,Addr→Us,FuncData→Ut,Expr→Uu,sizeLine→Uv,wpAny→Uw,starEach→Ux,compareOp→Uy,assignEach→UM,foldedSetIterable→UN
open PySem.Heap renaming lt_size→Qi,get?_push_of_some→Qm,get?_push_size→QD
open Nat renaming le_refl→Qx,lt_of_lt_of_le→QE,ne_of_lt→QM,le_trans→QS,zero_add→Q3,le_of_not_lt→Jd,lt_irrefl→Jt,zero_le→Jw,ne_of_gt→JR,lt_succ_iff_lt_or_eq→JT,le_succ→JY,not_lt_zero→J8,lt_succ_of_lt→Ub,lt_succ_self→Uc,add_zero→Ue,succ_pos→Uj
open Int renaming toNat_natCast→Qz,le_refl→QX,mul_le_mul_of_nonneg_right→Jn,le_trans→JS,le_antisymm→J7,zero_add→Uk,not_lt→Uo
open Option.some renaming inj→QP
open Bool renaming and_eq_true→Je,eq_iff_iff→JD,false_ne_true→JG,false_eq_true→J5
open Array renaming getD_eq_getD_getElem?→Ji,length_toList→JA,getElem?_eq_getElem→JP
open PySem.W.Fast renaming te1987589406359920131→Jv
open PyProof.Rows renaming callWith_type1→Jy
open PySem.W renaming kia_one→JC
open Option renaming getD_some→JW
open Array.Perm renaming refl→Uh
open PySem.PyData renaming list→UB,bool→UC,str→UD,strOk→UE,canLayAll0→UF,depth→UG,eqv→UH,shown→UL
open PySem.PassesOwn renaming never→UI
open PySem.Str renaming ofString→UJ
abbrev L3:=List (List (List Int))
abbrev LO:=List (Option Int)
abbrev LP:=List (Int×Int)
open PySem.W (Frag)
open PySem.PyData (int)
open List (replicate)
namespace DL
open PySem PySem.Spec PySem.W PyProof.Rows
def topRunT(tb:String->Option Builtin)(p:Ur)(w:World)(m:Nat)(ann:Option Up):Nat->SharedT->Thread->Option SharedT
 |0,_,_=>none
 |n+1,s,t=>match through t,stepOk m ann t with
  |true,_=>some s
  |false,false=>none
  |false,true=>match stepT (denote tb) p w s t with
   |some x=>topRunT tb p w m ann n x.1 x.2
   |none=>none
theorem Gs{tb:String->Option Builtin}{p:Ur}{w:World}{m:Nat}{ann:Option Up}:∀{n:Nat}{s s':SharedT}{t:Thread},topRunT tb p w m ann n s t=some s'->topRun tb p w m ann n s.abs t=some s'.abs
 |0,_,_,_,h=>by cases h
 |n+1,s,s',t,h=>by
  rw[topRunT]at h;rw[topRun];cases ht:through t with
  |true=>rw[ht]at h;cases h;rfl
  |false=>
   rw[ht]at h;cases hk:stepOk m ann t with
   |false=>rw[hk]at h;cases h
   |true=>
    rw[hk]at h;dsimp only at h⊢;cases hs:stepT (denote tb) p w s t with
    |none=>rw[hs]at h;cases h
    |some x=>rw[hs]at h;rw[stepT_spec hs];exact Gs h
def btOf(l:List Obj):BT:=(l.foldl (λ(x:BT×Nat) o=>(x.1.ins x.2 o,x.2+1)) (.nil,0)).1
noncomputable def T0 (w:World) (os:OsState):SharedT:=⟨btOf (boot_heap w.params).objs.toList,11,(boot_heap w.params).life,#[],boot_drawn,boot_toks,os⟩
theorem Ar(w:World)(os:OsState):(T0 w os).abs=⟨boot_heap w.params,#[],boot_drawn,boot_toks,os⟩:=by kernel_rfl
theorem jc(w:World):((boot_heap w.params).isNs mainGlobals&&(#[]:Array GenState).size==0,(boot_heap w.params).objs.size,(boot_heap w.params).nsMap mainGlobals "__annotations__")=(true,11,some (.ref 6)):=by kernel_rfl
noncomputable abbrev F3 (p q:Ur) (loose:List Str) (Xt:Uq->Bool) (w:World) (t:SharedT):=
 ((staticsOk (importedModules p.main.body) (boot_heap w.params) t.abs.heap&&namesBound p t.abs.heap&&gensDone t.abs&&laidKept (boot_heap w.params) t.abs.heap),openSeen q loose (importedModules p.main.body) Xt true t.abs)
theorem CM{p q:Ur}{loose:List Str}{Xt:Uq->Bool}{N M:Nat}(e:opening p=plainProg p.main.scope.names)(hN:Nat.ble 600 N=true)(f:∀s,fenceModules? p s=some s)(le:Nat.ble M N=true)
  (run:∀(w:World)(os:OsState),(topRunT treeTable p w 11 (some (.ref 6)) M (T0 w os) (topStub p)).map (F3 p q loose Xt w)=some (true,openGood q loose)):LeftO p q loose Xt (Hook.obs .none) (Hook.val .none) N:=λw=>by
 obtain⟨⟨h,gs,d,k,os⟩,e0,e'⟩:=Option.map_eq_some_iff.mp (boot_open e hN f w);have e':(h,gs,d,k)=(boot_heap w.params,#[],boot_drawn,boot_toks):=e';obtain⟨rfl,rfl,rfl,rfl⟩:h=boot_heap w.params/\gs=#[]/\d=boot_drawn/\k=boot_toks:=by simpa only[Prod.mk.injEq]using e'
 obtain⟨t,ht,l⟩:=Option.map_eq_some_iff.mp (run w os);have hr:=Gs ht;rw[Ar]at hr;have r:=topRun_mono (N-M) _ _ _ _ hr;rw[show M+(N-M)=N by have:=Nat.le_of_ble_eq_true le;omega]at r;obtain⟨l1,l2⟩:=Prod.mk.inj l;have z:=jc w;obtain⟨z1,z2,z3⟩:_/\_/\_:=by simpa only[Prod.mk.injEq]using z
 have tf:topFrom treeTable p w N ⟨boot_heap w.params,#[],boot_drawn,boot_toks,os⟩=some t.abs:=by
  unfold topFrom;dsimp only;rw[z1,z2,z3,r]
  show(match staticsOk (importedModules p.main.body) (boot_heap w.params) t.abs.heap&&namesBound p t.abs.heap&&gensDone t.abs&&laidKept (boot_heap w.params) t.abs.heap with|true=>some t.abs|false=>none)=_
  rw[l1]
 unfold openEnds;rw[e0]
 show(topFrom treeTable p w N _).map _=_
 rw[tf];exact congrArg some (Prod.ext l2 rfl)
end DL
open PySem in
lay_quick PySem.Challenge.pw_wishdeal_k46_what_was_dealt_is_kept DL.topRunT PySem.W.openGood PySem.W.staticsOk PySem.W.namesBound PySem.W.laidKept PySem.W.xlAt
namespace W
open PySem PySem.Spec DL
abbrev p0:Ur:=PySem.Challenge.pw_wishdeal_k46_what_was_dealt_is_kept
def XG:List Nat:=[1,2,4,5,6,8,9,10,11,12,13,14,15,16,17,18,19,21,23,24,25,27,28,29,31,32,33,34,35,37,39,40,41,42,43,44,45,46,47,48,49,50,51,53,55,56,57,58,59,60,61,62,63,64,65,66,67]
def ixL:List Nat:=[1,2,12,13,14,15,16,17,18,19,21,24,25,27,28,29,31,32,33,34,35,37,39,40,41,42,43,44,45,46,47,48,49,50,51,53,55,56,57,58,59,60,61,62,63,64,65,66,67]
abbrev q0:Ur:=PySem.W.view p0 XG
theorem F2:∀(w:World)(os:OsState),(PySem.W.Fast.tw10708255244068714335 PySem.W.Fast.tw14364793385576792824 PySem.W.Fast.tw6007212441101073949 w 11 (some (.ref 6)) 2453 (T0 w os) (PySem.W.topStub PySem.W.Fast.tw6007212441101073949)).map (λt=>((PySem.W.Fast.tw13471830651028734593 (PySem.W.Fast.tw5923862056798008813 (Program.main PySem.W.Fast.tw6007212441101073949).body) (PySem.W.boot_heap w.params) t.abs.heap&&PySem.W.Fast.tw4683006035507612052 PySem.W.Fast.tw6007212441101073949 t.abs.heap&&PySem.W.gensDone t.abs&&PySem.W.Fast.tw16898566250750103049 (PySem.W.boot_heap w.params) t.abs.heap),PySem.W.Fast.tw4187177175401517315 (PySem.W.view PySem.W.Fast.tw6007212441101073949 XG) [] (PySem.W.Fast.tw5923862056798008813 (Program.main PySem.W.Fast.tw6007212441101073949).body) (λs=>PySem.W.Fast.tw4757257242682413121 (PySem.W.view PySem.W.Fast.tw6007212441101073949 XG) [] s&&PySem.W.recOk [] s) true t.abs))=some (true,PySem.W.Fast.tw3486900944545009338 (PySem.W.view PySem.W.Fast.tw6007212441101073949 XG) []):=by intro w os;kernel_rfl
theorem F1:PySem.W.LeftO p0 q0 [] (λs=>PySem.W.xlAt q0 [] s&&PySem.W.recOk [] s) (PySem.W.Hook.obs .none) (PySem.W.Hook.val .none) 4806:=by
 refine CM (M:=2453) (by kernel_rfl) rfl (λs=>by kernel_rfl) rfl λw os=>?_
 have h:=F2 w os;rw[←PySem.W.Fast.te10708255244068714335,←PySem.W.Fast.te14364793385576792824,←PySem.W.Fast.te4187177175401517315,←PySem.W.Fast.te5923862056798008813,←PySem.W.Fast.te13471830651028734593,←PySem.W.Fast.te4683006035507612052,←PySem.W.Fast.te16898566250750103049,←PySem.W.Fast.te4757257242682413121,←PySem.W.Fast.te3486900944545009338,←PySem.W.Fast.te6007212441101073949]at h;exact h
end W
namespace L2
open PySem PySem.Spec PyProof.Rows
abbrev Key:=Sum Int Str
def Sk:Key->Up->Bool
 |.inl k,v=>Value.isInt k v
 |.inr x,v=>Value.isStrOf x v
def keyH(w:World):Key->Int
 |.inl k=>hashInt k
 |.inr x=>hashStr w x
theorem Wx:∀{k:Key}{v:Up},Sk k v=true->(∃i t,k=Sum.inl i/\v=Value.int i t)∨(∃x t,k=Sum.inr x/\v=Value.str x t)
 |.inl i,v,h=>by obtain⟨t,e⟩:=Value.isInt_shape (k:=i) (v:=v) h;exact .inl ⟨i,t,rfl,e⟩
 |.inr x,v,h=>by obtain⟨t,e⟩:=Value.isStrOf_shape (x:=x) (v:=v) h;exact .inr ⟨x,t,rfl,e⟩
theorem jb(i:Int)(t:Tok):Sk (.inl i) (.int i t)=true:=by simp[Sk,Value.isInt]
theorem ja(x:Str)(t:Tok):Sk (.inr x) (.str x t)=true:=by simp[Sk,Value.isStrOf]
theorem EL(a b:Int):decide ((Sum.inl a:Key)=Sum.inl b)=(a==b):=by
 by_cases e:a=b
 ·subst e;simp
 ·have h:¬(Sum.inl a:Key)=Sum.inl b:=λq=>e (Sum.inl.inj q)
  rw[QO h];exact(beq_eq_false_iff_ne.mpr e).symm
theorem EK(a b:Str):decide ((Sum.inr a:Key)=Sum.inr b)=decide (a=b):=by
 by_cases e:a=b
 ·subst e;simp
 ·have h:¬(Sum.inr a:Key)=Sum.inr b:=λq=>e (Sum.inr.inj q)
  rw[QO h,QO e]
theorem EJ(a:Int)(b:Str):decide ((Sum.inl a:Key)=Sum.inr b)=false:=QO (λq=>nomatch q)
theorem EI(a:Str)(b:Int):decide ((Sum.inr a:Key)=Sum.inl b)=false:=QO (λq=>nomatch q)
def Xc(prog:Ur)(w:World):PySem.KeyKind prog w Key where
 is:=Sk
 hash:=keyH w
 inj:=λv a b ha hb=>by
  rcases Wx ha with ⟨i,t,rfl,rfl⟩|⟨x,t,rfl,rfl⟩
  ·rcases Wx hb with ⟨j,u,rfl,e⟩|⟨y,u,rfl,e⟩
   ·injection e with e1 _;rw[e1]
   ·exact nomatch e
  ·rcases Wx hb with ⟨j,u,rfl,e⟩|⟨y,u,rfl,e⟩
   ·exact nomatch e
   ·injection e with e1 _;rw[e1]
 byValue:=λk v h=>by rcases Wx h with ⟨i,t,rfl,rfl⟩|⟨x,t,rfl,rfl⟩<;>rfl
 pyHash:=λhv h=>by
  rcases Wx hv with ⟨i,t,rfl,rfl⟩|⟨x,t,rfl,rfl⟩
  ·exact wpAny_pyHash_int h
  ·exact wpAny_pyHash_str h
 eqBool:=λhu hv h=>by
  rcases Wx hu with ⟨i,t,rfl,rfl⟩|⟨x,t,rfl,rfl⟩
  ·rcases Wx hv with ⟨j,u,rfl,rfl⟩|⟨y,u,rfl,rfl⟩
   ·rw[EL]at h;exact wpAny_eqBool_int h
   ·rw[EJ]at h;exact SeqAt.EqAt.int_str i t y u _ _ _ _ h
  ·rcases Wx hv with ⟨j,u,rfl,rfl⟩|⟨y,u,rfl,rfl⟩
   ·rw[EI]at h;exact SeqAt.EqAt.str_int x t j u _ _ _ _ h
   ·rw[EK]at h;exact wpAny_eqBool_str h
 «strs»:=λk x t v h=>by
  rcases Wx h with ⟨i,u,rfl,e⟩|⟨y,u,rfl,e⟩
  ·exact nomatch e
  ·injection e with e1 _
   subst e1;cases v<;>rfl
theorem km(prog:Ur)(w:World)(i:Int)(t:Tok):(Xc prog w).is (.inl i) (.int i t)=true:=jb i t
theorem jT(prog:Ur)(w:World)(x:Str)(t:Tok):(Xc prog w).is (.inr x) (.str x t)=true:=ja x t
inductive V where
 |non|bl (b:Bool)|int (i:Int)|str (x:Str)|byt (b:Array UInt8)|flt (b:UInt64)|ref (a:Us)|ty (n:String)
 deriving DecidableEq
def RelV:V->Up->Prop
 |.non,u=>u=Value.none
 |.bl b,u=>u=Value.bool b
 |.int i,u=>∃t,u=Value.int i t
 |.str x,u=>∃t,u=Value.str x t
 |.byt b,u=>∃t,u=Value.bytes b t
 |.flt b,u=>∃t,u=Value.float b t
 |.ref a,u=>u=Value.ref a
 |.ty n,u=>u=Value.type n
abbrev Vals:List V->List Up->Prop:=Paired RelV
theorem Vals.length{xs:List V}{us:List Up}(r:Vals xs us):xs.length=us.length:=Paired.length r
theorem Vals.get:∀{xs:List V}{us:List Up}{i:Nat}{x:V},Vals xs us->xs[i]?=some x->∃u,us[i]?=some u/\RelV x u
 |_,_,_,_,.nil,e=>by simp at e
 |_,_,0,_,.cons r _,e=>by simp at e;subst e;exact⟨_,rfl,r⟩
 |_,_,i+1,x,.cons _ t,e=>by obtain⟨u,h1,h2⟩:=Vals.get (i:=i) (x:=x) t (by simpa using e);exact⟨u,by simpa using h1,h2⟩
theorem Vals.set{x:V}{u:Up}(r:RelV x u):∀{xs:List V}{us:List Up}(i:Nat),Vals xs us->Vals (xs.set i x) (us.set i u)
 |_,_,_,.nil=>.nil
 |_,_,0,.cons _ t=>.cons r t
 |_,_,i+1,.cons q t=>.cons q (Vals.set r i t)
theorem Vals.append:∀{xs ys:List V}{us ws:List Up},Vals xs us->Vals ys ws->Vals (xs++ys) (us++ws)
 |_,_,_,_,.nil,s=>s
 |_,_,_,_,.cons r t,s=>.cons r (Vals.append t s)
theorem Vals.take:∀{xs:List V}{us:List Up}(n:Nat),Vals xs us->Vals (xs.take n) (us.take n)
 |_,_,0,_=>.nil
 |_,_,_+1,.nil=>.nil
 |_,_,n+1,.cons r t=>.cons r (Vals.take n t)
theorem Vals.drop:∀{xs:List V}{us:List Up}(n:Nat),Vals xs us->Vals (xs.drop n) (us.drop n)
 |_,_,0,r=>r
 |_,_,_+1,.nil=>.nil
 |_,_,n+1,.cons _ t=>Vals.drop n t
def RelO:Option V->Option Up->Prop
 |some v,some u=>RelV v u
 |none,none=>True
 |_,_=>False
def KV{κ:Type}:List (κ×V)->List (κ×Up)->Prop:=Paired λ(p:κ×V) (q:κ×Up)=>p.1=q.1/\RelV p.2 q.2
def kV:Key->V
 |.inl i=>.int i
 |.inr x=>.str x
inductive HO where
  |lst (xs:List V)
  |tup (xs:List V)
  |dK (kvs:List (Key×V))|dT (kvs:List (List Key×V))
  |set (S:Int->Bool) (n:Nat)
  |ins (C dx:Us) (fs:List (Str×V))
  |own (x:Us)
  |xd (fs:List (Str×V))
  |met (f x:Us)
  |rng (lo hi:Int)
  |frz (o:Obj) (u:HO)
  |tbl (ps:Array Up)
  |ext (φ:Heap->Prop)
abbrev Hp:=Us->Option HO
def upd(H:Hp)(a:Us)(o:HO):Hp:=λb=>if b=a then some o else H b
theorem Zf{H:Hp}{a:Us}{o:HO}:upd H a o a=some o:=by unfold upd;rw[Qk rfl]
theorem Kz{H:Hp}{a b:Us}{o:HO}(h:b≠a):upd H a o b=H b:=by unfold upd;rw[Qs h]
theorem F0{H:Hp}{a b:Us}{o u:HO}(h:H a=some o)(h':H b=some u)(d:o≠u):a≠b:=by intro e;subst e;rw[h]at h';exact d (QP h')
theorem Ym{H:Hp}{a b:Us}{o:HO}(h:H a=some o)(h':H b=none):a≠b:=by intro e;subst e;rw[h]at h';cases h'
section
variable(P:Ur)(w:World)
def ZE(H:Hp)(h:Heap)(a:Us):HO->Prop
 |.lst xs=>xs.length<=Uv/\∃(its:List Up)(n:Nat),Vals xs its/\h.get? a=some {cls:=.type "list", data:=.seq its.toArray n}
 |.tup xs=>xs.length<=Uv/\∃its:List Up,Vals xs its/\IsTup h a its.toArray
 |.dK kvs=>kvs.length<=Uv/\(a==sysModules)=false/\∃vs,KV kvs vs/\h.DictOf (Xc P w) a vs
 |.dT kvs=>kvs.length<=Uv/\(a==sysModules)=false/\∃xs:List (List Key×Us×Up),
   Paired (λ(p:List Key×V) (q:List Key×Us×Up)=>p.1=q.1/\H q.2.1=some (.tup (p.1.map kV))/\RelV p.2 q.2.2) kvs xs /\
   ∃o es ep,h.get? a=some o/\o.ExactDict/\o.data=.dict es ep/\es.toList=xs.map (entryOfKey (tupleKind (Xc P w)))/\(xs.map (·.1)).Nodup
 |.set S n=>h.SetOf (intKind P w) a S n
 |.ins C dx fs=>H dx=some (.own a)/\fs.length<=1000/\dx≠a/\h.get? a=some (PySem.W.instObj C dx) /\
   ∃mA,h.Ns1 dx mA/\(∀f,RelO (fs.lookup f) (mA f))/\PySem.Within mA (fs.map (·.1))
 |.own _=>∃o,h.get? a=some o
 |.xd fs=>∃mA,h.Ns1 a mA/\∀f,RelO (fs.lookup f) (mA f)
 |.rng lo hi=>∃t u v,h.get? a=some {cls:=.type "range", data:=.fields #[.int lo t,.int hi u,.int 1 v]}
 |.frz o u=>h.get? a=some o/\ZE H h a u
 |.tbl ps=>h.get? a=some {cls:=.none,data:=.fields ps}
 |.met f x=>h.get? a=some (PySem.W.methodObj (.ref f) (.ref x))
 |.ext φ=>φ h/\(∃o,h.get? a=some o)/\∀h1 h2:Heap,φ h1->(∀o,h1.get? a=some o->h2.get? a=some o)->φ h2
def HOk(H:Hp)(h:Heap):Prop:=∀a o,H a=some o->ZE P w H h a o
end
section
variable{P:Ur}{w:World}{H H':Hp}{h h':Heap}{a:Us}{o:HO}
theorem ZE.lt(x:ZE P w H h a o):a<h.objs.size:=by
 cases o with
 |lst xs=>obtain⟨_,_,_,_,e⟩:=x;exact Qi e
 |tup xs=>obtain⟨_,_,_,p⟩:=x;exact p.lt
 |dK kvs=>obtain⟨_,_,_,_,o,_,_,e,_⟩:=x;exact Qi e
 |dT kvs=>obtain⟨_,_,_,_,o,_,_,e,_⟩:=x;exact Qi e
 |set S n=>obtain⟨o,_,_,_,e,_⟩:=x;exact Qi e
 |ins C dx fs=>obtain⟨_,_,_,e,_⟩:=x;exact Qi e
 |own y=>obtain⟨_,e⟩:=x;exact Qi e
 |xd fs=>obtain⟨_,⟨_,_,_,e,_⟩,_⟩:=x;exact Qi e
 |rng lo hi=>obtain⟨_,_,_,e⟩:=x;exact Qi e
 |frz ob u=>obtain⟨e,_⟩:=x;exact Qi e
 |tbl ps=>exact Qi (show h.get? a=some _ from x)
 |met f y=>exact Qi (show h.get? a=some _ from x)
 |ext φ=>obtain⟨_,⟨_,e⟩,_⟩:=x;exact Qi e
theorem Paired.mapP{α β:Type}{F G:α->β->Prop}:∀{l₁:List α}{l₂:List β},Paired F l₁ l₂->(∀a b,F a b->G a b)->Paired G l₁ l₂
 |_,_,.nil,_=>.nil
 |_,_,.cons r t,f=>.cons (f _ _ r) (Paired.mapP t f)
theorem ZE.stay(x:ZE P w H h a o)(k:∀b u,(b=a∨H b=some (.own a))->h.get? b=some u->h'.get? b=some u)
  (ho:∀b,H b=some (.own a)->H' b=some (.own a)) (ht:∀b xs,H b=some (.tup xs)->H' b=some (.tup xs)):ZE P w H' h' a o:=by
 induction o with
 |lst xs=>obtain⟨z,its,n,r,e⟩:=x;exact⟨z,its,n,r,k _ _ (.inl rfl) e⟩
 |tup xs=>obtain⟨z,its,r,ob,e,c⟩:=x;exact⟨z,its,r,ob,k _ _ (.inl rfl) e,c⟩
 |dK kvs=>obtain⟨z,y,vs,r,ob,es,ep,e,c⟩:=x;exact⟨z,y,vs,r,ob,es,ep,k _ _ (.inl rfl) e,c⟩
 |dT kvs=>obtain⟨z,y,xs,r,ob,es,ep,e,c⟩:=x;exact⟨z,y,xs,Paired.mapP r λp q z=>⟨z.1,ht _ _ z.2.1,z.2.2⟩,ob,es,ep,k _ _ (.inl rfl) e,c⟩
 |set S n=>obtain⟨ob,es,ep,t,e,c⟩:=x;exact⟨ob,es,ep,t,k _ _ (.inl rfl) e,c⟩
 |ins C dx fs=>obtain⟨d,z,ne,e,mA,⟨od,es,ep,e2,c⟩,r⟩:=x;exact⟨ho _ d,z,ne,k _ _ (.inl rfl) e,mA,⟨od,es,ep,k _ _ (.inr d) e2,c⟩,r⟩
 |own y=>obtain⟨ob,e⟩:=x;exact⟨ob,k _ _ (.inl rfl) e⟩
 |xd fs=>obtain⟨mA,⟨od,es,ep,e,c⟩,r⟩:=x;exact⟨mA,⟨od,es,ep,k _ _ (.inl rfl) e,c⟩,r⟩
 |rng lo hi=>obtain⟨t,u,v,e⟩:=x;exact⟨t,u,v,k _ _ (.inl rfl) e⟩
 |frz ob u ih=>obtain⟨e,q⟩:=x;exact⟨k _ _ (.inl rfl) e,ih q⟩
 |tbl ps=>have e:h.get? a=some {cls:=.none,data:=.fields ps}:=x;show h'.get? a=some {cls:=.none,data:=.fields ps};exact k a _ (.inl rfl) e
 |met f y=>have e:h.get? a=some (PySem.W.methodObj (.ref f) (.ref y)):=x;show h'.get? a=some (PySem.W.methodObj (.ref f) (.ref y));exact k a _ (.inl rfl) e
 |ext φ=>obtain⟨p,⟨o,e⟩,st⟩:=x;exact⟨st _ _ p λo q=>k _ _ (.inl rfl) q,⟨o,k _ _ (.inl rfl) e⟩,st⟩
theorem HOk.lt(x:HOk P w H h)(e:H a=some o):a<h.objs.size:=(x a o e).lt
theorem HOk.fresh(x:HOk P w H h)(e:h.objs.size<=a):H a=none:=by
 cases q:H a with
 |none=>rfl
 |some u=>exact absurd (QE (x.lt q) e) (Jt _)
theorem HOk.kept(x:HOk P w H h)(k:∀b u,h.get? b=some u->h'.get? b=some u):HOk P w H h':=λa o e=>
 (x a o e).stay (λb u _ q=>k b u q) (λ_ q=>q) λ_ _ q=>q
theorem HOk.laid(x:HOk P w H h)(k:∀b u,h.get? b=some u->h'.get? b=some u)(hp:h.objs.size<=a)(new:ZE P w (upd H a o) h' a o):HOk P w (upd H a o) h':=λb u e=>by
 have hn:=x.fresh hp;by_cases hb:b=a
 ·subst hb;rw[Zf]at e;cases e;exact new
 ·rw[Kz hb]at e;exact(x b u e).stay (λc v _ q=>k c v q) (λc q=>by rw[Kz (Ym q hn)];exact q) λc xs q=>by rw[Kz (Ym q hn)];exact q
end
def Rd(H:Hp)(a:Us)(u:HO):Prop:=H a=some u ∨ ∃o,H a=some (.frz o u)
theorem Rd.ok{P:Ur}{w:World}{H:Hp}{h:Heap}{a:Us}{u:HO}(r:Rd H a u)(x:HOk P w H h):ZE P w H h a u:=by
 rcases r with r|⟨o,r⟩
 ·exact x a u r
 ·obtain⟨_,q⟩:=x a _ r;exact q
def Mut:Option HO->Prop
 |some (.lst _)=>True
 |some (.dK _)=>True
 |some (.dT _)=>True
 |some (.set _ _)=>True
 |some (.ins _ _ _)=>True
 |some (.ext _)=>True
 |_=>False
section
variable{P:Ur}{w:World}{H:Hp}{h h':Heap}{x e:Us}{o':HO}
theorem HOk.write(ok:HOk P w H h)(mu:Mut (H x))(he:e=x∨H e=some (.own x))(k:∀b u,b≠e->h.get? b=some u->h'.get? b=some u)(heo:∃u,h'.get? e=some u)
  (new:ZE P w (upd H x o') h' x o'):HOk P w (upd H x o') h':=λb u q=>by
 have nown:∀c y,H c=some (.own y)->c≠x:=λc y r z=>by subst z;rw[r]at mu;exact mu
 have ntup:∀c xs,H c=some (.tup xs)->c≠x:=λc xs r z=>by subst z;rw[r]at mu;exact mu
 by_cases hb:b=x
 ·subst hb;rw[Zf]at q;cases q;exact new
 ·rw[Kz hb]at q;by_cases hbe:b=e
  ·have q':H b=some (.own x):=by
    rcases he with z|z
    ·exact absurd (hbe.trans z) hb
    ·rw[hbe];exact z
   rw[q]at q';cases q';obtain⟨v,hv⟩:=heo;exact⟨v,by rw[hbe];exact hv⟩
  ·refine(ok b u q).stay (λc v hc r=>k c v ?_ r) (λc r=>by rw[Kz (nown c b r)];exact r) λc xs r=>by rw[Kz (ntup c xs r)];exact r
   rcases hc with rfl|hc
   ·exact hbe
   ·rintro rfl;rcases he with z|z
    ·exact nown c b hc z
    ·rw[hc]at z;cases z;exact hb rfl
end
structure Un(fs ex:List Us)(H H':Hp)(h h':Heap):Prop where
 keep:∀b o,h.get? b=some o->H b=none->b∉fs->b∉ex->h'.get? b=some o
 slot:∀b o,h.get? b=some o->H b=none->b∈fs->b∉ex->∃sl,h'.get? b=some {o with slots:=sl}
 free:∀b o,h.get? b=some o->H b=none->b∉ex->H' b=none
 there:∀b o,h.get? b=some o->b∉ex->∃o',h'.get? b=some o'
 tups:∀b xs,H b=some (.tup xs)->H' b=some (.tup xs)
 frzs:∀b o u,H b=some (.frz o u)->H' b=some (.frz o u)
 tbls:∀b ps,H b=some (.tbl ps)->∃more,H' b=some (.tbl (ps++more))
section
variable{fs fs' ex ex':List Us}{H H1 H2:Hp}{h h1 h2 h':Heap}{a x e:Us}{o:HO}
theorem Un.any(u:Un fs ex H H1 h h1){b:Us}{ob:Obj}(q:h.get? b=some ob)(n:H b=none)(hx:b∉ex):∃sl,h1.get? b=some {ob with slots:=sl}:=by
 by_cases hb:b∈fs
 ·exact u.slot b ob q n hb hx
 ·exact⟨ob.slots,u.keep b ob q n hb hx⟩
theorem Un.kept(k:∀b u,h.get? b=some u->h'.get? b=some u):Un fs ex H H h h':=
 ⟨λb ob q _ _ _=>k b ob q,λb ob q _ _ _=>⟨ob.slots,k b ob q⟩,λ_ _ _ n _=>n,λb ob q _=>⟨ob,k b ob q⟩,λ_ _ q=>q,λ_ _ _ q=>q,λ_ ps q=>⟨#[],by rw[q];simp⟩⟩
theorem Un.refl:Un fs ex H H h h:=Un.kept λ_ _ q=>q
theorem Un.laid(k:∀b u,h.get? b=some u->h'.get? b=some u)(hp:h.objs.size<=a)(hn:H a=none):Un fs ex H (upd H a o) h h' where
 keep:=λb u q _ _ _=>k b u q
 slot:=λb u q _ _ _=>⟨u.slots,k b u q⟩
 free:=λb u q n _=>by rw[Kz (QM (QE (Qi q) hp))];exact n
 there:=λb u q _=>⟨u,k b u q⟩
 tups:=λb xs q=>by rw[Kz (Ym q hn)];exact q
 frzs:=λb u xs q=>by rw[Kz (Ym q hn)];exact q
 tbls:=λb ps q=>⟨#[],by rw[Kz (Ym q hn),q];simp⟩
theorem Un.write(mu:Mut (H x))(he:e=x∨H e=some (.own x))(k:∀b u,b≠e->h.get? b=some u->h'.get? b=some u)(heo:∃u,h'.get? e=some u):Un fs ex H (upd H x o) h h':=by
 have hx:∀b,H b=none->b≠x:=λb n z=>by subst z;rw[n]at mu;exact mu
 have hb:∀b,H b=none->b≠e:=λb n z=>by
  subst z;rcases he with r|r
  ·exact hx b n r
  ·rw[n]at r;cases r
 have hm:∀b u,H b=some u->¬Mut (some u)->b≠x:=λb u q nm z=>by subst z;rw[q]at mu;exact nm mu
 refine⟨λb u q n _ _=>k b u (hb b n) q,λb u q n _ _=>⟨u.slots,k b u (hb b n) q⟩,λb u q n _=>by rw[Kz (hx b n)];exact n,λb u q _=>?_,
  λb xs q=>by rw[Kz (hm b _ q λz=>z)];exact q,λb u xs q=>by rw[Kz (hm b _ q λz=>z)];exact q,λb ps q=>⟨#[],by rw[Kz (hm b _ q λz=>z),q];simp⟩⟩
 by_cases hbe:b=e
 ·subst hbe;exact heo
 ·exact⟨u,k b u hbe q⟩
end
def trk(h:Heap)(H:Hp):List Us:=(Uz h.objs.size).filter λa=>(H a).isSome
def YG(h:Heap)(H:Hp):Heap:=PySem.W.hideAll h (trk h H)
theorem q9(h:Heap)(H:Hp):(YG h H).objs.size=h.objs.size:=PySem.W.hideAll_size _ _
theorem Aq{h:Heap}{H:Hp}{b:Us}{o:Obj}(e:h.get? b=some o)(n:H b=none):(YG h H).get? b=some o:=
 PySem.W.hideAll_get _ e λhm=>by have q:(H b).isSome=true:=(Ul.mp hm).2;rw[n]at q;simp at q
theorem CL{h:Heap}{H:Hp}{b:Us}{o:Obj}(e:(YG h H).get? b=some o):h.get? b=some o/\H b=none:=by
 have e':h.get? b=some o:=PySem.W.of_hideAll (trk h H) e;refine⟨e',?_⟩;cases q:H b with
 |none=>rfl
 |some x=>have hm:b∈trk h H:=List.mem_filter.mpr ⟨List.mem_range.mpr (Heap.lt_size e'),by simp[q]⟩;have z:(YG h H).get? b=none:=PySem.W.hideAll_none (trk h H) hm;rw[z]at e;cases e
structure Mod(K:Frag)(mg:Str->Option Up)(base:Heap):Prop where
 kin:K.In base
 glob:base.Ns mainGlobals mg
 blt:∃mb,base.Ns builtinsNs mb/\∀x:Str,x ≠ "__name__" -> mb x=bootBuiltins x
 nolimit:base.NoLimit
structure Cx where
 prog:Ur
 w:World
 K:Frag
 mg:Str->Option Up
 base:Heap
 A:Around
 N:List Str
 s₀:Uq
 H₀:Hp
 env:Env
 outer:List Env
 stack:List Env
 ex:List Us
 fn:Str->Bool
 calm:Bool
 pn:List (Us×Obj)
 xe:Up->Uq->Prop
def frs(l:List Env):List Us:=l.filterMap (·.frame)
abbrev Cx.fs(X:Cx):List Us:=frs X.outer
def Vis(sc:Scope)(x:Str):Prop:=sc.names.lookup x=some .local∨sc.names.lookup x=some .cell∨sc.names.lookup x=some .free
def Loc(sc:Scope)(x:Str):Prop:=sc.names.lookup x=some .local∨sc.names.lookup x=some .cell
def Look(env:Env)(h:Heap)(m:Str->Option Up)(x:Str)(u:Up):Prop:=
 (env.kindOf x=some .local/\m x=some u)∨((env.kindOf x=some .cell∨env.kindOf x=some .free)/\∃c,env.cells.lookup x=some c/\h.IsCell c (some u))
structure Cx.Ok(X:Cx):Prop where
 mod:Mod X.K X.mg X.base
 kind:X.env.scope.kind=.function
 glob:X.env.globals=mainGlobals
 blt:X.env.builtins=builtinsNs
 above:X.s₀.heap.objs.size<=X.env.locals
 inj:∀x y c,X.env.cells.lookup x=some c->X.env.cells.lookup y=some c->x=y
 has:∀x,(X.env.kindOf x=some .cell∨X.env.kindOf x=some .free)->∃c,X.env.cells.lookup x=some c
 cab:∀x c,X.fn x=true->X.env.cells.lookup x=some c->X.s₀.heap.objs.size<=c
 hd:X.calm=true->X.A.handled=none
 frames:X.A.frames=some X.stack
 stk:X.stack=X.outer∨(X.stack=X.env::X.outer/\X.env.frame=some X.env.locals)
 exf:∀b∈X.ex,b≠X.env.locals/\∀x c,X.env.cells.lookup x=some c->c≠b
 bs:∀b o,X.base.get? b=some o->X.s₀.heap.get? b=some o/\X.H₀ b=none
 bsz:X.base.objs.size<=X.s₀.heap.objs.size
 noex:∀b o,X.base.get? b=some o->b∉X.ex
 exfs:∀b∈X.ex,b∉X.fs
 funs:X.s₀.heap.FunFrames X.base X.outer
 frf:∀b∈X.fs,X.H₀ b=none
structure Inv(X:Cx)(pins:List (Us×Obj))(σ:List (Option V))(H:Hp)(s:Uq):Prop where
 ok:X.Ok
 os:s.os=X.s₀.os
 bare:AllBare s.gens
 base:Un X.fs X.ex X.H₀ H X.s₀.heap s.heap
 loc:∃m,s.heap.Ns X.env.locals m/\∀(i:Nat)(x:Str)(v:V),X.N[i]?=some x->σ[i]?=some (some v)->Vis X.env.scope x->∃u,RelV v u/\Look X.env s.heap m x u
 cell:∀x c,X.env.cells.lookup x=some c->∃v,s.heap.IsCell c v
 free:H X.env.locals=none
 freeC:∀x c,X.env.cells.lookup x=some c->H c=none
 pin:∀p∈X.pn++pins,s.heap.get? p.1=some p.2/\H p.1=none/\p.1≠X.env.locals/\p.1∉X.fs/\∀v,p.2.data≠.cell v
 hok:HOk X.prog X.w H s.heap
 len:σ.length=X.N.length
section
variable{X:Cx}{pins:List (Us×Obj)}{σ:List (Option V)}{H H':Hp}{s:Uq}{h':Heap}
theorem Cx.Ok.nofr(ok:X.Ok){b:Us}{o:Obj}(e:X.base.get? b=some o):b∉X.fs:=λhb=>by have:=(ok.funs.mem hb).1;rw[e]at this;cases this
theorem Inv.bs(I:Inv X pins σ H s):∀b o,X.base.get? b=some o->s.heap.get? b=some o/\H b=none:=λb o e=>
 ⟨I.base.keep b o (I.ok.bs b o e).1 (I.ok.bs b o e).2 (I.ok.nofr e) (I.ok.noex b o e),I.base.free b o (I.ok.bs b o e).1 (I.ok.bs b o e).2 (I.ok.noex b o e)⟩
theorem Inv.bk(I:Inv X pins σ H s):∀b o,X.base.get? b=some o->s.heap.get? b=some o:=λb o e=>(I.bs b o e).1
theorem Inv.mod(I:Inv X pins σ H s):Mod X.K X.mg X.base:=I.ok.mod
theorem Inv.kIn(I:Inv X pins σ H s):X.K.In s.heap:=I.ok.mod.kin.keeps I.bk
theorem Inv.lt(I:Inv X pins σ H s):X.env.locals<s.heap.objs.size:=let ⟨_,hn,_⟩:=I.loc;hn.lt
theorem Inv.sz(I:Inv X pins σ H s):X.s₀.heap.objs.size<=s.heap.objs.size:=QS I.ok.above (Nat.le_of_lt I.lt)
theorem Inv.nofs(I:Inv X pins σ H s){a:Us}(h:s.heap.objs.size<=a):a∉X.fs:=λhb=>by obtain⟨_,o,ho,_⟩:=I.ok.funs.mem hb;exact absurd (QE (Qi ho) (QS I.sz h)) (Jt _)
theorem Inv.cne(I:Inv X pins σ H s):∀x c,X.env.cells.lookup x=some c->c≠X.env.locals:=λx c e z=>by obtain⟨v,o,ho,hd⟩:=I.cell x c e;obtain⟨m,⟨o',es,ep,ho',hd',_⟩,_⟩:=I.loc;rw[z,ho']at ho;cases ho;rw[hd']at hd;cases hd
theorem Inv.funs(I:Inv X pins σ H s):s.heap.FunFrames X.base X.outer:=by
 have all:∀(l:List Env),(∀b∈frs l,b∈X.fs)->X.s₀.heap.FunFrames X.base l->s.heap.FunFrames X.base l:=by
  intro l;induction l with
  |nil=>intro _ _;trivial
  |cons env r ih=>
   intro hs hl;obtain⟨hk,⟨L,o,hf,hn,ho,hd⟩,hr⟩:=hl;have hL:L∈X.fs:=hs L (by unfold frs;rw[Jz,hf];exact Qo);obtain⟨sl,e⟩:=I.base.slot L o ho (I.ok.frf L hL) hL λz=>I.ok.exfs L z hL
   exact⟨hk,⟨L,_,hf,hn,e,hd⟩,ih (λb hb=>hs b (by unfold frs;rw[Jz,hf];exact Ql _ hb)) hr⟩
 exact all X.outer (λ_ hb=>hb) I.ok.funs
theorem Inv.stack(I:Inv X pins σ H s):s.heap.FunFrames X.base X.stack:=by
 rcases I.ok.stk with e|⟨e,hf⟩
 ·rw[e];exact I.funs
 ·rw[e];obtain⟨m,hn,_⟩:=I.loc;refine .cons (by rw[I.ok.kind];decide) hf hn ?_ I.funs;exact Heap.get?_none_of_le (QS I.ok.bsz I.ok.above)
theorem Inv.stkSub(I:Inv X pins σ H s):∀b∈frs X.stack,b∈X.env.locals::X.fs:=λb hb=>by
 rcases I.ok.stk with e|⟨e,hf⟩
 ·rw[e]at hb;exact Ql _ hb
 ·rw[e]at hb;unfold frs at hb;rw[Jz,hf]at hb;exact hb
theorem Inv.stkFree(I:Inv X pins σ H s):∀b∈frs X.stack,H b=none:=λb hb=>by
 rcases QT.mp (I.stkSub b hb)with e|hb
 ·rw[e];exact I.free
 ·obtain⟨_,o,ho,_⟩:=I.ok.funs.mem hb;exact I.base.free b o ho (I.ok.frf b hb) λz=>I.ok.exfs b z hb
theorem Inv.step{g':Array GenState}{t':Nat}{d':Drawn}{ch:List Us}(I:Inv X pins σ H s)
  (hch:∀b∈ch,(b∈X.ex∨X.s₀.heap.objs.size<=b)/\b≠X.env.locals/\(∀x c,X.env.cells.lookup x=some c->c≠b)/\∀p∈X.pn++pins,p.1≠b)
  (keep:∀b o,b≠X.env.locals->b∉X.fs->b∉ch->s.heap.get? b=some o->H b=none->h'.get? b=some o)
  (slot:∀b o,b≠X.env.locals->b∈X.fs->b∉ch->s.heap.get? b=some o->H b=none->∃sl,h'.get? b=some {o with slots:=sl}) (free:∀b o,b∉ch->s.heap.get? b=some o->H b=none->H' b=none)
  (there:∀b o,b∉ch->s.heap.get? b=some o->∃o',h'.get? b=some o')
  (tups:∀b xs,H b=some (.tup xs)->H' b=some (.tup xs)) (frzs:∀b o u,H b=some (.frz o u)->H' b=some (.frz o u)) (tbls:∀b ps,H b=some (.tbl ps)->∃more,H' b=some (.tbl (ps++more)))
  (ns:∀m,s.heap.Ns X.env.locals m->h'.Ns X.env.locals m) (hok:HOk X.prog X.w H' h') (hg:AllBare g') :
  Inv X pins σ H' {s with heap:=h',gens:=g',drawn:=d',toks:=t'}:=by
 have neL:∀b o,X.s₀.heap.get? b=some o->b≠X.env.locals:=λb o e=>QM (QE (Qi e) I.ok.above)
 have neC:∀b o,X.s₀.heap.get? b=some o->b∉X.ex->b∉ch:=λb o e hx hb=>by
  rcases(hch b hb).1 with z|z
  ·exact hx z
  ·exact absurd (QE (Qi e) z) (Jt _)
 have cellK:∀x c,X.env.cells.lookup x=some c->∀v,s.heap.IsCell c v->h'.IsCell c v:=λx c e v ⟨o,ho,hd⟩=>by
  have nch:c∉ch:=λz=>(hch c z).2.2.1 x c e rfl
  by_cases hc:c∈X.fs
  ·obtain⟨sl,q⟩:=slot c o (I.cne x c e) hc nch ho (I.freeC x c e);exact⟨_,q,hd⟩
  ·exact⟨o,keep c o (I.cne x c e) hc nch ho (I.freeC x c e),hd⟩
 refine⟨I.ok,I.os,hg,⟨λb o e n hb hx=>?_,λb o e n hb hx=>?_,λb o e n hx=>?_,λb o e hx=>?_,λb xs e=>tups b xs (I.base.tups b xs e),λb o xs e=>frzs b o xs (I.base.frzs b o xs e),λb ps e=>?_⟩,?_,λx c e=>?_,?_,λx c e=>?_,λp hp=>?_,hok,I.len⟩
 ·exact keep b o (neL b o e) hb (neC b o e hx) (I.base.keep b o e n hb hx) (I.base.free b o e n hx)
 ·obtain⟨sl,e1⟩:=I.base.slot b o e n hb hx;obtain⟨sl',e2⟩:=slot b _ (neL b o e) hb (neC b o e hx) e1 (I.base.free b o e n hx);exact⟨sl',e2⟩
 ·obtain⟨o',e1⟩:=I.base.there b o e hx;exact free b o' (neC b o e hx) e1 (I.base.free b o e n hx)
 ·obtain⟨o',e1⟩:=I.base.there b o e hx;exact there b o' (neC b o e hx) e1
 ·obtain⟨m1,e1⟩:=I.base.tbls b ps e;obtain⟨m2,e2⟩:=tbls b _ e1;exact⟨m1++m2,by rw[e2,Array.append_assoc]⟩
 ·obtain⟨m,hn,hl⟩:=I.loc;refine⟨m,ns m hn,λi x v e1 e2 e3=>?_⟩;obtain⟨u,r,l⟩:=hl i x v e1 e2 e3;refine⟨u,r,?_⟩;rcases l with l|⟨k,c,e,z⟩
  ·exact .inl l
  ·exact .inr ⟨k,c,e,cellK x c e _ z⟩
 ·obtain⟨v,z⟩:=I.cell x c e;exact⟨v,cellK x c e v z⟩
 ·obtain⟨m,⟨o,_,_,ho,_⟩,_⟩:=I.loc;exact free _ o (λz=>(hch _ z).2.1 rfl) ho I.free
 ·obtain⟨v,o,ho,hd⟩:=I.cell x c e;exact free c o (λz=>(hch c z).2.2.1 x c e rfl) ho (I.freeC x c e)
 ·obtain⟨e,n,ne,nf,d⟩:=I.pin p hp;have nch:p.1∉ch:=λz=>(hch p.1 z).2.2.2 p hp rfl
  exact⟨keep p.1 p.2 ne nf nch e n,free p.1 p.2 nch e n,ne,nf,d⟩
theorem Inv.un{t':Nat}(I:Inv X pins σ H s)(u:Un X.fs [] H H' s.heap h')(hok:HOk X.prog X.w H' h'):Inv X pins σ H' {s with heap:=h',toks:=t'}:=by obtain⟨m,⟨o,es,ep,ho,r⟩,_⟩:=id I.loc;obtain⟨sl,hL⟩:=u.any ho I.free (by simp);exact I.step (g':=s.gens) (d':=s.drawn) (ch:=[]) (λ_ z=>nomatch z) (λb o _ hb _ e n=>u.keep b o e n hb (by simp)) (λb o _ hb _ e n=>u.slot b o e n hb (by simp)) (λb o _ e n=>u.free b o e n (by simp)) (λb o _ e=>u.there b o e (by simp)) u.tups u.frzs u.tbls (λm' hm=>by obtain⟨o',es',ep',ho',r'⟩:=hm;rw[ho]at ho';cases ho';exact⟨_,es',ep',hL,r'⟩) hok I.bare
theorem Inv.call{g':Array GenState}{t':Nat}{d':Drawn}{ch:List Us}(I:Inv X pins σ H s)(u:Un (frs X.stack) ch H H' s.heap h')(hok:HOk X.prog X.w H' h')(hg:AllBare g')
  (hch:∀b∈ch,(b∈X.ex∨X.s₀.heap.objs.size<=b)/\b≠X.env.locals/\(∀x c,X.env.cells.lookup x=some c->c≠b)/\∀p∈X.pn++pins,p.1≠b) :
  Inv X pins σ H' {s with heap:=h',gens:=g',drawn:=d',toks:=t'}:=by
 obtain⟨m,⟨o,es,ep,ho,r⟩,_⟩:=id I.loc;obtain⟨sl,hL⟩:=u.any ho I.free λz=>(hch _ z).2.1 rfl
 exact I.step (ch:=ch) hch (λb o hL hb hc e n=>u.keep b o e n (λz=>(QT.mp (I.stkSub b z)).elim hL hb) hc) (λb o _ _ hc e n=>u.any e n hc) (λb o hc e n=>u.free b o e n hc) (λb o hc e=>u.there b o e hc) u.tups u.frzs u.tbls (λm' hm=>by obtain⟨o',es',ep',ho',r'⟩:=hm;rw[ho]at ho';cases ho';exact⟨_,es',ep',hL,r'⟩) hok hg
theorem Inv.turned{t':Nat}{it:Us}(I:Inv X pins σ H s)(k:∀b o,b≠it->s.heap.get? b=some o->h'.get? b=some o)(hn:H it=none)(hL:it≠X.env.locals)
  (h1:it∈X.ex∨X.s₀.heap.objs.size<=it) (h2:∀x c,X.env.cells.lookup x=some c->c≠it) (h3:∀p∈X.pn++pins,p.1≠it):Inv X pins σ H {s with heap:=h',toks:=t'}:=by
 have nit:∀b u,H b=some u->b≠it:=λb u e z=>by rw[z,hn]at e;cases e
 refine I.step (g':=s.gens) (d':=s.drawn) (ch:=[it]) (λb hb=>?_) (λb o _ _ hc e _=>k b o (λz=>hc (by simp[z])) e) (λb o _ _ hc e _=>⟨o.slots,k b o (λz=>hc (by simp[z])) e⟩) (λ_ _ _ _ n=>n)
  (λb o hc e=>⟨o,k b o (λz=>hc (by simp[z])) e⟩) (λ_ _ e=>e) (λ_ _ _ e=>e) (λb ps e=>⟨#[],by rw[e];simp⟩) (λm hm=>?_) (λb u e=>?_) I.bare
 ·have e:b=it:=by simpa using hb
  subst e;exact⟨h1,hL,h2,h3⟩
 ·obtain⟨o,es,ep,ho,r⟩:=hm;exact⟨o,es,ep,k _ o (Ne.symm hL) ho,r⟩
 ·refine(I.hok b u e).stay (λc v hc q=>k c v ?_ q) (λ_ q=>q) λ_ _ q=>q
  rcases hc with z|z
  ·rw[z];exact nit b u e
  ·exact nit c _ z
theorem Inv.tok(I:Inv X pins σ H s)(t:Nat):Inv X pins σ H {s with toks:=t}:=I.un (h':=s.heap) (t':=t) Un.refl I.hok
theorem Inv.kept{t':Nat}(I:Inv X pins σ H s)(k:∀b u,s.heap.get? b=some u->h'.get? b=some u):Inv X pins σ H {s with heap:=h',toks:=t'}:=I.un (Un.kept k) (I.hok.kept k)
theorem Inv.laid{a:Us}{o:HO}{t':Nat}(I:Inv X pins σ H s)(k:∀b u,s.heap.get? b=some u->h'.get? b=some u)(hp:s.heap.objs.size<=a)(new:ZE X.prog X.w (upd H a o) h' a o) :
  Inv X pins σ (upd H a o) {s with heap:=h',toks:=t'}:=I.un (Un.laid k hp (I.hok.fresh hp)) (I.hok.laid k hp new)
theorem Inv.write{x e:Us}{o:HO}{t':Nat}(I:Inv X pins σ H s)(mu:Mut (H x))(he:e=x∨H e=some (.own x))(k:∀b u,b≠e->s.heap.get? b=some u->h'.get? b=some u)(heo:∃u,h'.get? e=some u)
  (new:ZE X.prog X.w (upd H x o) h' x o):Inv X pins σ (upd H x o) {s with heap:=h',toks:=t'}:=I.un (Un.write mu he k heo) (I.hok.write mu he k heo new)
theorem Inv.pins_of{pins':List (Us×Obj)}(I:Inv X pins σ H s)(h:∀p∈pins',s.heap.get? p.1=some p.2/\H p.1=none/\p.1≠X.env.locals/\p.1∉X.fs/\∀v,p.2.data≠.cell v):Inv X pins' σ H s:=
 ⟨I.ok,I.os,I.bare,I.base,I.loc,I.cell,I.free,I.freeC,λp hp=>(Q0.mp hp).elim (λz=>I.pin p (Jf _ z)) (h p),I.hok,I.len⟩
theorem LS{N:List Str}(hN:N.Nodup){i j:Nat}{x:Str}(a:N[i]?=some x)(b:N[j]?=some x):i=j:=by obtain⟨h1,e1⟩:=Qg.mp a;obtain⟨h2,e2⟩:=Qg.mp b;exact(List.getElem_inj hN).mp (e1.trans e2.symm)
theorem Ni{M:Model}{A:Around}{E:Up->Uq->Prop}{i:Nat}{x:Str}{v:V}{u:Up}{Q:Unit->Uq->Prop}(I:Inv X pins σ H s)(hN:X.N.Nodup)(hi:X.N[i]?=some x)(hx:Loc X.env.scope x)(r:RelV v u)
  (h:∀s',Inv X pins (σ.set i (some v)) H s'->(∃a,Heap.SameBut a s.heap s'.heap/\(a=X.env.locals∨X.env.cells.lookup x=some a))->Q () s') (hf:X.fn x=true∨X.env.scope.names.lookup x=some .local:=by first|exact .inl rfl|exact .inr rfl|assumption):Uw M A (storeName X.env x u) Q E s:=by
 obtain⟨m,hn,hl⟩:=id I.loc;have hcls:(X.env.scope.kind==.class || (X.env.scope.kind==.module&&X.env.locals != X.env.globals))=false:=by rw[I.ok.kind];rfl
 have hiσ:i<σ.length:=by rw[I.len];exact(Qg.mp hi).1
 have cne:=I.cne
 have tracked:∀{a:Us}{h':Heap},(∃o,s.heap.get? a=some o/\H a=none)->Heap.SameBut a s.heap h'->HOk X.prog X.w H h':=λ{a h'} ha hs b ob e=>by
  obtain⟨_,_,hfree⟩:=ha;refine(I.hok b ob e).stay (λc w' hc q=>(hs.2 c ?_).trans q) (λ_ q=>q) λ_ _ q=>q
  rintro rfl;rcases hc with rfl|hc
  ·rw[hfree]at e;cases e
  ·rw[hfree]at hc;cases hc
 rcases hx with hk|hk
 ·refine wpAny_storeName_local hk hn (λh' hn' hs=>?_) hcls;obtain⟨oL,_,_,hoL,_⟩:=id hn;refine h _ ⟨I.ok,I.os,I.bare,⟨λb o e n hb hx=>?_,λb o e n hb hx=>?_,I.base.free,λb o e hx=>?_,I.base.tups,I.base.frzs,I.base.tbls⟩,⟨_,hn',λj y v' e1 e2 e3=>?_⟩,λy c e=>?_,I.free,I.freeC,λp hp=>?_,tracked ⟨oL,hoL,I.free⟩ hs,by simpa using I.len⟩ ⟨_,hs,.inl rfl⟩
  ·exact(hs.2 b (QM (QE (Qi e) I.ok.above))).trans (I.base.keep b o e n hb hx)
  ·obtain⟨sl,e1⟩:=I.base.slot b o e n hb hx;exact⟨sl,(hs.2 b (QM (QE (Qi e) I.ok.above))).trans e1⟩
  ·obtain⟨o',e1⟩:=I.base.there b o e hx;exact⟨o',(hs.2 b (QM (QE (Qi e) I.ok.above))).trans e1⟩
  ·by_cases hj:j=i
   ·subst hj;rw[hi]at e1;cases e1;rw[QH hiσ]at e2;cases e2;exact⟨u,r,.inl ⟨hk,by simp⟩⟩
   ·rw[Qp (Ne.symm hj)]at e2;obtain⟨u',r',q⟩:=hl j y v' e1 e2 e3;refine⟨u',r',?_⟩;rcases q with ⟨k,e⟩|⟨k,c,e,z⟩
    ·refine .inl ⟨k,?_⟩;have:y≠x:=λe=>hj (LS hN e1 (e ▸ hi))
     simp[this,e]
    ·exact .inr ⟨k,c,e,z.sameBut hs (cne y c e)⟩
  ·obtain⟨w',z⟩:=I.cell y c e;exact⟨w',z.sameBut hs (cne y c e)⟩
  ·obtain⟨e,n,ne,nf,d⟩:=I.pin p hp;exact⟨(hs.2 p.1 ne).trans e,n,ne,nf,d⟩
 ·have hfn:X.fn x=true:=by
   rcases hf with z|z
   ·exact z
   ·rw[z]at hk;cases hk
  obtain⟨c,hc⟩:=I.ok.has x (.inl hk);obtain⟨w',z⟩:=I.cell x c hc;refine wpAny_storeName_cell I.ok.kind hk hc z (λh' hc' hs=>?_);obtain⟨oc,hoc,hocd⟩:=id z;refine h {s with heap:=h'} ⟨I.ok,I.os,I.bare,⟨λb o e n hb hx=>?_,λb o e n hb hx=>?_,I.base.free,λb o e hx=>?_,I.base.tups,I.base.frzs,I.base.tbls⟩,⟨m,hn.sameBut hs (Ne.symm (cne x c hc)),λj y v' e1 e2 e3=>?_⟩,λy c' e=>?_,I.free,I.freeC,λp hp=>?_,tracked ⟨oc,hoc,I.freeC x c hc⟩ hs,by simpa using I.len⟩ ⟨c,hs,.inr hc⟩
  ·exact(hs.2 b (QM (QE (Qi e) (I.ok.cab x c hfn hc)))).trans (I.base.keep b o e n hb hx)
  ·obtain⟨sl,e1⟩:=I.base.slot b o e n hb hx;exact⟨sl,(hs.2 b (QM (QE (Qi e) (I.ok.cab x c hfn hc)))).trans e1⟩
  ·obtain⟨o',e1⟩:=I.base.there b o e hx;exact⟨o',(hs.2 b (QM (QE (Qi e) (I.ok.cab x c hfn hc)))).trans e1⟩
  ·by_cases hj:j=i
   ·subst hj;rw[hi]at e1;cases e1;rw[QH hiσ]at e2;cases e2;exact⟨u,r,.inr ⟨.inl hk,c,hc,hc'⟩⟩
   ·rw[Qp (Ne.symm hj)]at e2;obtain⟨u',r',q⟩:=hl j y v' e1 e2 e3;refine⟨u',r',?_⟩;rcases q with q|⟨k,c',e,z'⟩
    ·exact .inl q
    ·refine .inr ⟨k,c',e,z'.sameBut hs ?_⟩;rintro rfl;exact hj (LS hN e1 (I.ok.inj _ _ _ e hc ▸ hi))
  ·by_cases hcc:c'=c
   ·subst hcc;exact⟨_,hc'⟩
   ·obtain⟨w2,z2⟩:=I.cell y c' e;exact⟨w2,z2.sameBut hs hcc⟩
  ·obtain⟨e,n,ne,nf,d⟩:=I.pin p hp;refine⟨(hs.2 p.1 ?_).trans e,n,ne,nf,d⟩;intro q;rw[q,hoc]at e;have q':oc=p.2:=QP e;exact d w' (by rw[←q'];exact hocd)
theorem OI{M:Model}{A:Around}{E:Up->Uq->Prop}{i:Nat}{x:Str}{v:V}{u:Up}{Q:Unit->Uq->Prop}(I:Inv X pins σ H s)(hN:X.N.Nodup)(hi:X.N[i]?=some x)(hx:Loc X.env.scope x)(r:RelV v u)
  (h:∀s',Inv X pins (σ.set i (some v)) H s'->Q () s') (hf:X.fn x=true∨X.env.scope.names.lookup x=some .local:=by first|exact .inl rfl|exact .inr rfl|assumption):Uw M A (storeName X.env x u) Q E s:=
 Ni I hN hi hx r (λs' I' _=>h s' I') hf
theorem Inv.call'{s':Uq}{ch:List Us}(I:Inv X pins σ H s)(ho:s'.os=s.os)(u:Un (frs X.stack) ch H H' s.heap s'.heap)(hok:HOk X.prog X.w H' s'.heap)(hg:AllBare s'.gens)
  (hch:∀b∈ch,(b∈X.ex∨X.s₀.heap.objs.size<=b)/\b≠X.env.locals/\(∀x c,X.env.cells.lookup x=some c->c≠b)/\∀p∈X.pn++pins,p.1≠b):Inv X pins σ H' s':=by
 obtain⟨h',g',d',t',o'⟩:=s';have e:o'=s.os:=ho;subst e;exact I.call (g':=g') (t':=t') (d':=d') u hok hg hch
end
abbrev XK:=Up->Option Us->Hp->Prop
abbrev St:=List (Option V)
abbrev VK:=V->Hp->Prop
abbrev TE:=St->Hp->VK->Prop
abbrev TT:=St->Hp->(Bool->Hp->Prop)->Prop
abbrev TA:=St->Hp->(List V->Hp->Prop)->Prop
structure Ends where
 nx:St->Hp->Prop
 rt:VK
 bk:St->Hp->Prop:=λ_ _=>False
 ct:St->Hp->Prop:=λ_ _=>False
abbrev TS:=Ends->St->Hp->Prop
def EP(X:Cx)(pins:List (Us×Obj))(σ:St)(Q:VK)(u:Up)(s':Uq):Prop:=∃v H',Inv X pins σ H' s'/\RelV v u/\Q v H'
def TP(X:Cx)(pins:List (Us×Obj))(σ:St)(Q:Bool->Hp->Prop)(b:Bool)(s':Uq):Prop:=∃H',Inv X pins σ H' s'/\Q b H'
def AP(X:Cx)(pins:List (Us×Obj))(σ:St)(Q:List V->Hp->Prop)(us:List Up)(s':Uq):Prop:=∃vs H',Inv X pins σ H' s'/\Vals vs us/\Q vs H'
def SP(X:Cx)(pins:List (Us×Obj))(D:Ends)(f:Flow)(s':Uq):Prop:=
 match f with
 |.next=>∃σ' H',Inv X pins σ' H' s'/\D.nx σ' H'
 |.brk=>∃σ' H',Inv X pins σ' H' s'/\D.bk σ' H'
 |.cont=>∃σ' H',Inv X pins σ' H' s'/\D.ct σ' H'
 |.ret u=>∃v σ' H',Inv X pins σ' H' s'/\RelV v u/\D.rt v H'
def PE(X:Cx)(e:Uu)(t:TE):Prop:=
 ∀(pins:List (Us×Obj))(s:Uq)(σ:St)(H:Hp)(Q:VK),Inv X pins σ H s->t σ H Q->Uw (model X.prog X.w) X.A (eval e X.env) (EP X pins σ Q) X.xe s
def PT(X:Cx)(e:Uu)(t:TT):Prop:=
 ∀(pins:List (Us×Obj))(s:Uq)(σ:St)(H:Hp)(Q:Bool->Hp->Prop),Inv X pins σ H s->t σ H Q->Uw (model X.prog X.w) X.A (isTrue e X.env (eval e X.env)) (TP X pins σ Q) X.xe s
def PW(X:Cx)(e:Uu)(t:TT):Prop:=
 ∀(whole:Sem Up)(pins:List (Us×Obj))(s:Uq)(σ:St)(H:Hp)(Q:Bool->Hp->Prop),Inv X pins σ H s->t σ H Q->Uw (model X.prog X.w) X.A (isTrue e X.env whole) (TP X pins σ Q) X.xe s
theorem PW.pt{X:Cx}{e:Uu}{t:TT}(h:PW X e t):PT X e t:=h _
def PA(X:Cx)(es:List Uu)(t:TA):Prop:=
 ∀(pos:Pos)(pins:List (Us×Obj))(s:Uq)(σ:St)(H:Hp)(Q:List V->Hp->Prop),Inv X pins σ H s->t σ H Q->Uw (model X.prog X.w) X.A (spliced (backTo pos (Ux es X.env))) (AP X pins σ Q) X.xe s
def PS(X:Cx)(st:Stmt)(t:TS):Prop:=
 ∀(pins:List (Us×Obj))(s:Uq)(σ:St)(H:Hp)(D:Ends),Inv X pins σ H s->t D σ H->Uw (model X.prog X.w) X.A (exec st X.env) (SP X pins D) X.xe s
def PSs(X:Cx)(st:List Stmt)(t:TS):Prop:=
 ∀(pins:List (Us×Obj))(s:Uq)(σ:St)(H:Hp)(D:Ends),Inv X pins σ H s->t D σ H->Uw (model X.prog X.w) X.A (execs st X.env) (SP X pins D) X.xe s
theorem thn{α:Type}{t:Sem α}{Q Q':α->Uq->Prop}{M:Model}{A:Around}{E:Up->Uq->Prop}{s:Uq}(h:Uw M A t Q E s)(hQ:∀a s,Q a s->Q' a s):Uw M A t Q' E s:=QG h hQ λ_ _ x=>x
section
variable{X:Cx}
def Zi(i:Nat):TE:=λσ H Q=>∃v,σ[i]?=some (some v)/\Q v H
def tC(v:V):TE:=λ_ H Q=>Q v H
theorem NX{i:Nat}{x:Str}{pos:Pos}(hN:X.N[i]?=some x)(hv:Vis X.env.scope x)(hd:(x==("__debug__" : Str))=false:=by decide)(hcd:(x==("__classdict__" : Str))=false:=by decide):PE X (.Name x pos) (Zi i):=by
 intro pins s σ H Q I h;obtain⟨v,e,h⟩:=h;obtain⟨m,hn,hl⟩:=I.loc;obtain⟨u,r,l⟩:=hl i x v hN e hv;have fin:EP X pins σ Q u s:=⟨v,H,I,r,h⟩;rcases l with ⟨hk,hm⟩|⟨hk,c,hc,hcell⟩
 ·exact wpAny_Name (wpAny_loadName_local I.ok.kind hk hn hm fin) hd
 ·rcases hk with hk|hk
  ·exact wpAny_Name (wpAny_loadName_cell I.ok.kind hk hc hcell fin) hd
  ·exact wpAny_Name (wpAny_loadName_free I.ok.kind hk hc hcell fin hcd) hd
theorem EH{i j pos}:PE X (.Constant (.int i) j pos) (tC (.int i)):=λ_ _ _ H _ I h=>wpAny_Constant_int ⟨.int i,H,I.tok _,⟨_,rfl⟩,h⟩
theorem FZ{b j pos}:PE X (.Constant (.bool b) j pos) (tC (.bl b)):=λ_ _ _ H _ I h=>Constant_bool ⟨.bl b,H,I,rfl,h⟩
theorem EG{j pos}:PE X (.Constant .none j pos) (tC .non):=λ_ _ _ H _ I h=>Constant_none ⟨.non,H,I,rfl,h⟩
theorem EF{x j pos}:PE X (.Constant (.str x) j pos) (tC (.str x)):=λ_ _ _ H _ I h=>Calls.Constant_str ⟨.str x,H,I.tok _,⟨_,rfl⟩,h⟩
def Gl(X:Cx)(x:Str):Prop:=X.env.kindOf x=some .globalImplicit
theorem M5{E:Up->Uq->Prop}{pins:List (Us×Obj)}{s:Uq}{σ:St}{H:Hp}{x:Str}{u:Up}{pos:Pos}{Q:Up->Uq->Prop}(I:Inv X pins σ H s)(hg:Gl X x)(hm:X.mg x=some u)(h:Q u s)
  (hd:(x==("__debug__" : Str))=false:=by decide):Uw (model X.prog X.w) X.A (eval (.Name x pos) X.env) Q E s:=
 Calls.Name_function_global I.ok.kind hg (Calls.loadGlobal_global (by rw[I.ok.glob];exact I.mod.glob.keeps I.bk) hm h) hd
theorem Vn{E:Up->Uq->Prop}{pins:List (Us×Obj)}{s:Uq}{σ:St}{H:Hp}{x:Str}{u:Up}{pos:Pos}{Q:Up->Uq->Prop}(I:Inv X pins σ H s)(hg:Gl X x)(hm:X.mg x=none)(hv:bootBuiltins x=some u)(h:Q u s)
  (hn:x ≠ "__name__" :=by decide) (hd:(x==("__debug__" : Str))=false:=by decide):Uw (model X.prog X.w) X.A (eval (.Name x pos) X.env) Q E s:=by
 obtain⟨mb,h1,h2⟩:=I.mod.blt;exact Calls.Name_function_global I.ok.kind hg (Calls.loadGlobal_builtin (by rw[I.ok.glob];exact I.mod.glob.keeps I.bk) hm (by rw[I.ok.blt];exact h1.keeps I.bk) ((h2 x hn).trans hv) h) hd
theorem M4{x:Str}{v:V}{u:Up}{pos:Pos}(hg:Gl X x)(hm:X.mg x=some u)(r:RelV v u)(hd:(x==("__debug__" : Str))=false:=by decide):PE X (.Name x pos) (tC v):=
 λ_ _ _ H _ I h=>M5 I hg hm ⟨v,H,I,r,h⟩ hd
theorem CK{x:Str}{v:V}{u:Up}{pos:Pos}(hg:Gl X x)(hm:X.mg x=none)(hv:bootBuiltins x=some u)(r:RelV v u)(hn:x ≠ "__name__" :=by decide)(hd:(x==("__debug__" : Str))=false:=by decide):PE X (.Name x pos) (tC v):=
 λ_ _ _ H _ I h=>Vn I hg hm hv ⟨v,H,I,r,h⟩ hn hd
variable{a b:Uu}{ta tb:TE}{pos:Pos}
def PC(X:Cx)(op:CmpOp)(a b:Uu)(t:TE):Prop:=
 ∀(pins:List (Us×Obj))(s:Uq)(σ:St)(H:Hp)(Q:VK),Inv X pins σ H s->t σ H Q ->
  Uw (model X.prog X.w) X.A (eval a X.env) (λv s₁=>Uw (model X.prog X.w) X.A (eval b X.env) (λu s₂=>Uw (model X.prog X.w) X.A (Uy op v u) (EP X pins σ Q) X.xe s₂) X.xe s₁) X.xe s
theorem LR(b:Uu){op:CmpOp}(h:op≠.In)(h2:op≠.NotIn):behindInMarks op b=false:=by
 have e1:(op==CmpOp.In)=false:=by cases op<;>first|rfl|exact absurd rfl h
 have e2:(op==CmpOp.NotIn)=false:=by cases op<;>first|rfl|exact absurd rfl h2
 cases b<;>simp[behindInMarks,e1,e2]
def tIsN(ta:TE):TE:=λσ H Q=>ta σ H λx H1=>Q (.bl (decide (x=.non))) H1
def FY(ta:TE):TE:=λσ H Q=>ta σ H λx H1=>Q (.bl (!decide (x=.non))) H1
theorem RelV.none_iff{x:V}{v:Up}(r:RelV x v):(v==Value.none)=decide (x=.non):=by
 cases x with
 |non=>cases r;rfl
 |bl _=>cases r;rfl
 |int _=>obtain⟨t,rfl⟩:=r;rfl
 |str _=>obtain⟨t,rfl⟩:=r;rfl
 |byt _=>obtain⟨t,rfl⟩:=r;rfl
 |flt _=>obtain⟨t,rfl⟩:=r;rfl
 |ref _=>cases r;rfl
 |ty _=>cases r;rfl
theorem NW{j pos'}(ha:PE X a ta):PC X .Is a (.Constant .none j pos') (tIsN ta):=by intro pins s σ H Q I h;refine thn (ha pins s σ H _ I h) λv s1 ⟨x,H1,I1,r1,q1⟩=>?_;exact Constant_none (is_none_gen ⟨.bl _,H1,I1,by rw[r1.none_iff];rfl,q1⟩)
theorem CJ{j pos'}(ha:PE X a ta):PC X .IsNot a (.Constant .none j pos') (FY ta):=by intro pins s σ H Q I h;refine thn (ha pins s σ H _ I h) λv s1 ⟨x,H1,I1,r1,q1⟩=>?_;exact Constant_none (isnot_none_gen ⟨.bl _,H1,I1,by rw[r1.none_iff];rfl,q1⟩)
def tB(t:TE):TT:=λσ H Q=>t σ H λx H1=>∃c,x=.bl c/\Q c H1
theorem EE{op:CmpOp}{t:TE}(h:PC X op a b t)(h1:behindInMarks op b=false:=by first|exact LR _ (by decide) (by decide)|rfl):PE X (.Compare a [op] [b] pos) t:=λpins s σ H Q I hw=>wpAny_Compare1 (h pins s σ H Q I hw) h1
theorem NV{op:CmpOp}{t:TE}(h:PC X op a b t)(h1:behindInMarks op b=false:=by first|exact LR _ (by decide) (by decide)|rfl):PT X (.Compare a [op] [b] pos) (tB t):=by intro pins s σ H Q I hw;refine wpAny_isTrue_Compare1 (thn (h pins s σ H _ I hw) λv s1 h1=>thn h1 λu s2 h2=>thn h2 λc s3 ⟨x,H1,I1,r1,q1⟩=>?_) h1;obtain⟨d,rfl,q⟩:=q1;cases r1;exact Q2 ⟨H1,I1,q⟩
theorem ED{e:Uu}{t:TE}(h:PE X e t)(he:∀whole,isTrue e X.env whole=(do let v ←whole;standAt e.pos;holding [v] (truthy v)):=by intro _;rfl):PT X e (tB t):=by intro pins s σ H Q I hw;refine isTrue_plain (thn (h pins s σ H _ I hw) λv s1 ⟨x,H1,I1,r1,q1⟩=>?_) (he _);obtain⟨d,rfl,q⟩:=q1;cases r1;exact Q2 ⟨H1,I1,q⟩
variable{tA tB':TT}{rest:List Uu}
def tAnd(t u:TT):TT:=λσ H Q=>t σ H λc H1=>if c=true then u σ H1 Q else Q false H1
def tOr(t u:TT):TT:=λσ H Q=>t σ H λc H1=>if c=true then Q true H1 else u σ H1 Q
def tNot(t:TT):TT:=λσ H Q=>t σ H λc H1=>Q (!c) H1
theorem CI(ha:PT X a tA):PW X (.BoolOp .And [a] pos) tA:=by
 intro wh pins s σ H Q I h;refine isTrue_and (thn (ha pins s σ H Q I h) λc s1 e=>?_);cases c with
 |true=>exact isTrue_and_nil e
 |false=>exact e
theorem EC(ha:PT X a tA):PW X (.BoolOp .Or [a] pos) tA:=by
 intro wh pins s σ H Q I h;refine isTrue_or (thn (ha pins s σ H Q I h) λc s1 e=>?_);cases c with
 |false=>exact isTrue_or_nil e
 |true=>exact e
theorem EB(ha:PT X a tA)(hb:PW X (.BoolOp .And (b::rest) pos) tB'):PW X (.BoolOp .And (a::b::rest) pos) (tAnd tA tB'):=by
 intro wh pins s σ H Q I h;refine isTrue_and (thn (ha pins s σ H _ I h) λc s1 ⟨H1,I1,q1⟩=>?_);cases c with
 |true=>exact hb wh pins s1 σ H1 Q I1 q1
 |false=>exact⟨H1,I1,q1⟩
theorem FX(ha:PT X a tA)(hb:PW X (.BoolOp .Or (b::rest) pos) tB'):PW X (.BoolOp .Or (a::b::rest) pos) (tOr tA tB'):=by
 intro wh pins s σ H Q I h;refine isTrue_or (thn (ha pins s σ H _ I h) λc s1 ⟨H1,I1,q1⟩=>?_);cases c with
 |true=>exact⟨H1,I1,q1⟩
 |false=>exact hb wh pins s1 σ H1 Q I1 q1
theorem EA(ha:PT X a tA):PT X (.UnaryOp .Not a pos) (tNot tA):=by intro pins s σ H Q I h;exact isTrue_not (ha pins s σ H (λc H1=>Q (!c) H1) I h)
def FW(ta tb:TE):TE:=λσ H Q=>ta σ H λx H1=>∃c,x=.bl c/\if c=true then tb σ H1 Q else Q (.bl false) H1
def tOrV(ta tb:TE):TE:=λσ H Q=>ta σ H λx H1=>∃c,x=.bl c/\if c=true then Q (.bl true) H1 else tb σ H1 Q
def FV(ta:TE):TE:=λσ H Q=>ta σ H λx H1=>∃c,x=.bl c/\Q (.bl (!c)) H1
theorem Ez{op}{t:TE}(h:PE X a t):PE X (.BoolOp op [a] pos) t:=λpins s σ H Q I hw=>BoolOp_one (h pins s σ H Q I hw)
theorem Ey(ha:PE X a ta)(hb:PE X (.BoolOp .And (b::rest) pos) tb):PE X (.BoolOp .And (a::b::rest) pos) (FW ta tb):=by
 intro pins s σ H Q I h;refine BoolOp_and (thn (ha pins s σ H _ I h) λv s1 ⟨x,H1,I1,r1,q1⟩=>?_);obtain⟨c,rfl,q1⟩:=q1;cases r1;refine Q2 ?_;cases c with
 |true=>exact hb pins s1 σ H1 Q I1 q1
 |false=>exact⟨.bl false,H1,I1,rfl,q1⟩
theorem FT(ha:PE X a ta)(hb:PE X (.BoolOp .Or (b::rest) pos) tb):PE X (.BoolOp .Or (a::b::rest) pos) (tOrV ta tb):=by
 intro pins s σ H Q I h;refine BoolOp_or (thn (ha pins s σ H _ I h) λv s1 ⟨x,H1,I1,r1,q1⟩=>?_);obtain⟨c,rfl,q1⟩:=q1;cases r1;refine Q2 ?_;cases c with
 |false=>exact hb pins s1 σ H1 Q I1 q1
 |true=>exact⟨.bl true,H1,I1,rfl,q1⟩
theorem Ex(ha:PE X a ta):PE X (.UnaryOp .Not a pos) (FV ta):=by intro pins s σ H Q I h;refine UnaryOp_ (thn (ha pins s σ H _ I h) λv s1 ⟨x,H1,I1,r1,q1⟩=>?_);obtain⟨c,rfl,q1⟩:=q1;cases r1;exact not_of (Q2 ⟨.bl (!c),H1,I1,rfl,q1⟩)
def tIf(t:TT)(ta tb:TE):TE:=λσ H Q=>t σ H λc H1=>if c=true then ta σ H1 Q else tb σ H1 Q
theorem Ap{c:Uu}(hc:PT X c tA)(ha:PE X a ta)(hb:PE X b tb):PE X (.IfExp c a b pos) (tIf tA ta tb):=by
 intro pins s σ H Q I h;refine wpAny_IfExp (thn (hc pins s σ H _ I h) λd s1 ⟨H1,I1,q1⟩=>?_);cases d with
 |true=>exact ha pins s1 σ H1 Q I1 q1
 |false=>exact hb pins s1 σ H1 Q I1 q1
end
def SqL(K:Frag)(H:Hp)(a:Us)(xs:List V):Prop:=
 Rd H a (.lst xs) ∨
  ∃(o:Obj)(its:Array Up)(n:Nat),K.lookup a=some o/\o.cls=.type "list" /\ o.dict=none/\o.data=.seq its n/\its.size<=Uv/\Vals xs its.toList
def SqT(K:Frag)(H:Hp)(a:Us)(xs:List V):Prop:=
 Rd H a (.tup xs) ∨
  ∃(o:Obj)(its:Array Up)(n:Nat),K.lookup a=some o/\o.cls=.type "tuple" /\ o.data=.seq its n/\its.size<=Uv/\Vals xs its.toList
def absV:Up->Option V
 |.none=>some .non
 |.bool b=>some (.bl b)
 |.int i _=>some (.int i)
 |.str x _=>some (.str x)
 |.bytes b _=>some (.byt b)
 |.float b _=>some (.flt b)
 |.ref a=>some (.ref a)
 |.type n=>some (.ty n)
 |_=>none
theorem RelV.abs{x:V}{u:Up}(r:RelV x u):absV u=some x:=by
 cases x with
 |non=>cases r;rfl
 |bl _=>cases r;rfl
 |int _=>obtain⟨t,rfl⟩:=r;rfl
 |str _=>obtain⟨t,rfl⟩:=r;rfl
 |byt _=>obtain⟨t,rfl⟩:=r;rfl
 |flt _=>obtain⟨t,rfl⟩:=r;rfl
 |ref _=>cases r;rfl
 |ty _=>cases r;rfl
theorem RelV.inj{x y:V}{u:Up}(r:RelV x u)(q:RelV y u):x=y:=QP (r.abs.symm.trans q.abs)
theorem Vals.inj:∀{xs ys:List V}{us:List Up},Vals xs us->Vals ys us->xs=ys
 |_,_,_,.nil,.nil=>rfl
 |_,_,_,.cons r t,.cons r' t'=>by rw[r.inj r',Vals.inj t t']
section
variable{X:Cx}{pins:List (Us×Obj)}{σ:St}{H:Hp}{s:Uq}{a:Us}{xs ys:List V}
theorem SqL.of{K:Frag}(h:H a=some (.lst xs)):SqL K H a xs:=.inl (.inl h)
theorem SqT.of{K:Frag}(h:H a=some (.tup xs)):SqT K H a xs:=.inl (.inl h)
theorem Inv.list(I:Inv X pins σ H s)(h:SqL X.K H a xs):∃its:List Up,Vals xs its/\PlainL s.heap a its.toArray/\xs.length<=Uv:=by
 rcases h with h|⟨o,its,n,hk,hc,hd,hs,hz,r⟩
 ·obtain⟨z,its,n,r,e⟩:=h.ok I.hok;exact⟨its,r,⟨_,n,e,rfl,rfl,rfl⟩,z⟩
 ·refine⟨its.toList,r,⟨o,n,I.kIn a o hk,hc,hd,by simpa using hs⟩,?_⟩;have e:=r.length;simp only[JA]at e;omega
theorem Inv.tuple(I:Inv X pins σ H s)(h:SqT X.K H a xs):∃its:List Up,Vals xs its/\IsTup s.heap a its.toArray/\xs.length<=Uv:=by
 rcases h with h|⟨o,its,n,hk,hc,hs,hz,r⟩
 ·obtain⟨z,its,r,p⟩:=h.ok I.hok;exact⟨its,r,p,z⟩
 ·refine⟨its.toList,r,⟨o,I.kIn a o hk,hc,n,by simpa using hs⟩,?_⟩;have e:=r.length;simp only[JA]at e;omega
theorem Inv.list_inj(I:Inv X pins σ H s)(h:SqL X.K H a xs)(h':SqL X.K H a ys):xs=ys:=by
 obtain⟨its,r,⟨o,n,e,_,_,d⟩,_⟩:=I.list h;obtain⟨its',r',⟨o',n',e',_,_,d'⟩,_⟩:=I.list h';rw[e]at e';cases e';rw[d]at d';injection d' with d1 _
 have:its=its':=by simpa using congrArg Array.toList d1
 subst this;exact r.inj r'
theorem Inv.tuple_inj(I:Inv X pins σ H s)(h:SqT X.K H a xs)(h':SqT X.K H a ys):xs=ys:=by
 obtain⟨its,r,⟨o,e,_,n,d⟩,_⟩:=I.tuple h;obtain⟨its',r',⟨o',e',_,n',d'⟩,_⟩:=I.tuple h';rw[e]at e';cases e';rw[d]at d';injection d' with d1 _
 have:its=its':=by simpa using congrArg Array.toList d1
 subst this;exact r.inj r'
end
abbrev Cx.wish(X:Cx)(E:Up->Uq->Prop):Cx:={X with xe:=E}
abbrev Cx.nox(X:Cx):Cx:=X.wish λ_ _=>False
theorem Cx.Ok.wish{X:Cx}(ok:X.Ok)(E:Up->Uq->Prop):(X.wish E).Ok:=
 ⟨ok.mod,ok.kind,ok.glob,ok.blt,ok.above,ok.inj,ok.has,ok.cab,ok.hd,ok.frames,ok.stk,ok.exf,ok.bs,ok.bsz,ok.noex,ok.exfs,ok.funs,ok.frf⟩
theorem Cx.Ok.unwish{X:Cx}{E:Up->Uq->Prop}(ok:(X.wish E).Ok):X.Ok:=
 ⟨ok.mod,ok.kind,ok.glob,ok.blt,ok.above,ok.inj,ok.has,ok.cab,ok.hd,ok.frames,ok.stk,ok.exf,ok.bs,ok.bsz,ok.noex,ok.exfs,ok.funs,ok.frf⟩
section
variable{X:Cx}{pins:List (Us×Obj)}{σ:St}{H:Hp}{s:Uq}{E:Up->Uq->Prop}
theorem Inv.wish(I:Inv X pins σ H s)(E:Up->Uq->Prop):Inv (X.wish E) pins σ H s:=⟨I.ok.wish E,I.os,I.bare,I.base,I.loc,I.cell,I.free,I.freeC,I.pin,I.hok,I.len⟩
theorem Inv.unwish(I:Inv (X.wish E) pins σ H s):Inv X pins σ H s:=⟨I.ok.unwish,I.os,I.bare,I.base,I.loc,I.cell,I.free,I.freeC,I.pin,I.hok,I.len⟩
theorem SP.unwish{D:Ends}{f:Flow}{s':Uq}(h:SP (X.wish E) pins D f s'):SP X pins D f s':=by
 cases f with
 |next=>obtain⟨σ',H',I,q⟩:=h;exact⟨σ',H',I.unwish,q⟩
 |brk=>obtain⟨σ',H',I,q⟩:=h;exact⟨σ',H',I.unwish,q⟩
 |cont=>obtain⟨σ',H',I,q⟩:=h;exact⟨σ',H',I.unwish,q⟩
 |ret u=>obtain⟨v,σ',H',I,r,q⟩:=h;exact⟨v,σ',H',I.unwish,r,q⟩
theorem PSs.nox{st:List Stmt}{t:TS}(h:PSs X.nox st t):PSs X st t:=λpins s σ H D I hw=>
 QG (h pins s σ H D (I.wish _) hw) (λ_ _ q=>q.unwish) λ_ _ z=>False.elim z
end
section
variable{X:Cx}{st:Stmt}{rest:List Stmt}{t u:TS}{e:Uu}{te:TE}{pos:Pos}
def Es:TS:=λD σ H=>D.nx σ H
def tSeq(t u:TS):TS:=λD σ H=>t {D with nx:=u D} σ H
theorem CH:PSs X [] Es:=λ_ _ σ H _ I h=>wpAny_execs_nil ⟨σ,H,I,h⟩
theorem Ao(h1:PS X st t)(h2:PSs X rest u):PSs X (st::rest) (tSeq t u):=by
 intro pins s σ H D I h;refine wpAny_execs_cons (thn (h1 pins s σ H {D with nx:=u D} I h) λf s1 q=>?_);cases f with
 |next=>obtain⟨σ',H',I',q⟩:=q;exact h2 pins s1 σ' H' D I' q
 |ret v=>exact q
 |brk=>exact q
 |cont=>exact q
theorem CG(h1:PS X st t):PSs X [st] t:=by
 intro pins s σ H D I h;refine wpAny_execs_cons (thn (h1 pins s σ H D I h) λf s1 q=>?_);cases f with
 |next=>exact wpAny_execs_nil q
 |ret v=>exact q
 |brk=>exact q
 |cont=>exact q
theorem Inv.quiet{pins:List (Us×Obj)}{σ:St}{H:Hp}{s:Uq}(I:Inv X pins σ H s):interactive X.env=false:=by simp[interactive,I.ok.kind]
def Er(te:TE):TS:=λD σ H=>te σ H λ_ H1=>D.nx σ H1
theorem M0(he:PE X e te)(hs:swapsWith e none pos.line X.env=pure false:=by rfl):PS X (.Expr e pos) (Er te):=by intro pins s σ H D I h;exact wpAny_Expr_any (thn (he pins s σ H _ I h) λv s1 ⟨x,H1,I1,r1,q1⟩=>⟨σ,H1,I1,q1⟩) I.quiet hs
def tRet(te:TE):TS:=λD σ H=>te σ H D.rt
theorem Ew(he:PE X e te):PS X (.Return (some e) pos) (tRet te):=by intro pins s σ H D I h;exact wpAny_Return_some (thn (he pins s σ H _ I h) λv s1 ⟨x,H1,I1,r1,q1⟩=>⟨x,σ,H1,I1,r1,q1⟩)
def tIfS(c:TT)(t u:TS):TS:=λD σ H=>c σ H λb H1=>if b=true then t D σ H1 else u D σ H1
theorem Ep{c:Uu}{a b:List Stmt}{tc:TT}(hc:PT X c tc)(ha:PSs X a t)(hb:PSs X b u):PS X (.If c a b pos) (tIfS tc t u):=by
 intro pins s σ H D I h;refine wpAny_If (thn (hc pins s σ H _ I h) λd s1 ⟨H1,I1,q1⟩=>?_);cases d with
 |true=>exact ha pins s1 σ H1 D I1 q1
 |false=>exact hb pins s1 σ H1 D I1 q1
end
abbrev TG:=V->St->Hp->(St->Hp->Prop)->Prop
abbrev TGs:=List V->St->Hp->(St->Hp->Prop)->Prop
def PG(X:Cx)(target:Uu)(t:TG):Prop:=
 ∀(pins:List (Us×Obj))(s:Uq)(σ:St)(H:Hp)(v:V)(u:Up)(Q:St->Hp->Prop),Inv X pins σ H s->RelV v u->t v σ H Q ->
  Uw (model X.prog X.w) X.A (assign target X.env u) (λ_ s'=>∃σ' H',Inv X pins σ' H' s'/\Q σ' H') X.xe s
def PGs(X:Cx)(ts:List Uu)(t:TGs):Prop:=
 ∀(pins:List (Us×Obj))(s:Uq)(σ:St)(H:Hp)(vs:List V)(us:List Up)(Q:St->Hp->Prop),Inv X pins σ H s->Vals vs us->t vs σ H Q ->
  Uw (model X.prog X.w) X.A (assignInOrder ((UM ts X.env).map (·.2)) us) (λ_ s'=>∃σ' H',Inv X pins σ' H' s'/\Q σ' H') X.xe s
abbrev T4:=V->V->V->Hp->(Hp->Prop)->Prop
def PSet(X:Cx)(t:T4):Prop:=
 ∀(pins:List (Us×Obj))(s:Uq)(σ:St)(H:Hp)(o i v:V)(ov iv u:Up)(Q:Hp->Prop),Inv X pins σ H s->RelV o ov->RelV i iv->RelV v u->t o i v H Q ->
  Uw (model X.prog X.w) X.A (setItem ov iv u) (λ_ s'=>∃H',Inv X pins σ H' s'/\Q H') X.xe s
abbrev TIp:=V->V->Hp->VK->Prop
def PIp(X:Cx)(op:Operator)(t:TIp):Prop:=
 ∀(pins:List (Us×Obj))(s:Uq)(σ:St)(H:Hp)(x y:V)(v u:Up)(Q:VK),Inv X pins σ H s->RelV x v->RelV y u->t x y H Q ->
  Uw (model X.prog X.w) X.A (inplaceOp op v u) (EP X pins σ Q) X.xe s
section
variable{X:Cx}{pos:Pos}
def PJ(i:Nat):TG:=λv σ H Q=>Q (σ.set i (some v)) H
theorem Wk{i:Nat}{x:Str}(hN:X.N.Nodup)(hi:X.N[i]?=some x)(hx:Loc X.env.scope x)(hf:X.fn x=true∨X.env.scope.names.lookup x=some .local:=by first|exact .inl rfl|exact .inr rfl|assumption):PG X (.Name x pos) (PJ i):=by intro pins s σ H v u Q I r h;exact wpAny_assign_Name (OI I hN hi hx r (λs' I'=>⟨_,H,I',h⟩) hf)
def gNil:TGs:=λvs σ H Q=>vs=[]/\Q σ H
def Eo(t:TG)(u:TGs):TGs:=λvs σ H Q=>∃v r,vs=v::r/\t v σ H λσ' H'=>u r σ' H' Q
theorem CF:PGs X [] gNil:=by intro pins s σ H vs us Q I r h;obtain⟨e,h⟩:=h;subst e;cases r;exact assignInOrder_nil ⟨σ,H,I,h⟩
theorem An{e:Uu}{es:List Uu}{t:TG}{u:TGs}(h1:PG X e t)(h2:PGs X es u)
  (hs:(UM (e::es) X.env).map (·.2)=assign e X.env::(UM es X.env).map (·.2):=by rfl):PGs X (e::es) (Eo t u):=by
 intro pins s σ H vs us Q I r h;obtain⟨v,vr,e1,h⟩:=h;subst e1;cases r with
 |cons r rr=>rw[hs];refine assignInOrder_cons (thn (h1 pins s σ H _ _ _ I r h) λ_ s1 ⟨σ1,H1,I1,q1⟩=>?_);exact h2 pins s1 σ1 H1 _ _ Q I1 rr q1
def gTup(K:Frag)(n:Nat)(t:TGs):TG:=λv σ H Q=>∃a xs,v=.ref a/\SqT K H a xs/\xs.length=n/\t xs σ H Q
theorem Ev{es:List Uu}{k:Nat}{t:TGs}{n:Nat}(hc:X.calm=true)(h:PGs X es t)
  (hn:(UM es X.env).length=n:=by rfl) (hst:(UM es X.env).findIdx? (·.1)=none:=by rfl):PG X (.Tuple es k pos) (gTup X.K n t):=by
 intro pins s σ H v u Q I r hw;obtain⟨a,xs,e1,hq,hl,hw⟩:=hw;subst e1;cases r;obtain⟨its,rv,ht,hz⟩:=I.tuple hq;refine assign_Tuple_tuple (I.ok.hd hc) ht (by simp[hn,←hl,rv.length]) hst λh' hx=>?_
 have I1:Inv X pins σ H {s with heap:=h'}:=I.kept (t':=s.toks) λb o e=>hx b o (QM (Qi e)) e;exact h pins _ σ H xs _ Q I1 (by simpa using rv) hw
def tAsg(te:TE)(g:TG):TS:=λD σ H=>te σ H λx H1=>g x σ H1 D.nx
theorem Eu{tg e:Uu}{te:TE}{g:TG}(he:PE X e te)(hg:PG X tg g)(hs:swapsWithSole [tg] e pos.line X.env=pure false:=by rfl)(hw:swappedStores [tg] e X.env=pure none:=by rfl)
  (h1:(UM [tg] X.env).map (·.2)=[assign tg X.env]:=by rfl):PS X (.Assign [tg] e pos) (tAsg te g):=by
 intro pins s σ H D I h;refine wpAny_Assign_stores (thn (he pins s σ H _ I h) λv s1 ⟨x,H1,I1,r1,q1⟩=>?_) hs hw;rw[h1];exact thn (hg pins s1 σ H1 x v _ I1 r1 q1) λ_ s2 q=>q
theorem P5{i:Nat}{x:Str}{e:Uu}{te:TE}{pos':Pos}(hN:X.N.Nodup)(hi:X.N[i]?=some x)(hx:Loc X.env.scope x)(he:PE X e te)(hs:swapsWith e (some (.Name x pos')) pos.line X.env=pure false:=by rfl)(hf:X.fn x=true∨X.env.scope.names.lookup x=some .local:=by first|exact .inl rfl|exact .inr rfl|assumption) :
  PS X (.Assign [.Name x pos'] e pos) (tAsg te (PJ i)):=by
 intro pins s σ H D I h;refine wpAny_Assign_Name (thn (he pins s σ H _ I h) λv s1 ⟨y,H1,I1,r1,q1⟩=>?_) hs;exact OI I1 hN hi hx r1 (λs2 I2=>⟨_,H1,I2,q1⟩) hf
def tAug(i:Nat)(te:TE)(ti:TIp):TS:=λD σ H=>∃x,σ[i]?=some (some x)/\te σ H λy H1=>ti x y H1 λz H2=>D.nx (σ.set i (some z)) H2
theorem Et{i:Nat}{x:Str}{e:Uu}{te:TE}{op:Operator}{ti:TIp}{pos':Pos}(hN:X.N.Nodup)(hi:X.N[i]?=some x)(hx:Loc X.env.scope x)(he:PE X e te)(ho:PIp X op ti)(hf:X.fn x=true∨X.env.scope.names.lookup x=some .local:=by first|exact .inl rfl|exact .inr rfl|assumption) :
  PS X (.AugAssign (.Name x pos') op e pos) (tAug i te ti):=by
 intro pins s σ H D I h;obtain⟨v,e1,h⟩:=h;obtain⟨m,hn,hl⟩:=I.loc;have vis:Vis X.env.scope x:=by rcases hx with k|k;exact .inl k;exact .inr (.inl k)
 obtain⟨u,r,l⟩:=hl i x v hi e1 vis;refine wpAny_AugAssign_Name ?_;have go:Uw (model X.prog X.w) X.A (eval e X.env) (λw s₂=>Uw (model X.prog X.w) X.A (inplaceOp op u w) (λr s₃=>Uw (model X.prog X.w) X.A (storeName X.env x r) (λ_=>SP X pins D .next) X.xe s₃) X.xe s₂) X.xe s:=by refine thn (he pins s σ H _ I h) λw s1 ⟨y,H1,I1,r1,q1⟩=>?_;refine thn (ho pins s1 σ H1 v y u w _ I1 r r1 q1) λz s2 ⟨zv,H2,I2,r2,q2⟩=>?_;exact OI I2 hN hi hx r2 (λs3 I3=>⟨_,H2,I3,q2⟩) hf
 rcases l with ⟨hk,hm⟩|⟨hk,c,hc,hcell⟩
 ·exact wpAny_loadName_local I.ok.kind hk hn hm go
 ·rcases hk with hk|hk
  ·exact wpAny_loadName_cell I.ok.kind hk hc hcell go
  ·rcases hx with k|k
   ·have:X.env.scope.names.lookup x=some .free:=hk;rw[k]at this;cases this
   ·have:X.env.scope.names.lookup x=some .free:=hk;rw[k]at this;cases this
def En(to ti te:TE)(tget:V->V->Hp->VK->Prop)(tip:TIp)(tset:T4):TS:=λD σ H=>to σ H λo H1=>ti σ H1 λi H2=>tget o i H2 λx H3=>te σ H3 λy H4=>tip x y H4 λz H5=>tset o i z H5 λH6=>D.nx σ H6
def PGet(X:Cx)(t:V->V->Hp->VK->Prop):Prop:=
 ∀(pins:List (Us×Obj))(s:Uq)(σ:St)(H:Hp)(o i:V)(ov iv:Up)(Q:VK),Inv X pins σ H s->RelV o ov->RelV i iv->t o i H Q ->
  Uw (model X.prog X.w) X.A (getItem ov iv) (EP X pins σ Q) X.xe s
theorem CD{o i e:Uu}{to ti te:TE}{tget:V->V->Hp->VK->Prop}{tip:TIp}{tset:T4}{op:Operator}{tpos:Pos}(ho:PE X o to)(hi:PE X i ti)(hg:PGet X tget)(he:PE X e te)(hp:PIp X op tip)(hs:PSet X tset)
  (ha:∀ov iv new,augStore i ov iv new=(do holding [new,ov,iv] (setItem ov iv new);release [new,ov,iv] [];pure .next):=by intros;rfl):PS X (.AugAssign (.Subscript o i tpos) op e pos) (En to ti te tget tip tset):=by
 intro pins s σ H D I h;refine wpAny_AugAssign_SubscriptAny (thn (ho pins s σ H _ I h) λov s1 ⟨x1,H1,I1,r1,q1⟩=>?_) ha;refine thn (hi pins s1 σ H1 _ I1 q1) λiv s2 ⟨x2,H2,I2,r2,q2⟩=>?_;refine thn (hg pins s2 σ H2 x1 x2 ov iv _ I2 r1 r2 q2) λold s3 ⟨x3,H3,I3,r3,q3⟩=>?_;refine thn (he pins s3 σ H3 _ I3 q3) λv s4 ⟨x4,H4,I4,r4,q4⟩=>?_;refine thn (hp pins s4 σ H4 x3 x4 old v _ I4 r3 r4 q4) λnew s5 ⟨x5,H5,I5,r5,q5⟩=>?_;exact thn (hs pins s5 σ H5 x1 x2 x5 ov iv new _ I5 r1 r2 r5 q5) λ_ s6 ⟨H6,I6,q6⟩=>⟨σ,H6,I6,q6⟩
def ipI(f:Int->Int->Int):TIp:=λx y H Q=>∃i j,x=.int i/\y=.int j/\Q (.int (f i j)) H
theorem De:PIp X .Add (ipI λi j=>i+j):=by intro pins s σ H x y v u Q I r1 r2 h;obtain⟨i,j,e1,e2,q⟩:=h;subst e1;subst e2;obtain⟨t,rfl⟩:=r1;obtain⟨t',rfl⟩:=r2;exact iadd_int ⟨.int _,H,I.tok _,⟨_,rfl⟩,q⟩
end
section
variable{X:Cx}{pos:Pos}
def Dd(c:TT)(tb:TS):TS:=λD σ H=>∃W:Nat->St->Hp->Prop,(∃m,W m σ H)/\∀m σ H,W m σ H ->
 c σ H λb H1=>if b=true then ∃N:St->Hp->Prop,(∀σ' H',N σ' H'->∃m',m'<m/\W m' σ' H')/\tb {D with nx:=N,ct:=N,bk:=D.nx} σ H1 else D.nx σ H1
theorem Am{c:Uu}{body:List Stmt}{tc:TT}{tb:TS}(hp:PassesOwn (model X.prog X.w) X.A X.env X.xe)(hc:PT X c tc)(hb:PSs X body tb):PS X (.While c body [] pos) (Dd tc tb):=by
 intro pins s σ H D I h;obtain⟨W,⟨m0,w0⟩,turn⟩:=h;refine wpAny_While (codeAny_whileLoop (λn s'=>∃σ' H',Inv X pins σ' H' s'/\W n σ' H') ?_ m0 ⟨σ,H,I,w0⟩);rintro n s1 ⟨σ1,H1,I1,w1⟩;refine Js hp (thn (hc pins s1 σ1 H1 _ I1 (turn n σ1 H1 w1)) λb s2 ⟨H2,I2,q2⟩=>?_);cases b with
 |true=>
  obtain⟨N,hN,q2⟩:=q2;rw[Qk rfl];refine Js hp (thn (hb pins s2 σ1 H2 _ I2 q2) λf s3 q3=>?_);cases f with
  |next=>obtain⟨σ3,H3,I3,n3⟩:=q3;obtain⟨m',hm,w3⟩:=hN σ3 H3 n3;exact⟨m',hm,σ3,H3,I3,w3⟩
  |cont=>obtain⟨σ3,H3,I3,n3⟩:=q3;obtain⟨m',hm,w3⟩:=hN σ3 H3 n3;exact⟨m',hm,σ3,H3,I3,w3⟩
  |brk=>exact q3
  |ret v=>exact q3
 |false=>rw[Qs JG];exact wpAny_execs_nil ⟨σ1,H2,I2,q2⟩
end
structure It where
 go:Nat->Hp->Prop
 yld:Nat->Hp->V->Hp->Prop
 stop:Nat->Hp->Prop
def ZC(X:Cx)(pins:List (Us×Obj))(H:Hp)(b:Us):Prop:=
 H b=none/\b≠X.env.locals/\b∉X.fs/\(b∈X.ex∨X.s₀.heap.objs.size<=b)/\(∀x c,X.env.cells.lookup x=some c->c≠b)/\∀p∈X.pn++pins,p.1≠b
theorem Inv.fpOk{X:Cx}{pins:List (Us×Obj)}{σ:St}{H H':Hp}{s:Uq}{b:Us}(I:Inv X pins σ H s)(hb:s.heap.objs.size<=b)(hn:H' b=none):ZC X pins H' b:=by
 refine⟨hn,JR (QE I.lt hb),I.nofs hb,.inr (QS I.sz hb),λx c e z=>?_,λp hp z=>?_⟩
 ·obtain⟨v,q⟩:=I.cell x c e;exact absurd (QE q.lt (by rw[z];exact hb)) (Jt _)
 ·exact absurd (QE (Qi (I.pin p hp).1) (by rw[z];exact hb)) (Jt _)
structure Turn(P:Ur)(w:World)(K:Frag)(tg:Uu)(J:It)(fp:List Us)(it:Us)(tn:Nat->Heap->Prop):Prop where
 mem:it∈fp
 obj:∀i h,tn i h->∀b∈fp,∃o,h.get? b=some o/\∀v,o.data≠.cell v
 keep:∀i h h',tn i h->(∀b∈fp,∀o,h.get? b=some o->h'.get? b=some o)->tn i h'
 item:∀(X:Cx),X.prog=P->X.w=w->X.K=K->X.calm=true->∀(i:Nat)(pins:List (Us×Obj))(s:Uq)(σ:St)(H:Hp)(E:Up->Uq->Prop),Inv X pins σ H s->(∀b∈fp,ZC X pins H b)->tn i s.heap->J.go i H ->
  Uw (model P w) X.A (pyNext (.ref it)) (λr s1=>∃u,r=some u /\
   Uw (model P w) X.A (letOwnedTupleGo tg (.ref it) u) (λ_ s2=>∃x H',Inv X pins σ H' s2/\RelV x u/\J.yld i H x H'/\tn (i+1) s2.heap/\∀b∈fp,H' b=none) E s1) E s
 done:∀(X:Cx),X.prog=P->X.w=w->X.K=K->X.calm=true->∀(i:Nat)(pins:List (Us×Obj))(s:Uq)(σ:St)(H:Hp)(E:Up->Uq->Prop),Inv X pins σ H s->(∀b∈fp,ZC X pins H b)->tn i s.heap->J.stop i H ->
  Uw (model P w) X.A (pyNext (.ref it)) (λr s1=>r=none/\Inv X pins σ H s1) E s
 self:∀(A:Around)(i:Nat)(s:Uq)(Q:Up->Uq->Prop)(E:Up->Uq->Prop),tn i s.heap->Q (.ref it) s->Uw (model P w) A (pyIter (.ref it)) Q E s
abbrev TI:=St->Hp->(It->Hp->Prop)->Prop
def PIE(X:Cx)(pins:List (Us×Obj))(σ:St)(tg:Uu)(R:It->Hp->Prop)(itv:Up)(s2:Uq):Prop:=
 ∃(it:Us)(fp:List Us)(tn:Nat->Heap->Prop)(J:It)(H':Hp),itv=.ref it/\Inv X pins σ H' s2/\Turn X.prog X.w X.K tg J fp it tn/\tn 0 s2.heap/\(∀b∈fp,ZC X pins H' b)/\R J H'
def PI(X:Cx)(tg iter:Uu)(wi:TI):Prop:=
 ∀(pins:List (Us×Obj))(s:Uq)(σ:St)(H:Hp)(R:It->Hp->Prop),Inv X pins σ H s->wi σ H R ->
  Uw (model X.prog X.w) X.A (eval iter X.env) (λv s1=>Uw (model X.prog X.w) X.A (pyIter v) (PIE X pins σ tg R) X.xe s1) X.xe s
theorem RH{M:Model}{A:Around}{E:Up->Uq->Prop}{s:Uq}{tg:Uu}{it:Us}{u:Up}{o:Obj}{n:String}{vs:Array Up}{Q:Unit->Uq->Prop}(ho:s.heap.get? it=some o)(hc:o.cls=.type n)(hd:o.data=.fields vs)
  (hn:["enumerate", "zip", "dict_itemiterator", "dict_reverseitemiterator", "odict_iterator", "itertools.zip_longest", "itertools.pairwise"].contains n=false) (hQ:Q () s):Uw M A (letOwnedTupleGo tg (.ref it) u) Q E s:=by
 unfold letOwnedTupleGo
 cases tg<;>first
  |exact Qn hQ
  |(cases u<;>first
    |exact Qn hQ
    |(
      refine Qf (wpAny_load ho ?_);rw[hc,hd];show Uw M A (if(["enumerate", "zip", "dict_itemiterator", "dict_reverseitemiterator", "odict_iterator", "itertools.zip_longest", "itertools.pairwise"].contains n&&vs[0]?==some (rawInt _))=true then _ else _) Q E s;rw[Qs (by intro h;rw[hn,Bool.false_and]at h;cases h)];exact Qn hQ))
def Itl(K:Frag)(a:Us):It:=
 ⟨λi H=>∃xs x,SqL K H a xs/\xs[i]?=some x,λi H x H'=>H'=H/\∀xs,SqL K H a xs->xs[i]?=some x,λi H=>∃xs,SqL K H a xs/\xs.length<=i⟩
def Itt(K:Frag)(a:Us):It:=
 ⟨λi H=>∃xs x,SqT K H a xs/\xs[i]?=some x,λi H x H'=>H'=H/\∀xs,SqT K H a xs->xs[i]?=some x,λi H=>∃xs,SqT K H a xs/\xs.length<=i⟩
def Itr(lo:Int)(n:Nat):It:=⟨λi _=>i<n,λi H x H'=>H'=H/\x=.int (lo+i),λi _=>n<=i⟩
theorem jA{P:Ur}{w:World}{K:Frag}{tg:Uu}(a it:Us):Turn P w K tg (Itl K a) [it] it (λi h=>h.IsListIter it a i) where
 mem:=by simp
 obj:=λi h st b hb=>by
  have e:b=it:=by simpa using hb
  subst e;obtain⟨o,e,c,d⟩:=st;exact⟨o,e,λv z=>by rw[d]at z;cases z⟩
 keep:=λi h h' st k=>st.at λo e=>k it (by simp) o e
 item:=by
  intro X hP hw hK hc i pins s σ H E I hf st hg;subst hP hw hK;obtain⟨xs,x,hq,hx⟩:=hg;obtain⟨its,rv,p,hz⟩:=I.list hq;obtain⟨u,hu,ru⟩:=rv.get hx;obtain⟨f0,f1,f2,f3,f4,f5⟩:=hf it (by simp);refine wpAny_pyNext_list_item st p.isList (x:=u) (by simpa using hu) λh' st' sb=>?_
  have I1:Inv X pins σ H {s with heap:=h'}:=I.turned (t':=s.toks) (λb o hb e=>(sb.2 b hb).trans e) f0 f1 f3 f4 f5;obtain⟨o,e,c,d⟩:=id st';exact⟨u,rfl,RH (s:={s with heap:=h'}) e c d (by decide) ⟨x,H,I1,ru,⟨rfl,λys hy=>by rw[I.list_inj hy hq];exact hx⟩,st',λb hb=>(hf b hb).1⟩⟩
 done:=by intro X hP hw hK hc i pins s σ H E I hf st hg;subst hP hw hK;obtain⟨xs,hq,hx⟩:=hg;obtain⟨its,rv,p,hz⟩:=I.list hq;obtain⟨f0,f1,f2,f3,f4,f5⟩:=hf it (by simp);have hl:=rv.length;exact wpAny_pyNext_list_end (I.ok.hd hc) st p.isList (by simp;omega) λh' eb=>⟨rfl,I.turned (t':=s.toks) (λb o hb e=>eb b o hb e) f0 f1 f3 f4 f5⟩
 self:=λ_ _ _ _ _ st h=>wpAny_pyIter_listiter st h
theorem jI{P:Ur}{w:World}{K:Frag}{tg:Uu}(a it:Us):Turn P w K tg (Itt K a) [it] it (λi h=>h.IsTupleIter it a i) where
 mem:=by simp
 obj:=λi h st b hb=>by
  have e:b=it:=by simpa using hb
  subst e;obtain⟨o,e,c,d⟩:=st;exact⟨o,e,λv z=>by rw[d]at z;cases z⟩
 keep:=λi h h' st k=>st.at λo e=>k it (by simp) o e
 item:=by
  intro X hP hw hK hc i pins s σ H E I hf st hg;subst hP hw hK;obtain⟨xs,x,hq,hx⟩:=hg;obtain⟨its,rv,p,hz⟩:=I.tuple hq;obtain⟨u,hu,ru⟩:=rv.get hx;obtain⟨f0,f1,f2,f3,f4,f5⟩:=hf it (by simp);refine wpAny_pyNext_tuple_item st (show s.heap.IsTuple a its.toArray from p) (x:=u) (by simpa using hu) λh' st' sb=>?_
  have I1:Inv X pins σ H {s with heap:=h'}:=I.turned (t':=s.toks) (λb o hb e=>(sb.2 b hb).trans e) f0 f1 f3 f4 f5;obtain⟨o,e,c,d⟩:=id st';exact⟨u,rfl,RH (s:={s with heap:=h'}) e c d (by decide) ⟨x,H,I1,ru,⟨rfl,λys hy=>by rw[I.tuple_inj hy hq];exact hx⟩,st',λb hb=>(hf b hb).1⟩⟩
 done:=by intro X hP hw hK hc i pins s σ H E I hf st hg;subst hP hw hK;obtain⟨xs,hq,hx⟩:=hg;obtain⟨its,rv,p,hz⟩:=I.tuple hq;obtain⟨f0,f1,f2,f3,f4,f5⟩:=hf it (by simp);have hl:=rv.length;exact wpAny_pyNext_tuple_end (I.ok.hd hc) st (show s.heap.IsTuple a its.toArray from p) (by simp;omega) λh' eb=>⟨rfl,I.turned (t':=s.toks) (λb o hb e=>eb b o hb e) f0 f1 f3 f4 f5⟩
 self:=λ_ _ _ _ _ st h=>wpAny_pyIter_tupleiter st h
theorem jH{P:Ur}{w:World}{K:Frag}{tg:Uu}(it:Us)(lo:Int)(n:Nat):Turn P w K tg (Itr lo n) [it] it (λi h=>IsRangeIter h it (lo+(i:Nat)*1) ((n:Int)-(i:Nat)) 1) where
 mem:=by simp
 obj:=λi h st b hb=>by
  have e:b=it:=by simpa using hb
  subst e;exact⟨_,st,λv z=>by have z':Data.fields _=Data.cell v:=z;cases z'⟩
 keep:=λi h h' st k=>k it (by simp) _ st
 item:=by
  intro X hP hw hK hc i pins s σ H E I hf st hg;subst hP hw hK;obtain⟨f0,f1,f2,f3,f4,f5⟩:=hf it (by simp);have W:=Walks.range (prog:=X.prog) (w:=X.w) (I.ok.hd hc) it lo 1 n;refine W.item i s _ _ hg st λv h' tk hv st' kk=>?_
  obtain⟨t,rfl⟩:=hv;have I1:Inv X pins σ H {s with heap:=h',toks:=tk}:=I.turned (λb o hb e=>kk b o (by simpa using hb) e) f0 f1 f3 f4 f5;refine⟨_,rfl,RH (s:={s with heap:=h',toks:=tk}) (n:= "range_iterator") st' rfl rfl (by decide) ⟨.int (lo+i),H,I1,⟨t,?_⟩,⟨rfl,rfl⟩,st',λb hb=>(hf b hb).1⟩⟩;rw[Int.mul_one]
 done:=by intro X hP hw hK hc i pins s σ H E I hf st hg;subst hP hw hK;obtain⟨f0,f1,f2,f3,f4,f5⟩:=hf it (by simp);exact wpAny_pyNext_range_end (I.ok.hd hc) st (by have:n<=i:=hg;omega) λh' eb=>⟨rfl,I.turned (t':=s.toks) (λb o hb e=>eb b o hb e) f0 f1 f3 f4 f5⟩
 self:=λ_ _ _ _ _ st h=>wpAny_pyIter_rangeiter st h
section
variable{X:Cx}{tg:Uu}
theorem LQ{pins:List (Us×Obj)}{σ:St}{H:Hp}{s:Uq}{R:It->Hp->Prop}{E:Up->Uq->Prop}{lo hi:Int}{t u v:Tok}{tk:Nat}(I:Inv X pins σ H s)(h1 : -(2 ^ 62)<=lo)(h2:lo<2 ^ 62)(h3 : -(2 ^ 62)<=hi)(h4:hi<2 ^ 62)
  (q:R (Itr lo (hi-lo).toNat) H):Uw (model X.prog X.w) X.A (pyIter (.ref s.heap.objs.size)) (PIE X pins σ tg R) E {s with heap:=s.heap.push {cls:=.type "range", data:=.fields #[.int lo t,.int hi u,.int 1 v]},toks:=tk}:=by
 refine wpAny_pyIter_range (IsRange.new ..) (small_one h1 h2 h3 h4) ?_;have I1:Inv X pins σ H {s with heap:=s.heap.push {cls:=.type "range", data:=.fields #[.int lo t,.int hi u,.int 1 v]},toks:=tk}:=I.kept λb o e=>Qm _ e
 refine⟨(s.heap.push {cls:=.type "range", data:=.fields #[.int lo t,.int hi u,.int 1 v]}).objs.size,[(s.heap.push {cls:=.type "range", data:=.fields #[.int lo t,.int hi u,.int 1 v]}).objs.size],_,_,H,rfl,
  I1.kept (t':=tk) λb o e=>Qm _ e,jH _ lo (hi-lo).toNat,?_,λb hb=>?_,q⟩
 ·have e1:lo+((0:Nat):Int)*1=lo:=by simp
  have e2:(((hi-lo).toNat:Nat):Int)-((0:Nat):Int)=Builtin.Range.rangeSize lo hi 1:=by rw[rangeSize_one];split<;>omega
  show IsRangeIter _ _ (lo+((0:Nat):Int)*1) ((((hi-lo).toNat:Nat):Int)-((0:Nat):Int)) 1;rw[e1,e2];exact QD _ rfl
 ·have e:b=(s.heap.push {cls:=.type "range", data:=.fields #[.int lo t,.int hi u,.int 1 v]}).objs.size:=by simpa using hb
  subst e;exact I1.fpOk (Qx _) (I1.hok.fresh (Qx _))
def Em(ta:TA):TI:=λσ H R=>ta σ H λvs H1=>∃j:Int,vs=[.int j] /\ -(2 ^ 62)<=j/\j<2 ^ 62/\R (Itr 0 j.toNat) H1
def El(ta:TA):TI:=λσ H R=>ta σ H λvs H1=>∃i j:Int,vs=[.int i,.int j]/\(-(2 ^ 62)<=i/\i<2 ^ 62 /\ -(2 ^ 62)<=j/\j<2 ^ 62)/\R (Itr i (j-i).toNat) H1
theorem jz{a:Uu}{ta:TA}{p pos:Pos}(hg:Gl X "range")(hm:X.mg "range" = none)(ha:PA X [a] ta)(hs:Ux [a] X.env=[(false,eval a X.env)]:=by rfl):PI X tg (.Call (.Name "range" p) [a] [] pos) (Em ta):=by
 intro pins s σ H R I h;refine Call_ (Vn I hg hm boot_range (Jy (thn (ha pos pins s σ H _ I h) λus s1 ⟨vs,H1,I1,r1,q1⟩=>?_) hs rfl));obtain⟨j,e,q1,q2,q⟩:=q1;subst e;cases r1 with
 |cons r rr=>cases rr;obtain⟨t,rfl⟩:=r;exact call_range_1 (LQ I1 (by omega) (by omega) q1 q2 (by simpa using q))
theorem jy{a b:Uu}{ta:TA}{p pos:Pos}(hg:Gl X "range")(hm:X.mg "range" = none)(ha:PA X [a,b] ta)(hs:Ux [a,b] X.env=[(false,eval a X.env),(false,eval b X.env)]:=by rfl)(hs2:Ux [b] X.env=[(false,eval b X.env)]:=by rfl) :
  PI X tg (.Call (.Name "range" p) [a,b] [] pos) (El ta):=by
 intro pins s σ H R I h;refine Call_ (Vn I hg hm boot_range (Jy (thn (ha pos pins s σ H _ I h) λus s1 ⟨vs,H1,I1,r1,q1⟩=>?_) (by rw[hs,hs2]) (by rw[hs2];rfl)));obtain⟨i,j,e,⟨q1,q2,q3,q4⟩,q⟩:=q1;subst e;cases r1 with
 |cons r rr=>
  cases rr with
  |cons r' rr=>cases rr;obtain⟨t,rfl⟩:=r;obtain⟨t',rfl⟩:=r';exact call_range_2 (LQ I1 q1 q2 q3 q4 q)
def tFor(wi:TI)(g:TG)(tb:TS):TS:=λD σ H=>wi σ H λJ H1=>∃W:Nat->Nat->St->Hp->Prop,(∃m,W 0 m σ H1)/\∀i m σ H,W i m σ H ->
 (J.stop i H/\D.nx σ H)∨(J.go i H/\∃N:St->Hp->Prop,(∀σ' H',N σ' H'->∃m',m'<m/\W (i+1) m' σ' H')/\∀x H',J.yld i H x H'->g x σ H' λσ2 H2=>tb {D with nx:=N,ct:=N,bk:=D.nx} σ2 H2)
def Ra(fp:List Us)(h:Heap):List (Us×Obj):=fp.filterMap λb=>(h.get? b).map λo=>(b,o)
theorem Pw{fp:List Us}{h:Heap}{b:Us}{o:Obj}(hb:b∈fp)(e:h.get? b=some o):(b,o)∈Ra fp h:=Jm.mpr ⟨b,hb,by rw[e];rfl⟩
theorem jx{fp:List Us}{h:Heap}{p:Us×Obj}(hp:p∈Ra fp h):p.1∈fp/\h.get? p.1=some p.2:=by
 obtain⟨b,hb,e⟩:=Jm.mp hp;cases q:h.get? b with
 |none=>rw[q]at e;cases e
 |some o=>rw[q]at e;have e':(b,o)=p:=QP e;subst e';exact⟨hb,q⟩
theorem Inv.pinned{pins:List (Us×Obj)}{σ:St}{H:Hp}{s:Uq}{fp:List Us}(I:Inv X pins σ H s)(hf:∀b∈fp,ZC X pins H b)(ho:∀b∈fp,∃o,s.heap.get? b=some o/\∀v,o.data≠.cell v):Inv X (pins++Ra fp s.heap) σ H s:=
 I.pins_of λp hp=>(Q0.mp hp).elim (λz=>I.pin p (QJ _ z)) λz=>by obtain⟨hb,e⟩:=jx z;obtain⟨f0,f1,f2,_⟩:=hf p.1 hb;obtain⟨o,e',d⟩:=ho p.1 hb;rw[e]at e';cases e';exact⟨e,f0,f1,f2,d⟩
theorem Inv.unpinned{pins pl:List (Us×Obj)}{σ:St}{H:Hp}{s:Uq}(I:Inv X (pins++pl) σ H s):Inv X pins σ H s:=I.pins_of λp hp=>I.pin p (QJ _ (Jf _ hp))
theorem Dc{iter:Uu}{body:List Stmt}{wi:TI}{g:TG}{tb:TS}{pos:Pos}(hp:PassesOwn (model X.prog X.w) X.A X.env X.xe)(hc:X.calm=true)(hi:PI X tg iter wi)(hg:PG X tg g)(hb:PSs X body tb)
  (hs:∀x,UN iter X.env x=pure x:=by intro _;rfl):PS X (.For tg iter body [] pos) (tFor wi g tb):=by
 intro pins s σ H D I h;refine wpAny_For (thn (hi pins s σ H _ I h) λv s1 h1=>thn h1 λitv s2 h2=>?_) hs;obtain⟨it,fp,tn,J,H2,e,I2,T,st2,f2,W,⟨m0,w0⟩,turn⟩:=h2;subst e;have stat:∀{H':Hp},(∀b∈fp,H' b=none)->∀b∈fp,ZC X pins H' b:=λhn b hb=>⟨hn b hb,(f2 b hb).2⟩;refine codeAny_forLoop_any (λn s'=>∃i σ' H',Inv X pins σ' H' s'/\tn i s'.heap/\(∀b∈fp,H' b=none)/\W i n σ' H') ?_ m0 ⟨0,σ,H2,I2,st2,λb hb=>(f2 b hb).1,w0⟩;rintro n s3 ⟨i,σ3,H3,I3,st3,fr3,w3⟩;rcases turn i n σ3 H3 w3 with ⟨stop,qn⟩|⟨go,N,hN,step⟩
 ·refine Js hp (thn (T.done X rfl rfl rfl hc i pins s3 σ3 H3 X.xe I3 (stat fr3) st3 stop) λr s4 ⟨hr,I4⟩=>?_);subst hr;exact wpAny_execs_nil ⟨σ3,H3,I4,qn⟩
 ·refine Js hp (thn (T.item X rfl rfl rfl hc i pins s3 σ3 H3 X.xe I3 (stat fr3) st3 go) λr s4 ⟨u,hr,h4⟩=>?_);subst hr;refine Js hp (thn h4 λ_ s5 ⟨x,H5,I5,r5,y5,st5,fr5⟩=>?_);have I5':=I5.pinned (stat fr5) (T.obj _ _ st5);refine Js hp (thn (hg _ s5 σ3 H5 x u _ I5' r5 (step x H5 y5)) λ_ s6 ⟨σ6,H6,I6,q6⟩=>?_);refine Js hp (thn (hb _ s6 σ6 H6 _ I6 q6) λf s7 q7=>?_);have again:∀{σ7:St}{H7:Hp},Inv X (pins++Ra fp s5.heap) σ7 H7 s7->N σ7 H7->∃m,m<n/\∃i σ' H',Inv X pins σ' H' s7/\tn i s7.heap/\(∀b∈fp,H' b=none)/\W i m σ' H':=λ{σ7 H7} I7 n7=>by obtain⟨m',hm,w7⟩:=hN σ7 H7 n7;refine⟨m',hm,i+1,σ7,H7,I7.unpinned,T.keep _ _ _ st5 λb hb o e=>(I7.pin (b,o) (QJ _ (QJ _ (Pw hb e)))).1,λb hb=>?_,w7⟩;obtain⟨o,e,d⟩:=T.obj _ _ st5 b hb;exact(I7.pin (b,o) (QJ _ (QJ _ (Pw hb e)))).2.1
  cases f with
  |next=>obtain⟨σ7,H7,I7,n7⟩:=q7;exact again I7 n7
  |cont=>obtain⟨σ7,H7,I7,n7⟩:=q7;exact again I7 n7
  |brk=>obtain⟨σ7,H7,I7,q7⟩:=q7;exact⟨σ7,H7,I7.unpinned,q7⟩
  |ret v=>obtain⟨x7,σ7,H7,I7,r7,q7⟩:=q7;exact⟨x7,σ7,H7,I7.unpinned,r7,q7⟩
end
abbrev R2:=V->V->Hp->VK->Prop
def OpR(X:Cx)(f:Up->Up->Sem Up)(r:R2):Prop:=
 ∀(pins:List (Us×Obj))(s:Uq)(σ:St)(H:Hp)(x y:V)(v u:Up)(Q:VK),Inv X pins σ H s->RelV x v->RelV y u->r x y H Q ->
  Uw (model X.prog X.w) X.A (f v u) (EP X pins σ Q) X.xe s
def UnR(X:Cx)(f:Up->Sem Up)(r:V->Hp->VK->Prop):Prop:=
 ∀(pins:List (Us×Obj))(s:Uq)(σ:St)(H:Hp)(x:V)(v:Up)(Q:VK),Inv X pins σ H s->RelV x v->r x H Q ->
  Uw (model X.prog X.w) X.A (f v) (EP X pins σ Q) X.xe s
def YS(X:Cx)(f:Up)(r:List V->Hp->VK->Prop):Prop:=
 ∀(pins:List (Us×Obj))(s:Uq)(σ:St)(H:Hp)(xs:List V)(us:List Up)(Q:VK),Inv X pins σ H s->Vals xs us->r xs H Q ->
  Uw (model X.prog X.w) X.A (call f us) (EP X pins σ Q) X.xe s
def TruR(X:Cx)(r:V->Hp->(Bool->Hp->Prop)->Prop):Prop:=
 ∀(pins:List (Us×Obj))(s:Uq)(σ:St)(H:Hp)(x:V)(v:Up)(Q:Bool->Hp->Prop),Inv X pins σ H s->RelV x v->r x H Q ->
  Uw (model X.prog X.w) X.A (truthy v) (TP X pins σ Q) X.xe s
def tOp(r:R2)(ta tb:TE):TE:=λσ H Q=>ta σ H λx H1=>tb σ H1 λy H2=>r x y H2 Q
def tUn(r:V->Hp->VK->Prop)(ta:TE):TE:=λσ H Q=>ta σ H λx H1=>r x H1 Q
def rI(C:Int->Int->Prop)(g:Int->Int->V):R2:=λx y H Q=>∃i j,x=.int i/\y=.int j/\C i j/\Q (g i j) H
def rI0(g:Int->Int->V):R2:=λx y H Q=>∃i j,x=.int i/\y=.int j/\Q (g i j) H
def rU(g:Int->V):V->Hp->VK->Prop:=λx H Q=>∃i,x=.int i/\Q (g i) H
section
variable{X:Cx}{a b c:Uu}{ta tb tc:TE}{pos:Pos}
theorem T3(ha:PE X a ta)(hb:PE X b tb){pins:List (Us×Obj)}{s:Uq}{σ:St}{H:Hp}{R:V->V->Hp->Prop}(I:Inv X pins σ H s)
  (h:ta σ H λx H1=>tb σ H1 λy H2=>R x y H2) {Q:Up->Uq->Prop} {f:Up->Up->Sem Up}
  (hf:∀v u s2 x y H2,Inv X pins σ H2 s2->RelV x v->RelV y u->R x y H2->Uw (model X.prog X.w) X.A (f v u) Q X.xe s2) :
  Uw (model X.prog X.w) X.A (eval a X.env) (λv s₁=>Uw (model X.prog X.w) X.A (eval b X.env) (λu s₂=>Uw (model X.prog X.w) X.A (f v u) Q X.xe s₂) X.xe s₁) X.xe s:=by
 refine thn (ha pins s σ H _ I h) λv s1 ⟨x,H1,I1,r1,q1⟩=>?_;refine thn (hb pins s1 σ H1 _ I1 q1) λu s2 ⟨y,H2,I2,r2,q2⟩=>?_;exact hf v u s2 x y H2 I2 r1 r2 q2
theorem Nz{op:Operator}{r:R2}(ho:OpR X (binaryOp op) r)(ha:PE X a ta)(hb:PE X b tb):PE X (.BinOp a op b pos) (tOp r ta tb):=by intro pins s σ H Q I h;exact wpAny_BinOp (T3 ha hb I h λv u s2 x y H2 I2 rx ry q=>ho pins s2 σ H2 x y v u Q I2 rx ry q)
theorem Ek{op:UnaryOp}{r:V->Hp->VK->Prop}(ho:UnR X (unaryOp op) r)(ha:PE X a ta):PE X (.UnaryOp op a pos) (tUn r ta):=by intro pins s σ H Q I h;exact UnaryOp_ (thn (ha pins s σ H _ I h) λv s1 ⟨x,H1,I1,r1,q1⟩=>ho pins s1 σ H1 x v Q I1 r1 q1)
theorem opI{f:Up->Up->Sem Up}{C:Int->Int->Prop}{g:Int->Int->Int}
  (rule:∀(i j:Int)(t u:Tok)(s:Uq)(Q:Up->Uq->Prop)(E:Up->Uq->Prop),C i j->Q (.int (g i j) s.toks) {s with toks:=s.toks+1}->Uw (model X.prog X.w) X.A (f (.int i t) (.int j u)) Q E s) :
  OpR X f (rI C λi j=>.int (g i j)):=by
 intro pins s σ H x y v u Q I rx ry h;obtain⟨i,j,rfl,rfl,hc,q⟩:=h;obtain⟨t,rfl⟩:=rx;obtain⟨t',rfl⟩:=ry;exact rule i j t t' s _ _ hc ⟨.int (g i j),H,I.tok _,⟨_,rfl⟩,q⟩
theorem opI0{f:Up->Up->Sem Up}{g:Int->Int->Int}
  (rule:∀(i j:Int)(t u:Tok)(s:Uq)(Q:Up->Uq->Prop)(E:Up->Uq->Prop),Q (.int (g i j) s.toks) {s with toks:=s.toks+1}->Uw (model X.prog X.w) X.A (f (.int i t) (.int j u)) Q E s) :
  OpR X f (rI0 λi j=>.int (g i j)):=by
 intro pins s σ H x y v u Q I rx ry h;obtain⟨i,j,rfl,rfl,q⟩:=h;obtain⟨t,rfl⟩:=rx;obtain⟨t',rfl⟩:=ry;exact rule i j t t' s _ _ ⟨.int (g i j),H,I.tok _,⟨_,rfl⟩,q⟩
theorem Wy{f:Up->Up->Sem Up}{g:Int->Int->Bool}
  (rule:∀(i j:Int)(t u:Tok)(s:Uq)(Q:Up->Uq->Prop)(E:Up->Uq->Prop),Q (.bool (g i j)) s->Uw (model X.prog X.w) X.A (f (.int i t) (.int j u)) Q E s) :
  OpR X f (rI0 λi j=>.bl (g i j)):=by
 intro pins s σ H x y v u Q I rx ry h;obtain⟨i,j,rfl,rfl,q⟩:=h;obtain⟨t,rfl⟩:=rx;obtain⟨t',rfl⟩:=ry;exact rule i j t t' s _ _ ⟨.bl (g i j),H,I,rfl,q⟩
def CPow(i j:Int):Prop:=0<=j/\j<=1000000/\i.natAbs<2 ^ 64
def CMul(i j:Int):Prop:=(-(2 ^ 64)<i/\i<2 ^ 64)∨(-(2 ^ 64)<j/\j<2 ^ 64)
theorem CMul.ok{i j:Int}(h:CMul i j):IntMulOk i j:=by
 rcases h with ⟨h1,h2⟩|⟨h1,h2⟩
 ·exact .of_left (intBits_le_64 h1 h2)
 ·exact .of_right (intBits_le_64 h1 h2)
theorem Db:OpR X (binaryOp .Add) (rI0 λi j=>.int (i+j)):=opI0 λ_ _ _ _ _ _ _ q=>add_int q
theorem Da:OpR X (binaryOp .Sub) (rI0 λi j=>.int (i-j)):=opI0 λ_ _ _ _ _ _ _ q=>sub_int q
theorem E9:OpR X (binaryOp .Mult) (rI CMul λi j=>.int (i*j)):=opI λ_ _ _ _ _ _ _ hc q=>mul_int q hc.ok
theorem E8:OpR X (binaryOp .Mod) (rI (λ_ j=>0<j) λi j=>.int (i % j)):=opI λi j _ _ _ _ _ hc q=>by have h1:(0:Int)<j:=hc;exact mod_int' (by omega) (by rw[Int.fmod_eq_emod_of_nonneg i (by omega)];exact q)
theorem E7:OpR X (binaryOp .Pow) (rI CPow λi j=>.int (i ^ j.toNat)):=opI λ_ _ _ _ _ _ _ hc q=>pow_int_small hc.1 hc.2.1 hc.2.2 q
theorem CC:OpR X (inplaceOp .Mult) (rI CMul λi j=>.int (i*j)):=opI λ_ _ _ _ _ _ _ hc q=>imul_int q hc.ok
theorem unI{f:Up->Sem Up}{g:Int->Int}
  (rule:∀(i:Int)(t:Tok)(s:Uq)(Q:Up->Uq->Prop)(E:Up->Uq->Prop),Q (.int (g i) s.toks) {s with toks:=s.toks+1}->Uw (model X.prog X.w) X.A (f (.int i t)) Q E s) :
  UnR X f (rU λi=>.int (g i)):=by
 intro pins s σ H x v Q I rx h;obtain⟨i,rfl,q⟩:=h;obtain⟨t,rfl⟩:=rx;exact rule i t s _ _ ⟨.int (g i),H,I.tok _,⟨_,rfl⟩,q⟩
theorem E6:UnR X (unaryOp .USub) (rU λi=>.int (-i)):=unI λ_ _ _ _ _ q=>neg_int q
end
section
variable{X:Cx}{a b c:Uu}{ta tb tc:TE}{pos:Pos}
theorem NU{pins:List (Us×Obj)}{σ:St}{H:Hp}{s:Uq}{Q:VK}{k k':Bool}(I:Inv X pins σ H s)(q:Q (.bl k) H)(e:k=k'):EP X pins σ Q (.bool k') s:=by subst e;exact⟨.bl k,H,I,rfl,q⟩
theorem Ej:OpR X (Uy .Lt) (rI0 λi j=>.bl (decide (i<j))):=Wy λ_ _ _ _ _ _ _ q=>lt_int q
theorem Ei:OpR X (Uy .LtE) (rI0 λi j=>.bl (decide (i<=j))):=Wy λ_ _ _ _ _ _ _ q=>le_int q
theorem GW:OpR X (Uy .Gt) (rI0 λi j=>.bl (decide (j<i))):=Wy λ_ _ _ _ _ _ _ q=>gt_int q
theorem GV:OpR X (Uy .GtE) (rI0 λi j=>.bl (decide (j<=i))):=Wy λ_ _ _ _ _ _ _ q=>ge_int q
theorem jw:OpR X (Uy .In) (λx y H Q=>∃i j,x=.str i/\y=.str j/\Q (.bl (!(Builtin.Str.occurrences j i 0 j.length 1).isEmpty)) H):=by intro pins s σ H x y v u Q I rx ry h;obtain⟨i,j,rfl,rfl,q⟩:=h;obtain⟨t,rfl⟩:=rx;obtain⟨t',rfl⟩:=ry;exact in_str (NU I q rfl)
theorem kG:OpR X (Uy .NotIn) (λx y H Q=>∃i j,x=.str i/\y=.str j/\Q (.bl (!(!(Builtin.Str.occurrences j i 0 j.length 1).isEmpty))) H):=by intro pins s σ H x y v u Q I rx ry h;obtain⟨i,j,rfl,rfl,q⟩:=h;obtain⟨t,rfl⟩:=rx;obtain⟨t',rfl⟩:=ry;exact notIn_str (NU I q rfl)
theorem OpR.or{f:Up->Up->Sem Up}{r r':R2}(h:OpR X f r)(h':OpR X f r'):OpR X f (λx y H Q=>r x y H Q∨r' x y H Q):=by
 intro pins s σ H x y v u Q I rx ry q;rcases q with q|q
 ·exact h pins s σ H x y v u Q I rx ry q
 ·exact h' pins s σ H x y v u Q I rx ry q
theorem P4(b:Uu){op:CmpOp}(h:op≠.In:=by decide)(h2:op≠.NotIn:=by decide):behindInMarks op b=false:=by
 have e1:(op==CmpOp.In)=false:=by cases op<;>first|rfl|exact absurd rfl h
 have e2:(op==CmpOp.NotIn)=false:=by cases op<;>first|rfl|exact absurd rfl h2
 cases b<;>simp[behindInMarks,e1,e2]
theorem M6{op:CmpOp}{r:R2}(ho:OpR X (Uy op) r)(ha:PE X a ta)(hb:PE X b tb)(hm:behindInMarks op b=false):PE X (.Compare a [op] [b] pos) (tOp r ta tb):=by intro pins s σ H Q I h;exact wpAny_Compare1 (T3 ha hb I h λv u s2 x y H2 I2 rx ry q=>ho pins s2 σ H2 x y v u Q I2 rx ry q) hm
def Ny(t:TE):TT:=λσ H Q=>t σ H λx H'=>∃k,x=.bl k/\Q k H'
theorem Oh{op:CmpOp}{r:R2}(ho:OpR X (Uy op) r)(ha:PE X a ta)(hb:PE X b tb)(hm:behindInMarks op b=false):PT X (.Compare a [op] [b] pos) (Ny (tOp r ta tb)):=by
 intro pins s σ H Q I h
 refine wpAny_isTrue_Compare1 (thn (ha pins s σ H _ I h) λv s1 ⟨x,H1,I1,r1,q1⟩=>thn (hb pins s1 σ H1 _ I1 q1) λu s2 ⟨y,H2,I2,r2,q2⟩=>
  thn (ho pins s2 σ H2 x y v u _ I2 r1 r2 q2) λc s3 ⟨z,H3,I3,r3,k,e,q3⟩=>?_) hm
 subst e;cases r3;exact Q2 ⟨H3,I3,q3⟩
def NT(r r':R2)(ta tb tc:TE):TE:=λσ H Q=>ta σ H λx H1=>tb σ H1 λy H2=>r x y H2 λz H3=>∃k,z=.bl k /\
 (if k=true then tc σ H3 λw' H4=>r' y w' H4 Q else Q (.bl false) H3)
theorem Al{op op':CmpOp}{r r':R2}(ho:OpR X (Uy op) r)(ho':OpR X (Uy op') r')(ha:PE X a ta)(hb:PE X b tb)(hc:PE X c tc)
  (hm:lastMarks [op,op'] [b,c]=false:=by with_unfolding_all rfl):PE X (.Compare a [op,op'] [b,c] pos) (NT r r' ta tb tc):=by
 intro pins s σ H Q I h
 refine Compare_chain (thn (ha pins s σ H _ I h) λv s1 ⟨x,H1,I1,r1,q1⟩=>chain_link (thn (hb pins s1 σ H1 _ I1 q1) λu s2 ⟨y,H2,I2,r2,q2⟩=>
  thn (ho pins s2 σ H2 x y v u _ I2 r1 r2 q2) λd s3 ⟨z,H3,I3,r3,k,e,q3⟩=>?_)) hm
 subst e;cases r3;refine Q2 ?_;cases k with
 |false=>exact ite_ff ⟨.bl false,H3,I3,rfl,q3⟩
 |true=>exact ite_tt (chain_last (thn (hc pins s3 σ H3 _ I3 q3) λw' s4 ⟨z',H4,I4,r4,q4⟩=>ho' pins s4 σ H4 y z' u w' Q I4 r2 r4 q4))
theorem Ak{op op':CmpOp}{r r':R2}(ho:OpR X (Uy op) r)(ho':OpR X (Uy op') r')(ha:PE X a ta)(hb:PE X b tb)(hc:PE X c tc)
  (hm:lastMarks [op,op'] [b,c]=false:=by with_unfolding_all rfl):PT X (.Compare a [op,op'] [b,c] pos) (Ny (NT r r' ta tb tc)):=by
 intro pins s σ H Q I h
 refine isTrue_chain (thn (ha pins s σ H _ I h) λv s1 ⟨x,H1,I1,r1,q1⟩=>test_link (thn (hb pins s1 σ H1 _ I1 q1) λu s2 ⟨y,H2,I2,r2,q2⟩=>
  thn (ho pins s2 σ H2 x y v u _ I2 r1 r2 q2) λd s3 ⟨z,H3,I3,r3,k,e,q3⟩=>?_)) hm
 subst e;cases r3;refine Q2 ?_;cases k with
 |false=>obtain⟨k',e',q'⟩:=q3;cases e';exact ite_ff ⟨H3,I3,q'⟩
 |true=>refine ite_tt (test_last (thn (hc pins s3 σ H3 _ I3 q3) λw' s4 ⟨z',H4,I4,r4,q4⟩=>thn (ho' pins s4 σ H4 y z' u w' _ I4 r2 r4 q4) λd' s5 ⟨z2,H5,I5,r5,k2,e2,q5⟩=>?_));subst e2;cases r5;exact Q2 ⟨H5,I5,q5⟩
def TruV(K:Frag)(x:V)(H:Hp)(k:Bool):Prop:=
 match x with
 |.non=>k=false
 |.bl b=>k=b
 |.int i=>k=(i != 0)
 |.str y=>y.length<=Uv/\k=((y.length:Int) != 0)
 |.byt y=>y.size<=Uv/\k=((y.size:Int) != 0)
 |.ref p=>(∃xs,SqL K H p xs/\k = !xs.isEmpty)∨(∃xs,SqT K H p xs/\k = !xs.isEmpty) ∨ ∃kvs,H p=some (.dK kvs)/\k = !kvs.isEmpty
 |_=>False
theorem jG{κ:Type}{kvs:List (κ×V)}{vs:List (κ×Up)}(r:KV kvs vs):(!vs.isEmpty) = !kvs.isEmpty:=by cases r<;>rfl
theorem HV{xs:List V}{its:List Up}(r:Vals xs its):(!its.toArray.isEmpty) = !xs.isEmpty:=by cases r<;>simp
theorem VM:(Uv:Nat)<2 ^ 63:=by rw[sizeLine_eq];decide
theorem E5:TruR X (λx H Q=>∃k,TruV X.K x H k/\Q k H):=by
 intro pins s σ H x v Q I rx h;obtain⟨k,e,q⟩:=h;have hl:=VM;have hs:Uv=16777216:=sizeLine_eq;cases x with
 |non=>cases rx;have e':k=false:=e;subst e';exact truthy_none ⟨H,I,q⟩
 |bl b=>cases rx;have e':k=b:=e;subst e';exact Q2 ⟨H,I,q⟩
 |int i=>obtain⟨t,rfl⟩:=rx;have e':k=(i != 0):=e;subst e';exact PySem.P.truthy_int ⟨H,I,q⟩
 |str y=>obtain⟨t,rfl⟩:=rx;obtain⟨hy,e'⟩:y.length<=Uv/\k=((y.length:Int) != 0):=e;subst e';exact PySem.P.truthy_str (by omega) ⟨H,I.tok _,q⟩
 |byt y=>obtain⟨t,rfl⟩:=rx;obtain⟨hy,e'⟩:y.size<=Uv/\k=((y.size:Int) != 0):=e;subst e';exact PySem.W.truthy_bytes (by omega) ⟨H,I.tok _,q⟩
 |ref p=>
  cases rx;have e':(∃xs,SqL X.K H p xs/\k = !xs.isEmpty)∨(∃xs,SqT X.K H p xs/\k = !xs.isEmpty) ∨ ∃kvs,H p=some (.dK kvs)/\k = !kvs.isEmpty:=e;rcases e' with ⟨xs,hx,e'⟩|⟨xs,hx,e'⟩|⟨kvs,hx,e'⟩
  ·subst e';obtain⟨its,r,pl,hz⟩:=I.list hx;have hlen:=r.length;exact wpAny_truthy_list pl.isList (by simp only[QI];omega) ⟨H,I.tok _,by rw[HV r];exact q⟩
  ·subst e';obtain⟨its,r,pl,hz⟩:=I.tuple hx;have hlen:=r.length;exact truthy_tuple pl (by simp only[QI];omega) ⟨H,I.tok _,by rw[HV r];exact q⟩
  ·subst e';obtain⟨hz,hS,vs,r,m⟩:kvs.length<=Uv/\(p==sysModules)=false/\∃vs,KV kvs vs/\s.heap.DictOf (Xc X.prog X.w) p vs:=I.hok p _ hx;have hlen:kvs.length=vs.length:=Paired.length r;exact wpAny_truthy_dict hS m (by omega) ⟨H,I.tok _,by rw[jG r];exact q⟩
 |_=>exact(show False from e).elim
theorem Aj(ha:PE X a ta)(he:∀whole,isTrue a X.env whole=(do let v ←whole;standAt a.pos;holding [v] (truthy v))) :
  PT X a (λσ H Q=>ta σ H λx H'=>∃k,TruV X.K x H' k/\Q k H'):=by
 intro pins s σ H Q I h;exact isTrue_plain (thn (ha pins s σ H _ I h) λv s1 ⟨x,H1,I1,r1,q1⟩=>E5 pins s1 σ H1 x v Q I1 r1 q1) (he _)
theorem jF:OpR X (binaryOp .Add) (λx y H Q=>∃i j,x=.str i/\y=.str j/\i.length+j.length<=Uv/\Q (.str (i++j)) H):=by intro pins s σ H x y v u Q I rx ry h;obtain⟨i,j,rfl,rfl,hz,q⟩:=h;obtain⟨t,rfl⟩:=rx;obtain⟨t',rfl⟩:=ry;exact add_str (λt' tk=>⟨.str (i++j),H,I.tok _,⟨_,rfl⟩,q⟩) hz
theorem RG{x:V}{us:List Up}(r:Vals [x] us):∃u,us=[u]/\RelV x u:=by
 cases r with
 |cons r1 r2=>cases r2;exact⟨_,rfl,r1⟩
theorem PH{x y:V}{us:List Up}(r:Vals [x,y] us):∃u w',us=[u,w']/\RelV x u/\RelV y w':=by
 cases r with
 |cons r1 r2=>
  cases r2 with
  |cons r3 r4=>cases r4;exact⟨_,_,rfl,r1,r3⟩
theorem jv(hc:X.calm=true):YS X (.builtin "max") (λxs H Q=>∃i j,xs=[.int i,.int j]/\Q (.int (if j > i then j else i)) H):=by
 intro pins s σ H xs us Q I r h;obtain⟨i,j,rfl,q⟩:=h;obtain⟨u,w',rfl,⟨t,rfl⟩,⟨t',rfl⟩⟩:=PH r;refine max_two_ints (I.ok.hd hc) λh' tk k=>⟨_,H,I.kept k,?_,q⟩
 by_cases hj:j > i
 ·rw[Qk hj,Qk hj];exact⟨_,rfl⟩
 ·rw[Qs hj,Qs hj];exact⟨_,rfl⟩
theorem ju:YS X (.type "int") (λxs H Q=>(∃i,xs=[.int i]/\Q (.int i) H) ∨ ∃k,xs=[.bl k]/\Q (.int (if k then 1 else 0)) H):=by
 intro pins s σ H xs us Q I r h;rcases h with ⟨i,rfl,q⟩|⟨k,rfl,q⟩
 ·obtain⟨u,rfl,t,rfl⟩:=RG r;exact call_int_int ⟨.int i,H,I,⟨_,rfl⟩,q⟩
 ·obtain⟨u,rfl,r1⟩:=RG r;cases r1;exact call_int_bool ⟨.int (if k then 1 else 0),H,I.tok _,⟨_,rfl⟩,q⟩
def LenV(K:Frag)(x:V)(H:Hp)(n:Nat):Prop:=
 match x with
 |.str y=>y.length<=Uv/\n=y.length
 |.byt y=>y.size<=Uv/\n=y.size
 |.ref p=>(∃xs,SqL K H p xs/\n=xs.length) ∨ ∃xs,SqT K H p xs/\n=xs.length
 |_=>False
theorem LN:YS X (.builtin "len") (λxs H Q=>∃x n,xs=[x]/\LenV X.K x H n/\Q (.int n) H):=by
 intro pins s σ H xs us Q I r h;obtain⟨x,n,rfl,e,q⟩:=h;obtain⟨u,rfl,rx⟩:=RG r;have hl:=VM;have hs:Uv=16777216:=sizeLine_eq;cases x with
 |str y=>obtain⟨t,rfl⟩:=rx;obtain⟨hy,e'⟩:y.length<=Uv/\n=y.length:=e;subst e';exact len_str (by omega) ⟨.int _,H,I.tok _,⟨_,rfl⟩,q⟩
 |byt y=>obtain⟨t,rfl⟩:=rx;obtain⟨hy,e'⟩:y.size<=Uv/\n=y.size:=e;subst e';exact PySem.W.len_bytes (by omega) ⟨.int _,H,I.tok _,⟨_,rfl⟩,q⟩
 |ref p=>
  cases rx;have e':(∃xs,SqL X.K H p xs/\n=xs.length) ∨ ∃xs,SqT X.K H p xs/\n=xs.length:=e;rcases e' with ⟨xs,hx,e'⟩|⟨xs,hx,e'⟩
  ·subst e';obtain⟨its,r',pl,hz⟩:=I.list hx;have hlen:=r'.length;exact Calls.call_len_list pl.isList (by simp only[QI];omega) ⟨.int xs.length,H,I.tok _,⟨_,by simp only[QI];rw[hlen]⟩,q⟩
  ·subst e';obtain⟨its,r',pl,hz⟩:=I.tuple hx;have hlen:=r'.length;exact len_tuple pl (by simp only[QI];omega) ⟨.int xs.length,H,I.tok _,⟨_,by simp only[QI];rw[hlen]⟩,q⟩
 |_=>exact(show False from e).elim
end
theorem RelO.some_of{v:V}{o:Option Up}(r:RelO (some v) o):∃u,o=some u/\RelV v u:=by
 cases o with
 |none=>exact(show False from r).elim
 |some u=>exact⟨u,rfl,r⟩
structure Room(k:Nat)(A:Around):Prop where
 hd:A.handled=none
 dp:A.depth+3*k+5<recursionLimit
 un:A.units+16*k+200<cLine
 gd:A.guards=some []
theorem Room.mono{j k:Nat}{A:Around}(r:Room k A)(h:j<=k):Room j A:=⟨r.hd,by have:=r.dp;omega,by have:=r.un;omega,r.gd⟩
theorem Room.deeper{k:Nat}{A:Around}(r:Room (k+1) A)(env:Env):Room k (A.deeper env):=
 ⟨r.hd,by have:=r.dp;show A.depth+1+3*k+5<_;omega,by have:=r.un;show A.units+3+16*k+200<_;omega,r.gd⟩
theorem Room.depth{k:Nat}{A:Around}(r:Room k A):A.depth<recursionLimit:=by have:=r.dp;omega
theorem Room.units{k:Nat}{A:Around}(r:Room k A):A.units+64<cLine:=by have:=r.un;omega
def tNil:TA:=λ_ H Q=>Q [] H
def GU(ta:TE)(tr:TA):TA:=λσ H Q=>ta σ H λx H1=>tr σ H1 λxs H2=>Q (x::xs) H2
section
variable{X:Cx}{e:Uu}{es:List Uu}{te:TE}{t:TA}{pos:Pos}
theorem Sr:PA X [] tNil:=λ_ _ _ _ H Q I h=>Calls.spliced_nil ⟨[],H,I,.nil,h⟩
theorem VS(ha:PE X e te)(hr:PA X es t)(hs:Ux (e::es) X.env=(false,eval e X.env)::Ux es X.env:=by rfl):PA X (e::es) (GU te t):=by intro pos pins s σ H Q I h;rw[hs];show Uw _ _ (spliced ((false,eval e X.env)::backTo pos (Ux es X.env))) _ _ s;refine Calls.spliced_cons (thn (ha pins s σ H _ I h) λu s1 ⟨x,H1,I1,r1,q1⟩=>?_);exact thn (hr pos pins s1 σ H1 _ I1 q1) λus s2 ⟨xs,H2,I2,r2,q2⟩=>⟨x::xs,H2,I2,.cons r1 r2,q2⟩
def tTup(t:TA):TE:=λσ H Q=>t σ H λxs H1=>xs.length<=Uv/\∀p,H1 p=none->Q (.ref p) (upd H1 p (.tup xs))
def tLst(t:TA):TE:=λσ H Q=>t σ H λxs H1=>xs.length<=Uv/\∀p,H1 p=none->Q (.ref p) (upd H1 p (.lst xs))
theorem E4{x1}(h:PA X es t):PE X (.Tuple es x1 pos) (tTup t):=by intro pins s σ H Q I hq;refine wpAny_Tuple_spliced (thn (h pos pins s σ H _ I hq) λus s1 ⟨xs,H1,I1,r,z,q⟩=>⟨by rw[←r.length];exact z,?_⟩);have hf:H1 s1.heap.objs.size=none:=I1.hok.fresh (Qx _);refine⟨.ref s1.heap.objs.size,upd H1 s1.heap.objs.size (.tup xs),I1.laid (t':=s1.toks) (λb u e=>Qm _ e) (Qx _) ?_,rfl,q _ hf⟩;exact⟨z,us,r,⟨_,QD _ rfl,rfl,_,rfl⟩⟩
theorem NS(h:PA X es t):PE X (.List es pos) (tLst t):=by intro pins s σ H Q I hq;refine wpAny_List_spliced (thn (h pos pins s σ H _ I hq) λus s1 ⟨xs,H1,I1,r,z,q⟩=>⟨by rw[←r.length];exact z,?_⟩);have hf:H1 s1.heap.objs.size=none:=I1.hok.fresh (Qx _);refine⟨.ref s1.heap.objs.size,upd H1 s1.heap.objs.size (.lst xs),I1.laid (t':=s1.toks) (λb u e=>Qm _ e) (Qx _) ?_,rfl,q _ hf⟩;exact⟨z,us,0,r,QD _ rfl⟩
end
abbrev Sp:=List V->Hp->VK->XK->Prop
abbrev CXT:=List Env->Hp->Uq->XK->Up->Uq->Prop
structure Env0(P:Ur)(w:World)(K:Frag)(mg:Str->Option Up)(base:Heap)(A:Around)(outer:List Env)(s:Uq)(H:Hp):Prop where
 frames:A.frames=some outer
 mod:Mod K mg base
 bs:∀b o,base.get? b=some o->s.heap.get? b=some o/\H b=none
 bsz:base.objs.size<=s.heap.objs.size
 funs:s.heap.FunFrames base outer
 frf:∀b∈frs outer,H b=none
 hok:HOk P w H s.heap
 bare:AllBare s.gens
def CE(outer:List Env)(P:Ur)(w:World)(H:Hp)(s:Uq)(Q:VK)(u:Up)(s':Uq):Prop:=
 ∃v H',s'.os=s.os/\AllBare s'.gens/\Un (frs outer) [] H H' s.heap s'.heap/\HOk P w H' s'.heap/\RelV v u/\Q v H'
def CR(CX:CXT)(outer:List Env)(P:Ur)(w:World)(H:Hp)(s:Uq)(Q:VK)(E:XK)(r:Result)(s':Uq):Prop:=
 match r with
 |.ok (.ret u)=>CE outer P w H s Q u s'
 |.ok _=>False
 |.error e=>CX outer H s E e s'
structure FnOk(P:Ur)(w:World)(K:Frag)(mg:Str->Option Up)(base:Heap)(CX:CXT)(k:Nat)(f:Us)(fd:Ut)(ps:List Str)(sp:Sp):Prop where
 len:∀vs H Q E,sp vs H Q E->vs.length=ps.length
 run:∀(A:Around)(outer:List Env)(s:Uq)(H:Hp)(args:Args)(us:List Up)(vs:List V)(Q:VK)(E:XK),Room k A->Env0 P w K mg base A outer s H->BindsTo s fd args (ps.zip us)->Vals vs us->sp vs H Q E ->
  codeAny (model P w) A (.call (.ref f) args) (CR CX outer P w H s Q E) s
section
variable{X:Cx}{pins:List (Us×Obj)}{σ:St}{H:Hp}{s s':Uq}
theorem Inv.env0(I:Inv X pins σ H s):Env0 X.prog X.w X.K X.mg X.base X.A X.stack s H:=
 ⟨I.ok.frames,I.ok.mod,I.bs,QS I.ok.bsz I.sz,I.stack,I.stkFree,I.hok,I.bare⟩
theorem Inv.after{Q:VK}{u:Up}(I:Inv X pins σ H s)(h:CE X.stack X.prog X.w H s Q u s'):EP X pins σ Q u s':=by obtain⟨v,H',os,bare,un,hok,r,q⟩:=h;obtain⟨hh,g,d,t,os'⟩:=s';obtain rfl:os'=s.os:=os;exact⟨v,H',I.call (h':=hh) (g':=g) (d':=d) (t':=t) (ch:=[]) un hok bare (λb z=>absurd z (by simp)),r,q⟩
end
def GT(sp:Sp)(dvs:List V)(E:XK)(t:TA):TE:=λσ H Q=>t σ H λvs H1=>sp (vs++dvs) H1 Q E
def Vj(K:Frag)(fd:Ut)(ps:List Str)(ds:List Up):Prop:=
 ∀(s:Uq)(us:List Up),K.In s.heap->(us++ds).length=ps.length->BindsTo s fd ⟨us,[]⟩ (ps.zip (us++ds))
theorem Vj.all{K:Frag}{fd:Ut}{ps:List Str}(h:∀us:List Up,us.length=ps.length->bindArgs fd ⟨us,[]⟩=pure (ps.zip us)):Vj K fd ps []:=λs us _ hl=>by rw[Jj]at hl⊢;exact .of_eq (h us hl)
def P0(CX:CXT)(X:Cx)(E:XK):Prop:=∀(pins:List (Us×Obj))(σ:St)(H:Hp)(s:Uq)(e:Up)(s':Uq),Inv X pins σ H s->CX X.stack H s E e s'->X.xe e s'
section
variable{X:Cx}{CX:CXT}{k:Nat}{f C:Us}{fd:Ut}{ps:List Str}{sp:Sp}{dvs:List V}{ds:List Up}{E:XK}{x m:Str}{p pos apos:Pos}{e o:Uu}{es:List Uu}{ta:TE}{t:TA}
theorem E3{pins:List (Us×Obj)}{σ:St}{H:Hp}{s:Uq}{Q:VK}{us:List Up}{vs:List V}(F:FnOk X.prog X.w X.K X.mg X.base CX k f fd ps sp)(hr:Room k X.A)(hb:Vj X.K fd ps ds)(hd:Vals dvs ds)(hx:P0 CX X E)
  (I:Inv X pins σ H s) (r:Vals vs us) (h:sp (vs++dvs) H Q E):Uw (model X.prog X.w) X.A (call (.ref f) us) (EP X pins σ Q) X.xe s:=by
 have r2:Vals (vs++dvs) (us++ds):=r.append hd;have hl:(us++ds).length=ps.length:=by rw[←r2.length];exact F.len _ _ _ _ h
 refine wpAny_call (codeAny_mono (F.run X.A X.stack s H ⟨us,[]⟩ (us++ds) (vs++dvs) Q E hr I.env0 (hb s us I.kIn hl) r2 h) λr s' hq=>?_);cases r with
 |error e=>exact hx pins σ H s e s' I hq
 |ok fl=>
  cases fl with
  |ret u=>exact I.after hq
  |next=>exact False.elim hq
  |brk=>exact False.elim hq
  |cont=>exact False.elim hq
theorem CB(F:FnOk X.prog X.w X.K X.mg X.base CX k f fd ps sp)(hr:Room k X.A)(hg:Gl X x)(hm:X.mg x=some (.ref f))(hk:PySem.W.keepIn X.K (.ref f)=true)(hb:Vj X.K fd ps ds)(hd:Vals dvs ds)(hx:P0 CX X E)
  (ha:PA X (e::es) t) (hdb:(x==("__debug__" : Str))=false:=by decide) (he:Ux (e::es) X.env=(false,eval e X.env)::Ux es X.env:=by rfl) (hpl:(backTo pos (Ux es X.env)).any (·.1)=false:=by rfl) :
  PE X (.Call (.Name x p) (e::es) [] pos) (GT sp dvs E t):=by
 intro pins s σ H Q I h;refine wpAny_Call_Name_kw (M5 I hg hm ?_ hdb);refine PySem.W.callWith_K (h₀:=X.base) I.ok.mod.kin hk (thn (ha pos pins s σ H _ I h) λus s1 ⟨vs,H1,I1,r,q⟩=>⟨I1.kIn,?_⟩) he hpl;exact E3 F hr hb hd hx I1 r q
end
structure Rl(N P:List Str)(sc:Scope):Prop where
 kind:sc.kind=.function
 co:sc.isCoroutine=false
 gen:sc.isGenerator=false
 nd:N.Nodup
 pre:N.take P.length=P
 par:∀x∈P,sc.names.lookup x=some .local∨sc.names.lookup x=some .cell
 nofree:∀y∈sc.names,y.2≠.free
theorem HH{kindOf:Str->Option NameKind}{x:Str}:∀{binds:List (Str×Up)}{m:Str->Option Up},(∀v,(x,v)∉binds)->bindL kindOf binds m x=m x
 |[],_,_=>rfl
 |(n,v)::r,m,h=>by
  unfold bindL;rw[HH λw hw=>h w (Ql _ hw)];split
  ·have:x≠n:=by rintro rfl;exact h v Qo
   simp[this]
  ·rfl
theorem HG{kindOf:Str->Option NameKind}{x:Str}:∀{binds:List (Str×Up)}{m:Str->Option Up},(∀v,(x,v)∉binds)->bindC kindOf binds m x=m x
 |[],_,_=>rfl
 |(n,v)::r,m,h=>by
  unfold bindC;rw[HG λw hw=>h w (Ql _ hw)];split
  ·rfl
  ·have:x≠n:=by rintro rfl;exact h v Qo
   simp[this]
theorem HF{kindOf:Str->Option NameKind}{x:Str}{v:Up}:∀{P:List Str}{vs:List Up}{i:Nat}{m:Str->Option Up},P.Nodup->P[i]?=some x->vs[i]?=some v->kindOf x=some .local ->
  bindL kindOf (P.zip vs) m x=some v
 |[],_,_,_,_,h,_,_=>by simp at h
 |_::_,[],_,_,_,_,h,_=>by simp at h
 |p::P,w::vs,0,m,nd,h1,h2,hk=>by simp at h1 h2;subst h1;subst h2;show bindL kindOf ((p,w)::P.zip vs) m p=_;unfold bindL;rw[HH λv hv=>(Um.mp nd).1 (List.of_mem_zip hv).1,Qk hk];simp
 |p::P,w::vs,i+1,m,nd,h1,h2,hk=>by show bindL kindOf ((p,w)::P.zip vs) m x=_;unfold bindL;exact HF (i:=i) (List.nodup_cons.mp nd).2 (by simpa using h1) (by simpa using h2) hk
theorem HE{kindOf:Str->Option NameKind}{x:Str}{v:Up}:∀{P:List Str}{vs:List Up}{i:Nat}{m:Str->Option Up},P.Nodup->P[i]?=some x->vs[i]?=some v->kindOf x≠some .local ->
  bindC kindOf (P.zip vs) m x=some v
 |[],_,_,_,_,h,_,_=>by simp at h
 |_::_,[],_,_,_,_,h,_=>by simp at h
 |p::P,w::vs,0,m,nd,h1,h2,hk=>by simp at h1 h2;subst h1;subst h2;show bindC kindOf ((p,w)::P.zip vs) m p=_;unfold bindC;rw[HG λv hv=>(Um.mp nd).1 (List.of_mem_zip hv).1,Qs hk];simp
 |p::P,w::vs,i+1,m,nd,h1,h2,hk=>by show bindC kindOf ((p,w)::P.zip vs) m x=_;unfold bindC;exact HE (i:=i) (List.nodup_cons.mp nd).2 (by simpa using h1) (by simpa using h2) hk
def XT(N:List Str)(vs:List V):St:=vs.map some++UA (N.length-vs.length) none
def Y1(CX:CXT)(P:Ur)(w:World)(K:Frag)(mg:Str->Option Up)(base:Heap)(N:List Str)(qual:Str)(scope:Scope)(f:Us)(cd:Up)(A:Around)(outer:List Env)(s:Uq)(H:Hp)(E:XK):Cx where
 prog:=P
 w:=w
 K:=K
 mg:=mg
 base:=base
 A:=A.deeper (envOfC qual scope s.heap.objs.size f cd)
 N:=N
 s₀:=s
 H₀:=H
 env:=envOfC qual scope s.heap.objs.size f cd
 outer:=outer
 stack:=envOfC qual scope s.heap.objs.size f cd::outer
 ex:=[]
 calm:=true
 fn:=λ_=>true
 pn:=[]
 xe:=λe s'=>Uw (model P w) (A.deeper (envOfC qual scope s.heap.objs.size f cd)) (leaving (envOfC qual scope s.heap.objs.size f cd) e) (λ_ s''=>CX outer H s E e s'') (λe' s''=>CX outer H s E e' s'') s'
theorem LM{sc:Scope}{n:Nat}{x:Str}(h:sc.names.lookup x=some .cell):∃c,(cellsFrom n sc.names []).lookup x=some c:=by have q:=PySem.W.cellsFrom_some sc.names n [] (.inl h);exact Option.isSome_iff_exists.mp q
theorem qd{CX:CXT}{P:Ur}{w:World}{K:Frag}{mg:Str->Option Up}{base:Heap}{N ps:List Str}{qual:Str}{scope:Scope}{f:Us}{cd:Up}{A:Around}{outer:List Env}{s s1:Uq}{H:Hp}{E:XK}{us:List Up}{vs:List V}
  (S:Rl N ps scope) (hd:A.handled=none) (e0:Env0 P w K mg base A outer s H) (hl:vs.length=ps.length) (r:Vals vs us)
  (x:InCallC s s.heap.objs.size (bindL (envOfC qual scope s.heap.objs.size f cd).kindOf (ps.zip us) λ_=>none) (cellsFrom (s.heap.objs.size+1) scope.names []) (bindC (envOfC qual scope s.heap.objs.size f cd).kindOf (ps.zip us) λ_=>none) s1) :
  Inv (Y1 CX P w K mg base N qual scope f cd A outer s H E) [] (XT N vs) H s1:=by
 have hpl:ps.length<=N.length:=by have:=congrArg List.length S.pre;rw[QW]at this;omega
 obtain⟨h1,tk,rfl,hk⟩:=x.done;have noA:∀b:Us,b∉(Y1 CX P w K mg base N qual scope f cd A outer s H E).ex:=λb z=>absurd (show b∈([]:List Us)from z) (by simp)
 refine⟨⟨e0.mod,S.kind,rfl,rfl,Qx _,λy z c h1 h2=>?_,λy hy=>?_,λy c _ h=>?_,λ_=>hd,Around.frames_deeper e0.frames,.inr ⟨rfl,rfl⟩,λb z=>absurd z (noA b),e0.bs,e0.bsz,λb _ _=>noA b,λb z=>absurd z (noA b),e0.funs,e0.frf⟩,
  rfl,e0.bare,Un.kept hk,⟨_,x.toInCall.ns,λi y v h1 h2 h3=>?_⟩,λy c h=>⟨_,x.cell y c h⟩,e0.hok.fresh (Nat.le_refl _),λy c h=>?_,λp hp=>absurd (show p∈([]:List (Us×Obj))from hp) (by simp),e0.hok.kept hk,?_⟩
 ·exact name_of_addr x.apart (JU h1) (JU h2)
 ·have hy:scope.names.lookup y=some .cell∨scope.names.lookup y=some .free:=hy;rcases hy with hy|hy
  ·exact LM hy
  ·exact absurd rfl (S.nofree _ (JU hy))
 ·exact Nat.le_of_lt (x.above y c (JU h))
 ·have hi:i<vs.length:=by
   unfold XT at h2;by_cases hi:i<vs.length
   ·exact hi
   ·rw[List.getElem?_append_right (by simpa using hi)]at h2;rw[QA]at h2;split at h2<;>cases h2
  have ha:vs[i]?=some v:=by
   unfold XT at h2;rw[List.getElem?_append_left (by simpa using hi),List.getElem?_map]at h2;cases e:vs[i]? with
   |none=>rw[e]at h2;cases h2
   |some a=>rw[e]at h2;cases h2;rfl
  obtain⟨u,hu,rv⟩:=r.get ha;have hp:ps[i]?=some y:=by rw[←S.pre,List.getElem?_take_of_lt (by omega)];exact h1
  have ndP:ps.Nodup:=by rw[←S.pre];exact S.nd.sublist (List.take_sublist _ _)
  refine⟨u,rv,?_⟩;rcases S.par y (Qt hp)with k|k
  ·exact .inl ⟨k,HF ndP hp hu k⟩
  ·obtain⟨c,e⟩:=LM (n:=s.heap.objs.size+1) k;refine .inr ⟨.inl k,c,e,?_⟩;have q:=x.cell y c e;rw[HE ndP hp hu (by show scope.names.lookup y≠_;rw[k];decide)]at q;exact q
 ·exact e0.hok.fresh (Nat.le_of_lt (x.above y c (JU h)))
 ·unfold XT;show _=N.length;rw[Qj,Qb,QF];omega
theorem GS{CX:CXT}{P:Ur}{w:World}{K:Frag}{mg:Str->Option Up}{base:Heap}{k:Nat}{f:Us}{name qual:Str}{params:Arguments}{body:List Stmt}{scope:Scope}{dV kV doc pm cdv ct oc:Up}{an od:Option Us}
  {osl:Array (Option Up)} {N ps:List Str} {sp:Sp} (lk:K.lookup f=some ⟨oc,od,.func (PySem.W.fnOf name qual params body scope dV kV doc pm an cdv ct),osl⟩) (hcd:PySem.W.codeIn K cdv qual=true) (S:Rl N ps scope)
  (len:∀vs H Q E,sp vs H Q E->vs.length=ps.length)
  (hbody:∀(A:Around)(outer:List Env)(s:Uq)(H:Hp)(vs:List V)(Q:VK)(E:XK),Room k (A.deeper (envOfC qual scope s.heap.objs.size f cdv))->sp vs H Q E ->
   ∃t,PSs (Y1 CX P w K mg base N qual scope f cdv A outer s H E) body t/\t {nx:=λ_ H'=>Q .non H',rt:=Q} (XT N vs) H) :
  FnOk P w K mg base CX (k+1) f (PySem.W.fnOf name qual params body scope dV kV doc pm an cdv ct) ps sp:=by
 refine⟨len,λA outer s H args us vs Q E hr e0 hb r hsp=>?_⟩;have hl:=len _ _ _ _ hsp;have KX:K.In s.heap:=e0.mod.kin.keeps λb o e=>(e0.bs b o e).1;have lim:s.heap.NoLimit:=e0.mod.nolimit.keeps λb o e=>(e0.bs b o e).1
 have hkind:∀y∈ps.zip us,scope.names.lookup y.1=some .local∨(scope.names.lookup y.1=some .cell/\((cellsFrom (s.heap.objs.size+1) scope.names []).lookup y.1).isSome=true):=λ⟨n,v⟩ hy=>by
  rcases S.par n (List.of_mem_zip hy).1 with q|q
  ·exact .inl q
  ·exact .inr ⟨q,PySem.W.cellsFrom_some _ _ _ (.inl q)⟩
 refine codeAny_call_function hr.depth (KX _ _ lk) rfl S.co S.gen rfl (PySem.W.codeRec_of KX hcd) (hb _ _ _ _ ?_);refine wpAny_newFunctionEnv_cells S.kind hkind λenv he s1 x=>?_;subst he
 refine⟨lim.keeps x.toInCall.keep,codeAny_func ?_⟩;obtain⟨t,ht,hq⟩:=hbody A outer s H vs Q E (hr.deeper _) hsp;have I:Inv (Y1 CX P w K mg base N qual scope f cdv A outer s H E) [] (XT N vs) H s1:=qd S hr.hd e0 hl r x;refine QG (ht [] s1 (XT N vs) H _ I hq) (λfl s' hs=>?_) λe s' hs=>hs
 have fin:∀{σ':St}{H':Hp}{v:V}{u:Up},Inv (Y1 CX P w K mg base N qual scope f cdv A outer s H E) [] σ' H' s'->RelV v u->Q v H'->CE outer P w H s Q u s':=
  λ{σ' H' v u} J rv q=>⟨v,H',J.os,J.bare,J.base,J.hok,rv,q⟩
 cases fl with
 |ret u=>obtain⟨v,σ',H',J,rv,q⟩:=hs;exact fin J rv q
 |next=>obtain⟨σ',H',J,q⟩:=hs;exact fin (v:=V.non) (u:=Value.none) J rfl q
 |brk=>obtain⟨_,_,_,q⟩:=hs;exact False.elim q
 |cont=>obtain⟨_,_,_,q⟩:=hs;exact False.elim q
section
variable{X:Cx}{x:Str}{p pos:Pos}{e:Uu}{es:List Uu}{t:TA}{id T:String}{r:List V->Hp->VK->Prop}
def tCB(r:List V->Hp->VK->Prop)(t:TA):TE:=λσ H Q=>t σ H λvs H1=>r vs H1 Q
theorem Pp(hc:YS X (.builtin id) r)(hg:Gl X x)(hm:X.mg x=none)(hv:bootBuiltins x=some (.builtin id))(ha:PA X (e::es) t)(hn:x ≠ "__name__" :=by decide)(hdb:(x==("__debug__" : Str))=false:=by decide)
  (he:Ux (e::es) X.env=(false,eval e X.env)::Ux es X.env:=by rfl) (hpl:(backTo pos (Ux es X.env)).any (·.1)=false:=by rfl):PE X (.Call (.Name x p) (e::es) [] pos) (tCB r t):=by
 intro pins s σ H Q I h;refine wpAny_Call_Name_kw (Vn I hg hm hv ?_ hn hdb);exact PyProof.Rows.callWith_builtin1 (thn (ha pos pins s σ H _ I h) λus s1 ⟨vs,H1,I1,r1,q1⟩=>hc pins s1 σ H1 vs us Q I1 r1 q1) he hpl
theorem Nh(hc:YS X (.type T) r)(hg:Gl X x)(hm:X.mg x=none)(hv:bootBuiltins x=some (.type T))(ha:PA X (e::es) t)(hn:x ≠ "__name__" :=by decide)(hdb:(x==("__debug__" : Str))=false:=by decide)
  (he:Ux (e::es) X.env=(false,eval e X.env)::Ux es X.env:=by rfl) (hpl:(backTo pos (Ux es X.env)).any (·.1)=false:=by rfl):PE X (.Call (.Name x p) (e::es) [] pos) (tCB r t):=by
 intro pins s σ H Q I h;refine wpAny_Call_Name_kw (Vn I hg hm hv ?_ hn hdb);exact Jy (thn (ha pos pins s σ H _ I h) λus s1 ⟨vs,H1,I1,r1,q1⟩=>hc pins s1 σ H1 vs us Q I1 r1 q1) he hpl
end
end L2
namespace HT
open PySem PyProof.Rows
def ZD:List Int->List Int->Bool
 |[],[]=>false
 |[],_::_=>true
 |_::_,[]=>false
 |x::xs,y::ys=>if x=y then ZD xs ys else decide (x<y)
theorem RA(x y:Int)(xs ys:List Int):ZD (x::xs) (y::ys)=if x=y then ZD xs ys else decide (x<y):=rfl
theorem Ai(A:Around)(s:Uq)(a:Int)(t:Tok)(c:Int)(u:Tok):∃e,SeqAt.EqAt A s (.int a t) (.int c u) e/\(e=true ↔ a=c):=
 ⟨(a==c),SeqAt.EqAt.int_int a t c u,by simp⟩
section
variable{prog:Ur}{w:World}{A:Around}{E:Up->Uq->Prop}{s:Uq}
def sIx(n d:Nat):Option Int->Nat
 |none=>d
 |some v=>if v<0 then(v+(n:Int)).toNat else min v.toNat n
end
end HT
namespace L2
open PySem PySem.Spec PyProof.Rows
abbrev TO:=St->Hp->(Option Int->Hp->Prop)->Prop
def PO(X:Cx)(e:Option Uu)(t:TO):Prop:=
 ∀(pins:List (Us×Obj))(s:Uq)(σ:St)(H:Hp)(Q:Option Int->Hp->Prop),Inv X pins σ H s->t σ H Q ->
  Uw (model X.prog X.w) X.A (evalPart e X.env) (λu s'=>∃o H',Inv X pins σ H' s'/\IsPart u o/\Q o H') X.xe s
def CA:TO:=λ_ H Q=>Q none H
def GR(t:TE):TO:=λσ H Q=>t σ H λx H1=>∃i,x=.int i/\Q (some i) H1
theorem HU{ns:List Int}:∀{us:List Up},Vals (ns.map V.int) us->IntsAre us ns:=by
 induction ns with
 |nil=>intro us r;rw[JZ]at r;cases r;exact .nil
 |cons n ns ih=>
  intro us r;rw[Qq]at r;cases r with
  |cons r1 r2=>obtain⟨t,e⟩:=r1;subst e;exact .cons n t (ih r2)
section
variable{X:Cx}{e:Uu}{te:TE}{lo hi:Option Uu}{tl th:TO}{pos p2:Pos}
theorem Cz:PO X none CA:=by intro pins s σ H Q I h;rw[evalPart_none];exact Qn ⟨none,H,I,.none,h⟩
theorem Cy(h:PE X e te):PO X (some e) (GR te):=by
 intro pins s σ H Q I hw;rw[evalPart_some];refine thn (h pins s σ H _ I hw) λu s1 ⟨x,H1,I1,r1,q1⟩=>?_
 obtain⟨i,rfl,q⟩:=q1;obtain⟨t,rfl⟩:=r1;exact⟨some i,H1,I1,.int i t,q⟩
def SlR(X:Cx)(r:V->Option Int->Option Int->Hp->VK->Prop):Prop:=
 ∀(pins:List (Us×Obj))(s:Uq)(σ:St)(H:Hp)(x:V)(v vl vu:Up)(lo hi:Option Int)(sl:Us)(Q:VK),Inv X pins σ H s->RelV x v->s.heap.IsSliceOf sl vl vu .none->IsPart vl lo->IsPart vu hi->r x lo hi H Q ->
  ∃T id,typeLookup (.type T) "__getitem__" = pure (some (.builtin id))/\s.TypeIs v T/\Uw (model X.prog X.w) X.A (getItem v (.ref sl)) (EP X pins σ Q) X.xe s
theorem SlR.or{r r':V->Option Int->Option Int->Hp->VK->Prop}(h:SlR X r)(h':SlR X r'):SlR X (λx lo hi H Q=>r x lo hi H Q∨r' x lo hi H Q):=by
 intro pins s σ H x v vl vu lo hi sl Q I rx hs pl pu q;rcases q with q|q
 ·exact h pins s σ H x v vl vu lo hi sl Q I rx hs pl pu q
 ·exact h' pins s σ H x v vl vu lo hi sl Q I rx hs pl pu q
def tSl(r:V->Option Int->Option Int->Hp->VK->Prop)(te:TE)(tl th:TO):TE:=λσ H Q=>te σ H λx H1=>tl σ H1 λl H2=>th σ H2 λu H3=>r x l u H3 Q
theorem Ah{r:V->Option Int->Option Int->Hp->VK->Prop}(hr:SlR X r)(he:PE X e te)(hl:PO X lo tl)(hu:PO X hi th):PE X (.Subscript e (.Slice lo hi none p2) pos) (tSl r te tl th):=by
 intro pins s σ H Q I h;refine Subscript_ (thn (he pins s σ H _ I h) λv s1 ⟨x,H1,I1,r1,q1⟩=>?_);refine wpAny_Slice (thn (hl pins s1 σ H1 _ I1 q1) λvl s2 ⟨l,H2,I2,pl,q2⟩=>thn (hu pins s2 σ H2 _ I2 q2) λvu s3 ⟨u,H3,I3,pu,q3⟩=>?_);rw[evalPart_none];refine Qn ?_;have I4:Inv X pins σ H3 {s3 with heap:=s3.heap.push {cls:=.type "slice", data:=.fields #[vl,vu,.none]}}:=I3.kept (t':=s3.toks) λb ob q=>Qm _ q
 obtain⟨T,id,hT,ht,hg⟩:=hr pins {s3 with heap:=s3.heap.push {cls:=.type "slice", data:=.fields #[vl,vu,.none]}} σ H3 x v vl vu l u s3.heap.objs.size Q I4 r1 (Heap.IsSliceOf.new ..) pl pu q3;show Uw (model X.prog X.w) X.A (subscriptTail e (.Slice lo hi none p2) v (.ref s3.heap.objs.size)) (EP X pins σ Q) X.xe {s3 with heap:=s3.heap.push {cls:=.type "slice", data:=.fields #[vl,vu,.none]}};exact tail_any (ops:=[.ref s3.heap.objs.size,v]) ht hT hg (by with_unfolding_all rfl)
def Xs(xs:List V)(lo hi:Option Int):List V:=(xs.drop (HT.sIx xs.length 0 lo)).take (HT.sIx xs.length xs.length hi-HT.sIx xs.length 0 lo)
theorem jS(xs:List V)(lo hi:Option Int):(Xs xs lo hi).length<=xs.length:=by unfold Xs;rw[QW,Jk];omega
end
def ixN(n:Nat)(i:Int):Option Nat:=if 0<=i then(if i<n then some i.toNat else none)else if -(n:Int)<=i then some (i+n).toNat else none
def atI{α:Type}(xs:List α)(i:Int):Option α:=(ixN xs.length i).bind λj=>xs[j]?
theorem Og{n:Nat}{i:Int}{j:Nat}(h:ixN n i=some j):seqIndex? i n=some j/\j<n /\ -(n:Int)<=i/\i<n:=by
 unfold ixN at h;by_cases h0:0<=i
 ·rw[Qk h0]at h;by_cases h1:i<n
  ·rw[Qk h1]at h;have e:i.toNat=j:=QP h;exact⟨by rw[seqIndex_of h0 h1,e],by omega,by omega,h1⟩
  ·rw[Qs h1]at h;cases h
 ·rw[Qs h0]at h;by_cases h1 : -(n:Int)<=i
  ·rw[Qk h1]at h;have e:(i+n).toNat=j:=QP h;exact⟨by rw[seqIndex_neg (by omega) h1,e],by omega,h1,by omega⟩
  ·rw[Qs h1]at h;cases h
theorem R6{α:Type}{xs:List α}{i:Int}{v:α}(h:atI xs i=some v):∃j,seqIndex? i xs.length=some j/\xs[j]?=some v/\j<xs.length /\ -(xs.length:Int)<=i/\i<xs.length:=by
 unfold atI at h;cases e:ixN xs.length i with
 |none=>rw[e]at h;cases h
 |some j=>rw[e]at h;obtain⟨h1,h2,h3,h4⟩:=Og e;exact⟨j,h1,h,h2,h3,h4⟩
theorem Zr{α:Type}{xs:List α}{j:Nat}{v:α}(h:xs[j]?=some v):atI xs (j:Int)=some v:=by
 have hj:j<xs.length:=(Qg.mp h).1;have e:ixN xs.length (j:Int)=some j:=by unfold ixN;rw[if_pos (by omega),if_pos (by omega)];simp
 unfold atI;rw[e];exact h
def Of(b:Uu):Prop:=∀o i,subscripted b false o i=operate [o,i] (getItem o i)
def IxR(X:Cx)(r:R2):Prop:=
 ∀(value slice:Uu)(pins:List (Us×Obj))(s:Uq)(σ:St)(H:Hp)(x y:V)(v u:Up)(Q:VK),Inv X pins σ H s->RelV x v->RelV y u->r x y H Q ->
  subscripted slice false v u=operate [v,u] (getItem v u)->Uw (model X.prog X.w) X.A (subscriptTail value slice v u) (EP X pins σ Q) X.xe s
def MtR(X:Cx)(id:String)(r:V->List V->Hp->VK->Prop):Prop:=
 ∀(pins:List (Us×Obj))(s:Uq)(σ:St)(H:Hp)(x:V)(xs:List V)(v:Up)(us:List Up)(Q:VK),Inv X pins σ H s->RelV x v->Vals xs us->r x xs H Q ->
  Uw (model X.prog X.w) X.A (call (.builtin id) (v::us)) (EP X pins σ Q) X.xe s
section
variable{X:Cx}{a b:Uu}{ta tb:TE}{pos:Pos}
theorem IxR.or{r r':R2}(h:IxR X r)(h':IxR X r'):IxR X (λx y H Q=>r x y H Q∨r' x y H Q):=by
 intro value slice pins s σ H x y v u Q I rx ry q hs;rcases q with q|q
 ·exact h value slice pins s σ H x y v u Q I rx ry q hs
 ·exact h' value slice pins s σ H x y v u Q I rx ry q hs
theorem Nx{r:R2}(hr:IxR X r)(ha:PE X a ta)(hb:PE X b tb)(hs:Of b):PE X (.Subscript a b pos) (tOp r ta tb):=by intro pins s σ H Q I h;exact Subscript_ (T3 ha hb I h λv u s2 x y H2 I2 rx ry q=>hr a b pins s2 σ H2 x y v u Q I2 rx ry q (hs _ _))
def rIxL(K:Frag):R2:=λx y H Q=>∃p xs i v,x=.ref p/\y=.int i/\SqL K H p xs/\atI xs i=some v/\Q v H
def rIxT(K:Frag):R2:=λx y H Q=>∃p xs i v,x=.ref p/\y=.int i/\SqT K H p xs/\atI xs i=some v/\Q v H
def rIxS:R2:=λx y H Q=>∃z i c,x=.str z/\y=.int i/\z.length<=Uv/\atI z.cps.toList i=some c/\Q (.str ⟨#[c]⟩) H
theorem Cw:IxR X (rIxL X.K):=by
 intro value slice pins s σ H x y v u Q I rx ry h hs;obtain⟨p,xs,i,z,rfl,rfl,hq,he,q⟩:=h;cases rx;obtain⟨t,rfl⟩:=ry;obtain⟨its,r,pl,hz⟩:=I.list hq;obtain⟨j,h1,h2,h3,h4,h5⟩:=R6 he;obtain⟨w,ew,rw'⟩:=r.get h2;have hl:=r.length;have hn:=VM;have fin:EP X pins σ Q w s:=⟨z,H,I,rw',q⟩
 by_cases h0:0<=i
 ·have hj:i.toNat=j:=by
   rw[seqIndex_of h0 h5]at h1;exact QP h1
  exact item_listR pl.isList h0 (by omega) (by rw[hj];simpa using ew) fin hs
 ·have hj:(i+(its.toArray.size:Int)).toNat=j:=by
   rw[seqIndex_neg (by omega) h4]at h1;rw[QI,←hl];exact QP h1
  exact subscriptTail_builtinR (x:=w) pl.isList.typeIs slot_list_getitem.lookup
   (wpAny_getItem_list_neg (Q:=λr s'=>r=w/\EP X pins σ Q r s') pl.isList (by omega) (by rw[List.size_toArray]<;>omega) (by omega) (by rw[hj];simpa using ew) ⟨rfl,fin⟩) hs
theorem E2:IxR X (rIxT X.K):=by
 intro value slice pins s σ H x y v u Q I rx ry h hs;obtain⟨p,xs,i,z,rfl,rfl,hq,he,q⟩:=h;cases rx;obtain⟨t,rfl⟩:=ry;obtain⟨its,r,pl,hz⟩:=I.tuple hq;obtain⟨j,h1,h2,h3,h4,h5⟩:=R6 he;obtain⟨w,ew,rw'⟩:=r.get h2;have hl:=r.length;have hn:=VM;have fin:EP X pins σ Q w s:=⟨z,H,I,rw',q⟩
 exact subscriptTail_builtinR (x:=w) pl.typeIs slot_tuple_getitem.lookup
  (getItem_tuple (j:=j) (Q:=λr s'=>r=w/\EP X pins σ Q r s') pl (by omega) (by omega) (by rw[List.size_toArray,←hl];exact h1) (by simpa using ew) ⟨rfl,fin⟩) hs
theorem E1:IxR X rIxS:=by
 intro value slice pins s σ H x y v u Q I rx ry h hs;obtain⟨z,i,c,rfl,rfl,hz,he,q⟩:=h;obtain⟨t,rfl⟩:=rx;obtain⟨t',rfl⟩:=ry;obtain⟨j,h1,h2,h3,h4,h5⟩:=R6 he;have hl:z.cps.toList.length=z.length:=by simp[Str.length]
 rw[hl]at h1 h4 h5;have hn:=VM;exact tail_any (typeIs_str s z t) slot_str_getitem.lookup (getItem_str (c:=c) (by have e1:decide (i < -(2 ^ 63:Int))=false:=QO (by omega);have e2:decide (i ≥ 2 ^ 63)=false:=QO (by omega);rw[e1,e2,Bool.or_false]) (by rw[h1];simpa using h2) ⟨.str ⟨#[c]⟩,H,I.tok _,⟨_,rfl⟩,q⟩) hs
def rIx(K:Frag):R2:=λx y H Q=>rIxL K x y H Q∨rIxT K x y H Q∨rIxS x y H Q
theorem NR:IxR X (rIx X.K):=Cw.or (E2.or E1)
theorem jE(its:List Up)(n j:Nat)(u:Up):Obj.mapSeq (·.setIfInBounds j u) {cls:=.type "list", data:=.seq its.toArray n} = {cls:=.type "list", data:=.seq (its.set j u).toArray n}:=by simp[Obj.mapSeq]
theorem Inv.lst{pins:List (Us×Obj)}{σ:St}{H:Hp}{s:Uq}{p:Us}{xs:List V}(I:Inv X pins σ H s)(h:H p=some (.lst xs)) :
  ∃(its:List Up)(n:Nat),Vals xs its/\s.heap.get? p=some {cls:=.type "list", data:=.seq its.toArray n}/\xs.length<=Uv:=by
 obtain⟨z,its,n,r,e⟩:=I.hok p _ h;exact⟨its,n,r,e,z⟩
theorem Inv.lstUpd{pins:List (Us×Obj)}{σ:St}{H:Hp}{s:Uq}{p:Us}{xs ys:List V}{its its':List Up}{n n':Nat}{f:Obj->Obj}(I:Inv X pins σ H s)(h:H p=some (.lst xs))
  (ho:s.heap.get? p=some {cls:=.type "list", data:=.seq its.toArray n}) (hf:f {cls:=.type "list", data:=.seq its.toArray n} = {cls:=.type "list", data:=.seq its'.toArray n'}) (r:Vals ys its') (hz:ys.length<=Uv) (t:Nat) :
  Inv X pins σ (upd H p (.lst ys)) {s with heap:=s.heap.update p f,toks:=t}:=by
 have e:(s.heap.update p f).get? p=some {cls:=.type "list", data:=.seq its'.toArray n'}:=by rw[Heap.get?_update_self f ho (by rw[hf]<;>rfl),hf]
 refine I.write (x:=p) (e:=p) (by rw[h];trivial) (.inl rfl) (λb u hb q=>(Heap.get?_update_other _ _ (Ne.symm hb)).trans q) ⟨_,e⟩ ?_;exact⟨hz,its',n',r,e⟩
def GQ:V->V->V->Hp->(Hp->Prop)->Prop:=λo i v H Q=>∃p xs k j,o=.ref p/\i=.int k/\H p=some (.lst xs)/\ixN xs.length k=some j/\Q (upd H p (.lst (xs.set j v)))
theorem Ag:PSet X GQ:=by
 intro pins s σ H o i v ov iv u Q I ro ri rv h;obtain⟨p,xs,k,j,rfl,rfl,hp,hj,q⟩:=h;cases ro;obtain⟨t,rfl⟩:=ri;obtain⟨its,n,r,ho,hz⟩:=I.lst hp;obtain⟨h1,h2,h3,h4⟩:=Og hj;have hl:=r.length;have hn:=VM
 have I':Inv X pins σ (upd H p (.lst (xs.set j v))) {s with heap:=s.heap.update p (Obj.mapSeq (·.setIfInBounds j u))}:=
  I.lstUpd hp ho (jE its n j u) (r.set rv j) (by rw[Q5];exact hz) s.toks
 by_cases h0:0<=k
 ·have hk:k.toNat=j:=by
   rw[seqIndex_of h0 h4]at h1;exact QP h1
  exact PySem.W.ki_setAt ho h0 (by omega) (by rw[QI,←hl];exact h4) (by rw[hk];exact⟨_,I',q⟩)
 ·have hk:(k+(its.toArray.size:Int)).toNat=j:=by
   rw[seqIndex_neg (by omega) h3]at h1;rw[QI,←hl];exact QP h1
  exact PySem.W.ki_setBack ho (by omega) (by rw[QI,←hl];exact h3) (by omega) (by rw[hk];exact⟨_,I',q⟩)
theorem kF(lo hi:Option Int)(n:Nat):(sliceBounds lo hi none n).1=((HT.sIx n 0 lo:Nat):Int)/\(sliceBounds lo hi none n).2.1=((HT.sIx n n hi:Nat):Int)/\(sliceBounds lo hi none n).2.2=1:=by
 refine⟨?_,?_,rfl⟩
 ·cases lo with
  |none=>simp[sliceBounds,HT.sIx]
  |some i=>
   simp only[sliceBounds,HT.sIx,Option.getD_none,show(1:Int) > 0 by decide,if_true];by_cases h:i<0
   ·simp only[h,if_true]<;>omega
   ·simp only[h,if_false]<;>omega
 ·cases hi with
  |none=>simp[sliceBounds,HT.sIx]
  |some i=>
   simp only[sliceBounds,HT.sIx,Option.getD_none,show(1:Int) > 0 by decide,if_true];by_cases h:i<0
   ·simp only[h,if_true]<;>omega
   ·simp only[h,if_false]<;>omega
theorem ku(its:List Up)(lo hi:Option Int):slicePick its.toArray lo hi none=((its.drop (HT.sIx its.length 0 lo)).take (HT.sIx its.length its.length hi-HT.sIx its.length 0 lo)).toArray:=by obtain⟨h1,h2,h3⟩:=kF lo hi its.toArray.size;unfold slicePick;rw[h1,h2,h3];simp only[sliceRange_one,pick_run,QI]<;>rfl
def rSlL(K:Frag):V->Option Int->Option Int->Hp->VK->Prop:=λx lo hi H Q=>∃a xs,x=.ref a/\SqL K H a xs/\∀p,H p=none->Q (.ref p) (upd H p (.lst (Xs xs lo hi)))
theorem Cv:SlR X (rSlL X.K):=by intro pins s σ H x v vl vu lo hi sl Q I rx hs pl pu h;obtain⟨a,xs,rfl,hx,q⟩:=h;cases rx;obtain⟨its,r,ht,hz⟩:=I.list hx;have hlen:=r.length;refine⟨"list", _,slot_list_getitem.lookup,ht.isList.typeIs,?_⟩;refine wpAny_getItem_list_slice ht.isList hs pl pu .none (by simp) ?_ (by rw[List.size_toArray]<;>omega);rw[ku,←hlen];refine⟨.ref s.heap.objs.size,_,I.laid (t':=s.toks) (o:=.lst (Xs xs lo hi)) (λb ob q=>Qm _ q) (Qx _) ?_,rfl,q _ (I.hok.fresh (Qx _))⟩;exact⟨QS (jS xs lo hi) hz,_,0,(r.drop (HT.sIx xs.length 0 lo)).take (HT.sIx xs.length xs.length hi-HT.sIx xs.length 0 lo),QD _ rfl⟩
theorem kE:YS X (.type "list") (λxs H Q=>∃p ys,xs=[.ref p]/\(SqL X.K H p ys∨SqT X.K H p ys)/\∀l,H l=none->Q (.ref l) (upd H l (.lst ys))):=by
 intro pins s σ H xs us Q I r h;obtain⟨p,ys,rfl,hq,q⟩:=h;obtain⟨u,rfl,rx⟩:=RG r;cases rx
 have fin:∀(its:List Up),Vals ys its->ys.length<=Uv->∀(h':Heap)(c':Nat),(∀b o',s.heap.get? b=some o'->h'.get? b=some o') ->
   h'.get? s.heap.objs.size=some {cls:=.type "list", dict:=none,data:=.seq its.toArray c',slots:=#[]}->EP X pins σ Q (.ref s.heap.objs.size) {s with heap:=h'}:=λits r' hz h' c' kp e=>
  ⟨.ref s.heap.objs.size,_,I.laid (t':=s.toks) kp (Qx _) (show ZE X.prog X.w _ h' _ (.lst ys)from⟨hz,its,c',r',e⟩),rfl,q _ (I.hok.fresh (Qx _))⟩
 rcases hq with hq|hq
 ·obtain⟨its,r',pl,hz⟩:=I.list hq;have hlen:=r'.length;obtain⟨o,ho,hc,n,hd⟩:=pl.isList;exact call_list_seq p (.inl rfl) ho hc hd (λh' c' kp e=>fin its r' hz h' c' kp e) (by simp only[QI]<;>omega)
 ·obtain⟨its,r',pl,hz⟩:=I.tuple hq;have hlen:=r'.length;obtain⟨o,ho,hc,n,hd⟩:=pl;exact call_list_seq p (.inr rfl) ho hc hd (λh' c' kp e=>fin its r' hz h' c' kp e) (by simp only[QI]<;>omega)
def tyV(K:Frag)(T:String)(x:V)(H:Hp):Prop:=match x with
 |.str _=>T = "str"
 |.int _=>T = "int"
 |.ref p=>(T = "list" /\ ∃xs,SqL K H p xs)∨(T = "tuple" /\ ∃o,K.lookup p=some o/\o.cls=.type "tuple" /\ o.dict=none) ∨
   (T = "dict" /\ ((∃kvs,H p=some (.dK kvs)) ∨ ∃kvs,H p=some (.dT kvs)))∨(T = "set" /\ ∃S n,H p=some (.set S n))
 |_=>False
theorem EZ{pins:List (Us×Obj)}{σ:St}{H:Hp}{s:Uq}{T:String}{x:V}{v:Up}(I:Inv X pins σ H s)(r:RelV x v)(ty:tyV X.K T x H) :
  s.TypeIs v T/\∀a,v=.ref a->∃ob,s.heap.get? a=some ob/\ob.dict=none:=by
 cases x with
 |str z=>obtain⟨t,rfl⟩:=r;cases (show T = "str" from ty);exact⟨typeIs_str s z t,λ_ e=>nomatch e⟩
 |int i=>obtain⟨t,rfl⟩:=r;cases (show T = "int" from ty);exact⟨typeIs_int s i t,λ_ e=>nomatch e⟩
 |ref p=>
  cases r;rcases ty with ⟨rfl,xs,hq⟩|⟨rfl,o,hk,hc,hd⟩|⟨rfl,hk⟩|⟨rfl,S,n,hk⟩
  ·obtain⟨its,_,pl,_⟩:=I.list hq;refine⟨pl.isList.typeIs,λa e=>?_⟩;cases e;obtain⟨o,n,e,c,hd,_⟩:=pl;exact⟨o,e,hd⟩
  ·refine⟨⟨o,I.kIn p o hk,hc⟩,λa e=>?_⟩;cases e;exact⟨o,I.kIn _ o hk,hd⟩
  ·have z:∃o,s.heap.get? p=some o/\o.ExactDict:=by
    rcases hk with ⟨kvs,hk⟩|⟨kvs,hk⟩
    ·obtain⟨_,_,_,_,o,_,_,e,ex,_⟩:=I.hok p _ hk;exact⟨o,e,ex⟩
    ·obtain⟨_,_,_,_,o,_,_,e,ex,_⟩:=I.hok p _ hk;exact⟨o,e,ex⟩
   obtain⟨o,e,ex⟩:=z;refine⟨⟨o,e,ex.1⟩,λa e2=>?_⟩;cases e2;exact⟨o,e,ex.2.1⟩
  ·obtain⟨o,_,_,_,e,ex,_⟩:=I.hok p _ hk;refine⟨⟨o,e,ex.1⟩,λa e2=>?_⟩;cases e2;exact⟨o,e,ex.2.1⟩
 |_=>exact False.elim ty
def tBM(K:Frag)(T:String)(r:V->List V->Hp->VK->Prop)(to:TE)(t:TA):TE:=λσ H Q=>to σ H λx H1=>tyV K T x H1/\t σ H1 λxs H2=>r x xs H2 Q
variable{o e:Uu}{es:List Uu}{to:TE}{t:TA}{name:Str}{apos cpos:Pos}{T id:String}{r:V->List V->Hp->VK->Prop}
theorem PF(pa:PlainAttrs T)(slot:Slot T name id)(hty:typeOf (.builtin id)=pure (.type "method_descriptor"))(hm:MtR X id r)(ho:PE X o to)(ha:PA X (e::es) t)
  (hbase:attributeBase o name X.env (eval o X.env)=eval o X.env:=by rfl)
  (hfew:((backTo cpos (Ux (e::es) X.env)).all (λx=>!x.1)&&(backToKw cpos (keywordEach [] X.env)).all (λx=>x.1.isSome)
   && decide ((e::es).length+([]:List Keyword).length+(if([]:List Keyword).isEmpty then 0 else 1)<30))=true:=by rfl)
  (hline:(apos.endLine==cpos.line)=true:=by rfl) (hs:Ux (e::es) X.env=(false,eval e X.env)::Ux es X.env:=by rfl) (hplain:(backTo cpos (Ux es X.env)).any (·.1)=false:=by rfl) :
  PE X (.Call (.Attribute o name apos) (e::es) [] cpos) (tBM X.K T r to t):=by
 intro pins s σ H Q I h;refine wpAny_Call_method_late hbase hfew hline rfl (thn (ho pins s σ H _ I h) λv s1 ⟨x,H1,I1,r1,ty,q1⟩=>?_);obtain⟨h1,h2⟩:=EZ I1 r1 ty;refine⟨T,id,pa,slot,hty,h1,h2,?_⟩;have hA:=ha cpos pins s1 σ H1 _ I1 q1;rw[hs]at hA⊢;refine Calls.callWith_builtin (by show(false || (backTo cpos (Ux es X.env)).any (·.1))=false;rw[hplain]<;>rfl) (Calls.evalArgs_plain ?_);exact thn hA λus s2 ⟨vs,H2,I2,r2,q2⟩=>hm pins s2 σ H2 x vs v us Q I2 r1 r2 q2
end
def MtM(X:Cx)(id:String)(r:V->List V->Hp->VK->Prop):Prop:=
 ∀(pins:List (Us×Obj))(s:Uq)(σ:St)(H:Hp)(x:V)(xs:List V)(v:Up)(us:List Up)(Q:VK),Inv X pins σ H s->RelV x v->Vals xs us->r x xs H Q ->
  Uw (model X.prog X.w) X.A (call (.builtin id) (v::us)) (EP X pins σ Q) X.xe s
theorem Vals.one:∀{x:V}{us:List Up},Vals [x] us->∃u,us=[u]/\RelV x u
 |_,_,.cons r .nil=>⟨_,rfl,r⟩
theorem Vals.two:∀{x y:V}{us:List Up},Vals [x,y] us->∃u v,us=[u,v]/\RelV x u/\RelV y v
 |_,_,_,.cons r (.cons q .nil)=>⟨_,_,rfl,r,q⟩
theorem Vals.reverse{xs:List V}{us:List Up}(h:Vals xs us):Vals xs.reverse us.reverse:=by
 induction h with
 |nil=>exact .nil
 |cons r t ih=>rw[List.reverse_cons,List.reverse_cons];exact Vals.append ih (.cons r .nil)
theorem Vals.rep{xs:List V}{us:List Up}(h:Vals xs us):∀k:Nat,Vals (UA k xs).flatten (UA k us).flatten
 |0=>.nil
 |k+1=>by rw[QQ,QQ,QL,QL];exact Vals.append h (Vals.rep h k)
theorem L8(its:List Up):∀(k:Nat)(acc:List Up),
  List.foldl (λx1 x2=>x1++x2) acc.toArray (UA k its.toArray)=(acc++(UA k its).flatten).toArray
 |0,acc=>by simp
 |k+1,acc=>by
  have e:acc.toArray++its.toArray=(acc++its).toArray:=by simp
  have e2:(acc++its)++(UA k its).flatten=acc++(UA (k+1) its).flatten:=by rw[QQ,QL,Jg]
  rw[←e2,←L8 its k (acc++its),←e,QQ,J6]
section
variable{X:Cx}{pins:List (Us×Obj)}{σ:St}{H:Hp}{s:Uq}{l b:Us}{xs ys zs:List V}
theorem Inv.lset{its its':List Up}{n:Nat}{f:Array Up->Array Up}{t':Nat}(I:Inv X pins σ H s)(hH:H l=some (.lst xs))
  (e:s.heap.get? l=some {cls:=.type "list", data:=.seq its.toArray n}) (hf:f its.toArray=its'.toArray) (hv:Vals ys its') (hz:ys.length<=Uv) :
  Inv X pins σ (upd H l (.lst ys)) {s with heap:=s.heap.update l (Obj.mapSeq f),toks:=t'}:=by
 have q:=PySem.IsL.update e f;rw[hf]at q;refine I.write (x:=l) (e:=l) (by rw[hH];exact trivial) (.inl rfl) (λb' u hb hu=>(Heap.get?_update_other s.heap (Obj.mapSeq f) (Ne.symm hb)).trans hu) ⟨_,q⟩ ?_;exact⟨hz,its',_,hv,q⟩
theorem Inv.lnew{its:List Up}{t':Nat}(I:Inv X pins σ H s)(hv:Vals ys its)(hz:ys.length<=Uv) :
  Inv X pins σ (upd H s.heap.objs.size (.lst ys)) {s with heap:=s.heap.push {cls:=.type "list", data:=.seq its.toArray},toks:=t'}:=
 I.laid (λ_ _ q=>Qm _ q) (Qx _) ⟨hz,its,0,hv,QD _ rfl⟩
theorem Inv.fresh(I:Inv X pins σ H s):H s.heap.objs.size=none:=I.hok.fresh (Qx _)
theorem Inv.lstM(I:Inv X pins σ H s)(hH:H l=some (.lst xs)):xs.length<=Uv/\∃(its:List Up)(n:Nat),Vals xs its/\xs.length=its.length/\s.heap.get? l=some {cls:=.type "list", data:=.seq its.toArray n}:=by obtain⟨z,its,n,r,e⟩:=I.hok l _ hH;exact⟨z,its,n,r,r.length,e⟩
theorem Af{n:Nat}(h:n<=Uv):Builtin.List.listTooLong n=false:=by unfold Builtin.List.listTooLong;exact QO (by omega)
end
section
variable{X:Cx}
def Cu:V->List V->Hp->VK->Prop:=λx vs H Q=>∃l xs y,x=.ref l/\vs=[y]/\H l=some (.lst xs)/\xs.length<Uv/\Q .non (upd H l (.lst (xs++[y])))
theorem L7:MtM X "list.append" Cu:=by intro pins s σ H x vs v us Q I rx rv h;obtain⟨l,xs,y,rfl,rfl,hH,hz,q⟩:=h;cases rx;obtain⟨u,rfl,ru⟩:=rv.one;obtain⟨z,its,n,r,hl,e⟩:=I.lstM hH;refine call_meets F.slot_list_append ⟨_,e,rfl⟩ F.entry_list_append (F.args_list_append_2 _ _) (PySem.list_append l its.toArray n u (by rw[QI];omega)) ⟨e,?_⟩;refine⟨.non,_,I.lset (its':=its++[u]) hH e (by simp) (r.append (.cons ru .nil)) ?_,rfl,q⟩;rw[Qj,Q9];omega
theorem Ct{α:Type}(xs:List α)(k:Nat):(UA k xs).flatten.length=k*xs.length:=by
 induction k with
 |zero=>simp
 |succ k ih=>rw[QQ,QL,Qj,ih,Nat.succ_mul,Nat.add_comm]
end
section
variable{prog:Ur}{w:World}{A:Around}{E:Up->Uq->Prop}{s:Uq}
set_option maxRecDepth 100000 in
end
end L2
namespace Att
open PySem PySem.W PySem.Calls PyProof.Rows
theorem kP{P:Params}{h:Heap}:∀(ns:List Int)(vs:List Up),WellAll P h vs (ns.map WData.int)->IntsAre vs ns:=by
 intro ns;induction ns with
 |nil=>intro vs w;rw[JZ]at w;cases w;exact .nil
 |cons n ns ih=>
  intro vs w;rw[Qq]at w;cases w with
  |cons a b=>cases a;exact .cons _ _ (ih _ b)
theorem qc{l:OpenLaw}{n:Nat}(hn:l.most=some n){P:Params}{h:Heap}{args:List WData}{vals:List Up}
  (hpre:l.row.toRowW.claim.pre args=true) (hwl:WellAll P h vals args) :
  ∃a vs ns,vals=[Value.ref a]/\args=[WData.list (ns.map WData.int)]/\h.get? a=some {cls:=.type "list", data:=.seq vs.toArray}/\IntsAre vs ns/\ns.length<=n:=by
 have hsh:WShape.hasAll [] args [.list .int]=true:=(pre_splitW hpre).1;have hc:l.pre.holds [] {args:=args}=true:=(pre_splitW hpre).2;obtain⟨d,r,rfl,h1,h2⟩:=hasAllW_cons hsh;obtain rfl:=hasAllW_nil h2;obtain⟨xs,rfl,h3⟩:=hasW_list h1;obtain⟨ns,rfl⟩:=items_int h3
 have hlen:ns.length<=n:=by
  unfold OpenLaw.pre at hc;have h4:(WTm.not (.lt (.lit (.int (n:Int))) (.len (.arg 0)))).holds [] {args:=[.list (ns.map .int)]}=true:=by have h4:=(holds_andW hc).1;rw[hn]at h4;exact h4
  have h5:=condW_of h4 (w_not (w_lt w_lit (w_len_list (w_arg rfl))));rw[Qb]at h5;refine Jd λq=>?_;have q':(n:Int)<((ns.length:Nat):Int):=by omega
  first
   |(rw[Q7 q']at h5;exact absurd h5 (by decide))
   |(simp at h5;omega)
 cases hwl with
 |cons w1 w2=>
  cases w2;cases w1 with
  |list ho hall=>exact⟨_,_,ns,rfl,rfl,ho,kP ns _ hall,hlen⟩
theorem qb(l:OpenLaw)(args:List WData):l.row.toRowW.claim.post args (.bool true) args=true:=
 postW_of (r:=l.row.toRowW) (X:=(true==true))
  (show WShape.has [] (.bool true) .bool=true by first|rfl|decide|simp[WShape.has,WShape.arms,WShape.armsAll])
  (show(WTm.eq .res (.lit (.bool true))).value [] {args:=args,res:=some (.bool true),after:=args}=some (.bool (true==true))from w_eq_bool (w_res rfl) w_lit) rfl
theorem attach_call{l:OpenLaw}{n:Nat}{q:Ur}{loose:List Str}{XP:(Str->Option Up)->Heap->Prop}{YP:World->Heap->Prop}{d:DefRec}
  (hn:l.most=some n) (hdf:d.params.defaults=[])
  (call:∀(w:World)(s₀ s₁:Uq)(mg mb:Str->Option Up)(fa:Us)(o:Obj)(pm cd doc:Up)(a:Us)(vs:List Up)(ns:List Int),
   Ground q loose [] XP w s₀ mg mb s₁.heap->YP w s₁.heap ->
   s₁.heap.get? fa=some o->o.data=.func (docDef d.name d.params d.body d.scope pm cd doc)->s₁.heap.CodeRec cd d.name->mg d.name=some (.ref fa) ->
   s₁.heap.get? a=some {cls:=.type "list", data:=.seq vs.toArray}->IntsAre vs ns->ns.length<=n->s₁.gens=#[] ->
   codeAny (model l.prog w) callerA (.call (.ref fa) ⟨[.ref a],[]⟩) (λr s'=>r=.ok (.ret (.bool true))/\OldK s₁.heap s'.heap/\s'.os=s₁.os/\AllBare s'.gens) s₁) :
  WalkO q loose XP YP l.row.toRowW d [] (λf vs=>PySem.call f vs):=by
 intro w s₀ s₁ mg mb G Y fa o pm cd doc dV kV ho hd hcd hD hmg hg args vals as hpre hlay hrd hwl hlo;obtain rfl:dV=.none:=Dflts.none hD hdf;obtain rfl:kV=.none:=Dflts.noKw hD;obtain⟨a,vs,ns,rfl,rfl,hobj,hints,hlen⟩:=qc hn hpre hwl;refine enter_call (codeAny_mono (call w s₀ s₁ mg mb fa o pm cd doc a vs ns G Y ho (fd_plain hd) hcd hmg hobj hints hlen hg) λr s' hq=>?_);obtain⟨rfl,h2,h3,h4⟩:=hq;exact⟨.inl ⟨.bool true,.bool true,[],rfl,λ_=>rfl,.bool true,qb l _,λ_=>⟨List.Pairwise.nil,λ_ hm=>(nomatch hm)⟩⟩,h2,h3,h4⟩
end Att
namespace L2
open PySem PySem.Spec PyProof.Rows
theorem Vv:∀{vs:List Up}{ns:List Int},IntsAre vs ns->Vals (ns.map V.int) vs
 |_,_,.nil=>.nil
 |_,_,.cons n t h=>.cons ⟨t,rfl⟩ (Vv h)
def Only(H:Hp):Prop:=∀b,H b=none ∨ ∃o xs,H b=some (.frz o (.lst xs))
theorem Ae{P:Ur}{w:World}{K:Frag}{mg mb:Str->Option Up}{CX:CXT}{k:Nat}{fa a:Us}{fd:Ut}{x:Str}{sp:Sp}{s₁:Uq}{vs:List Up}{ns:List Int}
  (KX:K.In s₁.heap) (hns:s₁.heap.Ns mainGlobals mg) (hb:s₁.heap.Ns builtinsNs mb) (hbb:∀x:Str,x ≠ "__name__" -> mb x=bootBuiltins x) (hlim:s₁.heap.NoLimit) (hg:s₁.gens=#[])
  (ha:s₁.heap.get? a=some {cls:=.type "list", data:=.seq vs.toArray}) (hi:IntsAre vs ns) (hl:ns.length<=Uv) (hr:Room k callerA)
  (F:∀base:Heap,K.In base->base.Ns mainGlobals mg->FnOk P w K mg base CX k fa fd [x] sp) (hbind:∀(s:Uq)(u:Up),BindsTo s fd ⟨[u],[]⟩ [(x,u)])
  (hsp:∀H:Hp,Only H->SqL K H a (ns.map V.int)->sp [.ref a] H (λv _=>v=.bl true) λ_ _ _=>False)
  (hCX:∀H e s',CX [] H s₁ (λ_ _ _=>False) e s'->False) :
  codeAny (model P w) callerA (.call (.ref fa) ⟨[.ref a],[]⟩) (λr s'=>r=.ok (.ret (.bool true))/\OldK s₁.heap s'.heap/\s'.os=s₁.os/\AllBare s'.gens) s₁:=by
 have rv:=Vv hi;have lenV:=hi.length
 have core:∀H:Hp,Only H->SqL K H a (ns.map V.int)->HOk P w H s₁.heap->(∀b,H b≠none->b=a)->(H a≠none->K.lookup a=none) ->
   codeAny (model P w) callerA (.call (.ref fa) ⟨[.ref a],[]⟩) (λr s'=>r=.ok (.ret (.bool true))/\OldK s₁.heap s'.heap/\s'.os=s₁.os/\AllBare s'.gens) s₁:=by
  intro H hO hS hok hA hK;have base_of:∀{b:Us}{o:Obj},s₁.heap.get? b=some o->H b=none->(YG s₁.heap H).get? b=some o:=λe n=>Aq e n
  have noA:∀{b:Us}{o:Obj}{es:Array DictEntry}{ep:Nat},s₁.heap.get? b=some o->o.data=.dict es ep->H b=none:=λ{b o es ep} e d=>by
   cases q:H b with
   |none=>rfl
   |some u=>have e':b=a:=hA b (by rw[q];simp);subst e';rw[ha]at e;cases e;have d':Data.seq vs.toArray _=Data.dict es ep:=d;cases d'
  have nsK:∀{b:Us}{m:Str->Option Up},s₁.heap.Ns b m->(YG s₁.heap H).Ns b m:=λ{b m} ⟨o,es,ep,e,d,r⟩=>⟨o,es,ep,base_of e (noA e d),d,r⟩
  have hKb:K.In (YG s₁.heap H):=λb o e=>base_of (KX b o e) (by
   cases q:H b with
   |none=>rfl
   |some u=>have e':b=a:=hA b (by rw[q];simp);subst e';rw[hK (by rw[q];simp)]at e;cases e)
  have hM:Mod K mg (YG s₁.heap H):=⟨hKb,nsK hns,⟨mb,nsK hb,hbb⟩,let ⟨mc,h1,h2⟩:=hlim;⟨mc,nsK h1,h2⟩⟩
  have e0:Env0 P w K mg (YG s₁.heap H) callerA [] s₁ H:=⟨rfl,hM,λb o e=>CL e,Nat.le_of_eq (q9 _ _),trivial,λb hb=>absurd (show b∈([]:List Us)from hb) (by simp),hok,.of_eq hg⟩
  refine codeAny_mono ((F _ hKb (nsK hns)).run callerA [] s₁ H ⟨[.ref a],[]⟩ [.ref a] [.ref a] _ _ hr e0 (hbind s₁ (.ref a)) (.cons rfl .nil) (hsp H hO hS)) λr s' h=>?_
  cases r with
  |error e=>exact(hCX H e s' h).elim
  |ok fl=>
   cases fl with
   |next=>exact False.elim h
   |brk=>exact False.elim h
   |cont=>exact False.elim h
   |ret u=>
    obtain⟨v,H',os,bare,un,hok',r',q⟩:=h;have q':v=.bl true:=q;subst q';obtain rfl:u=Value.bool true:=r';refine⟨rfl,OldK.of_keep λb o e=>?_,os,bare⟩;cases q:H b with
    |none=>exact un.keep b o e q (by intro z;exact absurd (show b∈([]:List Us)from z) (by simp)) (by simp)
    |some u=>
     rcases hO b with z|⟨ob,xs,z⟩
     ·rw[q]at z;cases z
     ·have z2:=un.frzs b ob _ z;obtain⟨e1,_⟩:=hok b _ z;obtain⟨e2,_⟩:=hok' b _ z2;rw[e]at e1;cases e1;exact e2
 cases hk:K.lookup a with
 |some o=>have e:=KX a o hk;rw[ha]at e;cases e;refine core (λ_=>none) (λ_=>.inl rfl) (.inr ⟨_,vs.toArray,_,hk,rfl,rfl,rfl,by rw[List.size_toArray,lenV];exact hl,by simpa using rv⟩) (λb u z=>by have z':(none:Option HO)=some u:=z;cases z') (λb z=>absurd rfl z) λz=>absurd rfl z
 |none=>
  refine core (λb=>if b=a then some (.frz {cls:=.type "list", data:=.seq vs.toArray} (.lst (ns.map V.int)))else none) (λb=>?_) (.inl (.inr ⟨{cls:=.type "list", data:=.seq vs.toArray},Qk rfl⟩)) (λb u z=>?_) (λb z=>?_) λ_=>hk
  ·by_cases hb:b=a
   ·exact .inr ⟨_,_,Qk hb⟩
   ·exact .inl (Qs hb)
  ·by_cases hb:b=a
   ·have z':=(Qk hb).symm.trans z;cases z';subst hb;exact⟨ha,by rw[Qb];exact hl,vs,_,rv,ha⟩
   ·have z':=(Qs hb).symm.trans z;cases z'
  ·by_cases hb:b=a
   ·exact hb
   ·exact absurd (Qs hb) z
def Sx(s:Stmt):Arguments:=match s with
 |.FunctionDef _ a _ _ _ _ _ _ _ _=>a
 |_=>{posonlyargs:=[],args:=[],vararg:=none,kwonlyargs:=[],kw_defaults:=[],kwarg:=none,defaults:=[]}
def Wr(s:Stmt):List Stmt:=match s with
 |.FunctionDef _ _ b _ _ _ _ _ _ _=>b
 |_=>[]
def Z8(s:Stmt):Scope:=match s with
 |.FunctionDef _ _ _ _ _ _ sc _ _ _=>sc
 |_=>{kind:=.function,names:=[],isGenerator:=false,isCoroutine:=false}
abbrev CX0:CXT:=λ_ _ _ _ _ _=>False
abbrev E0:XK:=λ_ _ _=>False
theorem GP{X:Cx}:P0 CX0 X E0:=λ_ _ _ _ _ _ _ h=>h.elim
structure Fun(K:Frag)(x qual:Str)(st:Stmt)(f:Us)(fd:Ut):Prop where
 ex:∃(oc:Up)(od:Option Us)(kV doc pm:Up)(an:Option Us)(cdv ct:Up)(osl:Array (Option Up)),
  fd=PySem.W.fnOf x qual (Sx st) (Wr st) (Z8 st) .none kV doc pm an cdv ct/\K.lookup f=some ⟨oc,od,.func fd,osl⟩/\PySem.W.codeIn K cdv qual=true
 kp:PySem.W.keepIn K (.ref f)=true
section
variable{P:Ur}{w:World}{K:Frag}{mg:Str->Option Up}{base:Heap}
theorem Fun.ok{x qual:Str}{st:Stmt}{f:Us}{fd:Ut}{N ps:List Str}{k:Nat}{sp:Sp}(F:Fun K x qual st f fd)(S:Rl N ps (Z8 st))(len:∀vs H Q E,sp vs H Q E->vs.length=ps.length)
  (hbody:∀(cdv:Up)(A:Around)(outer:List Env)(s:Uq)(H:Hp)(vs:List V)(Q:VK)(E:XK),Room k (A.deeper (envOfC qual (Z8 st) s.heap.objs.size f cdv))->sp vs H Q E ->
   ∃t,PSs (Y1 CX0 P w K mg base N qual (Z8 st) f cdv A outer s H E).nox (Wr st) t/\t {nx:=λ_ H'=>Q .non H',rt:=Q} (XT N vs) H):FnOk P w K mg base CX0 (k+1) f fd ps sp:=by
 obtain⟨oc,od,kV,doc,pm,an,cdv,ct,osl,rfl,lk,hcd⟩:=F.ex;refine GS lk hcd S len λA outer s H vs Q E hr hsp=>?_
 obtain⟨t,h,q⟩:=hbody cdv A outer s H vs Q E hr hsp;exact⟨t,h.nox,q⟩
theorem Fun.binds{x qual:Str}{st:Stmt}{f:Us}{fd:Ut}{ps:List Str}(F:Fun K x qual st f fd)
  (h:∀(kV doc pm:Up)(an:Option Us)(cdv ct:Up)(us:List Up),us.length=ps.length->bindArgs (PySem.W.fnOf x qual (Sx st) (Wr st) (Z8 st) .none kV doc pm an cdv ct) ⟨us,[]⟩=pure (ps.zip us)):Vj K fd ps []:=by
 obtain⟨oc,od,kV,doc,pm,an,cdv,ct,osl,rfl,lk,hcd⟩:=F.ex;exact .all (h kV doc pm an cdv ct)
end
def Same(H H':Hp):Prop:=∀b o,H b=some o->H' b=some o
theorem Same.refl(H:Hp):Same H H:=λ_ _ h=>h
theorem Same.trans{H H1 H2:Hp}(a:Same H H1)(b:Same H1 H2):Same H H2:=λc o h=>b c o (a c o h)
theorem Same.free{H H':Hp}(e:Same H H'){l:Us}(h:H' l=Option.none):H l=Option.none:=by
 cases q:H l with
 |none=>rfl
 |some o=>rw[e l o q]at h;cases h
theorem Same.seq{K:Frag}{H H':Hp}{a:Us}{xs:List V}(e:Same H H')(h:SqL K H a xs):SqL K H' a xs:=by
 rcases h with (h|⟨o,h⟩)|h
 ·exact .inl (.inl (e _ _ h))
 ·exact .inl (.inr ⟨o,e _ _ h⟩)
 ·exact .inr h
section
variable{X:Cx}{pins:List (Us×Obj)}{σ:St}{H:Hp}{s:Uq}{h':Heap}
theorem Inv.turnedNew{t':Nat}{fp:List Us}{p:Us}{o:HO}(I:Inv X pins σ H s)(hf:∀b∈fp,ZC X pins H b)
  (k:∀b o,b∉fp->s.heap.get? b=some o->h'.get? b=some o) (hp:s.heap.objs.size<=p) (new:ZE X.prog X.w (upd H p o) h' p o) :
  Inv X pins σ (upd H p o) {s with heap:=h',toks:=t'}:=by
 have hn:H p=none:=I.hok.fresh hp;have trk:∀b u,H b=some u->b∉fp:=λb u e z=>by rw[(hf b z).1]at e;cases e
 refine I.step (g':=s.gens) (d':=s.drawn) (ch:=fp) (λb hb=>?_) (λb o _ _ hc e _=>k b o hc e) (λb o _ _ hc e _=>⟨o.slots,k b o hc e⟩)
  (λb o _ e n=>by rw[Kz (QM (QE (Qi e) hp))];exact n) (λb o hc e=>⟨o,k b o hc e⟩)
  (λb xs e=>by rw[Kz (Ym e hn)];exact e) (λb ob u e=>by rw[Kz (Ym e hn)];exact e) (λb ps e=>⟨#[],by rw[Kz (Ym e hn),e];simp⟩)
  (λm hm=>?_) (λb u e=>?_) I.bare
 ·obtain⟨_,f1,_,f3,f4,f5⟩:=hf b hb;exact⟨f3,f1,f4,f5⟩
 ·obtain⟨ob,es,ep,ho,r⟩:=hm;exact⟨ob,es,ep,k _ ob (λz=>(hf _ z).2.1 rfl) ho,r⟩
 ·by_cases hb:b=p
  ·subst hb;rw[Zf]at e;cases e;exact new
  ·rw[Kz hb]at e;refine(I.hok b u e).stay (λc v hc q=>k c v ?_ q) (λc q=>by rw[Kz (Ym q hn)];exact q) λc xs q=>by rw[Kz (Ym q hn)];exact q
   rcases hc with z|z
   ·rw[z];exact trk b u e
   ·exact trk c _ z
theorem Inv.turnedL{t':Nat}{fp:List Us}(I:Inv X pins σ H s)(hf:∀b∈fp,ZC X pins H b)
  (k:∀b o,b∉fp->s.heap.get? b=some o->h'.get? b=some o):Inv X pins σ H {s with heap:=h',toks:=t'}:=by
 have trk:∀b u,H b=some u->b∉fp:=λb u e z=>by rw[(hf b z).1]at e;cases e
 refine I.step (g':=s.gens) (d':=s.drawn) (ch:=fp) (λb hb=>?_) (λb o _ _ hc e _=>k b o hc e) (λb o _ _ hc e _=>⟨o.slots,k b o hc e⟩)
  (λ_ _ _ _ n=>n) (λb o hc e=>⟨o,k b o hc e⟩) (λ_ _ e=>e) (λ_ _ _ e=>e) (λb ps e=>⟨#[],by rw[e];simp⟩) (λm hm=>?_) (λb u e=>?_) I.bare
 ·obtain⟨_,f1,_,f3,f4,f5⟩:=hf b hb;exact⟨f3,f1,f4,f5⟩
 ·obtain⟨ob,es,ep,ho,r⟩:=hm;exact⟨ob,es,ep,k _ ob (λz=>(hf _ z).2.1 rfl) ho,r⟩
 ·refine(I.hok b u e).stay (λc v hc q=>k c v ?_ q) (λc q=>q) λc xs q=>q
  rcases hc with z|z
  ·rw[z];exact trk b u e
  ·exact trk c _ z
end
def Ite(K:Frag)(a:Us):It:=
 ⟨λi H=>∃xs x,SqL K H a xs/\xs[i]?=some x,
  λi H v H'=>∃p x,H p=none/\v=.ref p/\(∀xs,SqL K H a xs->xs[i]?=some x)/\H'=upd H p (.tup [.int i,x]),
  λi H=>∃xs,SqL K H a xs/\xs.length<=i⟩
theorem qa{P:Ur}{w:World}{K:Frag}{elts:List Uu}{x1}{tp:Pos}(a e it:Us)(hne:e≠it) :
  Turn P w K (.Tuple elts x1 tp) (Ite K a) [e,it] e (λi h=>(∃old,IsEnum h e it i old)/\h.IsListIter it a i) where
 mem:=by simp
 obj:=λi h st b hb=>by
  obtain⟨⟨old,he⟩,o,ho,c,d⟩:=st;have hb':b=e∨b=it:=by simpa using hb
  rcases hb' with rfl|rfl
  ·exact⟨_,he,λv z=>by have z':Data.fields _=Data.cell v:=z;cases z'⟩
  ·exact⟨o,ho,λv z=>by rw[d]at z;cases z⟩
 keep:=λi h h' st k=>by obtain⟨⟨old,he⟩,hi⟩:=st;exact⟨⟨old,k e (by simp) _ he⟩,hi.at λo q=>k it (by simp) o q⟩
 item:=by
  intro X hP hw hK hc i pins s σ H E I hf st hg;subst hP hw hK;obtain⟨⟨old,he⟩,hi⟩:=st;obtain⟨xs,x,hq,hx⟩:=hg;obtain⟨its,rv,p,hz⟩:=I.list hq;obtain⟨u,hu,ru⟩:=rv.get hx;refine wpAny_pyNext_enum_item he hi p.isList (x:=u) (by simpa using hu) hne λh1 out hi1 ht hsz kk=>?_
  refine⟨_,rfl,wpAny_letOwnedTupleGo_enum out λh2 he2 hs2=>?_⟩;have hel:e<s.heap.objs.size:=Qi he;have hs2':Heap.SameBut e h1 h2:=hs2;have ht2:h2.get? s.heap.objs.size=some {cls:=.type "tuple", data:=.seq #[.int i s.toks,u]}:=(hs2'.2 _ (JR hel)).trans ht
  have kk2:∀b o,b∉[e,it]->s.heap.get? b=some o->h2.get? b=some o:=λb o hb q=>by
   have hbe:b≠e:=λz=>hb (by simp[z])
   have hbi:b≠it:=λz=>hb (by simp[z])
   exact(hs2'.2 b hbe).trans (kk b o hbe hbi q)
  have hn:H s.heap.objs.size=none:=I.hok.fresh (Qx _)
  have I2:Inv X pins σ (upd H s.heap.objs.size (.tup [.int i,x])) {s with heap:=h2,toks:=s.toks+1}:=
   I.turnedNew (fp:=[e,it]) hf kk2 (Qx _) ⟨by show 2<=Uv;decide,[.int i s.toks,u],.cons ⟨_,rfl⟩ (.cons ru .nil),⟨_,ht2,rfl,_,rfl⟩⟩
  refine⟨.ref s.heap.objs.size,_,I2,rfl,⟨_,x,hn,rfl,λys hy=>by rw[I.list_inj hy hq];exact hx,rfl⟩,⟨⟨u,?_⟩,?_⟩,λb hb=>?_⟩
  ·have:=he2;simpa using this
  ·have hi2:h2.IsListIter it a (i+1):=hi1.at λo q=>(hs2'.2 it (Ne.symm hne)).trans q
   exact hi2
  ·have fr:=(hf b hb)
   have hlt:b<s.heap.objs.size:=by
    have hb':b=e∨b=it:=by simpa using hb
    rcases hb' with rfl|rfl
    ·exact hel
    ·obtain⟨o,ho,_⟩:=hi;exact Qi ho
   rw[Kz (QM hlt)];exact fr.1
 done:=by intro X hP hw hK hc i pins s σ H E I hf st hg;subst hP hw hK;obtain⟨⟨old,he⟩,hi⟩:=st;obtain⟨xs,hq,hx⟩:=hg;obtain⟨its,rv,p,hz⟩:=I.list hq;have hl:=rv.length;exact wpAny_pyNext_enum_end (I.ok.hd hc) he hi p.isList (by simp;omega) λh' eb=>⟨rfl,I.turnedL (t':=s.toks) hf λb o hb q=>eb b o (λz=>hb (by simp[z])) q⟩
 self:=λ_ _ _ _ _ st h=>by obtain⟨⟨old,he⟩,_⟩:=st;exact wpAny_pyIter_enum he h
section
variable{X:Cx}
def GO(K:Frag)(ta:TA):TI:=λσ H R=>ta σ H λvs H1=>∃a xs,vs=[.ref a]/\SqL K H1 a xs/\R (Ite K a) H1
theorem Cs{a:Uu}{ta:TA}{p pos:Pos}{elts:List Uu}{x1}{tp:Pos}(hg:Gl X "enumerate")(hm:X.mg "enumerate" = none)(ha:PA X [a] ta)
  (hs:Ux [a] X.env=[(false,eval a X.env)]:=by rfl):PI X (.Tuple elts x1 tp) (.Call (.Name "enumerate" p) [a] [] pos) (GO X.K ta):=by
 intro pins s σ H R I h;refine Call_ (Vn I hg hm boot_enumerate (Jy (thn (ha pos pins s σ H _ I h) λus s1 ⟨vs,H1,I1,r1,q1⟩=>?_) hs rfl));obtain⟨l,xs,e,hq,q⟩:=q1;subst e;cases r1 with
 |cons r rr=>
  cases rr;cases (show _=Value.ref l from r);obtain⟨its,rv,pl,hz⟩:=I1.list hq;refine call_enumerate_list pl.isList λh' he hi hsz kk=>?_;have I2:Inv X pins σ H1 {s1 with heap:=h'}:=I1.kept (t':=s1.toks) kk;refine wpAny_pyIter_enum he ?_
  refine⟨s1.heap.objs.size+1,[s1.heap.objs.size+1,s1.heap.objs.size],_,_,H1,rfl,I2,qa l _ _ (Nat.succ_ne_self _),⟨⟨_,he⟩,hi⟩,λb hb=>?_,q⟩;have hb':b=s1.heap.objs.size+1∨b=s1.heap.objs.size:=by simpa using hb
  rcases hb' with rfl|rfl
  ·exact I1.fpOk (JY _) (I1.hok.fresh (JY _))
  ·exact I1.fpOk (Qx _) (I1.hok.fresh (Qx _))
end
section
variable{κ:Type}[DecidableEq κ]
def ZQ(kvs:List (κ×V))(k:κ):Option V:=(kvs.find? λkv=>decide (kv.1=k)).map (·.2)
def ZI(kvs:List (κ×V))(k:κ)(v:V):List (κ×V):=
 if(kvs.any λkv=>decide (kv.1=k))=true then kvs.map (λkv=>if kv.1=k then(kv.1,v)else kv)else kvs++[(k,v)]
theorem OH{p:κ×V}{r:List (κ×V)}{k:κ}(e:p.1=k):ZQ (p::r) k=some p.2:=by simp[ZQ,List.find?_cons,e]
theorem OG{p:κ×V}{r:List (κ×V)}{k:κ}(e:¬p.1=k):ZQ (p::r) k=ZQ r k:=by simp[ZQ,List.find?_cons,e]
theorem Ln(k:κ):∀kvs:List (κ×V),(kvs.any λkv=>decide (kv.1=k))=(ZQ kvs k).isSome
 |[]=>rfl
 |p::r=>by
  rw[Ug];by_cases e:p.1=k
  ·simp only[OH e,Q7 e,Bool.true_or,Option.isSome_some]
  ·rw[OG e,QO e,Bool.false_or];exact Ln k r
theorem HQ(kvs:List (κ×V))(k:κ)(v:V):(ZI kvs k v).length<=kvs.length+1:=by
 unfold ZI;split
 ·rw[Qb];omega
 ·rw[Qj,Qv,QN];omega
theorem RelO.isSome_eq{o:Option V}{u:Option Up}(r:RelO o u):o.isSome=u.isSome:=by
 cases o with
 |none=>cases u with
  |none=>rfl
  |some _=>exact(show False from r).elim
 |some _=>cases u with
  |none=>exact(show False from r).elim
  |some _=>rfl
theorem KV.val{kvs:List (κ×V)}{vs:List (κ×Up)}(r:KV kvs vs)(k:κ):RelO (ZQ kvs k) (valueAt vs k):=by
 unfold KV at r;induction r with
 |nil=>exact True.intro
 |@cons p q ps qs h t ih=>
  obtain⟨h1,h2⟩:=h;by_cases e:p.1=k
  ·have e':q.1=k:=h1.symm.trans e;have b:valueAt (q::qs) k=some q.2:=by simp[valueAt,List.find?_cons,e']
   rw[OH e,b];exact h2
  ·have e':¬q.1=k:=λz=>e (h1.trans z)
   have b:valueAt (q::qs) k=valueAt qs k:=by simp[valueAt,List.find?_cons,e']
   rw[OG e,b];exact ih
theorem KV.any{kvs:List (κ×V)}{vs:List (κ×Up)}(r:KV kvs vs)(k:κ):(kvs.any λkv=>decide (kv.1=k))=vs.any λkv=>decide (kv.1=k):=by
 unfold KV at r;induction r with
 |nil=>rfl
 |cons h t ih=>rw[Ug,Ug,ih,h.1]
theorem KV.repl{kvs:List (κ×V)}{vs:List (κ×Up)}(r:KV kvs vs)(k:κ){y:V}{u:Up}(ry:RelV y u) :
  KV (kvs.map λkv=>if kv.1=k then(kv.1,y)else kv) (vs.map λkv=>if kv.1=k then(kv.1,u)else kv):=by
 unfold KV at r⊢;induction r with
 |nil=>exact .nil
 |@cons p q ps qs h t ih=>
  rw[Qq,Qq];refine .cons ?_ ih;obtain⟨h1,h2⟩:=h;by_cases e:p.1=k
  ·rw[Qk e,Qk (h1.symm.trans e)];exact⟨h1,ry⟩
  ·rw[Qs e,Qs (λz=>e (h1.trans z))];exact⟨h1,h2⟩
theorem KV.put{kvs:List (κ×V)}{vs:List (κ×Up)}(r:KV kvs vs)(k:κ){y:V}{u:Up}(ry:RelV y u):KV (ZI kvs k y) (stored vs k u):=by
 unfold ZI stored;rw[r.any k];by_cases e:(vs.any λkv=>decide (kv.1=k))=true
 ·rw[Qk e,Qk e];exact r.repl k ry
 ·rw[Qs e,Qs e];exact Paired.snoc r ⟨rfl,ry⟩
theorem KV.length{kvs:List (κ×V)}{vs:List (κ×Up)}(r:KV kvs vs):kvs.length=vs.length:=Paired.length r
end
theorem PM{P:Ur}{w:World}{k:Key}{u:Up}(r:RelV (kV k) u):(Xc P w).is k u=true:=by
 cases k with
 |inl i=>obtain⟨t,e⟩:=(show ∃t,u=Value.int i t from r);subst e;exact km P w i t
 |inr x=>obtain⟨t,e⟩:=(show ∃t,u=Value.str x t from r);subst e;exact jT P w x t
theorem L6{P:Ur}{w:World}:∀{ks:List Key}{us:List Up},Vals (ks.map kV) us->ItemsAre (Xc P w) ks us
 |[],_,r=>by rw[JZ]at r;cases r;exact .nil
 |k::ks,_,r=>by
  rw[Qq]at r;cases r with
  |cons h t=>exact .cons (PM h) (L6 t)
abbrev KT(H:Hp):List (List Key×V)->List (List Key×Us×Up)->Prop:=Paired λp q=>p.1=q.1/\H q.2.1=some (.tup (p.1.map kV))/\RelV p.2 q.2.2
theorem KT.val{H:Hp}{kvs:List (List Key×V)}{xs:List (List Key×Us×Up)}(r:KT H kvs xs)(k:List Key):RelO (ZQ kvs k) ((atKey xs k).map (·.2)):=by
 induction r with
 |nil=>exact True.intro
 |@cons p q ps qs h t ih=>
  obtain⟨h1,_,h2⟩:=h;by_cases e:p.1=k
  ·have e':q.1=k:=h1.symm.trans e;have b:atKey (q::qs) k=some q.2:=by simp[atKey,List.find?_cons,e']
   rw[OH e,b];exact h2
  ·have e':¬q.1=k:=λz=>e (h1.trans z)
   have b:atKey (q::qs) k=atKey qs k:=by simp[atKey,List.find?_cons,e']
   rw[OG e,b];exact ih
theorem KT.repl{H:Hp}{kvs:List (List Key×V)}{xs:List (List Key×Us×Up)}(r:KT H kvs xs)(k:List Key){y:V}{u:Up}(ry:RelV y u) :
  KT H (kvs.map λkv=>if kv.1=k then(kv.1,y)else kv) (xs.map (putAt k u)):=by
 induction r with
 |nil=>exact .nil
 |@cons p q ps qs h t ih=>
  rw[Qq,Qq];refine .cons ?_ ih;obtain⟨h1,h2,h3⟩:=h;unfold putAt;by_cases e:p.1=k
  ·rw[Qk e,Qk (h1.symm.trans e)];exact⟨h1,h2,ry⟩
  ·rw[Qs e,Qs (λz=>e (h1.trans z))];exact⟨h1,h2,h3⟩
theorem KT.put{H:Hp}{kvs:List (List Key×V)}{xs:List (List Key×Us×Up)}(r:KT H kvs xs)(k:List Key){b:Us}{y:V}{u:Up}(hb:H b=some (.tup (k.map kV)))(ry:RelV y u) :
  KT H (ZI kvs k y) (storedH xs k b u):=by
 have e:(kvs.any λkv=>decide (kv.1=k))=(atKey xs k).isSome:=by rw[Ln,(r.val k).isSome_eq,Option.isSome_map]
 unfold ZI storedH;rw[e];by_cases q:(atKey xs k).isSome=true
 ·rw[Qk q,Qk q];exact r.repl k ry
 ·rw[Qs q,Qs q];exact Paired.snoc r ⟨rfl,hb,ry⟩
theorem KT.keeps{H H':Hp}{kvs:List (List Key×V)}{xs:List (List Key×Us×Up)}(r:KT H kvs xs)(ht:∀b ys,H b=some (.tup ys)->H' b=some (.tup ys)):KT H' kvs xs:=
 Paired.mapP r λ_ _ z=>⟨z.1,ht _ _ z.2.1,z.2.2⟩
section
variable{P:Ur}{w:World}{H:Hp}{h:Heap}{a:Us}
theorem Nw{u:HO}(ok:HOk P w H h)(e:Rd H a u):ZE P w H h a u:=e.ok ok
theorem PL{kvs:List (Key×V)}(ok:HOk P w H h)(e:Rd H a (.dK kvs)):kvs.length<=Uv/\(a==sysModules)=false/\∃vs,KV kvs vs/\h.DictOf (Xc P w) a vs:=
 show ZE P w H h a (.dK kvs)from Nw ok e
theorem GN{kvs:List (Key×V)}(ok:HOk P w H h)(e:H a=some (.dK kvs)):kvs.length<=Uv/\(a==sysModules)=false/\∃vs,KV kvs vs/\h.DictOf (Xc P w) a vs:=PL ok (.inl e)
theorem PZ{ks:List Key}(ok:HOk P w H h)(e:H a=some (.tup (ks.map kV))):(tupleKind (Xc P w)).is h ks a:=by
 obtain⟨_,its,r,o,h1,h2,n,h3⟩:=(show ZE P w H h a (.tup (ks.map kV))from ok a _ e)
 exact⟨o,its.toArray,n,h1,h2,h3,by simpa using L6 r⟩
theorem PK{kvs:List (List Key×V)}(ok:HOk P w H h)(e:Rd H a (.dT kvs)):kvs.length<=Uv/\(a==sysModules)=false /\
  ∃xs,KT H kvs xs/\h.DictOfH (tupleKind (Xc P w)) a xs:=by
 obtain⟨z,y,xs,r,o,es,ep,h1,h2,h3,h4,h5⟩:=(show ZE P w H h a (.dT kvs)from Nw ok e)
 refine⟨z,y,xs,r,o,es,ep,h1,h2,h3,h4,λx hx=>?_,h5⟩
 have all:∀{l:List (List Key×V)}{m:List (List Key×Us×Up)},KT H l m->∀x∈m,(tupleKind (Xc P w)).is h x.1 x.2.1:=by
  intro l m q;induction q with
  |nil=>intro x hx;exact nomatch hx
  |@cons p q ps qs hq t ih=>
   intro x hx;rcases QT.mp hx with e|hx
   ·subst e;exact PZ ok (by rw[←hq.1];exact hq.2.1)
   ·exact ih x hx
 exact all r x hx
theorem GM{kvs:List (List Key×V)}(ok:HOk P w H h)(e:H a=some (.dT kvs)):kvs.length<=Uv/\(a==sysModules)=false /\
  ∃xs,KT H kvs xs/\h.DictOfH (tupleKind (Xc P w)) a xs:=PK ok (.inl e)
end
def T8(H:Hp)(a:Us)(y:V)(r:Option V):Prop:=
 (∃kvs k,Rd H a (.dK kvs)/\y=kV k/\r=ZQ kvs k) ∨ ∃kvs k b,Rd H a (.dT kvs)/\y=.ref b/\H b=some (.tup (k.map kV))/\r=ZQ kvs k
def DPut(H:Hp)(a:Us)(y v:V)(H':Hp):Prop:=
 (∃kvs k,H a=some (.dK kvs)/\y=kV k/\kvs.length<Uv/\H'=upd H a (.dK (ZI kvs k v))) ∨
 ∃kvs k b,H a=some (.dT kvs)/\y=.ref b/\H b=some (.tup (k.map kV))/\kvs.length<Uv/\H'=upd H a (.dT (ZI kvs k v))
theorem DPut.k{H:Hp}{a:Us}{kvs:List (Key×V)}{k:Key}{v:V}(e:H a=some (.dK kvs))(hl:kvs.length<Uv):DPut H a (kV k) v (upd H a (.dK (ZI kvs k v))):=.inl ⟨kvs,k,e,rfl,hl,rfl⟩
section
variable{X:Cx}{pins:List (Us×Obj)}{σ:St}{H:Hp}{s:Uq}{a:Us}{y v:V}{u r:Up}{o:Option V}{A:Around}{E:Up->Uq->Prop}
theorem Inv.big(I:Inv X pins σ H s):sysModules<s.heap.objs.size:=by have h:mainGlobals<s.heap.objs.size:=(I.mod.glob.keeps I.bk).lt;exact Nat.lt_trans (by decide) h
theorem A9{Q:Up->Uq->Prop}(hu:A.units+1<cLine)(I:Inv X pins σ H s)(g:T8 H a y (some v))(ry:RelV y u)(h:∀w' s',Inv X pins σ H s'->RelV v w'->Q w' s') :
  Uw (model X.prog X.w) A (getItem (.ref a) u) Q E s:=by
 rcases g with ⟨kvs,k,e,ey,l⟩|⟨kvs,k,b,e,ey,eb,l⟩
 ·subst ey;obtain⟨z,hd,vs,rel,dd⟩:=PL I.hok e;obtain⟨w',hw,rw'⟩:=RelO.some_of (v:=v) (o:=valueAt vs k) (by rw[l];exact rel.val k);exact wpAny_getItem_of (PM ry) dd.mapOf hw (h w' _ (I.tok _) rw')
 ·subst ey;cases (show u=Value.ref b from ry);obtain⟨z,hd,xs,rel,dd⟩:=PK I.hok e;obtain⟨w',hw,rw'⟩:=RelO.some_of (v:=v) (o:=(atKey xs k).map (·.2)) (by rw[l];exact rel.val k);obtain⟨p,hp,hp2⟩:=Option.map_eq_some_iff.mp hw;refine wpAny_getItem_heap (tupleKind_room_in1 hu) (PZ I.hok eb) dd hp ?_;rw[hp2];exact h w' _ (I.tok _) rw'
theorem MU{h':Heap}{t':Nat}{ob:HO}(I:Inv X pins σ H s)(mu:Mut (H a))(hs:Heap.SameBut a s.heap h')(he:∃q,h'.get? a=some q)(new:ZE X.prog X.w (upd H a ob) h' a ob) :
  Inv X pins σ (upd H a ob) {s with heap:=h',toks:=t'}:=
 I.write (x:=a) (e:=a) mu (.inl rfl) (λb q hb z=>(hs.2 b hb).trans z) he new
theorem EY{P:Ur}{w:World}{H':Hp}{h':Heap}{kvs:List (Key×V)}{vs:List (Key×Up)}(z:kvs.length<=Uv)(hd:(a==sysModules)=false)(rel:KV kvs vs)(dd:h'.DictOf (Xc P w) a vs) :
  ZE P w H' h' a (.dK kvs):=⟨z,hd,vs,rel,dd⟩
theorem A8{H':Hp}{Q:Unit->Uq->Prop}(hu:A.units+1<cLine)(I:Inv X pins σ H s)(g:DPut H a y v H')(ry:RelV y u)(rv:RelV v r)(h:∀s',Inv X pins σ H' s'->Q () s') :
  Uw (model X.prog X.w) A (setItem (.ref a) u r) Q E s:=by
 rcases g with ⟨kvs,k,e,ey,l,eH⟩|⟨kvs,k,b,e,ey,eb,l,eH⟩
 ·subst ey eH;obtain⟨z,hd,vs,rel,dd⟩:=GN I.hok e;have hz:vs.length<=Uv:=by rw[←rel.length];exact z
  have hl:(ZI kvs k v).length<=Uv:=by have:=HQ kvs k v;omega
  refine wpAny_setItem_pairs (hsz:=hz) (PM ry) dd λh' dd' hs=>h _ ?_;have he:∃q,h'.get? a=some q:=let ⟨q,_,_,hq,_⟩:=dd';⟨q,hq⟩
  exact MU I (by rw[e];exact True.intro) hs he (EY hl hd (rel.put k rv) dd')
 ·subst ey eH;cases (show u=Value.ref b from ry);obtain⟨z,hd,xs,rel,dd⟩:=GM I.hok e;have hz:xs.length<=Uv:=by rw[←Paired.length rel];exact z
  have hl:(ZI kvs k v).length<=Uv:=by have:=HQ kvs k v;omega
  refine wpAny_setItem_heap (hsz:=hz) (tupleKind_room_in1 hu) (PZ I.hok eb) dd λh' dd' hs=>h _ ?_
  obtain⟨q,es,ep,hq,h2,h3,h4,_,h5⟩:=dd';refine MU I (by rw[e];exact True.intro) hs ⟨q,hq⟩ ⟨hl,hd,_,(rel.put k eb rv).keeps λc ys ec=>?_,q,es,ep,hq,h2,h3,h4,h5⟩;rw[Kz (F0 ec e (λz=>nomatch z))];exact ec
end
def T5(i:Uu):Prop:=∀ov iv,subscripted i false ov iv=operate [ov,iv] (getItem ov iv)
theorem CU{prog:Ur}{w:World}{A:Around}{E:Up->Uq->Prop}{s:Uq}{env:Env}{value slice:Uu}{pos:Pos}{T id:String}{Q:Up->Uq->Prop}
  (hl:typeLookup (.type T) "__getitem__" = pure (some (.builtin id))) (hs:T5 slice)
  (h:Uw (model prog w) A (eval value env) (λo s₁=>Uw (model prog w) A (eval slice env) (λi s₂=>s₂.TypeIs o T/\Uw (model prog w) A (getItem o i) Q E s₂) E s₁) E s) :
  Uw (model prog w) A (eval (.Subscript value slice pos) env) Q E s:=by
 refine Subscript_ (QG h (λo s₁ h₁=>QG h₁ (λi s₂ h₂=>?_) λ_ _ x=>x) λ_ _ x=>x);obtain⟨hT,h₂⟩:=h₂;unfold subscriptTail;refine Qf ?_;rw[getitemInPython_of_ne hT.not_modules];refine Qf (wpAny_specialOf hT hl ?_);have fin:Uw (model prog w) A (subscripted slice false o i) (λr s₃=>Uw (model prog w) A (letTemporaryGo value o r >>= λ_=>pure r) Q E s₃) E s₂:=by rw[hs o i];exact wpAny_operating (QG h₂ (λr s₃ h₃=>Qf (wpAny_letTemporaryGo (Qn h₃))) λ_ _ x=>x)
 first
  |exact Qn (Qf fin)
  |exact Qf (Qn (Qf fin))
  |exact Qf fin
theorem jR{X:Cx}{pins:List (Us×Obj)}{σ:St}{H:Hp}{s:Uq}{a:Us}{y:V}{o:Option V}(I:Inv X pins σ H s)(g:T8 H a y o):s.TypeIs (.ref a) "dict" :=by
 rcases g with ⟨kvs,k,e,_,_⟩|⟨kvs,k,b,e,_,_,_⟩
 ·obtain⟨_,_,vs,_,dd⟩:=PL I.hok e;exact dd.typeIs
 ·obtain⟨_,_,xs,_,dd⟩:=PK I.hok e;exact dd.typeIs
def GL(td ty:TE):TE:=λσ H Q=>td σ H λx H1=>ty σ H1 λy H2=>∃a v,x=.ref a/\T8 H2 a y (some v)/\Q v H2
def GK(td ty tv:TE):TS:=λD σ H=>tv σ H λv H1=>td σ H1 λx H2=>ty σ H2 λy H3=>∃a H4,x=.ref a/\DPut H3 a y v H4/\D.nx σ H4
section
variable{X:Cx}{o i e value:Uu}{pos pos' tpos:Pos}{td ty tv:TE}
theorem CT(hu:X.A.units+1<cLine)(ho:PE X o td)(hi:PE X i ty)(hs:T5 i):PE X (.Subscript o i pos) (GL td ty):=by intro pins s σ H Q I h;refine CU PySem.F.slot_dict_getitem.lookup hs (thn (ho pins s σ H _ I h) λu s1 ⟨x,H1,I1,rx,q1⟩=>thn (hi pins s1 σ H1 _ I1 q1) λiv s2 ⟨y,H2,I2,ry,a,v,ex,g,q2⟩=>?_);subst ex;obtain rfl:u=Value.ref a:=rx;exact⟨jR I2 g,A9 hu I2 g ry λw' s3 I3 rw'=>⟨v,H2,I3,rw',q2⟩⟩
theorem CS(hu:X.A.units+1<cLine)(ho:PE X o td)(hi:PE X i ty)(hv:PE X value tv)(hs:swapsWith value (some (.Subscript o i pos')) pos.line X.env=pure false) :
  PS X (.Assign [.Subscript o i pos'] value pos) (GK td ty tv):=by
 intro pins s σ H D I h;refine wpAny_Assign_Subscript (thn (hv pins s σ H _ I h) λr s1 ⟨v,H1,I1,rv,q1⟩=>thn (ho pins s1 σ H1 _ I1 q1) λu s2 ⟨x,H2,I2,rx,q2⟩=>thn (hi pins s2 σ H2 _ I2 q2) λiv s3 ⟨y,H3,I3,ry,a,H4,ex,g,q3⟩=>?_) hs;subst ex;obtain rfl:u=Value.ref a:=rx;exact A8 hu I3 g ry rv λs4 I4=>⟨σ,H4,I4,q3⟩
end
theorem AD{P:Ur}{w:World}{H:Hp}(h:Heap)(hb:sysModules<h.objs.size):ZE P w H (h.push {cls:=.type "dict", data:=.dict #[]}) h.objs.size (.dK []):=
 ⟨Jw _,beq_eq_false_iff_ne.mpr (Ne.symm (QM hb)),[],.nil,Heap.DictOf.new h⟩
def EX:TE:=λ_ H Q=>∀p,H p=none->Q (.ref p) (upd H p (.dK []))
section
variable{X:Cx}{pos:Pos}
theorem AC:PE X (.Dict [] [] pos) EX:=λpins s σ H Q I h=>
 wpAny_Dict_empty ⟨.ref s.heap.objs.size,_,I.laid (a:=s.heap.objs.size) (o:=.dK []) (t':=s.toks) (λ_ _ q=>Qm _ q) (Qx _) (AD s.heap I.big),rfl,h _ (I.hok.fresh (Qx _))⟩
end
end L2
namespace L2
open PySem PySem.Spec
def Y3(bmB bm:List Up):Prop:=∀(X:String)(b:Bool),bmB.contains (.type X)=b->bm.contains (.type X)=b
def Yl(M:Model)(C:Us)(name:Str)(r:Option Up)(h:Heap):Prop:=∀(A:Around)(E:Up->Uq->Prop)(Q:Option Up->Uq->Prop)(h':Heap)(g:Array GenState)(d:Drawn)(t:Nat)(os:OsState),
 (∀b o,h.get? b=some o->h'.get? b=some o)->Q r ⟨h',g,d,t,os⟩->Uw M A (typeLookup (.ref C) name) Q E ⟨h',g,d,t,os⟩
theorem Yl.keeps{M:Model}{C:Us}{name:Str}{r:Option Up}{h h':Heap}(x:Yl M C name r h)(k:∀b o,h.get? b=some o->h'.get? b=some o):Yl M C name r h':=
 λA E Q h2 g d t os k2 q=>x A E Q h2 g d t os (λb o e=>k2 b o (k b o e)) q
theorem Yl.at{M:Model}{A:Around}{E:Up->Uq->Prop}{Q:Option Up->Uq->Prop}{C:Us}{name:Str}{r:Option Up}{h:Heap}{g:Array GenState}{d:Drawn}{t:Nat}{os:OsState}(x:Yl M C name r h)(q:Q r ⟨h,g,d,t,os⟩):Uw M A (typeLookup (.ref C) name) Q E ⟨h,g,d,t,os⟩:=
 x A E Q h g d t os (λ_ _ e=>e) q
section
variable{prog:Ur}{w:World}{A:Around}{E:Up->Uq->Prop}{h:Heap}{g:Array GenState}{d:Drawn}{t:Nat}{os:OsState}{R:Result->Uq->Prop}
variable{nm q:Str}{C N x:Us}{bs bm bmB:List Up}{hdct:Bool}{sn:List Str}{sub:List Up}{ab:Bool}{col:Option Bool}{dd:Option Us}{k0 k1 k2 k3 k5:Option Up}{B newId sa owner:String}{mN mA:Str->Option Up}{name:Str}{v:Up}
theorem A7{M:Model}{o:Obj}{nameV:Up}{Q:Unit->Uq->Prop}(T:Y3 bmB bm)(hb:bmB.contains (.type "BaseException")=true)(hC:h.get? C=some (excClassObj nm q C N bs bm hdct sn sub ab col dd k0 k1 k2 k3 k5 newId))
  (hx:h.get? x=some o) (hc:o.cls=.ref C) (hq:Q () ⟨h,g,d,t,os⟩):Uw M A (checkBuiltinCall "BaseException.__getattribute__" ⟨[.ref x,nameV],[]⟩) Q E ⟨h,g,d,t,os⟩:=by
 have hk:builtinKind "BaseException.__getattribute__" = some .slot:=by decide +kernel
 have hsplit:splitId "BaseException.__getattribute__" = some ("BaseException", "__getattribute__"):=by decide +kernel
 have hcB:(Value.ref C::bm).contains (.type "BaseException")=true:=by rw[List.contains_cons,T _ _ hb];rfl
 have ha:=PySem.F.args_bexc_ga (.ref x) nameV;simp only[checkBuiltinCall,hk,hsplit];refine Qf ?_
 ·unfold isInstance
  repeat (first|(with_reducible refine QK hx ?_;rw[hc])|(with_reducible refine Jp hC ?_;rw[hcB])|wp_step)
  exact hq
end
end L2
namespace L2
open PySem PySem.Spec PyProof.Rows PySem.Calls PyProof.V
def XO(fr:Bool)(e C:Us)(dd:Option Us):Heap->Prop:=λh=>∃vs sl,h.get? e=some {cls:=.ref C,dict:=dd,data:=.fields vs,slots:=sl}/\(fr=true->vs[1]?=some .none/\∃t0,vs[0]?=some (.ref t0))
abbrev VB:List Up:=[.type "ValueError", .type "Exception", .type "BaseException", .type "object"]
structure XCls(M:Model)(base:Heap)(C:Us)(bm:List Up)(fI:Us):Prop where
 obj:∃nm q N bs sn sub ab col dd k0 k1 k2 k3 k5,base.get? C=some (excClassObj nm q C N bs bm true sn sub ab col dd k0 k1 k2 k3 k5 "ValueError.__new__")
 tail:Y3 VB bm
 init:Yl M C "__init__" (some (.ref fI)) base
 fn:∃o,base.get? fI=some o/\o.cls=.type "function"
 sa:Yl M C "__setattr__" (some (.builtin "object.__setattr__")) base
 ga:Yl M C "__getattribute__" (some (.builtin "BaseException.__getattribute__")) base
 gh:Yl M C "__getattr__" none base
 cl:Yl M C "__class__" (some (.builtin "object.__class__")) base
 pass:∀v,refuseLoop v "__setattr__" bm=pure ()
def XD(dx:Us)(fs:List (Str×V)):Heap->Prop:=λh=>∃mA,h.Ns1 dx mA/\h.ExactDictFk dx/\(∀f,RelO (fs.lookup f) (mA f))/\PySem.Within mA (fs.map (·.1))
end L2
namespace L2
open PySem PySem.Spec
section
variable{prog:Ur}{w:World}{A:Around}{E:Up->Uq->Prop}{h:Heap}{g:Array GenState}{d:Drawn}{t:Nat}{os:OsState}{R:Result->Uq->Prop}
variable{nm q:Str}{C N a:Us}{bs bm bmB:List Up}{hdct:Bool}{sn:List Str}{sub:List Up}{ab:Bool}{col:Option Bool}{dd:Option Us}{k0 k1 k2 k3 k5:Option Up}{newId:String}{o:Obj}
theorem jD(T:Y3 bmB bm)(ho:bmB.contains (.type "object")=true)(hC:h.get? C=some (excClassObj nm q C N bs bm hdct sn sub ab col dd k0 k1 k2 k3 k5 newId))(hx:h.get? a=some o)(hc:o.cls=.ref C)(hq:R (.ok (.ret (.ref C))) ⟨h,g,d,t,os⟩) :
  codeAny (model prog w) A (.call (.builtin "getset_descriptor.__get__") ⟨[.builtin "object.__class__", .ref a,.ref C],[]⟩) R ⟨h,g,d,t,os⟩:=by
 have hT5:(⟨h,g,d,t,os⟩:Uq).TypeIs (.builtin "object.__class__") "getset_descriptor" :=PySem.F.typeOf_object_class;have hcB:(Value.ref C::bm).contains (.type (".".intercalate ("object.__class__".cutAt '.').dropLast))=true:=by rw[PySem.F.owner_object_class,List.contains_cons,T _ _ ho];rfl
 refine codeAny_call_builtin PySem.F.slot_gs_get.plain PySem.F.entry_gs_get (PySem.F.slot_gs_get.check _ _ _ _ _ _ _ _ hT5 (PySem.F.args_gs_get _ _ _) ?_)
 repeat (any_goals (first|assumption|(with_reducible refine QK hx ?_;rw[hc])|(with_reducible refine Jp hC ?_;rw[hcB])|wp_step))
 refine⟨Code.quiet_builtin _ (by decide +kernel),JF PySem.F.entry_object_class ?_⟩;unfold Builtin.«object.__class__»
 repeat (any_goals (first|assumption|(with_reducible refine QK hx ?_;rw[hc])|wp_step))
theorem ki{tk:Tok}{Q:PySem.Fin->Uq->Prop}(T:Y3 bmB bm)(ho:bmB.contains (.type "object")=true)(hC:h.get? C=some (excClassObj nm q C N bs bm hdct sn sub ab col dd k0 k1 k2 k3 k5 newId))(fc:Yl (model prog w) C "__class__" (some (.builtin "object.__class__")) h)(hx:h.get? a=some o)(hc:o.cls=.ref C)(hq:Q (.done (.ret (.ref C))) ⟨h,g,d,t,os⟩) :
  Uw (model prog w) A (Builtin.«object.__getattribute__» ⟨[.ref a,.str "__class__" tk],[]⟩) Q E ⟨h,g,d,t,os⟩:=by
 have hT5:(⟨h,g,d,t,os⟩:Uq).TypeIs (.builtin "object.__class__") "getset_descriptor" :=PySem.F.typeOf_object_class;have f5:=PySem.F.typeOf_object_class;have f6:=PySem.F.slot_gs_get.lookup;have f7:=PySem.F.slot_gs_set.lookup
 repeat (any_goals (first|assumption|(with_reducible refine QK hx ?_;rw[hc])|with_reducible refine fc.at ?_|wp_step))
 refine jD T ho hC hx hc ?_
 repeat (any_goals (first|assumption|wp_step))
theorem HP{Q:Option Up->Uq->Prop}(FB:ExcAttrFacts "ValueError")(T:Y3 VB bm)(hC:h.get? C=some (excClassObj nm q C N bs bm hdct sn sub ab col dd k0 k1 k2 k3 k5 newId))(fc:Yl (model prog w) C "__class__" (some (.builtin "object.__class__")) h)
  (fg:Yl (model prog w) C "__getattribute__" (some (.builtin "BaseException.__getattribute__")) h) (fa:Yl (model prog w) C "__getattr__" none h) (hx:h.get? a=some o) (hc:o.cls=.ref C) (hq:Q (some (.ref C)) ⟨h,g,d,t+1,os⟩) :
  Uw (model prog w) A (getAttr? (.ref a) "__class__") Q E ⟨h,g,d,t,os⟩:=by
 have f3:=FB.ga.bind (.ref a);have hx0:(false&&onTheHeap (Value.builtin "BaseException.__getattribute__"))=false:=rfl;have hx2:(Value.builtin "BaseException.__getattribute__" == Value.builtin "object.__getattribute__")=false:=by decide +kernel
 have hx1:(onTheHeap (Value.ref C)&&Value.builtin "BaseException.__getattribute__" == Value.builtin "object.__getattribute__")=false:=by rw[hx2];rfl
 unfold getAttr? getAttrBy?;refine Qf (wpAny_mkText (Qf (wpAny_attempt ?_)))
 repeat (any_goals (first|assumption|(with_reducible refine QK hx ?_;rw[hc])|with_reducible refine fg.at ?_|with_reducible refine fa.at ?_|wp_step))
 refine codeAny_call_builtin FB.ga.plain PySem.F.entry_bexc_ga (A7 T rfl hC hx hc (ki T rfl hC fc hx hc ?_))
 repeat (any_goals (first|assumption|wp_step))
end
end L2
namespace L2
open PySem PySem.Spec PyProof.Rows
section
variable{prog:Ur}{w:World}{A:Around}{E:Up->Uq->Prop}{h:Heap}{g:Array GenState}{d:Drawn}{t:Nat}{os:OsState}
variable{nm q nm' q':Str}{C N D N' a:Us}{bs bm bs' bm':List Up}{hdct hdct':Bool}{sn sn':List Str}{sub sub':List Up}{ab ab':Bool}{col col':Option Bool}{dd dd':Option Us}{k0 k1 k2 k3 k5 j0 j1 j2 j3 j5:Option Up}{newId newId':String}{o:Obj}{b:Bool}
theorem CQ{Q:Up->Uq->Prop}(T:Y3 VB bm)(hC:h.get? C=some (excClassObj nm q C N bs bm hdct sn sub ab col dd k0 k1 k2 k3 k5 newId))(hD:h.get? D=some (excClassObj nm' q' D N' bs' bm' hdct' sn' sub' ab' col' dd' j0 j1 j2 j3 j5 newId'))
  (fc:Yl (model prog w) C "__class__" (some (.builtin "object.__class__")) h) (fg:Yl (model prog w) C "__getattribute__" (some (.builtin "BaseException.__getattribute__")) h) (fa:Yl (model prog w) C "__getattr__" none h)
  (hx:h.get? a=some o) (hc:o.cls=.ref C) (hb:(Value.ref C::bm).contains (.ref D)=b) (hq:∀tk,Q (.bool b) ⟨h,g,d,tk,os⟩):Uw (model prog w) A (call (.builtin "isinstance") [.ref a,.ref D]) Q E ⟨h,g,d,t,os⟩:=by
 have hT:(⟨h,g,d,t,os⟩:Uq).TypeIs (.ref D) "type" :=⟨_,hD,rfl⟩
 have f2:=tc_sub;refine call_isinstance_of ?_ (λz=>nomatch z);unfold Builtin.«isinstance.nested»;refine Qf ?_;unfold typeOf;refine Qf (QK hx (Qn ?_));rw[hc];by_cases e:C=D
 ·subst e;have hb1:b=true:=by rw[←hb];simp
  subst hb1;rw[if_pos (by simp)];exact Qf (wpAny_rule (Qn (hq t)))
 ·rw[if_neg (by simp[e])];refine Qf (Qf (QK hD (Qn ?_)));rw[Qk (show(Value.type "type" == Value.type "type")=true by decide)]
  k_delta "plainIsInstance"
  unfold isType isInstance
  repeat (first|(with_reducible refine QK hx ?_;rw[hc])|with_reducible refine QK hD ?_|with_reducible refine QK hC ?_|(with_reducible refine Jp hC ?_;rw[hb])|wp_step)
  cases b with
  |true=>wp_walk;exact hq t
  |false=>
   rw[Qs (by decide)];refine Qf (HP PySem.F.excAttr_ValueError T hC fc fg fa hx hc ?_)
   repeat (first|with_reducible refine QK hC ?_|(with_reducible refine Jp hC ?_;rw[hb])|wp_step)
   exact hq _
theorem EW{Q:Up->Uq->Prop}{X:String}(T:Y3 VB bm)(hC:h.get? C=some (excClassObj nm q C N bs bm hdct sn sub ab col dd k0 k1 k2 k3 k5 newId))(hX:typeOf (.type X)=pure (.type "type"))
  (fc:Yl (model prog w) C "__class__" (some (.builtin "object.__class__")) h) (fg:Yl (model prog w) C "__getattribute__" (some (.builtin "BaseException.__getattribute__")) h) (fa:Yl (model prog w) C "__getattr__" none h)
  (hx:h.get? a=some o) (hc:o.cls=.ref C) (hb:(Value.ref C::bm).contains (.type X)=b) (hq:∀tk,Q (.bool b) ⟨h,g,d,tk,os⟩):Uw (model prog w) A (call (.builtin "isinstance") [.ref a,.type X]) Q E ⟨h,g,d,t,os⟩:=by
 refine call_isinstance_of ?_ (λz=>nomatch z);unfold Builtin.«isinstance.nested»;refine Qf ?_;have ty:∀{M:Model}{A:Around}{Q:Up->Uq->Prop}{E:Up->Uq->Prop},Q (.ref C) ⟨h,g,d,t,os⟩->Uw M A (typeOf (.ref a)) Q E ⟨h,g,d,t,os⟩:=λq=>by unfold typeOf;refine Qf (QK hx (Qn ?_));rw[hc];exact q
 refine ty ?_;rw[if_neg (by simp)];refine Qf (wpAny_of_eq hX ?_);rw[Qk (show(Value.type "type" == Value.type "type")=true by decide)]
 k_delta "plainIsInstance"
 unfold isType isInstance
 repeat (first|(with_reducible refine QK hx ?_;rw[hc])|with_reducible refine QK hC ?_|(with_reducible refine Jp hC ?_;rw[hb])|wp_step)
 cases b with
 |true=>wp_walk;exact hq t
 |false=>
  rw[Qs (by decide)];refine Qf (HP PySem.F.excAttr_ValueError T hC fc fg fa hx hc ?_)
  repeat (first|with_reducible refine QK hC ?_|(with_reducible refine Jp hC ?_;rw[hb])|wp_step)
  exact hq _
end
def rIsX(KC:Us->List Up->Prop):List V->Hp->VK->Prop:=λxs H Q=>∃a C dd bm fr c b,xs=[.ref a,c]/\KC C bm/\H a=some (.ext (XO fr a C dd)) /\
 ((∃D bm',c=.ref D/\KC D bm'/\(Value.ref C::bm).contains (.ref D)=b) ∨ ∃T,c=.ty T/\typeOf (.type T)=pure (.type "type")/\(Value.ref C::bm).contains (.type T)=b)/\Q (.bl b) H
theorem AB{X:Cx}{KC:Us->List Up->Prop}(hcls:∀C bm,KC C bm->∃fI,XCls (model X.prog X.w) X.base C bm fI):YS X (.builtin "isinstance") (rIsX KC):=by
 rintro pins s σ H xs us Q I r ⟨a,C,dd,bm,fr,c,b,rfl,kc,hx,hD,q⟩;cases r with
 |cons ra r=>
 cases r with
 |cons rc r=>
 cases r;have ra':_=Value.ref a:=ra;subst ra';obtain⟨fI,XC⟩:=hcls C bm kc;obtain⟨nm,qn,N,bs,sn,sub,ab,col,dd1,k0,k1,k2,k3,k5,hC⟩:=XC.obj;obtain⟨⟨vs,sl,ga,_⟩,_,_⟩:=I.hok a _ hx;obtain⟨hp,g,d,tk,os⟩:=s;rcases hD with ⟨D,bm',rfl,kd,hb⟩|⟨T,rfl,hT,hb⟩
 ·have rc':_=Value.ref D:=rc;subst rc';obtain⟨fI',XD'⟩:=hcls D bm' kd;obtain⟨nm',qn',N',bs',sn',sub',ab',col',dd2,j0,j1,j2,j3,j5,hD'⟩:=XD'.obj;exact CQ XC.tail (I.bk _ _ hC) (I.bk _ _ hD') (XC.cl.keeps I.bk) (XC.ga.keeps I.bk) (XC.gh.keeps I.bk) ga rfl hb λtk'=>⟨.bl b,H,I.tok tk',rfl,q⟩
 ·have rc':_=Value.type T:=rc;subst rc';exact EW XC.tail (I.bk _ _ hC) hT (XC.cl.keeps I.bk) (XC.ga.keeps I.bk) (XC.gh.keeps I.bk) ga rfl hb λtk'=>⟨.bl b,H,I.tok tk',rfl,q⟩
def GJ(nm:Str):List Str:=if nm = "NoWishes" then ["part", "number"]else if nm = "NoAim" then ["part"]else if nm = "NoText" then ["row"]else []
def Nv(K:Frag)(nm:Str):Option Us:=match PySem.W.nsIn K mainGlobals nm with|some (some (.ref C))=>some C|_=>none
def NmAt(K:Frag)(nm:Str)(C:Us):Prop:=∃o cd,K.lookup C=some o/\o.data=.cls cd/\cd.name=nm
structure ClsK(K:Frag)(nm:Str)(C:Us)(bm:List Up):Prop where
 ad:Nv K nm=some C
 nmd:NmAt K nm C
 up:nm = "DealError" /\ bm=VB∨nm ≠ "DealError" /\ ∃D,Nv K "DealError" = some D/\bm=.ref D::VB/\NmAt K "DealError" D
 cls:∀(M:Model)(h:Heap),K.In h->∃fI,XCls M h C bm fI
 fld:∀(M:Model)(h:Heap),K.In h->∀f∈(["part", "number", "row"]:List Str),Yl M C f none h
def KC(K:Frag):Us->List Up->Prop:=λC bm=>∃nm,ClsK K nm C bm
section
variable{K:Frag}{nm x:Str}{C D:Us}{bm bm':List Up}
theorem ClsK.ty(c:ClsK K nm C bm)(T:String):(Value.ref C::bm).contains (.type T)=VB.contains (.type T):=by
 rcases c.up with ⟨_,rfl⟩|⟨_,D',g,rfl,n⟩
 ·rfl
 ·rfl
end
section
variable{X:Cx}{e:Uu}{st:Stmt}{sts:List Stmt}{t:TE}{ts:TS}
theorem GI(k:X.K.In X.base):∀C bm,KC X.K C bm->∃fI,XCls (model X.prog X.w) X.base C bm fI:=λ_ _ ⟨_,c⟩=>c.cls _ _ k
end
end L2
namespace DL
open PySem PySem.Spec L2
open PyProof.Rows hiding St
abbrev D:=PyData
abbrev XW:=V->St->Hp->Prop
abbrev KX0:XW:=λ_ _ _=>False
def XFs(G:Hp)(dd:Option Us)(fs:List Str)(vs:List V):Prop:=match dd with
 |none=>fs=[]/\vs=[]
 |some dx=>fs.length=vs.length/\G dx=some (.ext (XD dx (fs.zip vs)))
theorem XFs.mono{G G1:Hp}{dd:Option Us}{fs:List Str}{vs:List V}(e:Same G G1)(h:XFs G dd fs vs):XFs G1 dd fs vs:=by
 cases dd with
 |none=>exact h
 |some dx=>exact⟨h.1,e _ _ h.2⟩
def kD:Key->D
 |.inl i=>.int i
 |.inr x=>.str x
def tkD(k:List Key):D:=.tuple (k.map kD)
def pdD(ks:List (List Key))(ds:List D):List (D×D):=(.bool true,.none)::(ks.map tkD).zip ds
mutual
inductive Rep(K:Frag)(G:Hp):V->D->Prop where
 |non:Rep K G .non .none
 |bl (b:Bool):Rep K G (.bl b) (.bool b)
 |int (i:Int):Rep K G (.int i) (.int i)
 |str (x:Str):Rep K G (.str x) (.str x)
 |lst {a:Us} {vs:List V} {ds:List D} (h:SqL K G a vs) (r:Reps K G vs ds):Rep K G (.ref a) (.list ds)
 |tup {a:Us} {vs:List V} {ds:List D} (h:SqT K G a vs) (r:Reps K G vs ds):Rep K G (.ref a) (.tuple ds)
 |dic {a:Us} (h:G a=some (.dK [])):Rep K G (.ref a) (.dict [])
 |exc {a C:Us} {dd:Option Us} {bm:List Up} {nm:Str} {vs:List V} {ds:List D} (c:ClsK K nm C bm) (h:G a=some (.ext (XO false a C dd))) (hd:XFs G dd (GJ nm) vs) (r:Reps K G vs ds):Rep K G (.ref a) (.dict [(.none,.tuple [.str nm,.list ds])])
 |dct {a:Us} {ks:List Key} {vs:List V} {ds:List D} {kvs:List (D×D)} (e:kvs=(ks.map kD).zip ds) (hne:ks≠[]) (hl:ks.length=ds.length) (h:G a=some (.dK (ks.zip vs))) (r:Reps K G vs ds):Rep K G (.ref a) (.dict kvs)
 |dtt {a:Us} {o:Obj} {ks:List (List Key)} {vs:List V} {ds:List D} {kvs:List (D×D)} (e:kvs=pdD ks ds) (hl:ks.length=ds.length) (h:G a=some (.frz o (.dT (ks.zip vs)))) (r:Reps K G vs ds):Rep K G (.ref a) (.dict kvs)
inductive Reps(K:Frag)(G:Hp):List V->List D->Prop where
 |nil:Reps K G [] []
 |cons {v:V} {d:D} {vs:List V} {ds:List D} (h:Rep K G v d) (t:Reps K G vs ds):Reps K G (v::vs) (d::ds)
end
variable{K:Frag}{B G0 G G1 G2 H H1 H2:Hp}
theorem Xb{a:Us}{xs:List V}(e:Same G G1)(h:SqT K G a xs):SqT K G1 a xs:=by
 rcases h with (h|⟨o,h⟩)|h
 ·exact .inl (.inl (e _ _ h))
 ·exact .inl (.inr ⟨o,e _ _ h⟩)
 ·exact .inr h
theorem Rep.mono(e:Same G G1){v:V}{d:D}(r:Rep K G v d):Rep K G1 v d:=Rep.rec (motive_1:=λv d _=>Rep K G1 v d) (motive_2:=λvs ds _=>Reps K G1 vs ds) .non .bl .int .str (λh _ r=>.lst (e.seq h) r) (λh _ r=>.tup (Xb e h) r) (λh=>.dic (e _ _ h)) (λc h hd _ r=>.exc c (e _ _ h) (hd.mono e) r) (λz n l h _ r=>.dct z n l (e _ _ h) r) (λz l h _ r=>.dtt z l (e _ _ h) r) .nil (λ_ _=>.cons) r
theorem Reps.mono(e:Same G G1){vs:List V}{ds:List D}(r:Reps K G vs ds):Reps K G1 vs ds:=Reps.rec (motive_1:=λv d _=>Rep K G1 v d) (motive_2:=λvs ds _=>Reps K G1 vs ds) .non .bl .int .str (λh _ r=>.lst (e.seq h) r) (λh _ r=>.tup (Xb e h) r) (λh=>.dic (e _ _ h)) (λc h hd _ r=>.exc c (e _ _ h) (hd.mono e) r) (λz n l h _ r=>.dct z n l (e _ _ h) r) (λz l h _ r=>.dtt z l (e _ _ h) r) .nil (λ_ _=>.cons) r
section
variable{v:V}{vs ws:List V}{ds es:List D}
theorem Rep.bl_inv{b:Bool}(h:Rep K G v (.bool b)):v=.bl b:=by cases h;rfl
theorem Rep.int_inv{i:Int}(h:Rep K G v (.int i)):v=.int i:=by cases h;rfl
theorem Rep.str_inv{x:Str}(h:Rep K G v (.str x)):v=.str x:=by cases h;rfl
theorem Rep.lst_inv(h:Rep K G v (.list ds)):∃a vs,v=.ref a/\SqL K G a vs/\Reps K G vs ds:=by
 cases h with
 |lst h r=>exact⟨_,_,rfl,h,r⟩
theorem Rep.tup_inv(h:Rep K G v (.tuple ds)):∃a vs,v=.ref a/\SqT K G a vs/\Reps K G vs ds:=by
 cases h with
 |tup h r=>exact⟨_,_,rfl,h,r⟩
theorem Reps.length:∀{vs:List V}{ds:List D},Reps K G vs ds->vs.length=ds.length
 |_,_,.nil=>rfl
 |_,_,.cons _ t=>by rw[Qv,Qv,Reps.length t]
theorem Reps.get:∀{vs:List V}{ds:List D}{i:Nat}{d:D},Reps K G vs ds->ds[i]?=some d->∃v,vs[i]?=some v/\Rep K G v d
 |_,_,_,_,.nil,e=>by simp at e
 |_,_,0,_,.cons h _,e=>by simp at e;subst e;exact⟨_,rfl,h⟩
 |_,_,i+1,d,.cons _ t,e=>by obtain⟨u,h1,h2⟩:=Reps.get (i:=i) (d:=d) t (by simpa using e);exact⟨u,by simpa using h1,h2⟩
theorem Reps.append:∀{vs ws:List V}{ds es:List D},Reps K G vs ds->Reps K G ws es->Reps K G (vs++ws) (ds++es)
 |_,_,_,_,.nil,s=>s
 |_,_,_,_,.cons r t,s=>.cons r (Reps.append t s)
theorem Reps.take:∀{vs:List V}{ds:List D}(n:Nat),Reps K G vs ds->Reps K G (vs.take n) (ds.take n)
 |_,_,0,_=>by rw[JV,JV];exact .nil
 |_,_,_+1,.nil=>.nil
 |_,_,n+1,.cons r t=>.cons r (Reps.take n t)
theorem Reps.drop:∀{vs:List V}{ds:List D}(n:Nat),Reps K G vs ds->Reps K G (vs.drop n) (ds.drop n)
 |_,_,0,r=>r
 |_,_,_+1,.nil=>.nil
 |_,_,n+1,.cons _ t=>Reps.drop n t
theorem Reps.reverse:∀{vs:List V}{ds:List D},Reps K G vs ds->Reps K G vs.reverse ds.reverse
 |_,_,.nil=>.nil
 |_,_,.cons r t=>by rw[List.reverse_cons,List.reverse_cons];exact Reps.append (Reps.reverse t) (.cons r .nil)
theorem Reps.set{v:V}{d:D}(r:Rep K G v d):∀{vs:List V}{ds:List D}(i:Nat),Reps K G vs ds->Reps K G (vs.set i v) (ds.set i d)
 |_,_,_,.nil=>.nil
 |_,_,0,.cons _ t=>.cons r t
 |_,_,i+1,.cons q t=>.cons q (Reps.set r i t)
theorem Reps.ints:∀(ns:List Int),Reps K G (ns.map V.int) (ns.map int)
 |[]=>.nil
 |n::ns=>.cons (.int n) (Reps.ints ns)
end
inductive MO where
 |l (vs:List V)|k (kvs:List (Key×V))|t (kvs:List (List Key×V))|s (S:Int->Bool) (n:Nat)
def MO.ho:MO->HO
 |.l vs=>.lst vs
 |.k kvs=>.dK kvs
 |.t kvs=>.dT kvs
 |.s S n=>.set S n
structure Ext(G H G' H':Hp):Prop where
 h:Same H H'
 g:Same G G'
 gh:Same G' H'
 np:∀a(u:MO),H a=some u.ho->G a=none->G' a=none
theorem Ext.refl(e:Same G H):Ext G H G H:=⟨.refl _,.refl _,e,λ_ _ _ q=>q⟩
theorem Zx{p:Us}{o:HO}(h:H p=none):Same H (upd H p o):=λb u e=>by rw[Kz (Ym e h)];exact e
theorem Ext.new{p:Us}{o:HO}(e:Same G H)(h:H p=none):Ext G H (upd G p o) (upd H p o):=by
 have hg:G p=none:=e.free h;refine⟨Zx h,Zx hg,λb u q=>?_,λa u q n=>?_⟩
 ·by_cases z:b=p
  ·subst z;rw[Zf]at q⊢;exact q
  ·rw[Kz z]at q⊢;exact e b u q
 ·rw[Kz (Ym q h)];exact n
theorem Ext.hid{p:Us}{o:HO}(e:Same G H)(h:H p=none):Ext G H G (upd H p o):=
 ⟨Zx h,.refl _,e.trans (Zx h),λ_ _ _ n=>n⟩
inductive Pat where
 |leaf|lst (p:Pat)|tup (ps:List Pat)|dic
mutual
inductive RepO(K:Frag)(G H:Hp):Pat->V->D->List Us->Prop where
 |leaf {v:V} {d:D} (r:Rep K G v d):RepO K G H .leaf v d []
 |lst {p:Pat} {a:Us} {vs:List V} {ds:List D} {fp:List Us} (h:H a=some (.lst vs)) (r:RepOl K G H p vs ds fp):RepO K G H (.lst p) (.ref a) (.list ds) (a::fp)
 |tup {ps:List Pat} {a:Us} {vs:List V} {ds:List D} {fp:List Us} (h:H a=some (.tup vs)) (r:RepOs K G H ps vs ds fp):RepO K G H (.tup ps) (.ref a) (.tuple ds) fp
 |dic {a:Us} {ks:List Key} {vs:List V} {ds:List D} {kvs:List (D×D)} (e:kvs=(ks.map kD).zip ds) (hl:ks.length=ds.length) (h:H a=some (.dK (ks.zip vs))) (r:Reps K G vs ds):RepO K G H .dic (.ref a) (.dict kvs) [a]
inductive RepOl(K:Frag)(G H:Hp):Pat->List V->List D->List Us->Prop where
 |nil {p:Pat}:RepOl K G H p [] [] []
 |cons {p:Pat} {v:V} {d:D} {vs:List V} {ds:List D} {f1 f2:List Us} (h:RepO K G H p v d f1) (t:RepOl K G H p vs ds f2):RepOl K G H p (v::vs) (d::ds) (f1++f2)
inductive RepOs(K:Frag)(G H:Hp):List Pat->List V->List D->List Us->Prop where
 |nil:RepOs K G H [] [] [] []
 |cons {p:Pat} {ps:List Pat} {v:V} {d:D} {vs:List V} {ds:List D} {f1 f2:List Us} (h:RepO K G H p v d f1) (t:RepOs K G H ps vs ds f2):RepOs K G H (p::ps) (v::vs) (d::ds) (f1++f2)
end
def XA(K:Frag)(G H:Hp)(M1:Pat->V->D->List Us->Prop)(M2:Pat->List V->List D->List Us->Prop)(M3:List Pat->List V->List D->List Us->Prop):Prop:=
 (∀{p v d fp},RepO K G H p v d fp->M1 p v d fp)/\(∀{p vs ds fp},RepOl K G H p vs ds fp->M2 p vs ds fp)/\∀{ps vs ds fp},RepOs K G H ps vs ds fp->M3 ps vs ds fp
theorem RepO.ind3{M1:Pat->V->D->List Us->Prop}{M2:Pat->List V->List D->List Us->Prop}{M3:List Pat->List V->List D->List Us->Prop}
  (c1:∀{v d},Rep K G v d->M1 .leaf v d []) (c2:∀{p a vs ds fp},H a=some (.lst vs)->M2 p vs ds fp->M1 (.lst p) (.ref a) (.list ds) (a::fp)) (c3:∀{ps a vs ds fp},H a=some (.tup vs)->M3 ps vs ds fp->M1 (.tup ps) (.ref a) (.tuple ds) fp)
  (c4:∀{a:Us}{ks:List Key}{vs:List V}{ds:List D}{kvs:List (D×D)},kvs=(ks.map kD).zip ds->ks.length=ds.length->H a=some (.dK (ks.zip vs))->Reps K G vs ds->M1 .dic (.ref a) (.dict kvs) [a])
  (c5:∀{p},M2 p [] [] []) (c6:∀{p v d vs ds f1 f2},M1 p v d f1->M2 p vs ds f2->M2 p (v::vs) (d::ds) (f1++f2)) (c7:M3 [] [] [] []) (c8:∀{p ps v d vs ds f1 f2},M1 p v d f1->M3 ps vs ds f2->M3 (p::ps) (v::vs) (d::ds) (f1++f2)) :
  XA K G H M1 M2 M3:=
 ⟨λh=>RepO.rec (motive_1:=λp v d fp _=>M1 p v d fp) (motive_2:=λp v d fp _=>M2 p v d fp) (motive_3:=λp v d fp _=>M3 p v d fp) c1 (λh _=>c2 h) (λh _=>c3 h) c4 c5 (λ_ _=>c6) c7 (λ_ _=>c8) h,
  λh=>RepOl.rec (motive_1:=λp v d fp _=>M1 p v d fp) (motive_2:=λp v d fp _=>M2 p v d fp) (motive_3:=λp v d fp _=>M3 p v d fp) c1 (λh _=>c2 h) (λh _=>c3 h) c4 c5 (λ_ _=>c6) c7 (λ_ _=>c8) h,
  λh=>RepOs.rec (motive_1:=λp v d fp _=>M1 p v d fp) (motive_2:=λp v d fp _=>M2 p v d fp) (motive_3:=λp v d fp _=>M3 p v d fp) c1 (λh _=>c2 h) (λh _=>c3 h) c4 c5 (λ_ _=>c6) c7 (λ_ _=>c8) h⟩
theorem RepO.mono3(sg:Same G G1)(sh:Same H H1):XA K G H (RepO K G1 H1) (RepOl K G1 H1) (RepOs K G1 H1):=
 RepO.ind3 (λr=>.leaf (r.mono sg)) (λh r=>.lst (sh _ _ h) r) (λh r=>.tup (sh _ _ h) r) (λe hl h r=>.dic e hl (sh _ _ h) (r.mono sg)) .nil .cons .nil .cons
theorem RepO.mono(sg:Same G G1)(sh:Same H H1){p:Pat}{v:V}{d:D}{fp:List Us}(r:RepO K G H p v d fp):RepO K G1 H1 p v d fp:=(RepO.mono3 sg sh).1 r
theorem RepO.upd3{a:Us}{o:HO}(nt:∀vs,H a≠some (.tup vs)):XA K G H (λp v d fp=>a∉fp->RepO K G (upd H a o) p v d fp) (λp v d fp=>a∉fp->RepOl K G (upd H a o) p v d fp) (λp v d fp=>a∉fp->RepOs K G (upd H a o) p v d fp):=
 RepO.ind3
 (λr _=>.leaf r) (λh r n=>.lst (by rw[Kz (λz=>n (by rw[z];exact Qo))];exact h) (r λz=>n (Ql _ z))) (λh r n=>.tup (by rw[Kz (λz=>by subst z;exact nt _ h)];exact h) (r n))
 (λe hl h r n=>.dic e hl (by rw[Kz (λz=>n (by rw[z];exact Qo))];exact h) r) (λ_=>.nil) (λh t n=>.cons (h λz=>n (Jf _ z)) (t λz=>n (QJ _ z))) (λ_=>.nil) (λh t n=>.cons (h λz=>n (Jf _ z)) (t λz=>n (QJ _ z)))
theorem RepO.upd{a:Us}{o:HO}(nt:∀vs,H a≠some (.tup vs)){p:Pat}{v:V}{d:D}{fp:List Us}(r:RepO K G H p v d fp)(n:a∉fp):RepO K G (upd H a o) p v d fp:=(RepO.upd3 nt).1 r n
theorem RepO.rep3(gh:Same G H):XA K G H (λ_ v d _=>Rep K H v d) (λ_ v d _=>Reps K H v d) (λ_ v d _=>Reps K H v d):=
 RepO.ind3 (λr=>r.mono gh) (λh r=>.lst (SqL.of h) r) (λh r=>.tup (SqT.of h) r)
 (λ{a ks vs ds kvs} e hl h r=>by
  cases ks with
  |nil=>subst e;exact .dic h
  |cons k ks=>exact .dct e (λz=>by cases z) hl h (r.mono gh)) .nil .cons .nil .cons
theorem RepO.rep(gh:Same G H){p:Pat}{v:V}{d:D}{fp:List Us}(r:RepO K G H p v d fp):Rep K H v d:=(RepO.rep3 gh).1 r
theorem RepO.isl3:XA K G H (λ_ _ _ fp=>∀a∈fp,∃u:MO,H a=some u.ho) (λ_ _ _ fp=>∀a∈fp,∃u:MO,H a=some u.ho) (λ_ _ _ fp=>∀a∈fp,∃u:MO,H a=some u.ho):=
 RepO.ind3 (λ_ a m=>by cases m)
 (λh r b m=>(QT.mp m).elim (λe=>⟨.l _,e ▸ h⟩) (r b)) (λ_ r=>r) (λ_ _ h _ b m=>⟨.k _,Q4.mp m ▸ h⟩) (λa m=>by cases m) (λh t b m=>(Q0.mp m).elim (h b) (t b)) (λa m=>by cases m) (λh t b m=>(Q0.mp m).elim (h b) (t b))
theorem RepO.isl{p:Pat}{v:V}{d:D}{fp:List Us}(r:RepO K G H p v d fp):∀a∈fp,∃u:MO,H a=some u.ho:=RepO.isl3.1 r
theorem RepO.uniq3(sh:Same H H1):XA K G H (λp v _ fp=>∀d' fp',RepO K G1 H1 p v d' fp'->fp=fp') (λp v _ fp=>∀d' fp',RepOl K G1 H1 p v d' fp'->fp=fp') (λp v _ fp=>∀d' fp',RepOs K G1 H1 p v d' fp'->fp=fp'):=
 RepO.ind3
 (λ_ d' fp' h=>by cases h;rfl)
 (λh r d' fp' h'=>by
  cases h' with
  |lst h2 r2=>have e:=sh _ _ h;rw[h2]at e;cases e;rw[r _ _ r2])
 (λh r d' fp' h'=>by
  cases h' with
  |tup h2 r2=>have e:=sh _ _ h;rw[h2]at e;cases e;exact r _ _ r2)
 (λ_ _ _ _ d' fp' h=>by cases h;rfl) (λd' fp' h=>by cases h;rfl)
 (λh t d' fp' h'=>by
  cases h' with
  |cons h2 t2=>rw[h _ _ h2,t _ _ t2])
 (λd' fp' h=>by cases h;rfl)
 (λh t d' fp' h'=>by
  cases h' with
  |cons h2 t2=>rw[h _ _ h2,t _ _ t2])
theorem RepO.uniq(sh:Same H H1){p:Pat}{v:V}{d d':D}{fp fp':List Us}(r:RepO K G H p v d fp)(r':RepO K G1 H1 p v d' fp'):fp=fp':=(RepO.uniq3 sh).1 r _ _ r'
inductive Sl where
 |pub (d:D)|own (ds:List D)|deep (p:Pat) (d:D)
abbrev UP:=List (Option Sl)
def DpOk(K:Frag)(B G H:Hp)(σ:St)(Z:UP):Prop:=∃ω:Us->Nat,
 (∀(i:Nat) p d,Z[i]?=some (some (.deep p d))->∃v fp,σ[i]?=some (some v)/\RepO K G H p v d fp/\fp.Nodup/\∀a∈fp,B a=none/\G a=none/\ω a=i) /\
 (∀(i:Nat) ds a,Z[i]?=some (some (.own ds))->σ[i]?=some (some (.ref a))->ω a=i)
theorem DpOk.of{σ:St}{Z:UP}(h1:∀(i:Nat) p d,Z[i]?=some (some (.deep p d))->False)(h2:∀(i:Nat) ds,Z[i]?=some (some (.own ds))->False):DpOk K B G H σ Z:=
 ⟨λ_=>0,λi p d q=>(h1 i p d q).elim,λi ds a q=>(h2 i ds q).elim⟩
theorem DpOk.map{B1:Hp}{σ σ1:St}{Z Z1:UP}(k:DpOk K B G H σ Z)
  (h1:∀(i:Nat) p d,Z1[i]?=some (some (.deep p d))->Z[i]?=some (some (.deep p d))/\σ1[i]?=σ[i]?)
  (h2:∀(i:Nat) ds,Z1[i]?=some (some (.own ds))->∃es,Z[i]?=some (some (.own es))/\σ1[i]?=σ[i]?)
  (h3:∀(i:Nat) p d v fp,Z[i]?=some (some (.deep p d))->σ[i]?=some (some v)->RepO K G H p v d fp->(∀a∈fp,B a=none/\G a=none)->(∀(j:Nat) ds a,Z[j]?=some (some (.own ds))->σ[j]?=some (some (.ref a))->a∉fp)->RepO K G1 H1 p v d fp/\∀a∈fp,B1 a=none/\G1 a=none):DpOk K B1 G1 H1 σ1 Z1:=by
 obtain⟨ω,k1,k2⟩:=k;refine⟨ω,λi p d q=>?_,λi ds a q s=>?_⟩
 ·obtain⟨q1,e1⟩:=h1 i p d q;obtain⟨v,fp,s,r,n,w⟩:=k1 i p d q1;obtain⟨r1,w1⟩:=h3 i p d v fp q1 s r (λa m=>⟨(w a m).1,(w a m).2.1⟩) λj ds a qj sj m=>by have z1:=k2 j ds a qj sj;have z2:=(w a m).2.2;rw[z1]at z2;subst z2;rw[q1]at qj;cases qj
  exact⟨v,fp,by rw[e1];exact s,r1,n,λa m=>⟨(w1 a m).1,(w1 a m).2,(w a m).2.2⟩⟩
 ·obtain⟨es,q1,e1⟩:=h2 i ds q;rw[e1]at s;exact k2 i es a q1 s
structure EOk(K:Frag)(B G0 G H:Hp)(σ:St)(Z:UP):Prop where
 bh:Same B H
 gh:Same G H
 g0:Same G0 G
 np:∀a(u:MO),B a=some u.ho->G0 a=none->G a=none
 len:Z.length=σ.length
 pub:∀(i:Nat) d,Z[i]?=some (some (.pub d))->∃v,σ[i]?=some (some v)/\Rep K G v d
 own:∀(i:Nat) ds,Z[i]?=some (some (.own ds))->∃a vs,σ[i]?=some (some (.ref a))/\B a=none/\G a=none/\H a=some (.lst vs)/\Reps K G vs ds
 sep:∀(i j:Nat) a ds es,Z[i]?=some (some (.own ds))->Z[j]?=some (some (.own es))->σ[i]?=some (some (.ref a))->σ[j]?=some (some (.ref a))->i=j
 dp:DpOk K B G H σ Z
theorem EOk.ext{G' H':Hp}{σ:St}{Z:UP}(k:EOk K B G0 G H σ Z)(e:Ext G H G' H'):EOk K B G0 G' H' σ Z where
 bh:=k.bh.trans e.h
 gh:=e.gh
 g0:=k.g0.trans e.g
 np:=λa o q n=>e.np a o (k.bh a _ q) (k.np a o q n)
 len:=k.len
 pub:=λi d q=>let ⟨v,h1,h2⟩:=k.pub i d q;⟨v,h1,h2.mono e.g⟩
 own:=λi ds q=>let ⟨a,vs,h1,h2,h3,h4,h5⟩:=k.own i ds q;⟨a,vs,h1,h2,e.np a (.l _) h4 h3,e.h a _ h4,h5.mono e.g⟩
 sep:=k.sep
 dp:=k.dp.map (λ_ _ _ q=>⟨q,rfl⟩) (λ_ ds q=>⟨ds,q,rfl⟩) λi p d v fp q s r w n=>⟨r.mono e.g e.h,λa m=>let ⟨_,hl⟩:=r.isl a m;⟨(w a m).1,e.np a _ hl (w a m).2⟩⟩
theorem EOk.publish{σ:St}{Z:UP}{i:Nat}{ds:List D}(k:EOk K B G0 G H σ Z)(h:Z[i]?=some (some (.own ds))) :
  ∃a G',σ[i]?=some (some (.ref a))/\Same G G'/\Rep K G' (.ref a) (.list ds)/\EOk K B G0 G' H σ (Z.set i (some (.pub (.list ds)))):=by
 obtain⟨a,vs,h1,h2,h3,h4,h5⟩:=k.own i ds h;have sg:Same G (upd G a (.lst vs)):=Zx h3;have hr:Rep K (upd G a (.lst vs)) (.ref a) (.list ds):=.lst (SqL.of Zf) (h5.mono sg);refine⟨a,upd G a (.lst vs),h1,sg,hr,⟨k.bh,λb u q=>?_,k.g0.trans sg,λb o q n=>?_,by rw[Q5];exact k.len,λj d q=>?_,λj es q=>?_,λj l c es fs q1 q2 s1 s2=>?_,?_⟩⟩
 ·by_cases z:b=a
  ·subst z;rw[Zf]at q;cases q;exact h4
  ·rw[Kz z]at q;exact k.gh b u q
 ·have z:b≠a:=λz=>by subst z;rw[h2]at q;cases q
  rw[Kz z];exact k.np b o q n
 ·by_cases z:i=j
  ·subst z;have hl:i<Z.length:=(Qg.mp h).1;rw[QH hl]at q;cases q;exact⟨.ref a,h1,hr⟩
  ·rw[Qp z]at q;obtain⟨v,g1,g2⟩:=k.pub j d q;exact⟨v,g1,g2.mono sg⟩
 ·by_cases z:i=j
  ·subst z;have hl:i<Z.length:=(Qg.mp h).1;rw[QH hl]at q;cases q
  ·rw[Qp z]at q;obtain⟨b,ws,g1,g2,g3,g4,g5⟩:=k.own j es q;have zb:b≠a:=λe=>z (k.sep i j a ds es h q h1 (by rw[←e];exact g1))
   exact⟨b,ws,g1,g2,by rw[Kz zb];exact g3,g4,g5.mono sg⟩
 ·have nz:∀{m:Nat}{ts:List D},(Z.set i (some (Sl.pub (.list ds))))[m]?=some (some (.own ts))->Z[m]?=some (some (.own ts)):=λ{m ts} q=>by
   by_cases z:i=m
   ·subst z;have hl:i<Z.length:=(Qg.mp h).1;rw[QH hl]at q;cases q
   ·rw[Qp z]at q;exact q
  exact k.sep j l c es fs (nz q1) (nz q2) s1 s2
 ·have hl:i<Z.length:=(Qg.mp h).1
  have nz:∀{m:Nat}{s:Sl},(Z.set i (some (Sl.pub (.list ds))))[m]?=some (some s)->(∃d,s=.pub d)∨Z[m]?=some (some s):=λ{m s} q=>by
   by_cases z:i=m
   ·subst z;rw[QH hl]at q;cases q;exact .inl ⟨_,rfl⟩
   ·rw[Qp z]at q;exact .inr q
  refine k.dp.map (λm p d q=>?_) (λm es q=>?_) λm p d v fp q s r w n=>⟨r.mono sg (.refl _),λb mb=>⟨(w b mb).1,?_⟩⟩
  ·rcases nz q with ⟨_,e⟩|q
   ·cases e
   ·exact⟨q,rfl⟩
  ·rcases nz q with ⟨_,e⟩|q
   ·cases e
   ·exact⟨es,q,rfl⟩
  ·rw[Kz (λz=>by subst z;exact n i ds b h h1 mb)];exact(w b mb).2
inductive Res(α:Type) where
 |ok (a:α) (Z:UP)|bad
abbrev M(α:Type):=UP->Res α
def UU{α:Type}(a:α):M α:=λZ=>.ok a Z
def Ke{α:Type}(o:Option α):M α:=λZ=>match o with|some a=>.ok a Z|none=>.bad
def Kc{α β:Type}(f:M α)(k:α->M β):M β:=λZ=>match f Z with | .ok a Z'=>k a Z' | .bad=>.bad
section
variable(K:Frag)(B G0:Hp)
def aft{α γ:Type}(R:Hp->γ->α->Prop)(r:Res α)(G:Hp)(σ:St)(Q:γ->Hp->Prop):Prop:=
 match r with
 |.ok d Z'=>∀v G' H',EOk K B G0 G' H' σ Z'->Same G G'->R G' v d->Q v H'
 |.bad=>False
def tM{α γ:Type}(R:Hp->γ->α->Prop)(f:M α):St->Hp->(γ->Hp->Prop)->Prop:=λσ H Q=>
 ∃G Z,EOk K B G0 G H σ Z/\aft K B G0 R (f Z) G σ Q
abbrev tD(f:M D):TE:=tM K B G0 (Rep K) f
abbrev tDs(f:M (List D)):TA:=tM K B G0 (Reps K) f
abbrev tBo(f:M Bool):TT:=tM K B G0 (λ_ b c=>b=c) f
abbrev tOi(f:M (Option Int)):TO:=tM K B G0 (λ_ b c=>b=c) f
end
section
variable{K:Frag}{B G0:Hp}{α β γ δ ε:Type}{R:Hp->γ->α->Prop}{S:Hp->δ->β->Prop}{T:Hp->ε->α->Prop}{σ:St}{H:Hp}
theorem aft.mono{r:Res α}{G G':Hp}{Q:γ->Hp->Prop}(e:Same G G')(h:aft K B G0 R r G σ Q):aft K B G0 R r G' σ Q:=by
 cases r with
 |ok d Z=>exact λv G2 H2 k s q=>h v G2 H2 k (e.trans s) q
 |bad=>exact h
theorem aft.done{d:α}{Z:UP}{G G' H H':Hp}{v:γ}{Q:γ->Hp->Prop}(h:aft K B G0 R (.ok d Z) G σ Q)(k:EOk K B G0 G H σ Z)(e:Ext G H G' H')(r:R G' v d):Q v H':=
 h v G' H' (k.ext e) e.g r
theorem aft.now{d:α}{Z:UP}{G H:Hp}{v:γ}{Q:γ->Hp->Prop}(h:aft K B G0 R (.ok d Z) G σ Q)(k:EOk K B G0 G H σ Z)(r:R G v d):Q v H:=
 h v G H k (.refl _) r
theorem aft.opt{o:Option α}{Z:UP}{G:Hp}{Q:γ->Hp->Prop}(h:aft K B G0 R (Ke o Z) G σ Q):∃d,o=some d/\aft K B G0 R (.ok d Z) G σ Q:=by
 cases o with
 |none=>exact h.elim
 |some d=>exact⟨d,rfl,h⟩
theorem tM.bind{f:M α}{k:α->M β}{Q:δ->Hp->Prop}(h:tM K B G0 S (Kc f k) σ H Q) :
  tM K B G0 R f σ H (λv H1=>∃G Z d,EOk K B G0 G H1 σ Z/\R G v d/\aft K B G0 S (k d Z) G σ Q):=by
 obtain⟨G,Z,e,a⟩:=h;refine⟨G,Z,e,?_⟩;unfold Kc at a;cases q:f Z with
 |bad=>rw[q]at a;exact a.elim
 |ok d Z1=>rw[q]at a;exact λv G' H' e' s r=>⟨G',Z1,d,e',r,aft.mono s a⟩
theorem tM.bind2{α' γ':Type}{R':Hp->γ'->α'->Prop}{f:M α}{g:α->M α'}{k:α->α'->M β}{Q:δ->Hp->Prop}(mo:∀G G' v d,Same G G'->R G v d->R G' v d)
  (h:tM K B G0 S (Kc f λx=>Kc (g x) λy=>k x y) σ H Q) :
  tM K B G0 R f σ H (λv H1=>∃x,tM K B G0 R' (g x) σ H1 λu H2=>∃G Z y,EOk K B G0 G H2 σ Z/\R G v x/\R' G u y/\aft K B G0 S (k x y Z) G σ Q):=by
 obtain⟨G,Z,e,a⟩:=tM.bind (R:=R) h;refine⟨G,Z,e,?_⟩;cases q:f Z with
 |bad=>rw[q]at a;exact a.elim
 |ok d Z1=>
  rw[q]at a;intro v G' H' e' s r;obtain⟨G2,Z2,d2,e2,r2,a2⟩:=a v G' H' e' s r;refine⟨d2,G2,Z2,e2,?_⟩;unfold Kc at a2;cases q2:g d2 Z2 with
  |bad=>rw[q2]at a2;exact a2.elim
  |ok d3 Z3=>rw[q2]at a2;exact λu G3 H3 e3 s3 r3=>⟨G3,Z3,d3,e3,mo _ _ _ _ s3 r2,r3,aft.mono s3 a2⟩
end
theorem MT{K:Frag}(G G':Hp)(v:V)(d:D)(e:Same G G')(r:Rep K G v d):Rep K G' v d:=r.mono e
theorem tM.two{K:Frag}{B G0:Hp}{β δ:Type}{S:Hp->δ->β->Prop}{σ:St}{H:Hp}{f g:M D}{k:D->D->M β}{Q:δ->Hp->Prop}{P:V->V->Hp->Prop}
  (h:tM K B G0 S (Kc f λx=>Kc g λy=>k x y) σ H Q)
  (i:∀v u H2 G Z x y,EOk K B G0 G H2 σ Z->Rep K G v x->Rep K G u y->aft K B G0 S (k x y Z) G σ Q->P v u H2) :
  tD K B G0 f σ H (λv H1=>tD K B G0 g σ H1 λu H2=>P v u H2):=by
 obtain⟨G,Z,e,a⟩:=tM.bind2 (R:=Rep K) (R':=Rep K) MT h;refine⟨G,Z,e,?_⟩;cases q:f Z with
 |bad=>rw[q]at a;exact a.elim
 |ok d Z1=>
  rw[q]at a;intro v G' H' e' s r;obtain⟨x,G2,Z2,e2,a2⟩:=a v G' H' e' s r;refine⟨G2,Z2,e2,?_⟩;cases q2:g Z2 with
  |bad=>rw[q2]at a2;exact a2.elim
  |ok d3 Z3=>rw[q2]at a2;intro u G3 H3 e3 s3 r3;obtain⟨G4,Z4,y,e4,r4,r5,a5⟩:=a2 u G3 H3 e3 s3 r3;exact i v u H3 G4 Z4 x y e4 r4 r5 a5
theorem tM.one{K:Frag}{B G0:Hp}{α β γ δ:Type}{R:Hp->γ->α->Prop}{S:Hp->δ->β->Prop}{σ:St}{H:Hp}{f:M α}{k:α->M β}{Q:δ->Hp->Prop}{P:γ->Hp->Prop}
  (h:tM K B G0 S (Kc f k) σ H Q) (i:∀v H2 G Z x,EOk K B G0 G H2 σ Z->R G v x->aft K B G0 S (k x Z) G σ Q->P v H2):tM K B G0 R f σ H P:=by
 obtain⟨G,Z,e,a⟩:=tM.bind (R:=R) h;refine⟨G,Z,e,?_⟩;cases q:f Z with
 |bad=>rw[q]at a;exact a.elim
 |ok d Z1=>rw[q]at a;intro v G' H' e' s r;obtain⟨G2,Z2,d2,e2,r2,a2⟩:=a v G' H' e' s r;exact i v H' G2 Z2 d2 e2 r2 a2
section
variable{X:Cx}{B G0:Hp}{e a b:Uu}{pos:Pos}
theorem Kt{t t':TE}(h:PE X e t)(i:∀σ H Q,t' σ H Q->t σ H Q):PE X e t':=λpins s σ H Q I q=>h pins s σ H Q I (i σ H Q q)
theorem YE{t t':TT}(h:PT X e t)(i:∀σ H Q,t' σ H Q->t σ H Q):PT X e t':=λpins s σ H Q I q=>h pins s σ H Q I (i σ H Q q)
theorem paof{es:List Uu}{t t':TA}(h:PA X es t)(i:∀σ H Q,t' σ H Q->t σ H Q):PA X es t':=λps pins s σ H Q I q=>h ps pins s σ H Q I (i σ H Q q)
theorem poof{eo:Option Uu}{t t':TO}(h:PO X eo t)(i:∀σ H Q,t' σ H Q->t σ H Q):PO X eo t':=λpins s σ H Q I q=>h pins s σ H Q I (i σ H Q q)
theorem Zp{st:Stmt}{t t':TS}(h:PS X st t)(i:∀D σ H,t' D σ H->t D σ H):PS X st t':=λpins s σ H D I q=>h pins s σ H D I (i D σ H q)
theorem Nu{st:List Stmt}{t t':TS}(h:PSs X st t)(i:∀D σ H,t' D σ H->t D σ H):PSs X st t':=λpins s σ H D I q=>h pins s σ H D I (i D σ H q)
def UO(i:Nat):M D:=λZ=>match Z[i]? with
 |some (some (.pub d))=>.ok d Z
 |some (some (.own ds))=>.ok (.list ds) (Z.set i (some (.pub (.list ds))))
 |_=>.bad
theorem Yb{i:Nat}(h:PE X e (Zi i)):PE X e (tD X.K B G0 (UO i)):=Kt h λσ H Q ⟨G,Z,k,a⟩=>by
 unfold UO at a;cases q:Z[i]? with
 |none=>rw[q]at a;exact a.elim
 |some o=>
  cases o with
  |none=>rw[q]at a;exact a.elim
  |some sl=>
   cases sl with
   |deep _ _=>rw[q]at a;exact a.elim
   |pub d=>rw[q]at a;obtain⟨v,h1,h2⟩:=k.pub i d q;exact⟨v,h1,a.now k h2⟩
   |own ds=>rw[q]at a;obtain⟨ad,G',h1,h2,h3,h4⟩:=k.publish q;exact⟨.ref ad,h1,a (.ref ad) G' H h4 h2 h3⟩
theorem RS{v:V}{d:D}(h:PE X e (tC v))(r:∀G,Rep X.K G v d):PE X e (tD X.K B G0 (UU d)):=Kt h λσ H Q ⟨G,Z,k,a⟩=>a.now k (r G)
theorem NQ{i:Int}{j}:PE X (.Constant (.int i) j pos) (tD X.K B G0 (UU (.int i))):=RS EH λ_=>.int i
theorem CP{i:Bool}{j}:PE X (.Constant (.bool i) j pos) (tD X.K B G0 (UU (.bool i))):=RS FZ λ_=>.bl i
theorem CO{j}:PE X (.Constant .none j pos) (tD X.K B G0 (UU .none)):=RS EG λ_=>.non
theorem EV{x:Str}{j}:PE X (.Constant (.str x) j pos) (tD X.K B G0 (UU (.str x))):=RS EF λ_=>.str x
def UV{β:Type}(op:D->D->Option β)(f g:M D):M β:=Kc f λx=>Kc g λy=>Ke (op x y)
def OpD(X:Cx)(f:Up->Up->Sem Up)(op:D->D->Option D):Prop:=
 ∃r:R2,OpR X f r/\∀v u G H x y d Q,Same G H->Rep X.K G v x->Rep X.K G u y->op x y=some d->(∀w G' H',Ext G H G' H'->Rep X.K G' w d->Q w H')->r v u H Q
theorem Vg{op:Operator}{p:D->D->Option D}{f g:M D}(o:OpD X (binaryOp op) p)(ha:PE X a (tD X.K B G0 f))(hb:PE X b (tD X.K B G0 g)):PE X (.BinOp a op b pos) (tD X.K B G0 (UV p f g)):=by
 obtain⟨r,h,i⟩:=o;refine Kt (Nz h ha hb) λσ H Q q=>?_;refine tM.two q λv u H2 G Z x y k rx ry a=>?_
 obtain⟨d,e,a⟩:=a.opt;exact i v u G H2 x y d Q k.gh rx ry e λw G' H' ex rw=>a.done k ex rw
theorem OpD.or{f:Up->Up->Sem Up}{p q:D->D->Option D}(h:OpD X f p)(h':OpD X f q):OpD X f (λx y=>(p x y).orElse λ_=>q x y):=by
 obtain⟨r,h1,i1⟩:=h;obtain⟨r',h2,i2⟩:=h';refine⟨_,h1.or h2,λv u G H x y d Q s rx ry e k=>?_⟩;dsimp only at e;cases z:p x y with
 |some d'=>rw[z]at e;have e':d'=d:=QP e;subst e';exact .inl (i1 v u G H x y d' Q s rx ry z k)
 |none=>rw[z]at e;exact .inr (i2 v u G H x y d Q s rx ry e k)
def oII(g:Int->Int->Option D):D->D->Option D
 |.int i,.int j=>g i j
 |_,_=>none
theorem MS{g:Int->Int->Option D}{x y d:D}(e:oII g x y=some d):∃i j,x=.int i/\y=.int j/\g i j=some d:=by
 unfold oII at e;split at e
 ·exact⟨_,_,rfl,rfl,e⟩
 ·cases e
theorem OpD.int{f:Up->Up->Sem Up}{C:Int->Int->Prop}{g:Int->Int->V}{p:Int->Int->Option D}(h:OpR X f (rI C g))(i:∀i j d,p i j=some d->C i j/\∀G,Rep X.K G (g i j) d):OpD X f (oII p):=by refine⟨_,h,λv u G H x y d Q s rx ry e k=>?_⟩;obtain⟨a,b,rfl,rfl,e⟩:=MS e;obtain⟨c,r⟩:=i a b d e;exact⟨a,b,rx.int_inv,ry.int_inv,c,k _ G H (.refl s) (r G)⟩
theorem OpD.int0{f:Up->Up->Sem Up}{g:Int->Int->V}{p:Int->Int->D}(h:OpR X f (rI0 g))(i:∀i j G,Rep X.K G (g i j) (p i j)):OpD X f (oII λi j=>some (p i j)):=by refine⟨_,h,λv u G H x y d Q s rx ry e k=>?_⟩;obtain⟨a,b,rfl,rfl,e⟩:=MS e;cases e;exact⟨a,b,rx.int_inv,ry.int_inv,k _ G H (.refl s) (i a b G)⟩
end
section
variable{X:Cx}{B G0:Hp}{e a b c:Uu}{pos:Pos}
theorem EU:OpD X (binaryOp .Add) (oII λi j=>some (.int (i+j))):=.int0 Db λ_ _ _=>.int _
theorem Dl:OpD X (binaryOp .Sub) (oII λi j=>some (.int (i-j))):=.int0 Da λ_ _ _=>.int _
def Yq(i j:Int):Option D:=if(-(2 ^ 64)<i/\i<2 ^ 64)∨(-(2 ^ 64)<j/\j<2 ^ 64)then some (.int (i*j))else none
theorem CN:OpD X (binaryOp .Mult) (oII Yq):=.int E9 λi j d h=>by
 unfold Yq at h;split at h
 ·rename_i c;cases h;exact⟨c,λ_=>.int _⟩
 ·cases h
def WD(i j:Int):Option D:=if 0<j then some (.int (i % j))else none
theorem Dk:OpD X (binaryOp .Mod) (oII WD):=.int E8 λi j d h=>by
 unfold WD at h;split at h
 ·rename_i c;cases h;exact⟨c,λ_=>.int _⟩
 ·cases h
theorem AA:OpR X (binaryOp .FloorDiv) (rI (λi j=>0<j/\j<2 ^ 64) λi j=>.int (i / j)):=opI λi j _ _ _ _ _ hc q=>by
 have h1:(0:Int)<j:=hc.1;have h2:j<2 ^ 64:=hc.2;refine floordiv_int (by omega) (by rw[Int.fdiv_eq_ediv_of_nonneg i (by omega)];exact q) (.inl (PyProof.noPylong_of_log2 ?_));have h0:j.natAbs≠0:=by omega
 have:j.natAbs.log2<64:=(Nat.log2_lt h0).mpr (by omega);omega
def WE(i j:Int):Option D:=if 0<j/\j<2 ^ 64 then some (.int (i / j))else none
theorem Dj:OpD X (binaryOp .FloorDiv) (oII WE):=.int AA λi j d h=>by
 unfold WE at h;split at h
 ·rename_i c;cases h;exact⟨c,λ_=>.int _⟩
 ·cases h
def WC(i j:Int):Option D:=if 0<=j/\j<=1000000/\i.natAbs<2 ^ 64 then some (.int (i ^ j.toNat))else none
theorem Di:OpD X (binaryOp .Pow) (oII WC):=.int E7 λi j d h=>by
 unfold WC at h;split at h
 ·rename_i c;cases h;exact⟨c,λ_=>.int _⟩
 ·cases h
theorem lim:(1000000:Nat)<=Uv:=by decide
def RK:D->D->Option D
 |.str x,.str y=>if x.length+y.length<=1000000 then some (.str (x++y))else none
 |_,_=>none
theorem DN:OpD X (binaryOp .Add) RK:=by
 refine⟨_,jF,λv u G H x y d Q s rx ry e k=>?_⟩;unfold RK at e;split at e
 ·split at e
  ·rename_i c;cases e;exact⟨_,_,rx.str_inv,ry.str_inv,QS c lim,k _ G H (.refl s) (.str _)⟩
  ·cases e
 ·cases e
def GH(K:Frag):R2:=λx y H Q=>∃l b xs zs,x=.ref l/\y=.ref b/\SqL K H l xs/\SqL K H b zs/\xs.length+zs.length<=Uv/\∀p,H p=none->Q (.ref p) (upd H p (.lst (xs++zs)))
theorem DM:OpR X (binaryOp .Add) (GH X.K):=by
 intro pins s σ H x y v u Q I rx ry h;obtain⟨l,b,xs,zs,rfl,rfl,hH,hB,hz,q⟩:=h;cases rx;cases ry;obtain⟨its,r,⟨⟨c1,d1,t1,s1⟩,n1,e1,ec1,ed1,et1⟩,z1⟩:=I.list hH;obtain⟨its2,r2,⟨⟨c2,d2,t2,s2⟩,n2,e2,ec2,ed2,et2⟩,z2⟩:=I.list hB;simp only at ec1 ed1 et1 ec2 ed2 et2;subst ec1 ed1 et1 ec2 ed2 et2;have hl:=r.length;have hl2:=r2.length;refine concat_meets ⟨_,e1,rfl⟩ ⟨_,e2,rfl⟩ noFill_list_add seq_list_add PySem.F.slot_list_add PySem.F.entry_list_add (PySem.F.args_list_add_2 _ _) (list_addW l b its.toArray its2.toArray n1 n2 none none s1 s2 (by rw[QI,QI];omega)) ⟨e1,e2,?_⟩;have ea:its.toArray++its2.toArray=(its++its2).toArray:=by simp
 rw[ea];exact⟨.ref _,_,I.lnew (t':=s.toks) (r.append r2) (by rw[Qj];omega),rfl,q _ I.fresh⟩
theorem GF(a:Int)(t:Tok)(l:Us)(items:Array Up)(n:Nat)(sl:Array (Option Up)) :
  Meets (Builtin.«int.__rmul__» ⟨[.int a t,.ref l],[]⟩) (λ_ R s=>s.heap.get? l=some {cls:=.type "list", dict:=none,data:=.seq items n,slots:=sl}/\R (.ok (.ret Value.notImplemented)) s):=
 .of_wp λprog w A R s h=>by obtain⟨hp,g,d,tk,os⟩:=s;obtain⟨hl,h⟩:=h;wp_walk;exact⟨_,rfl,h⟩
theorem mulW(l:Us)(items:Array Up)(n:Nat)(x:Int)(u:Tok)(sl:Array (Option Up))(hc0:¬(!Builtin.List.listFitsIndex x)=true)(hc1:¬items.size*x.toNat > (2 ^ 63-1) / 8)(hc2:¬Builtin.List.listTooLong (items.size*x.toNat)=true) :
  Meets (Builtin.«list.__mul__» ⟨[.ref l,.int x u],[]⟩) (λ_ R s=>s.heap.get? l=some {cls:=.type "list", dict:=none,data:=.seq items n,slots:=sl}/\R (.ok (.ret (Value.ref s.heap.objs.size))) {s with heap:=s.heap.push {cls:=Value.type "list", data:=Data.seq (List.foldl (λx1 x2=>x1++x2) #[] (UA (if items.isEmpty=true then 0 else x.toNat) items))},toks:=s.toks}):=
 .of_wp λprog w A R s h=>by
  obtain⟨hp,g,d,tk,os⟩:=s;obtain⟨hl,h⟩:=h;have hsz:=AutoListH.joined_fits hc2
  wp_walk;refine wpAny_ite_false (QO (Nat.not_lt.mpr hsz)) ?_;wp_walk;exact⟨_,rfl,h⟩
def GE(K:Frag):R2:=λx y H Q=>∃l k xs,x=.ref l/\y=.int k/\SqL K H l xs /\ -(2 ^ 63)<=k/\k<2 ^ 63/\xs.length*k.toNat<=Uv /\
 ∀p,H p=none->Q (.ref p) (upd H p (.lst (UA k.toNat xs).flatten))
theorem MR:OpR X (binaryOp .Mult) (GE X.K):=by
 intro pins s σ H x y v u Q I rx ry h;obtain⟨l,k,xs,rfl,rfl,hH,h1,h2,hz,q⟩:=h;cases rx;obtain⟨t,rfl⟩:=ry;obtain⟨its,r,⟨⟨c1,d1,t1,sl⟩,n,e,ec1,ed1,et1⟩,z⟩:=I.list hH;simp only at ec1 ed1 et1;subst ec1 ed1 et1;have hl:=r.length;have hlen:its.toArray.size*k.toNat<=Uv:=by rw[QI,←hl];exact hz
 have hcap:¬its.toArray.size*k.toNat > (2 ^ 63-1) / 8:=by
  have:(Uv:Nat)<=(2 ^ 63-1) / 8:=by decide
  omega
 have hfit:¬(!Builtin.List.listFitsIndex k)=true:=by rw[fitsIndex_both h1 h2];exact JG
 have hlong:¬Builtin.List.listTooLong (its.toArray.size*k.toNat)=true:=by rw[Af hlen];exact JG
 have hnew:List.foldl (λx1 x2=>x1++x2) #[] (UA (if its.toArray.isEmpty=true then 0 else k.toNat) its.toArray)=(UA k.toNat its).flatten.toArray:=by
  have f0:∀m:Nat,List.foldl (λx1 x2=>x1++x2) #[] (UA m its.toArray)=(UA m its).flatten.toArray:=λm=>by have:=L8 its m [];rw[JJ]at this;exact this
  rw[f0];cases its with
  |nil=>simp
  |cons a r'=>rw[if_neg (by simp)]
 refine wpAny_binaryOp_repeat_ref (T:= "list") (U:= "int") (by decide) ⟨_,e,rfl⟩ (λs'=>typeIs_int s' k t) noFill_list_mul F.fills_int_mul F.slot_int_rmul repeat_list F.slot_int_index.lookup
  (call_meets F.slot_int_rmul (typeIs_int s k t) F.entry_int_rmul (F.args_int_rmul_2 _ _) (GF k t l its.toArray n sl)
   ⟨e,rfl,⟨_,e,rfl⟩,call_meets F.slot_list_mul ⟨_,e,rfl⟩ F.entry_list_mul (F.args_list_mul_2 _ _) (mulW l its.toArray n k t sl hfit hcap hlong) ⟨e,?_⟩⟩)
 rw[hnew];exact⟨.ref _,_,I.lnew (t':=s.toks) (r.rep k.toNat) (by rw[Ct,Nat.mul_comm];exact hz),rfl,q _ I.fresh⟩
def RJ:D->D->Option D
 |.list x,.list y=>if x.length+y.length<=1000000 then some (.list (x++y))else none
 |_,_=>none
theorem DK:OpD X (binaryOp .Add) RJ:=by
 refine⟨_,DM,λv u G H x y d Q s rx ry e k=>?_⟩;unfold RJ at e;split at e
 ·split at e
  ·rename_i c;cases e;obtain⟨l,vs,rfl,h1,r1⟩:=rx.lst_inv;obtain⟨b,ws,rfl,h2,r2⟩:=ry.lst_inv;refine⟨l,b,vs,ws,rfl,rfl,s.seq h1,s.seq h2,by rw[r1.length,r2.length];exact QS c lim,λp hp=>k _ _ _ (Ext.new s hp) ?_⟩;exact .lst (SqL.of Zf) ((r1.append r2).mono (Zx (s.free hp)))
  ·cases e
 ·cases e
theorem Reps.rep{K:Frag}{G:Hp}{vs:List V}{ds:List D}(r:Reps K G vs ds):∀n:Nat,Reps K G (UA n vs).flatten (UA n ds).flatten
 |0=>.nil
 |n+1=>by rw[QQ,QQ,QL,QL];exact r.append (r.rep n)
def RI:D->D->Option D
 |.list x,.int k=>if -1000000<=k/\k<=1000000/\x.length*k.toNat<=1000000 then some (.list (UA k.toNat x).flatten)else none
 |_,_=>none
theorem DJ:OpD X (binaryOp .Mult) RI:=by
 refine⟨_,MR,λv u G H x y d Q s rx ry e k=>?_⟩;unfold RI at e;split at e
 ·split at e
  ·rename_i c;cases e;obtain⟨l,vs,rfl,h1,r1⟩:=rx.lst_inv;refine⟨l,_,vs,rfl,ry.int_inv,s.seq h1,by omega,by omega,by rw[r1.length];exact QS c.2.2 lim,λp hp=>k _ _ _ (Ext.new s hp) ?_⟩;exact .lst (SqL.of Zf) ((r1.rep _).mono (Zx (s.free hp)))
  ·cases e
 ·cases e
def U4:D->D->Option D
 |.int i,.int j=>some (.int (i+j))
 |.str x,.str y=>if x.length+y.length<=1000000 then some (.str (x++y))else none
 |.list x,.list y=>if x.length+y.length<=1000000 then some (.list (x++y))else none
 |_,_=>none
def K3:D->D->Option D
 |.int i,.int j=>some (.int (i-j))
 |_,_=>none
def Ku:D->D->Option D
 |.int i,.int j=>Yq i j
 |.list x,.int k=>if -1000000<=k/\k<=1000000/\x.length*k.toNat<=1000000 then some (.list (UA k.toNat x).flatten)else none
 |_,_=>none
def Yp:D->D->Option D
 |.int i,.int j=>WD i j
 |_,_=>none
def X0:D->D->Option D
 |.int i,.int j=>WE i j
 |_,_=>none
def XY:D->D->Option D
 |.int i,.int j=>WC i j
 |_,_=>none
theorem OpD.congr{f:Up->Up->Sem Up}{p q:D->D->Option D}(h:OpD X f p)(e:∀x y,q x y=p x y):OpD X f q:=by
 have:q=p:=by funext x y;exact e x y
 rw[this];exact h
theorem NC:OpD X (binaryOp .Add) U4:=(EU.or (DN.or DK)).congr λx y=>by cases x<;>cases y<;>first|rfl|(simp only[U4,oII,RK,RJ,Option.orElse];done)|(simp only[U4,oII,RK,RJ,Option.orElse];split<;>rfl)
theorem NB:OpD X (binaryOp .Sub) K3:=Dl.congr λx y=>by cases x<;>cases y<;>rfl
theorem NA:OpD X (binaryOp .Mult) Ku:=(CN.or DJ).congr λx y=>by cases x<;>cases y<;>first|rfl|(simp only[Ku,oII,RI,Option.orElse];done)|(simp only[Ku,oII,RI,Option.orElse];split<;>first|rfl|assumption)
theorem GD:OpD X (binaryOp .Mod) Yp:=Dk.congr λx y=>by cases x<;>cases y<;>rfl
theorem GC:OpD X (binaryOp .FloorDiv) X0:=Dj.congr λx y=>by cases x<;>cases y<;>rfl
theorem GB:OpD X (binaryOp .Pow) XY:=Di.congr λx y=>by cases x<;>cases y<;>rfl
end
section
variable{X:Cx}{B G0:Hp}{e a b c:Uu}{pos:Pos}
def OpB(X:Cx)(f:Up->Up->Sem Up)(op:D->D->Option Bool):Prop:=
 ∃r:R2,OpR X f r/\∀v u G H x y d Q,Same G H->Rep X.K G v x->Rep X.K G u y->op x y=some d->Q (.bl d) H->r v u H Q
theorem OpB.or{f:Up->Up->Sem Up}{p q:D->D->Option Bool}(h:OpB X f p)(h':OpB X f q):OpB X f (λx y=>(p x y).orElse λ_=>q x y):=by
 obtain⟨r,h1,i1⟩:=h;obtain⟨r',h2,i2⟩:=h';refine⟨_,h1.or h2,λv u G H x y d Q s rx ry e k=>?_⟩;dsimp only at e;cases z:p x y with
 |some d'=>rw[z]at e;have e':d'=d:=QP e;subst e';exact .inl (i1 v u G H x y d' Q s rx ry z k)
 |none=>rw[z]at e;exact .inr (i2 v u G H x y d Q s rx ry e k)
theorem OpB.congr{f:Up->Up->Sem Up}{p q:D->D->Option Bool}(h:OpB X f p)(e:∀x y,q x y=p x y):OpB X f q:=by
 have:q=p:=by funext x y;exact e x y
 rw[this];exact h
theorem Oe{op:CmpOp}{p:D->D->Option Bool}{f g:M D}(o:OpB X (Uy op) p)(ha:PE X a (tD X.K B G0 f))(hb:PE X b (tD X.K B G0 g))(hm:behindInMarks op b=false) :
  PT X (.Compare a [op] [b] pos) (tBo X.K B G0 (UV p f g)):=by
 obtain⟨r,h,i⟩:=o;refine YE (Oh h ha hb hm) λσ H Q q=>?_;refine tM.two q λv u H2 G Z x y k rx ry a=>?_
 obtain⟨d,e,a⟩:=a.opt;exact i v u G H2 x y d _ k.gh rx ry e ⟨d,rfl,a.now k rfl⟩
def U6{α β:Type}(h:α->β)(f:M α):M β:=Kc f λx=>UU (h x)
theorem tM.map{K:Frag}{α β γ δ:Type}{R:Hp->γ->α->Prop}{S:Hp->δ->β->Prop}{σ:St}{H:Hp}{h:α->β}{f:M α}{Q:δ->Hp->Prop}(j:γ->δ)(q:tM K B G0 S (U6 h f) σ H Q)
  (i:∀G v x,R G v x->S G (j v) (h x)):tM K B G0 R f σ H (λv H'=>Q (j v) H'):=
 tM.one (R:=R) (f:=f) q λv H2 G Z x k r a=>aft.now (show aft K B G0 S (.ok (h x) Z) G σ Q from a) k (i G v x r)
theorem tBo.val{K:Frag}{σ:St}{H:Hp}{f:M Bool}{Q:VK}(q:tD K B G0 (U6 UC f) σ H Q):tBo K B G0 f σ H (λb H'=>Q (.bl b) H'):=
 tM.map (R:=λ_ b c=>b=c) V.bl q λG v x e=>by rw[e];exact .bl x
theorem DI{op:CmpOp}{p:D->D->Option Bool}{f g:M D}(o:OpB X (Uy op) p)(ha:PE X a (tD X.K B G0 f))(hb:PE X b (tD X.K B G0 g))(hm:behindInMarks op b=false) :
  PE X (.Compare a [op] [b] pos) (tD X.K B G0 (U6 UC (UV p f g))):=by
 obtain⟨r,h,i⟩:=o;refine Kt (M6 h ha hb hm) λσ H Q q=>?_;refine tM.two (tBo.val q) λv u H2 G Z x y k rx ry a=>?_
 obtain⟨d,e,a⟩:=a.opt;exact i v u G H2 x y d _ k.gh rx ry e (a.now k rfl)
def VL(p q:D->D->Option Bool)(f g h:M D):M Bool:=Kc f λx=>Kc g λy=>Kc (Ke (p x y)) λt=>if t=true then Kc h λz=>Ke (q y z)else UU false
theorem A6{op op':CmpOp}{p q:D->D->Option Bool}{f g h:M D}(o:OpB X (Uy op) p)(o':OpB X (Uy op') q)(ha:PE X a (tD X.K B G0 f))(hb:PE X b (tD X.K B G0 g))(hc:PE X c (tD X.K B G0 h))
  (hm:lastMarks [op,op'] [b,c]=false:=by with_unfolding_all rfl):PT X (.Compare a [op,op'] [b,c] pos) (tBo X.K B G0 (VL p q f g h)):=by
 obtain⟨r,h1,i⟩:=o;obtain⟨r',h2,i'⟩:=o';refine YE (Ak h1 h2 ha hb hc hm) λσ H Q w=>?_;refine tM.two w λv u H2 G Z x y k rx ry a=>?_
 cases z:p x y with
 |none=>rw[z]at a;exact a.elim
 |some t=>
  rw[z]at a;refine i v u G H2 x y t _ k.gh rx ry z ⟨t,rfl,?_⟩;cases t with
  |false=>rw[Qs JG];exact⟨false,rfl,aft.now a k rfl⟩
  |true=>
   rw[Qk rfl];refine⟨G,Z,k,?_⟩;have a4:aft X.K B G0 (λ_ (b:Bool) c=>b=c) ((Kc h λz=>Ke (q y z)) Z) G σ Q:=a;unfold Kc at a4;cases z2:h Z with
   |bad=>rw[z2]at a4;exact a4.elim
   |ok d Z1=>rw[z2]at a4;intro w G5 H5 k5 s5 r5;obtain⟨t2,e2,a6⟩:=a4.opt;exact i' u w G5 H5 y d t2 _ k5.gh (ry.mono s5) r5 e2 ⟨t2,rfl,a6 t2 G5 H5 k5 s5 rfl⟩
theorem A5{op op':CmpOp}{p q:D->D->Option Bool}{f g h:M D}(o:OpB X (Uy op) p)(o':OpB X (Uy op') q)(ha:PE X a (tD X.K B G0 f))(hb:PE X b (tD X.K B G0 g))(hc:PE X c (tD X.K B G0 h))
  (hm:lastMarks [op,op'] [b,c]=false:=by with_unfolding_all rfl):PE X (.Compare a [op,op'] [b,c] pos) (tD X.K B G0 (U6 UC (VL p q f g h))):=by
 obtain⟨r,h1,i⟩:=o;obtain⟨r',h2,i'⟩:=o';refine Kt (Al h1 h2 ha hb hc hm) λσ H Q w=>?_;refine tM.two (tBo.val w) λv u H2 G Z x y k rx ry a=>?_
 cases z:p x y with
 |none=>rw[z]at a;exact a.elim
 |some t=>
  rw[z]at a;refine i v u G H2 x y t _ k.gh rx ry z ⟨t,rfl,?_⟩;cases t with
  |false=>rw[Qs JG];exact aft.now (v:=false) a k rfl
  |true=>
   rw[Qk rfl];refine⟨G,Z,k,?_⟩;have a4:aft X.K B G0 (λ_ (b:Bool) c=>b=c) ((Kc h λz=>Ke (q y z)) Z) G σ (λb H'=>Q (.bl b) H'):=a;unfold Kc at a4;cases z2:h Z with
   |bad=>rw[z2]at a4;exact a4.elim
   |ok d Z1=>rw[z2]at a4;intro w G5 H5 k5 s5 r5;obtain⟨t2,e2,a6⟩:=a4.opt;exact i' u w G5 H5 y d t2 _ k5.gh (ry.mono s5) r5 e2 (a6 t2 G5 H5 k5 s5 rfl)
def oIB(g:Int->Int->Bool):D->D->Option Bool
 |.int i,.int j=>some (g i j)
 |_,_=>none
theorem OpB.int{f:Up->Up->Sem Up}{g:Int->Int->Bool}(h:OpR X f (rI0 λi j=>.bl (g i j))):OpB X f (oIB g):=by
 refine⟨_,h,λv u G H x y d Q s rx ry e k=>?_⟩;unfold oIB at e;split at e
 ·cases e;exact⟨_,_,rx.int_inv,ry.int_inv,k⟩
 ·cases e
theorem B_lt:OpB X (Uy .Lt) (oIB λi j=>decide (i<j)):=.int Ej
theorem B_le:OpB X (Uy .LtE) (oIB λi j=>decide (i<=j)):=.int Ei
theorem B_gt:OpB X (Uy .Gt) (oIB λi j=>decide (j<i)):=.int GW
theorem B_ge:OpB X (Uy .GtE) (oIB λi j=>decide (j<=i)):=.int GV
mutual
theorem YY{pins:List (Us×Obj)}{s:Uq}{σ:St}{G H:Hp}(I:Inv X pins σ H s)(sg:Same G H):∀{v:V}{d:D}{u:Up},Rep X.K G v d->RelV v u->d.canLay0=true->∃as,Reads s.heap u d as
 |_,_,_,.non,r,_=>by cases r;exact⟨_,.none⟩
 |_,_,_,.bl b,r,_=>by cases r;exact⟨_,.bool b⟩
 |_,_,_,.int i,r,_=>by obtain⟨t,rfl⟩:=r;exact⟨_,.int i t⟩
 |_,_,_,.str x,r,_=>by obtain⟨t,rfl⟩:=r;exact⟨_,.str x t⟩
 |_,_,_,.lst h q,r,c=>by cases r;obtain⟨its,rv,⟨o,n,e,hc,_,hd⟩,hz⟩:=I.list (sg.seq h);obtain⟨as,ra⟩:=readsAll_of I sg q rv (show UF _=true by simpa[PyData.canLay0]using c);exact⟨_,.list e hc hd (by simpa using ra)⟩
 |_,_,_,.tup h q,r,c=>by cases r;obtain⟨its,rv,p,hz⟩:=I.tuple (Xb sg h);obtain⟨o,e,hc,n,hd⟩:=p;obtain⟨as,ra⟩:=readsAll_of I sg q rv (show UF _=true by simpa[PyData.canLay0]using c);exact⟨_,.tuple e hc hd (by simpa using ra)⟩
 |_,_,_,.dic h,r,c=>by simp[PyData.canLay0]at c
 |_,_,_,.exc _ _ _ _,r,c=>by simp[PyData.canLay0]at c
 |_,_,_,.dct _ _ _ _ _,r,c=>by simp[PyData.canLay0]at c
 |_,_,_,.dtt _ _ _ _,r,c=>by simp[PyData.canLay0]at c
theorem readsAll_of{pins:List (Us×Obj)}{s:Uq}{σ:St}{G H:Hp}(I:Inv X pins σ H s)(sg:Same G H):∀{vs:List V}{ds:List D}{us:List Up},Reps X.K G vs ds->Vals vs us->UF ds=true->∃as,ReadsAll s.heap us ds as
 |_,_,_,.nil,r,_=>by cases r;exact⟨_,.nil⟩
 |_,_,_,.cons h t,r,c=>by
  cases r with
  |cons r1 r2=>have c':=c;rw[UF,Je]at c';obtain⟨as,ra⟩:=YY I sg h r1 c'.1;obtain⟨bs,rb⟩:=readsAll_of I sg t r2 c'.2;exact⟨_,.cons ra rb⟩
end
def oEq(x y:D):Option Bool:=if x.canLay0=true/\y.canLay0=true/\x.depth<=60 then some (UH x y)else none
def oNe(x y:D):Option Bool:=if x.canLay0=true/\y.canLay0=true/\x.depth<=60 then some (!UH x y)else none
theorem B_eq(hu:X.A.units+64<cLine):OpB X (Uy .Eq) oEq:=by
 refine⟨λv u H Q=>∃G x y d,Same G H/\Rep X.K G v x/\Rep X.K G u y/\oEq x y=some d/\Q (.bl d) H,?_,λv u G H x y d Q s rx ry e k=>⟨G,x,y,d,s,rx,ry,e,k⟩⟩;intro pins s σ H x y v u Q I rx ry ⟨G,dx,dy,d,sg,px,py,e,q⟩;unfold oEq at e;split at e
 ·rename_i c;cases e;obtain⟨as,ra⟩:=YY I sg px rx c.1;obtain⟨bs,rb⟩:=YY I sg py ry c.2.1;exact SeqAt.compareEq_reads ra rb c.1 c.2.1 (by have:=c.2.2;omega) ⟨.bl _,H,I,rfl,q⟩
 ·cases e
theorem B_ne(hu:X.A.units+64<cLine):OpB X (Uy .NotEq) oNe:=by
 refine⟨λv u H Q=>∃G x y d,Same G H/\Rep X.K G v x/\Rep X.K G u y/\oNe x y=some d/\Q (.bl d) H,?_,λv u G H x y d Q s rx ry e k=>⟨G,x,y,d,s,rx,ry,e,k⟩⟩;intro pins s σ H x y v u Q I rx ry ⟨G,dx,dy,d,sg,px,py,e,q⟩;unfold oNe at e;split at e
 ·rename_i c;cases e;obtain⟨as,ra⟩:=YY I sg px rx c.1;obtain⟨bs,rb⟩:=YY I sg py ry c.2.1;exact SeqAt.compareNe_reads ra rb c.1 c.2.1 (by have:=c.2.2;omega) ⟨.bl _,H,I,rfl,q⟩
 ·cases e
def isNon:D->Bool
 |.none=>true
 |_=>false
theorem Rep.isNon{K:Frag}{G:Hp}{v:V}{d:D}(r:Rep K G v d):DL.isNon d=decide (v=.non):=by cases r<;>simp[DL.isNon]
end
section
variable{X:Cx}{B G0:Hp}{e a b c:Uu}{pos:Pos}{es rest:List Uu}
theorem tM.nx{K:Frag}{α β γ δ:Type}{R:Hp->γ->α->Prop}{S:Hp->δ->β->Prop}{σ:St}{G H:Hp}{Z:UP}{f:M α}{g:α->M β}{Q:δ->Hp->Prop}{P:γ->Hp->Prop}
  (k:EOk K B G0 G H σ Z) (a:aft K B G0 S (Kc f g Z) G σ Q) (i:∀v H' G' Z' x,EOk K B G0 G' H' σ Z'->Same G G'->R G' v x->aft K B G0 S (g x Z') G' σ Q->P v H'):tM K B G0 R f σ H P:=by
 refine⟨G,Z,k,?_⟩;unfold Kc at a;cases q:f Z with
 |bad=>rw[q]at a;exact a.elim
 |ok d Z1=>rw[q]at a;exact λv G' H' e s r=>i v H' G' Z1 d e s r (aft.mono s a)
def ZB(f g:M Bool):M Bool:=Kc f λt=>if t=true then g else UU false
def mOr(f g:M Bool):M Bool:=Kc f λt=>if t=true then UU true else g
def K0(f:M Bool):M Bool:=U6 (λt=>!t) f
theorem DH{K:Frag}{f g:M Bool}{σ:St}{H:Hp}{Q:Bool->Hp->Prop}(q:tBo K B G0 (ZB f g) σ H Q):tAnd (tBo K B G0 f) (tBo K B G0 g) σ H Q:=
 tM.one (R:=λ_ b c=>b=c) q λv H2 G Z x k r a=>by
  have r:v=x:=r;subst r;cases v with
  |true=>exact⟨G,Z,k,a⟩
  |false=>exact aft.now (v:=false) a k rfl
theorem Dh{K:Frag}{f g:M Bool}{σ:St}{H:Hp}{Q:Bool->Hp->Prop}(q:tBo K B G0 (mOr f g) σ H Q):tOr (tBo K B G0 f) (tBo K B G0 g) σ H Q:=
 tM.one (R:=λ_ b c=>b=c) q λv H2 G Z x k r a=>by
  have r:v=x:=r;subst r;cases v with
  |false=>exact⟨G,Z,k,a⟩
  |true=>exact aft.now (v:=true) a k rfl
theorem pwof{t t':TT}(h:PW X e t)(i:∀σ H Q,t' σ H Q->t σ H Q):PW X e t':=λwh pins s σ H Q I q=>h wh pins s σ H Q I (i σ H Q q)
theorem Az{f:M Bool}(ha:PT X a (tBo X.K B G0 f)):PW X (.BoolOp .And [a] pos) (tBo X.K B G0 f):=CI ha
theorem DG{f:M Bool}(ha:PT X a (tBo X.K B G0 f)):PW X (.BoolOp .Or [a] pos) (tBo X.K B G0 f):=EC ha
theorem DF{f g:M Bool}(ha:PT X a (tBo X.K B G0 f))(hb:PW X (.BoolOp .And (b::rest) pos) (tBo X.K B G0 g)):PW X (.BoolOp .And (a::b::rest) pos) (tBo X.K B G0 (ZB f g)):=pwof (EB ha hb) λ_ _ _ q=>DH q
theorem Dg{f g:M Bool}(ha:PT X a (tBo X.K B G0 f))(hb:PW X (.BoolOp .Or (b::rest) pos) (tBo X.K B G0 g)):PW X (.BoolOp .Or (a::b::rest) pos) (tBo X.K B G0 (mOr f g)):=pwof (FX ha hb) λ_ _ _ q=>Dh q
theorem DE{f:M Bool}(ha:PT X a (tBo X.K B G0 f)):PT X (.UnaryOp .Not a pos) (tBo X.K B G0 (K0 f)):=YE (EA ha) λσ H Q q=>tM.map (R:=λ_ b c=>b=c) (λt=>!t) q λ_ v x e=>by rw[e]
def Z9(f:M D):M Bool:=Kc f λx=>match x with | .bool t=>UU t|_=>λ_=>.bad
theorem DD{f:M D}(h:PE X e (tD X.K B G0 f))(he:∀whole,isTrue e X.env whole=(do let v ←whole;standAt e.pos;holding [v] (truthy v)):=by intro _;rfl):PT X e (tBo X.K B G0 (Z9 f)):=
 YE (ED h he) λσ H Q q=>tM.one (R:=Rep X.K) q λv H2 G Z x k r a=>by
  cases x with
  |bool t=>exact⟨t,r.bl_inv,aft.now (v:=t) a k rfl⟩
  |_=>exact a.elim
def VA(f g:M D):M D:=Kc f λx=>match x with | .bool true=>g | .bool false=>UU (.bool false)|_=>λ_=>.bad
def X1(f g:M D):M D:=Kc f λx=>match x with | .bool true=>UU (.bool true) | .bool false=>g|_=>λ_=>.bad
def SR(f:M D):M D:=Kc f λx=>match x with | .bool t=>UU (.bool (!t))|_=>λ_=>.bad
theorem DC{f g:M D}(ha:PE X a (tD X.K B G0 f))(hb:PE X (.BoolOp .And (b::rest) pos) (tD X.K B G0 g)):PE X (.BoolOp .And (a::b::rest) pos) (tD X.K B G0 (VA f g)):=
 Kt (Ey ha hb) λσ H Q q=>tM.one (R:=Rep X.K) q λv H2 G Z x k r a=>by
  cases x with
  |bool t=>
   refine⟨t,r.bl_inv,?_⟩;cases t with
   |true=>exact⟨G,Z,k,a⟩
   |false=>exact aft.now a k (.bl false)
  |_=>exact a.elim
theorem Df{f g:M D}(ha:PE X a (tD X.K B G0 f))(hb:PE X (.BoolOp .Or (b::rest) pos) (tD X.K B G0 g)):PE X (.BoolOp .Or (a::b::rest) pos) (tD X.K B G0 (X1 f g)):=
 Kt (FT ha hb) λσ H Q q=>tM.one (R:=Rep X.K) q λv H2 G Z x k r a=>by
  cases x with
  |bool t=>
   refine⟨t,r.bl_inv,?_⟩;cases t with
   |false=>exact⟨G,Z,k,a⟩
   |true=>exact aft.now a k (.bl true)
  |_=>exact a.elim
theorem DB{op}{f:M D}(h:PE X a (tD X.K B G0 f)):PE X (.BoolOp op [a] pos) (tD X.K B G0 f):=Ez h
theorem DA{f:M D}(ha:PE X a (tD X.K B G0 f)):PE X (.UnaryOp .Not a pos) (tD X.K B G0 (SR f)):=
 Kt (Ex ha) λσ H Q q=>tM.one (R:=Rep X.K) q λv H2 G Z x k r a=>by
  cases x with
  |bool t=>exact⟨t,r.bl_inv,aft.now a k (.bl _)⟩
  |_=>exact a.elim
def mIf{α:Type}(f:M Bool)(g h:M α):M α:=Kc f λt=>if t=true then g else h
theorem A4{f:M Bool}{g h:M D}(hc:PT X c (tBo X.K B G0 f))(ha:PE X a (tD X.K B G0 g))(hb:PE X b (tD X.K B G0 h)):PE X (.IfExp c a b pos) (tD X.K B G0 (mIf f g h)):=
 Kt (Ap hc ha hb) λσ H Q q=>tM.one (R:=λ_ b c=>b=c) q λv H2 G Z x k r a=>by
  have r:v=x:=r;subst r;cases v with
  |true=>exact⟨G,Z,k,a⟩
  |false=>exact⟨G,Z,k,a⟩
theorem Dy{f:M D}{j p2}(ha:PE X a (tD X.K B G0 f)):PT X (.Compare a [.Is] [.Constant .none j p2] pos) (tBo X.K B G0 (U6 isNon f)):=
 YE (NV (NW ha)) λσ H Q q=>tM.one (R:=Rep X.K) q λv H2 G Z x k r a=>⟨_,rfl,aft.now a k (by rw[r.isNon])⟩
theorem Lm{f:M D}{j p2}(ha:PE X a (tD X.K B G0 f)):PT X (.Compare a [.IsNot] [.Constant .none j p2] pos) (tBo X.K B G0 (U6 (λd=>!isNon d) f)):=
 YE (NV (CJ ha)) λσ H Q q=>tM.one (R:=Rep X.K) q λv H2 G Z x k r a=>⟨_,rfl,aft.now a k (by dsimp only;rw[r.isNon])⟩
theorem Dx{f:M D}{j p2}(ha:PE X a (tD X.K B G0 f)):PE X (.Compare a [.Is] [.Constant .none j p2] pos) (tD X.K B G0 (U6 (λd=>.bool (isNon d)) f)):=
 Kt (EE (NW ha)) λσ H Q q=>tM.one (R:=Rep X.K) q λv H2 G Z x k r a=>aft.now a k (by dsimp only;rw[r.isNon];exact .bl _)
def UQ:M (List D):=UU []
def US(f:M D)(g:M (List D)):M (List D):=Kc f λx=>Kc g λxs=>UU (x::xs)
theorem Sw:PA X [] (tDs X.K B G0 UQ):=paof Sr λσ H Q ⟨G,Z,k,a⟩=>aft.now a k .nil
theorem tM.twoA{K:Frag}{σ:St}{H:Hp}{f:M D}{g:M (List D)}{β δ:Type}{S:Hp->δ->β->Prop}{k:D->List D->M β}{Q:δ->Hp->Prop}{P:V->List V->Hp->Prop}
  (h:tM K B G0 S (Kc f λx=>Kc g λy=>k x y) σ H Q)
  (i:∀v u H2 G Z x y,EOk K B G0 G H2 σ Z->Rep K G v x->Reps K G u y->aft K B G0 S (k x y Z) G σ Q->P v u H2) :
  tD K B G0 f σ H (λv H1=>tDs K B G0 g σ H1 λu H2=>P v u H2):=by
 obtain⟨G,Z,e,a⟩:=tM.bind2 (R:=Rep K) (R':=Reps K) MT h;refine⟨G,Z,e,?_⟩;cases q:f Z with
 |bad=>rw[q]at a;exact a.elim
 |ok d Z1=>
  rw[q]at a;intro v G' H' e' s r;obtain⟨x,G2,Z2,e2,a2⟩:=a v G' H' e' s r;refine⟨G2,Z2,e2,?_⟩;cases q2:g Z2 with
  |bad=>rw[q2]at a2;exact a2.elim
  |ok d3 Z3=>rw[q2]at a2;intro u G3 H3 e3 s3 r3;obtain⟨G4,Z4,y,e4,r4,r5,a5⟩:=a2 u G3 H3 e3 s3 r3;exact i v u H3 G4 Z4 x y e4 r4 r5 a5
theorem Xe{f:M D}{g:M (List D)}(ha:PE X e (tD X.K B G0 f))(hr:PA X es (tDs X.K B G0 g))(hs:Ux (e::es) X.env=(false,eval e X.env)::Ux es X.env:=by rfl) :
  PA X (e::es) (tDs X.K B G0 (US f g)):=paof (VS ha hr hs) λσ H Q q=>tM.twoA q λv u H2 G Z x y k r1 r2 a=>aft.now a k (.cons r1 r2)
def Kx(f:M (List D)):M D:=Kc f λxs=>if xs.length<=1000000 then UU (.tuple xs)else λ_=>.bad
def Kr(f:M (List D)):M D:=Kc f λxs=>if xs.length<=1000000 then UU (.list xs)else λ_=>.bad
theorem R5{x1}{f:M (List D)}(h:PA X es (tDs X.K B G0 f)):PE X (.Tuple es x1 pos) (tD X.K B G0 (Kx f)):=
 Kt (E4 h) λσ H Q q=>tM.one (R:=Reps X.K) q λv H2 G Z x k r a=>by
  split at a
  ·rename_i c;refine⟨by rw[r.length];exact QS c lim,λp hp=>?_⟩;exact aft.done a k (Ext.new k.gh hp) (.tup (SqT.of Zf) (r.mono (Zx (k.gh.free hp))))
  ·exact a.elim
theorem Od{f:M (List D)}(h:PA X es (tDs X.K B G0 f)):PE X (.List es pos) (tD X.K B G0 (Kr f)):=
 Kt (NS h) λσ H Q q=>tM.one (R:=Reps X.K) q λv H2 G Z x k r a=>by
  split at a
  ·rename_i c;refine⟨by rw[r.length];exact QS c lim,λp hp=>?_⟩;exact aft.done a k (Ext.new k.gh hp) (.lst (SqL.of Zf) (r.mono (Zx (k.gh.free hp))))
  ·exact a.elim
def oIx:D->D->Option D
 |.list xs,.int i=>atI xs i
 |.tuple xs,.int i=>atI xs i
 |.str z,.int i=>if z.length<=1000000 then(atI z.cps.toList i).map λc=>.str ⟨#[c]⟩else none
 |_,_=>none
theorem Reps.atI{K:Frag}{G:Hp}{vs:List V}{ds:List D}{i:Int}{d:D}(r:Reps K G vs ds)(h:L2.atI ds i=some d):∃v,L2.atI vs i=some v/\Rep K G v d:=by
 unfold L2.atI at h⊢;rw[r.length];cases z:ixN ds.length i with
 |none=>rw[z]at h;cases h
 |some j=>rw[z]at h;exact r.get (i:=j) h
theorem NP{K:Frag}{v u:V}{G H:Hp}{x y d:D}{Q:VK}(s:Same G H)(rx:Rep K G v x)(ry:Rep K G u y)(e:oIx x y=some d)(k:∀w,Rep K G w d->Q w H):rIx K v u H Q:=by
 unfold oIx at e;split at e
 ·obtain⟨l,vs,rfl,h1,r1⟩:=rx.lst_inv;obtain⟨w,e1,r2⟩:=r1.atI e;exact .inl ⟨l,vs,_,w,rfl,ry.int_inv,s.seq h1,e1,k w r2⟩
 ·obtain⟨l,vs,rfl,h1,r1⟩:=rx.tup_inv;obtain⟨w,e1,r2⟩:=r1.atI e;exact .inr (.inl ⟨l,vs,_,w,rfl,ry.int_inv,Xb s h1,e1,k w r2⟩)
 ·split at e
  ·rename_i z i hz;cases q:L2.atI z.cps.toList i with
   |none=>rw[q]at e;cases e
   |some ch=>rw[q]at e;cases e;exact .inr (.inr ⟨z,i,ch,rx.str_inv,ry.int_inv,QS hz lim,q,k _ (.str _)⟩)
  ·cases e
 ·cases e
theorem FS{f g:M D}(ha:PE X a (tD X.K B G0 f))(hb:PE X b (tD X.K B G0 g))(hs:Of b):PE X (.Subscript a b pos) (tD X.K B G0 (UV oIx f g)):=
 Kt (Nx NR ha hb hs) λσ H Q q=>tM.two q λv u H2 G Z x y k rx ry a=>by obtain⟨d,e,a⟩:=a.opt;exact NP k.gh rx ry e λw r=>a.now k r
def U9(i:Nat)(g:M D):M D:=λZ=>match Z[i]? with
 |some (some (.pub d))=>(Kc g λy=>Ke (oIx d y)) Z
 |some (some (.own _))=>(Kc g λy=>λZ'=>match Z'[i]? with|some (some (.own ds))=>Ke (oIx (.list ds) y) Z'|_=>.bad) Z
 |_=>.bad
theorem Sv{i:Nat}{g:M D}(ha:PE X a (Zi i))(hb:PE X b (tD X.K B G0 g))(hs:Of b):PE X (.Subscript a b pos) (tD X.K B G0 (U9 i g)):=
 Kt (Nx NR ha hb hs) λσ H Q ⟨G,Z,k,a⟩=>by
  unfold U9 at a;cases q:Z[i]? with
  |none=>rw[q]at a;exact a.elim
  |some o=>
   cases o with
   |none=>rw[q]at a;exact a.elim
   |some sl=>
    cases sl with
    |deep _ _=>rw[q]at a;exact a.elim
    |pub d=>
     rw[q]at a;obtain⟨v,h1,h2⟩:=k.pub i d q;refine⟨v,h1,G,Z,k,?_⟩;dsimp only[Kc]at a;cases z:g Z with
     |bad=>rw[z]at a;exact a.elim
     |ok y Z1=>rw[z]at a;intro u G' H' k' s' r';obtain⟨d',e',a'⟩:=aft.opt a;exact NP k'.gh (h2.mono s') r' e' λw r=>a' w G' H' k' s' r
    |own ds=>
     rw[q]at a;obtain⟨ad,vs,h1,h2,h3,h4,h5⟩:=k.own i ds q;refine⟨.ref ad,h1,G,Z,k,?_⟩;dsimp only[Kc]at a;cases z:g Z with
     |bad=>rw[z]at a;exact a.elim
     |ok y Z1=>
      rw[z]at a;dsimp only at a;intro u G' H' k' s' r';cases z2:Z1[i]? with
      |none=>rw[z2]at a;exact a.elim
      |some o2=>
       cases o2 with
       |none=>rw[z2]at a;exact a.elim
       |some sl2=>
        cases sl2 with
        |deep _ _=>rw[z2]at a;exact a.elim
        |pub d2=>rw[z2]at a;exact a.elim
        |own es2=>
         rw[z2]at a;obtain⟨d',e',a'⟩:=aft.opt a;obtain⟨ad',vs',g1,g2,g3,g4,g5⟩:=k'.own i es2 z2;rw[h1]at g1;cases g1;unfold oIx at e';cases y with
         |int j=>obtain⟨w,e1,r2⟩:=g5.atI e';exact .inl ⟨ad,vs',j,w,rfl,r'.int_inv,SqL.of g4,e1,a' w G' H' k' s' r2⟩
         |_=>cases e'
def cutD(xs:List D)(lo hi:Option Int):List D:=(xs.drop (HT.sIx xs.length 0 lo)).take (HT.sIx xs.length xs.length hi-HT.sIx xs.length 0 lo)
theorem Reps.cut{K:Frag}{G:Hp}{vs:List V}{ds:List D}(r:Reps K G vs ds)(lo hi:Option Int):Reps K G (Xs vs lo hi) (cutD ds lo hi):=by unfold Xs cutD;rw[r.length];exact(r.drop _).take _
def Yz:D->Option (Option Int)
 |.int i=>some (some i)
 |_=>none
theorem Ay:PO X none (tOi X.K B G0 (UU none)):=poof Cz λσ H Q ⟨G,Z,k,a⟩=>aft.now a k rfl
theorem Ax{f:M D}(h:PE X e (tD X.K B G0 f)):PO X (some e) (tOi X.K B G0 (Kc f λx=>Ke (Yz x))):=poof (Cy h) λσ H Q q=>tM.one (R:=Rep X.K) q λv H2 G Z x k r a=>by
 cases x with
 |int i=>exact⟨i,r.int_inv,aft.now (v:=some i) a k rfl⟩
 |_=>exact a.elim
end
def WF:List (D×D)->Bool
 |(.none,_)::_=>true
 |_=>false
def Xl:D->String
 |.none=> "NoneType"
 |.bool _=> "bool"
 |.int _=> "int"
 |.str _=> "str"
 |.list _=> "list"
 |.tuple _=> "tuple"
 |.dict kvs=>if WF kvs=true then "" else "dict"
def KP(d:D)(c:String):Bool:=Xl d==c || (Xl d == "bool" && c == "int")
def SQ:D->Bool
 |.dict kvs=>WF kvs
 |_=>false
theorem NO{ks:List Key}{ds:List D}:Xl (.dict ((ks.map kD).zip ds)) = "dict" /\ SQ (.dict ((ks.map kD).zip ds))=false:=by
 cases ks with
 |nil=>exact⟨rfl,rfl⟩
 |cons k ks=>
  cases ds with
  |nil=>exact⟨rfl,rfl⟩
  |cons d ds=>cases k<;>exact⟨rfl,rfl⟩
theorem Dw(K:Frag)(d:D)(c:String)(nx:SQ d=false)(hc:c = "int" ∨ c = "bool" ∨ c = "str" ∨ c = "list" ∨ c = "tuple" ∨ c = "dict"):PySem.W.kitOne K (.type (Xl d)) (.type c)=some (KP d c):=by
 cases d with
 |dict kvs=>
  have e:Xl (.dict kvs) = "dict" :=by
   have nx:WF kvs=false:=nx
   show(if WF kvs=true then "" else "dict")=_
   rw[nx];rfl
  unfold KP;rw[e];rcases hc with rfl|rfl|rfl|rfl|rfl|rfl<;>rfl
 |_=>rcases hc with rfl|rfl|rfl|rfl|rfl|rfl<;>rfl
section
variable{X:Cx}{B G0:Hp}{e a b c:Uu}{pos:Pos}{es rest:List Uu}
def YU(X:Cx)(f:Up)(p:List D->Option D):Prop:=
 ∃r,YS X f r/\∀vs G H ds d Q,Same G H->Reps X.K G vs ds->p ds=some d->(∀w G' H',Ext G H G' H'->Rep X.K G' w d->Q w H')->r vs H Q
def Zm(p:List D->Option D)(f:M (List D)):M D:=Kc f λxs=>Ke (p xs)
theorem SJ{x:Str}{p2:Pos}{id:String}{p:List D->Option D}{f:M (List D)}(hc:YU X (.builtin id) p)(hg:Gl X x)(hm:X.mg x=none)(hv:bootBuiltins x=some (.builtin id))(ha:PA X (e::es) (tDs X.K B G0 f))(hn:x ≠ "__name__" :=by decide)(hdb:(x==("__debug__" : Str))=false:=by decide)
  (he:Ux (e::es) X.env=(false,eval e X.env)::Ux es X.env:=by rfl) (hpl:(backTo pos (Ux es X.env)).any (·.1)=false:=by rfl):PE X (.Call (.Name x p2) (e::es) [] pos) (tD X.K B G0 (Zm p f)):=by
 obtain⟨r,h,i⟩:=hc;refine Kt (Pp h hg hm hv ha hn hdb he hpl) λσ H Q q=>tM.one (R:=Reps X.K) q λv H2 G Z x k rr a=>?_
 obtain⟨d,e,a⟩:=a.opt;exact i v G H2 x d Q k.gh rr e λw G' H' ex rw=>a.done k ex rw
theorem jC{x:Str}{p2:Pos}{T:String}{p:List D->Option D}{f:M (List D)}(hc:YU X (.type T) p)(hg:Gl X x)(hm:X.mg x=none)(hv:bootBuiltins x=some (.type T))(ha:PA X (e::es) (tDs X.K B G0 f))(hn:x ≠ "__name__" :=by decide)(hdb:(x==("__debug__" : Str))=false:=by decide)
  (he:Ux (e::es) X.env=(false,eval e X.env)::Ux es X.env:=by rfl) (hpl:(backTo pos (Ux es X.env)).any (·.1)=false:=by rfl):PE X (.Call (.Name x p2) (e::es) [] pos) (tD X.K B G0 (Zm p f)):=by
 obtain⟨r,h,i⟩:=hc;refine Kt (Nh h hg hm hv ha hn hdb he hpl) λσ H Q q=>tM.one (R:=Reps X.K) q λv H2 G Z x k rr a=>?_
 obtain⟨d,e,a⟩:=a.opt;exact i v G H2 x d Q k.gh rr e λw G' H' ex rw=>a.done k ex rw
theorem Reps.nil_inv{K:Frag}{G:Hp}{vs:List V}(r:Reps K G vs []):vs=[]:=by cases r;rfl
theorem Reps.one_inv{K:Frag}{G:Hp}{vs:List V}{d:D}(r:Reps K G vs [d]):∃v,vs=[v]/\Rep K G v d:=by
 cases r with
 |cons h t=>cases t;exact⟨_,rfl,h⟩
theorem Reps.two_inv{K:Frag}{G:Hp}{vs:List V}{d d':D}(r:Reps K G vs [d,d']):∃v v',vs=[v,v']/\Rep K G v d/\Rep K G v' d':=by
 cases r with
 |cons h t=>obtain⟨v',rfl,r'⟩:=t.one_inv;exact⟨_,v',rfl,h,r'⟩
def Kg:List D->Option D
 |[.list xs]=>some (.int xs.length)
 |[.tuple xs]=>some (.int xs.length)
 |[.str z]=>if z.length<=1000000 then some (.int z.length)else none
 |_=>none
theorem Nq:YU X (.builtin "len") Kg:=by
 refine⟨_,LN,λvs G H ds d Q s r e k=>?_⟩;unfold Kg at e;split at e
 ·cases e;obtain⟨v,rfl,q⟩:=r.one_inv;obtain⟨l,ws,rfl,h1,r1⟩:=q.lst_inv;exact⟨.ref l,ws.length,rfl,.inl ⟨ws,s.seq h1,rfl⟩,by rw[r1.length];exact k _ G H (.refl s) (.int _)⟩
 ·cases e;obtain⟨v,rfl,q⟩:=r.one_inv;obtain⟨l,ws,rfl,h1,r1⟩:=q.tup_inv;exact⟨.ref l,ws.length,rfl,.inr ⟨ws,Xb s h1,rfl⟩,by rw[r1.length];exact k _ G H (.refl s) (.int _)⟩
 ·split at e
  ·rename_i z hz;cases e;obtain⟨v,rfl,q⟩:=r.one_inv;exact⟨.str z,z.length,by rw[q.str_inv],⟨QS hz lim,rfl⟩,k _ G H (.refl s) (.int _)⟩
  ·cases e
 ·cases e
def SO:List D->Option D
 |[.int i,.int j]=>some (.int (if j > i then j else i))
 |_=>none
theorem FR(hc:X.calm=true):YU X (.builtin "max") SO:=by
 refine⟨_,jv hc,λvs G H ds d Q s r e k=>?_⟩;unfold SO at e;split at e
 ·cases e;obtain⟨v,v',rfl,r1,r2⟩:=r.two_inv;exact⟨_,_,by rw[r1.int_inv,r2.int_inv],k _ G H (.refl s) (.int _)⟩
 ·cases e
def Zq(i:Nat):M D:=λZ=>match Z[i]? with
 |some (some (.pub d))=>Ke (Kg [d]) Z
 |some (some (.own ds))=>.ok (.int ds.length) Z
 |_=>.bad
theorem Ll{i:Nat}{p2:Pos}(hg:Gl X "len")(hm:X.mg "len" = none)(ha:PE X e (Zi i))(he:Ux [e] X.env=[(false,eval e X.env)]:=by rfl):PE X (.Call (.Name "len" p2) [e] [] pos) (tD X.K B G0 (Zq i)):=by
 refine Kt (Pp LN hg hm PySem.boot_len (VS ha Sr (by rw[he];rfl)) (by decide) (by decide) (by rw[he];rfl) rfl) λσ H Q ⟨G,Z,k,a⟩=>?_
 unfold Zq at a;cases q:Z[i]? with
 |none=>rw[q]at a;exact a.elim
 |some o=>
  cases o with
  |none=>rw[q]at a;exact a.elim
  |some sl=>
   cases sl with
   |deep _ _=>rw[q]at a;exact a.elim
   |pub d=>
    rw[q]at a;obtain⟨v,h1,h2⟩:=k.pub i d q;refine⟨v,h1,?_⟩;obtain⟨d',e',a'⟩:=aft.opt a;obtain⟨r,hr,ir⟩:=@Nq X;show ∃x n,[v]=[x]/\LenV X.K x H n/\Q (.int n) H;unfold Kg at e';split at e'
    ·rename_i xs he';injection he' with he1 he2;subst he1;cases e'
     obtain⟨l,ws,rfl,g1,r1⟩:=h2.lst_inv;exact⟨.ref l,ws.length,rfl,.inl ⟨ws,k.gh.seq g1,rfl⟩,by rw[r1.length];exact a'.now k (.int _)⟩
    ·rename_i xs he';injection he' with he1 he2;subst he1;cases e'
     obtain⟨l,ws,rfl,g1,r1⟩:=h2.tup_inv;exact⟨.ref l,ws.length,rfl,.inr ⟨ws,Xb k.gh g1,rfl⟩,by rw[r1.length];exact a'.now k (.int _)⟩
    ·rename_i z he';injection he' with he1 he2;subst he1
     split at e'
     ·rename_i hz;cases e';exact⟨.str z,z.length,by rw[h2.str_inv],⟨QS hz lim,rfl⟩,a'.now k (.int _)⟩
     ·cases e'
    ·cases e'
   |own ds=>rw[q]at a;obtain⟨ad,vs,h1,g2,g3,h4,h5⟩:=k.own i ds q;exact⟨.ref ad,h1,.ref ad,vs.length,rfl,.inl ⟨vs,SqL.of h4,rfl⟩,by rw[h5.length];exact aft.now a k (.int _)⟩
theorem Dv{pins:List (Us×Obj)}{s:Uq}{σ:St}{G H:Hp}{v:V}{u:Up}{d:D}{cv:Up}{t:Bool}{A:Around}{E:Up->Uq->Prop}{Q:Up->Uq->Prop}(I:Inv X pins σ H s)(sg:Same G H)(r:Rep X.K G v d)(rv:RelV v u)(nx:SQ d=false)
  (ek:PySem.W.kitOne X.K (.type (Xl d)) cv=some t) (h:∀tk,Q (.bool t) {s with toks:=tk}):Uw (model X.prog X.w) A (call (.builtin "isinstance") [u,cv]) Q E s:=by
 cases r with
 |non=>cases rv;exact JC PySem.W.kitx_none I.kIn True.intro ek (λz=>nomatch z) h
 |bl y=>cases rv;exact JC PySem.W.kitx_bool I.kIn True.intro ek (λz=>nomatch z) h
 |int i=>obtain⟨t',rfl⟩:=rv;exact JC PySem.W.kitx_int I.kIn True.intro ek (λz=>nomatch z) h
 |str y=>obtain⟨t',rfl⟩:=rv;exact JC PySem.W.kitx_str I.kIn True.intro ek (λz=>nomatch z) h
 |lst hl _=>cases rv;obtain⟨its,r,⟨o,n,e,hc,_,hd⟩,hz⟩:=I.list (sg.seq hl);exact JC PySem.W.kitx_list I.kIn ⟨o,e,hc⟩ ek (λz=>nomatch z) h
 |tup hl _=>cases rv;obtain⟨its,r,p,hz⟩:=I.tuple (Xb sg hl);obtain⟨o,e,hc,_⟩:=p;exact JC PySem.W.kitx_tuple I.kIn ⟨o,e,hc⟩ ek (λz=>nomatch z) h
 |@dic ad hd=>
  cases rv;obtain⟨_,_,vs,_,p⟩:=(show ZE X.prog X.w H s.heap ad (.dK [])from I.hok ad _ (sg _ _ hd))
  obtain⟨o,es,ep,h1,h2,_⟩:=p;exact JC PySem.W.kitx_dict I.kIn ⟨o,h1,h2.1⟩ ek (λz=>nomatch z) h
 |exc _ _ _ _=>cases nx
 |@dct ad ks vs ds kvs e0 _ _ hd _=>
  cases rv;subst e0;rw[NO.1]at ek;obtain⟨_,_,vs,_,p⟩:=(show ZE X.prog X.w H s.heap ad (.dK (ks.zip _))from I.hok ad _ (sg _ _ hd))
  obtain⟨o,es,ep,h1,h2,_⟩:=p;exact JC PySem.W.kitx_dict I.kIn ⟨o,h1,h2.1⟩ ek (λz=>nomatch z) h
 |@dtt ad ob ks vs ds kvs e0 _ hd _=>
  cases rv;subst e0;obtain⟨_,_,_,xs,_,o,es,ep,h1,h2,_⟩:=(show ZE X.prog X.w H s.heap ad (.frz ob (.dT (ks.zip _)))from I.hok ad _ (sg _ _ hd))
  exact JC PySem.W.kitx_dict I.kIn ⟨o,h1,h2.1⟩ ek (λz=>nomatch z) h
theorem Du(c:String)(hc:c = "int" ∨ c = "bool" ∨ c = "str" ∨ c = "list" ∨ c = "tuple" ∨ c = "dict"):typeOf (.type c)=pure (.type "type"):=by rcases hc with rfl|rfl|rfl|rfl|rfl|rfl<;>kernel_rfl
theorem Bm:YS X (.builtin "isinstance") (λxs H Q=>∃v c G d,xs=[v,.ty c]/\Same G H/\Rep X.K G v d/\(c = "int" ∨ c = "bool" ∨ c = "str" ∨ c = "list" ∨ c = "tuple" ∨ c = "dict")/\Q (.bl (KP d c)) H):=by
 intro pins s σ H xs us Q I r h;obtain⟨v,c,G,d,rfl,sg,rp,hc,q⟩:=h;obtain⟨u,w',rfl,r1,r2⟩:=PH r;cases (show w'=Value.type c from r2);by_cases nx:SQ d=true
 ·cases rp with
  |@exc a C dd bm nm vs ds ck hx hd rr=>
   refine AB (GI I.ok.mod.kin) pins s σ H [.ref a,.ty c] [u,.type c] Q I r ⟨a,C,dd,bm,false,.ty c,false,rfl,⟨nm,ck⟩,sg _ _ hx,.inr ⟨c,rfl,Du c hc,?_⟩,?_⟩
   ·rw[ck.ty];rcases hc with rfl|rfl|rfl|rfl|rfl|rfl<;>rfl
   ·have e:KP (.dict [(.none,.tuple [.str nm,.list ds])]) c=false:=by rcases hc with rfl|rfl|rfl|rfl|rfl|rfl<;>rfl
    rw[e]at q;exact q
  |dct e _ _ _ _=>subst e;rw[NO.2]at nx;cases nx
  |dtt e _ _ _=>subst e;cases nx
  |_=>cases nx
 ·have nx:SQ d=false:=by simpa using nx
  exact Dv I sg rp r1 nx (Dw X.K d c nx hc) λtk=>⟨.bl _,H,I.tok tk,rfl,q⟩
theorem kO:bootBuiltins "isinstance" = some (.builtin "isinstance"):=by decide +kernel
theorem Rz{f:M D}{p2 p3:Pos}{c:String}(hc:c = "int" ∨ c = "bool" ∨ c = "str" ∨ c = "list" ∨ c = "tuple" ∨ c = "dict")(hg:Gl X "isinstance")(hm:X.mg "isinstance" = none)(hg2:Gl X (UJ c))(hm2:X.mg (UJ c)=none)
  (hv2:bootBuiltins (UJ c)=some (.type c)) (ha:PE X e (tD X.K B G0 f)) (hn2:(UJ c) ≠ "__name__") (hd2:((UJ c)==("__debug__" : Str))=false)
  (hs:Ux [e,.Name (UJ c) p3] X.env=(false,eval e X.env)::Ux [.Name (UJ c) p3] X.env:=by rfl)
  (hs2:Ux [.Name (UJ c) p3] X.env=[(false,eval (.Name (UJ c) p3) X.env)]:=by rfl) :
  PE X (.Call (.Name "isinstance" p2) [e,.Name (UJ c) p3] [] pos) (tD X.K B G0 (U6 (λd=>.bool (KP d c)) f)):=by
 refine Kt (Pp Bm hg hm kO (VS ha (VS (CK (v:=.ty c) hg2 hm2 hv2 rfl hn2 hd2) Sr (by rw[hs2];rfl)) hs) (by decide) (by decide) hs (by rw[hs2];rfl)) λσ H Q q=>?_
 refine tM.one (R:=Rep X.K) q λv H2 G Z x k r a=>?_
 exact⟨v,c,G,x,rfl,k.gh,r,hc,aft.now a k (.bl _)⟩
end
def spD(K:Frag)(n:Nat)(F:List D->Option D):Sp:=λvs H Q _=>∃G ds d,vs.length=n/\Same G H/\Reps K G vs ds/\F ds=some d/\∀v G' H',Ext G H G' H'->Rep K G' v d->Q v H'
section
variable{K:Frag}{B G0 G H:Hp}{σ:St}{Z:UP}
theorem EOk.exit(k:EOk K B G0 G H σ Z):Ext G0 B G H:=⟨k.bh,k.g0,k.gh,k.np⟩
theorem Yd{α:Type}{l:List α}{i:Nat}{x y:α}(h:(l.set i x)[i]?=some y):y=x:=by
 by_cases hl:i<l.length
 ·rw[QH hl]at h;cases h;rfl
 ·rw[QC (by rw[Q5];omega)]at h;cases h
theorem DpOk.setOther{i:Nat}{x:Option V}{y:Option Sl}(k:DpOk K B G H σ Z)(hy:∀s,y=some s->∃d,s=.pub d):DpOk K B G H (σ.set i x) (Z.set i y):=by
 have nz:∀{m:Nat}{s:Sl},(Z.set i y)[m]?=some (some s)->(∃d,s=.pub d)∨(Z[m]?=some (some s)/\(σ.set i x)[m]?=σ[m]?):=λ{m s} q=>by
  by_cases z:i=m
  ·subst z;exact .inl (hy s (Yd q).symm)
  ·rw[Qp z]at q⊢;exact .inr ⟨q,rfl⟩
 refine k.map (λm p d q=>?_) (λm es q=>?_) λm p d v fp q s r w n=>⟨r,w⟩
 ·rcases nz q with ⟨_,e⟩|q
  ·cases e
  ·exact q
 ·rcases nz q with ⟨_,e⟩|q
  ·cases e
  ·exact⟨es,q⟩
theorem EOk.setPub{i:Nat}{v:V}{d:D}(k:EOk K B G0 G H σ Z)(r:Rep K G v d)(hi:i<Z.length):EOk K B G0 G H (σ.set i (some v)) (Z.set i (some (.pub d))) where
 bh:=k.bh
 gh:=k.gh
 g0:=k.g0
 np:=k.np
 len:=by rw[Q5,Q5];exact k.len
 pub:=λj d' q=>by
  by_cases z:i=j
  ·subst z;have:=Yd q;cases this;exact⟨v,QH (by rw[←k.len];exact hi),r⟩
  ·rw[Qp z]at q⊢;exact k.pub j d' q
 own:=λj ds q=>by
  by_cases z:i=j
  ·subst z;have:=Yd q;cases this
  ·rw[Qp z]at q⊢;exact k.own j ds q
 sep:=λj l c es fs q1 q2 s1 s2=>by
  have z1:i≠j:=λz=>by subst z;have:=Yd q1;cases this
  have z2:i≠l:=λz=>by subst z;have:=Yd q2;cases this
  rw[Qp z1]at q1 s1;rw[Qp z2]at q2 s2;exact k.sep j l c es fs q1 q2 s1 s2
 dp:=k.dp.setOther (λs e=>by cases e;exact⟨_,rfl⟩)
structure NewL(K:Frag)(B G H:Hp)(σ:St)(Z:UP)(a:Us)(vs:List V)(ds:List D):Prop where
 b:B a=none
 g:G a=none
 h:H a=some (.lst vs)
 r:Reps K G vs ds
 f:∀(j:Nat) es,Z[j]?=some (some (.own es))->σ[j]?≠some (some (.ref a))
 dp:∀(j:Nat) p d v fp,Z[j]?=some (some (.deep p d))->σ[j]?=some (some v)->RepO K G H p v d fp->a∉fp
theorem EOk.freshD{H':Hp}{a:Us}(k:EOk K B G0 G H σ Z)(e:Same H H')(ha:H a=none){G':Hp}{j:Nat}{p:Pat}{d:D}{v:V}{fp:List Us}(q:Z[j]?=some (some (.deep p d)))(s:σ[j]?=some (some v))(r:RepO K G' H' p v d fp):a∉fp:=λm=>by obtain⟨ω,k1,k2⟩:=k.dp;obtain⟨v',fp',s',r',n,w⟩:=k1 j p d q;rw[s]at s';cases s';have u:=r'.uniq e r;subst u;obtain⟨ws,hl⟩:=r'.isl a m;rw[ha]at hl;cases hl
theorem EOk.setOwn{i:Nat}{a:Us}{vs:List V}{ds:List D}(k:EOk K B G0 G H σ Z)(n:NewL K B G H σ Z a vs ds)(hi:i<Z.length):EOk K B G0 G H (σ.set i (some (.ref a))) (Z.set i (some (.own ds))) where
 bh:=k.bh
 gh:=k.gh
 g0:=k.g0
 np:=k.np
 len:=by rw[Q5,Q5];exact k.len
 pub:=λj d' q=>by
  by_cases z:i=j
  ·subst z;have:=Yd q;cases this
  ·rw[Qp z]at q⊢;exact k.pub j d' q
 own:=λj es q=>by
  by_cases z:i=j
  ·subst z;have:=Yd q;cases this;exact⟨a,vs,QH (by rw[←k.len];exact hi),n.b,n.g,n.h,n.r⟩
  ·rw[Qp z]at q⊢;exact k.own j es q
 sep:=λj l c es fs q1 q2 s1 s2=>by
  have hs:i<σ.length:=by rw[←k.len];exact hi
  by_cases z1:i=j
  ·subst z1;rw[QH hs]at s1;cases s1;by_cases z2:i=l
   ·exact z2
   ·rw[Qp z2]at q2 s2;exact absurd s2 (n.f l fs q2)
  ·by_cases z2:i=l
   ·subst z2;rw[QH hs]at s2;cases s2;rw[Qp z1]at q1 s1;exact absurd s1 (n.f j es q1)
   ·rw[Qp z1]at q1 s1;rw[Qp z2]at q2 s2;exact k.sep j l c es fs q1 q2 s1 s2
 dp:=by
  obtain⟨ω,k1,k2⟩:=k.dp;have hs:i<σ.length:=by rw[←k.len];exact hi
  refine⟨λb=>if b=a then i else ω b,λj p d q=>?_,λj es b q s=>?_⟩
  ·by_cases z:i=j
   ·subst z;have:=Yd q;cases this
   ·rw[Qp z]at q⊢;obtain⟨v,fp,s,r,nn,w⟩:=k1 j p d q;refine⟨v,fp,s,r,nn,λb m=>⟨(w b m).1,(w b m).2.1,?_⟩⟩;dsimp only;rw[Qs (λz=>n.dp j p d v fp q s r (by rw[←z];exact m))];exact(w b m).2.2
  ·by_cases z:i=j
   ·subst z;rw[QH hs]at s;cases s;dsimp only;rw[Qk rfl]
   ·rw[Qp z]at q s;dsimp only;rw[Qs (λe=>n.f j es q (by rw[←e];exact s))];exact k2 j es b q s
theorem EOk.change{i:Nat}{a:Us}{vs:List V}{ds es:List D}(k:EOk K B G0 G H σ Z)(q:Z[i]?=some (some (.own ds)))(ha:σ[i]?=some (some (.ref a)))(r:Reps K G vs es) :
  EOk K B G0 G (upd H a (.lst vs)) σ (Z.set i (some (.own es))):=by
 obtain⟨a',ws,h1,h2,h3,h4,h5⟩:=k.own i ds q;rw[ha]at h1;cases h1;have hi:i<Z.length:=(Qg.mp q).1;refine⟨λb o e=>?_,λb o e=>?_,k.g0,k.np,by rw[Q5];exact k.len,λj d' e=>?_,λj fs e=>?_,λj l c fs gs q1 q2 s1 s2=>?_,?_⟩
 ·rw[Kz (Ym e h2)];exact k.bh b o e
 ·rw[Kz (Ym e h3)];exact k.gh b o e
 ·by_cases z:i=j
  ·subst z;have:=Yd e;cases this
  ·rw[Qp z]at e;exact k.pub j d' e
 ·by_cases z:i=j
  ·subst z;have:=Yd e;cases this;exact⟨a,vs,ha,h2,h3,Zf,r⟩
  ·rw[Qp z]at e;obtain⟨c,us,g1,g2,g3,g4,g5⟩:=k.own j fs e;have zc:c≠a:=λw=>z (k.sep i j a ds fs q e ha (by rw[←w];exact g1))
   exact⟨c,us,g1,g2,g3,by rw[Kz zc];exact g4,g5⟩
 ·have f:∀{m:Nat}{ts:List D},(Z.set i (some (Sl.own es)))[m]?=some (some (.own ts))->∃ts',Z[m]?=some (some (.own ts')):=λ{m ts} e=>by
   by_cases z:i=m
   ·subst z;exact⟨ds,q⟩
   ·rw[Qp z]at e;exact⟨ts,e⟩
  obtain⟨f1,w1⟩:=f q1;obtain⟨f2,w2⟩:=f q2;exact k.sep j l c f1 f2 w1 w2 s1 s2
 ·refine k.dp.map (λj p d e=>?_) (λj fs e=>?_) λj p d v fp qj s rj w n=>⟨rj.upd (λ_ z=>by rw[h4]at z;cases z) (n i ds a q ha),w⟩
  ·by_cases z:i=j
   ·subst z;have:=Yd e;cases this
   ·rw[Qp z]at e;exact⟨e,rfl⟩
  ·by_cases z:i=j
   ·subst z;exact⟨ds,q,rfl⟩
   ·rw[Qp z]at e;exact⟨fs,e,rfl⟩
end
inductive Out where
 |nx (Z:UP)|rt (d:D)|bk (Z:UP)|ct (Z:UP)|ex (Z:UP) (d:D)|ro (ds:List D)|bad
abbrev SM:=UP->Out
section
variable(K:Frag)(B G0:Hp)(KX:XW)
def aftS(o:Out)(G1:Hp)(Dn:Ends):Prop:=
 match o with
 |.nx Z=>∀σ G H,EOk K B G0 G H σ Z->Same G1 G->Dn.nx σ H
 |.bk Z=>∀σ G H,EOk K B G0 G H σ Z->Same G1 G->Dn.bk σ H
 |.ct Z=>∀σ G H,EOk K B G0 G H σ Z->Same G1 G->Dn.ct σ H
 |.rt d=>∀v G H,Ext G0 B G H->Rep K G v d->Dn.rt v H
 |.ro ds=>∀a vs G H,Ext G0 B G H->B a=none->G a=none->H a=some (.lst vs)->Reps K G vs ds->Dn.rt (.ref a) H
 |.ex Z d=>∀v σ G H,EOk K B G0 G H σ Z->Same G1 G->Rep K G v d->KX v σ H
 |.bad=>False
def tS(g:SM):TS:=λDn σ H=>∃G Z,EOk K B G0 G H σ Z/\aftS K B G0 KX (g Z) G Dn
def sB{α:Type}(f:M α)(g:α->SM):SM:=λZ=>match f Z with | .ok a Z'=>g a Z' | .bad=>.bad
end
section
variable{X:Cx}{B G0:Hp}{KX:XW}{e a b c:Uu}{pos:Pos}{es rest:List Uu}{st:Stmt}{sts sts2:List Stmt}
theorem aftS.mono{K:Frag}{o:Out}{G G':Hp}{Dn:Ends}(e:Same G G')(h:aftS K B G0 KX o G Dn):aftS K B G0 KX o G' Dn:=by
 cases o with
 |nx Z=>exact λσ G2 H2 k s=>h σ G2 H2 k (e.trans s)
 |bk Z=>exact λσ G2 H2 k s=>h σ G2 H2 k (e.trans s)
 |ct Z=>exact λσ G2 H2 k s=>h σ G2 H2 k (e.trans s)
 |rt d=>exact h
 |ro ds=>exact h
 |ex Z d=>exact λv σ G2 H2 k s r=>h v σ G2 H2 k (e.trans s) r
 |bad=>exact h
theorem tS.bnd{K:Frag}{α γ:Type}{R:Hp->γ->α->Prop}{f:M α}{g:α->SM}{Dn:Ends}{σ:St}{H:Hp}{P:γ->Hp->Prop}(q:tS K B G0 KX (sB f g) Dn σ H)
  (i:∀v H' G' Z' x,EOk K B G0 G' H' σ Z'->R G' v x->aftS K B G0 KX (g x Z') G' Dn->P v H'):tM K B G0 R f σ H P:=by
 obtain⟨G,Z,k,a⟩:=q;refine⟨G,Z,k,?_⟩;unfold sB at a;cases z:f Z with
 |bad=>rw[z]at a;exact a.elim
 |ok d Z1=>rw[z]at a;exact λv G' H' e s r=>i v H' G' Z1 d e r (aftS.mono s a)
def sNx:SM:=λZ=>.nx Z
def UW(g h:SM):SM:=λZ=>match g Z with | .nx Z'=>h Z'|o=>o
theorem PY:PSs X [] (tS X.K B G0 KX sNx):=Nu CH λD σ H ⟨G,Z,k,a⟩=>a σ G H k (.refl _)
theorem Su{g h:SM}(h1:PS X st (tS X.K B G0 KX g))(h2:PSs X sts (tS X.K B G0 KX h)):PSs X (st::sts) (tS X.K B G0 KX (UW g h)):=Nu (Ao h1 h2) λD σ H ⟨G,Z,k,a⟩=>by
 refine⟨G,Z,k,?_⟩;unfold UW at a;cases z:g Z with
 |nx Z1=>rw[z]at a;exact λσ' G' H' k' s'=>⟨G',Z1,k',aftS.mono s' a⟩
 |rt d=>rw[z]at a;exact a
 |ro ds=>rw[z]at a;exact a
 |bk Z1=>rw[z]at a;exact a
 |ct Z1=>rw[z]at a;exact a
 |ex Z1 d=>rw[z]at a;exact a
 |bad=>rw[z]at a;exact a.elim
theorem Sq{g:SM}(h1:PS X st (tS X.K B G0 KX g)):PSs X [st] (tS X.K B G0 KX g):=CG h1
def Wh:SM:=λ_=>.bad
theorem Bl:PS X st (tS X.K B G0 KX Wh):=λ_ _ _ _ _ _ ⟨_,_,_,a⟩=>a.elim
def U3(f:M D):SM:=sB f λd _=>.rt d
theorem NN{f:M D}(h:PE X e (tD X.K B G0 f)):PS X (.Return (some e) pos) (tS X.K B G0 KX (U3 f)):=Zp (Ew h) λD σ H q=>tS.bnd (R:=Rep X.K) q λv H' G' Z' x k r a=>a v G' H' k.exit r
def XS(f:M D):SM:=sB f λ_ Z=>.nx Z
theorem Dt{f:M D}(h:PE X e (tD X.K B G0 f))(hs:swapsWith e none pos.line X.env=pure false:=by rfl):PS X (.Expr e pos) (tS X.K B G0 KX (XS f)):=Zp (M0 h hs) λD σ H q=>tS.bnd (R:=Rep X.K) q λv H' G' Z' x k r a=>a σ G' H' k (.refl _)
def sIf(f:M Bool)(g h:SM):SM:=sB f λt=>if t=true then g else h
theorem Pz{f:M Bool}{g h:SM}(hc:PT X c (tBo X.K B G0 f))(ha:PSs X sts (tS X.K B G0 KX g))(hb:PSs X sts2 (tS X.K B G0 KX h)):PS X (.If c sts sts2 pos) (tS X.K B G0 KX (sIf f g h)):=
 Zp (Ep hc ha hb) λD σ H q=>tS.bnd (R:=λ_ b c=>b=c) q λv H' G' Z' x k r a=>by
  have r:v=x:=r;subst r;cases v with
  |true=>exact⟨G',Z',k,a⟩
  |false=>exact⟨G',Z',k,a⟩
def tG(K:Frag)(B G0:Hp)(s:D->UP->Option UP):TG:=λv σ H Q=>∃G Z d Z',EOk K B G0 G H σ Z/\Rep K G v d/\s d Z=some Z'/\∀σ' G' H',EOk K B G0 G' H' σ' Z'->Same G G'->Q σ' H'
def tGs(K:Frag)(B G0:Hp)(s:List D->UP->Option UP):TGs:=λv σ H Q=>∃G Z d Z',EOk K B G0 G H σ Z/\Reps K G v d/\s d Z=some Z'/\∀σ' G' H',EOk K B G0 G' H' σ' Z'->Same G G'->Q σ' H'
theorem pgof{t t':TG}(h:PG X e t)(i:∀v σ H Q,t' v σ H Q->t v σ H Q):PG X e t':=λpins s σ H v u Q I r q=>h pins s σ H v u Q I r (i v σ H Q q)
theorem Np{t t':TGs}(h:PGs X es t)(i:∀v σ H Q,t' v σ H Q->t v σ H Q):PGs X es t':=λpins s σ H v u Q I r q=>h pins s σ H v u Q I r (i v σ H Q q)
def gN(i:Nat):D->UP->Option UP:=λd Z=>if i<Z.length then some (Z.set i (some (.pub d)))else none
theorem Wj{i:Nat}(h:PG X e (PJ i)):PG X e (tG X.K B G0 (gN i)):=pgof h λv σ H Q ⟨G,Z,d,Z',k,r,e,q⟩=>by
 unfold gN at e;split at e
 ·rename_i hi;cases e;exact q _ G H (k.setPub r hi) (.refl _)
 ·cases e
def gN0:List D->UP->Option UP:=λd Z=>match d with | []=>some Z|_=>none
def gNC(s:D->UP->Option UP)(t:List D->UP->Option UP):List D->UP->Option UP:=λds Z=>match ds with|d::r=>(s d Z).bind (t r) | []=>none
theorem RR:PGs X [] (tGs X.K B G0 gN0):=Np CF λv σ H Q ⟨G,Z,d,Z',k,r,e,q⟩=>by
 cases r with
 |nil=>cases e;exact⟨rfl,q σ G H k (.refl _)⟩
 |cons _ _=>cases e
theorem Wq{s:D->UP->Option UP}{t:List D->UP->Option UP}(h1:PG X e (tG X.K B G0 s))(h2:PGs X es (tGs X.K B G0 t))
  (hs:(UM (e::es) X.env).map (·.2)=assign e X.env::(UM es X.env).map (·.2):=by rfl):PGs X (e::es) (tGs X.K B G0 (gNC s t)):=Np (An h1 h2 hs) λv σ H Q ⟨G,Z,d,Z',k,r,e,q⟩=>by
 cases r with
 |nil=>cases e
 |@cons w dw ws dws rw rt=>
  unfold gNC at e;dsimp only at e;cases z:s dw Z with
  |none=>rw[z]at e;cases e
  |some Z1=>rw[z]at e;refine⟨w,ws,rfl,G,Z,dw,Z1,k,rw,z,λσ' G' H' k' s'=>?_⟩;exact⟨G',Z1,dws,Z',k',rt.mono s',e,λσ2 G2 H2 k2 s2=>q σ2 G2 H2 k2 (s'.trans s2)⟩
def gT(n:Nat)(t:List D->UP->Option UP):D->UP->Option UP:=λd Z=>match d with | .tuple ds=>if ds.length=n then t ds Z else none|_=>none
theorem RQ{k1:Nat}{t:List D->UP->Option UP}{n:Nat}(hc:X.calm=true)(h:PGs X es (tGs X.K B G0 t))
  (hn:(UM es X.env).length=n:=by rfl) (hst:(UM es X.env).findIdx? (·.1)=none:=by rfl):PG X (.Tuple es k1 pos) (tG X.K B G0 (gT n t)):=pgof (Ev hc h hn hst) λv σ H Q ⟨G,Z,d,Z',k,r,e,q⟩=>by
 unfold gT at e;split at e
 ·split at e
  ·rename_i hl;obtain⟨ad,vs,rfl,h1,r1⟩:=r.tup_inv;exact⟨ad,vs,rfl,Xb k.gh h1,by rw[r1.length];exact hl,G,Z,_,Z',k,r1,e,q⟩
  ·cases e
 ·cases e
def ZS(f:M D)(s:D->UP->Option UP):SM:=sB f λd Z=>match s d Z with|some Z'=>.nx Z'|none=>.bad
theorem FQ{tg:Uu}{f:M D}{s:D->UP->Option UP}(he:PE X e (tD X.K B G0 f))(hg:PG X tg (tG X.K B G0 s))(hs:swapsWithSole [tg] e pos.line X.env=pure false:=by rfl)(hw:swappedStores [tg] e X.env=pure none:=by rfl)
  (h1:(UM [tg] X.env).map (·.2)=[assign tg X.env]:=by rfl):PS X (.Assign [tg] e pos) (tS X.K B G0 KX (ZS f s)):=
 Zp (Eu he hg hs hw h1) λD σ H q=>tS.bnd (R:=Rep X.K) q λv H' G' Z' x k r a=>by
  cases z:s x Z' with
  |none=>rw[z]at a;exact a.elim
  |some Z2=>rw[z]at a;exact⟨G',Z',x,Z2,k,r,z,λσ2 G2 H2 k2 s2=>a σ2 G2 H2 k2 s2⟩
def U8(i:Nat)(f:M D):SM:=ZS f (gN i)
theorem FP{i:Nat}{x:Str}{f:M D}{p2:Pos}(hN:X.N.Nodup)(hi:X.N[i]?=some x)(hx:Loc X.env.scope x)(he:PE X e (tD X.K B G0 f))(hs:swapsWith e (some (.Name x p2)) pos.line X.env=pure false:=by rfl)
  (hf:X.fn x=true∨X.env.scope.names.lookup x=some .local:=by first|exact .inl rfl|exact .inr rfl|assumption):PS X (.Assign [.Name x p2] e pos) (tS X.K B G0 KX (U8 i f)):=
 Zp (P5 hN hi hx he hs hf) λD σ H q=>tS.bnd (R:=Rep X.K) q λv H' G' Z' x k r a=>by
  unfold gN at a;split at a
  ·rename_i Z2 hz;split at hz
   ·rename_i hi2;cases hz;exact a _ G' H' (k.setPub r hi2) (.refl _)
   ·cases hz
  ·exact a.elim
def tL(K:Frag)(B G0:Hp)(f:M (List D)):TE:=λσ H Q=>∃G Z,EOk K B G0 G H σ Z/\match f Z with
 |.ok ds Z'=>∀a vs G' H',EOk K B G0 G' H' σ Z'->Same G G'->NewL K B G' H' σ Z' a vs ds->Q (.ref a) H'
 |.bad=>False
def Za(i:Nat)(f:M (List D)):SM:=sB f λds Z=>if i<Z.length then .nx (Z.set i (some (.own ds)))else .bad
theorem MQ{i:Nat}{x:Str}{f:M (List D)}{p2:Pos}(hN:X.N.Nodup)(hi:X.N[i]?=some x)(hx:Loc X.env.scope x)(he:PE X e (tL X.K B G0 f))(hs:swapsWith e (some (.Name x p2)) pos.line X.env=pure false:=by rfl)
  (hf:X.fn x=true∨X.env.scope.names.lookup x=some .local:=by first|exact .inl rfl|exact .inr rfl|assumption):PS X (.Assign [.Name x p2] e pos) (tS X.K B G0 KX (Za i f)):=
 Zp (P5 hN hi hx he hs hf) λD σ H ⟨G,Z,k,a⟩=>by
  refine⟨G,Z,k,?_⟩;unfold Za sB at a;cases z:f Z with
  |bad=>rw[z]at a;exact a.elim
  |ok ds Z1=>
   rw[z]at a;intro ad vs G' H' k' s' n;dsimp only at a;split at a
   ·rename_i hl;exact a _ G' H' (k'.setOwn n hl) s'
   ·exact a.elim
theorem NewL.of{K:Frag}{G H:Hp}{σ:St}{Z:UP}{p:Us}{vs:List V}{ds:List D}(k:EOk K B G0 G H σ Z)(hp:H p=none)(r:Reps K G vs ds):NewL K B G (upd H p (.lst vs)) σ Z p vs ds where
 b:=k.bh.free hp
 g:=k.gh.free hp
 h:=Zf
 r:=r
 f:=λj es q z=>by obtain⟨a,ws,h1,h2,h3,h4,h5⟩:=k.own j es q;rw[z]at h1;cases h1;rw[hp]at h4;cases h4
 dp:=λj pt d v fp q s rr=>k.freshD (Zx hp) hp q s rr
theorem MP{f:M (List D)}(h:PA X es (tDs X.K B G0 f)):PE X (.List es pos) (tL X.K B G0 (Kc f λxs=>if xs.length<=1000000 then UU xs else λ_=>.bad)):=
 Kt (NS h) λσ H Q ⟨G,Z,k,a⟩=>by
  refine⟨G,Z,k,?_⟩;unfold Kc at a;cases z:f Z with
  |bad=>rw[z]at a;exact a.elim
  |ok ds Z1=>
   rw[z]at a;dsimp only at a;intro v G' H' k' s' r;by_cases c:ds.length<=1000000
   ·rw[Qk c]at a;refine⟨by rw[r.length];exact QS c lim,λp hp=>?_⟩;exact a p v G' _ (k'.ext (Ext.hid k'.gh hp)) s' (NewL.of k' hp r)
   ·rw[Qs c]at a;exact a.elim
def ZT(i:Nat)(f:M D):SM:=λZ0=>match Z0[i]? with
 |some (some (.own _))=>sB f (λd Z=>match Z[i]? with
  |some (some (.own ds))=>if ds.length<1000000 then .nx (Z.set i (some (.own (ds++[d]))))else .bad
  |_=>.bad) Z0
 |_=>.bad
theorem NM{i:Nat}{f:M D}{o:Uu}{apos cpos:Pos}(ho:PE X o (Zi i))(he:PE X e (tD X.K B G0 f))
  (hbase:attributeBase o "append" X.env (eval o X.env)=eval o X.env:=by rfl)
  (hfew:((backTo cpos (Ux [e] X.env)).all (λx=>!x.1)&&(backToKw cpos (keywordEach [] X.env)).all (λx=>x.1.isSome)
   && decide ([e].length+([]:List Keyword).length+(if([]:List Keyword).isEmpty then 0 else 1)<30))=true:=by rfl)
  (hline:(apos.endLine==cpos.line)=true:=by rfl) (hs:Ux [e] X.env=[(false,eval e X.env)]:=by rfl)
  (hsw:swapsWith (.Call (.Attribute o "append" apos) [e] [] cpos) none pos.line X.env=pure false:=by rfl) :
  PS X (.Expr (.Call (.Attribute o "append" apos) [e] [] cpos) pos) (tS X.K B G0 KX (ZT i f)):=
 Zp (M0 (PF PySem.F.plainAttrs_list PySem.F.slot_list_append PySem.F.type_list_append L7 ho (VS he Sr (by rw[hs];rfl)) hbase hfew hline (by rw[hs];rfl) rfl) hsw) λD σ H ⟨G,Z,k,a⟩=>by
  unfold ZT at a;cases q0:Z[i]? with
  |none=>rw[q0]at a;exact a.elim
  |some o0=>
   cases o0 with
   |none=>rw[q0]at a;exact a.elim
   |some sl0=>
    cases sl0 with
    |deep _ _=>rw[q0]at a;exact a.elim
    |pub d=>rw[q0]at a;exact a.elim
    |own ds0=>
     rw[q0]at a;obtain⟨ad,vs0,h1,h2,h3,h4,h5⟩:=k.own i ds0 q0;refine⟨.ref ad,h1,.inl ⟨rfl,_,SqL.of h4⟩,G,Z,k,?_⟩;unfold sB at a;cases z:f Z with
     |bad=>rw[z]at a;exact a.elim
     |ok d Z1=>
      rw[z]at a;dsimp only at a;intro v G' H' k' s' r';cases q:Z1[i]? with
      |none=>rw[q]at a;exact a.elim
      |some o=>
       cases o with
       |none=>rw[q]at a;exact a.elim
       |some sl=>
        cases sl with
        |deep _ _=>rw[q]at a;exact a.elim
        |pub d=>rw[q]at a;exact a.elim
        |own ds=>
         rw[q]at a;dsimp only at a;split at a
         ·rename_i hl;obtain⟨ad',vs,g1,g2,g3,g4,g5⟩:=k'.own i ds q;rw[h1]at g1;cases g1;refine⟨ad,vs,v,rfl,rfl,g4,by rw[g5.length];exact QE hl lim,?_⟩;exact a σ G' _ (k'.change q h1 (g5.append (.cons r' .nil))) s'
         ·exact a.elim
end
structure XF(K:Frag)(J:It)(ds:List D)(G1:Hp):Prop where
 go:∀i G H,Same G1 G->Same G H->i<ds.length->J.go i H
 stop:∀i G H,Same G1 G->Same G H->ds.length<=i->J.stop i H
 yld:∀i G H x H' d,Same G1 G->Same G H->ds[i]?=some d->J.yld i H x H'->∃G',Ext G H G' H'/\Rep K G' x d
def iD(K:Frag)(B G0:Hp)(f:M (List D)):TI:=λσ H R=>∃G Z,EOk K B G0 G H σ Z/\match f Z with
 |.ok ds Z'=>∀J G' H',EOk K B G0 G' H' σ Z'->Same G G'->XF K J ds G'->R J H'
 |.bad=>False
section
variable{X:Cx}{B G0:Hp}{KX:XW}{e a b c tg:Uu}{pos:Pos}{es rest:List Uu}{st:Stmt}{sts sts2:List Stmt}
theorem Xo{t t':TI}(h:PI X tg e t)(i:∀σ H R,t' σ H R->t σ H R):PI X tg e t':=λpins s σ H R I q=>h pins s σ H R I (i σ H R q)
theorem tM.toI{K:Frag}{α γ:Type}{R0:Hp->γ->α->Prop}{f:M α}{g:α->M (List D)}{σ:St}{H:Hp}{R:It->Hp->Prop}{P:γ->Hp->Prop}(q:iD K B G0 (Kc f g) σ H R)
  (i:∀v H' G' Z' x,EOk K B G0 G' H' σ Z'->R0 G' v x->(match g x Z' with
   |.ok ds Z2=>∀J G2 H2,EOk K B G0 G2 H2 σ Z2->Same G' G2->XF K J ds G2->R J H2
   |.bad=>False)->P v H'):tM K B G0 R0 f σ H P:=by
 obtain⟨G,Z,k,a⟩:=q;refine⟨G,Z,k,?_⟩;unfold Kc at a;cases z:f Z with
 |bad=>rw[z]at a;exact a.elim
 |ok d Z1=>
  rw[z]at a;intro v G' H' e s r;refine i v H' G' Z1 d e r ?_;dsimp only at a;cases z2:g d Z1 with
  |bad=>rw[z2]at a;exact a.elim
  |ok ds Z2=>rw[z2]at a;exact λJ G2 H2 k2 s2 it=>a J G2 H2 k2 (s.trans s2) it
theorem jB{K:Frag}{G1:Hp}{ad:Us}{vs:List V}{ds:List D}(h:SqL K G1 ad vs)(r:Reps K G1 vs ds):XF K (Itl K ad) ds G1 where
 go:=λi G H s1 s2 hi=>by
  have hi':i<vs.length:=by rw[r.length];exact hi
  exact⟨vs,vs[i],(s1.trans s2).seq h,Qd hi'⟩
 stop:=λi G H s1 s2 hi=>⟨vs,(s1.trans s2).seq h,by rw[r.length];exact hi⟩
 yld:=λi G H x H' d s1 s2 e y=>by obtain⟨rfl,y⟩:=y;obtain⟨v,e1,r1⟩:=r.get e;have:=y vs ((s1.trans s2).seq h);rw[e1]at this;cases this;exact⟨G,.refl s2,r1.mono s1⟩
def Yk(lo hi:Int):List D:=(Uz (hi-lo).toNat).map λ(k:Nat)=>.int (lo+k)
theorem Wv(lo hi:Int):(Yk lo hi).length=(hi-lo).toNat:=by unfold Yk;rw[Qb,Qr]
theorem HN{K:Frag}{G1:Hp}(lo hi:Int):XF K (Itr lo (hi-lo).toNat) (Yk lo hi) G1 where
 go:=λi G H s1 s2 h=>by rw[Wv]at h;exact h
 stop:=λi G H s1 s2 h=>by rw[Wv]at h;exact h
 yld:=λi G H x H' d s1 s2 e y=>by
  obtain⟨rfl,rfl⟩:=y;unfold Yk at e;rw[Qe]at e;have hi:i<(Uz (hi-lo).toNat).length:=by refine Nat.lt_of_not_le λz=>?_;rw[QC z]at e;cases e
  rw[Qd hi,J0]at e;cases e;exact⟨G,.refl s2,.int _⟩
def Sj:List D->Option (List D)
 |[.int j]=>if j<=1000000 /\ -1000000<=j then some (Yk 0 j)else none
 |_=>none
def Se:List D->Option (List D)
 |[.int i,.int j]=>if j<=1000000 /\ -1000000<=j/\i<=1000000 /\ -1000000<=i then some (Yk i j)else none
 |_=>none
def Wf(f:M (List D)):M (List D):=Kc f λx=>Ke (Sj x)
def RD(f:M (List D)):M (List D):=Kc f λx=>Ke (Se x)
theorem A3{f:M (List D)}{p2:Pos}(hg:Gl X "range")(hm:X.mg "range" = none)(ha:PA X [a] (tDs X.K B G0 f))(hs:Ux [a] X.env=[(false,eval a X.env)]:=by rfl) :
  PI X tg (.Call (.Name "range" p2) [a] [] pos) (iD X.K B G0 (Wf f)):=Xo (jz hg hm ha hs) λσ H R q=>tM.toI (R0:=Reps X.K) q λv H' G' Z' x k r a=>by
 cases z:Sj x with
 |none=>rw[z]at a;exact a.elim
 |some ds=>
  rw[z]at a;unfold Sj at z;split at z
  ·split at z
   ·rename_i j c;cases z;obtain⟨w,rfl,r'⟩:=r.one_inv;refine⟨j,by rw[r'.int_inv],by omega,by omega,?_⟩;have it:=HN (K:=X.K) (G1:=G') 0 j;rw[Int.sub_zero]at it;exact a _ G' H' k (.refl _) it
   ·cases z
  ·cases z
theorem A2{f:M (List D)}{p2:Pos}(hg:Gl X "range")(hm:X.mg "range" = none)(ha:PA X [a,b] (tDs X.K B G0 f))(hs:Ux [a,b] X.env=[(false,eval a X.env),(false,eval b X.env)]:=by rfl)(hs2:Ux [b] X.env=[(false,eval b X.env)]:=by rfl) :
  PI X tg (.Call (.Name "range" p2) [a,b] [] pos) (iD X.K B G0 (RD f)):=Xo (jy hg hm ha hs hs2) λσ H R q=>tM.toI (R0:=Reps X.K) q λv H' G' Z' x k r a=>by
 cases z:Se x with
 |none=>rw[z]at a;exact a.elim
 |some ds=>
  rw[z]at a;unfold Se at z;split at z
  ·split at z
   ·rename_i i j c;cases z;obtain⟨w,w',rfl,r1,r2⟩:=r.two_inv;refine⟨i,j,by rw[r1.int_inv,r2.int_inv],⟨by omega,by omega,by omega,by omega⟩,?_⟩;exact a _ G' H' k (.refl _) (HN i j)
   ·cases z
  ·cases z
def Yj(n:Nat):List D->List D
 |[]=>[]
 |d::r=>.tuple [.int n,d]::Yj (n+1) r
theorem YB:∀(n:Nat)(ds:List D),(Yj n ds).length=ds.length
 |_,[]=>rfl
 |n,d::r=>by rw[Yj,Qv,Qv,YB]
theorem O0:∀(n:Nat)(ds:List D)(i:Nat),(Yj n ds)[i]?=ds[i]?.map λd=>.tuple [.int ((n+i:Nat):Int),d]
 |_,[],i=>by simp[Yj]
 |n,d::r,0=>by simp[Yj]
 |n,d::r,i+1=>by
  rw[Yj,List.getElem?_cons_succ,List.getElem?_cons_succ,O0 (n+1) r i];have:n+1+i=n+(i+1):=by omega
  rw[this]
theorem q8{K:Frag}{G1:Hp}{ad:Us}{vs:List V}{ds:List D}(h:SqL K G1 ad vs)(r:Reps K G1 vs ds):XF K (Ite K ad) (Yj 0 ds) G1 where
 go:=λi G H s1 s2 hi=>by
  rw[YB]at hi;have hi':i<vs.length:=by rw[r.length];exact hi
  exact⟨vs,vs[i],(s1.trans s2).seq h,Qd hi'⟩
 stop:=λi G H s1 s2 hi=>by rw[YB]at hi;exact⟨vs,(s1.trans s2).seq h,by rw[r.length];exact hi⟩
 yld:=λi G H x H' d s1 s2 e y=>by
  obtain⟨p,v,hp,rfl,y,rfl⟩:=y;rw[O0]at e;cases z:ds[i]? with
  |none=>rw[z]at e;cases e
  |some d0=>rw[z]at e;cases e;obtain⟨w,e1,r1⟩:=r.get z;have:=y vs ((s1.trans s2).seq h);rw[e1]at this;cases this;refine⟨upd G p (.tup [.int i,v]),Ext.new s2 hp,.tup (SqT.of Zf) (.cons ?_ (.cons ((r1.mono s1).mono (Zx (s2.free hp))) .nil))⟩;rw[Q3];exact .int _
def SN:List D->Option (List D)
 |[.list ds]=>some (Yj 0 ds)
 |_=>none
def YR(f:M (List D)):M (List D):=Kc f λx=>Ke (SN x)
theorem MN{f:M (List D)}{p2:Pos}{elts:List Uu}{x1}{tp:Pos}(hg:Gl X "enumerate")(hm:X.mg "enumerate" = none)(ha:PA X [a] (tDs X.K B G0 f))(hs:Ux [a] X.env=[(false,eval a X.env)]:=by rfl) :
  PI X (.Tuple elts x1 tp) (.Call (.Name "enumerate" p2) [a] [] pos) (iD X.K B G0 (YR f)):=Xo (Cs hg hm ha hs) λσ H R q=>tM.toI (R0:=Reps X.K) q λv H' G' Z' x k r a=>by
 cases z:SN x with
 |none=>rw[z]at a;exact a.elim
 |some ds=>
  rw[z]at a;unfold SN at z;split at z
  ·cases z;obtain⟨w,rfl,r'⟩:=r.one_inv;obtain⟨ad,vs,rfl,h1,r1⟩:=r'.lst_inv;exact⟨ad,vs,rfl,k.gh.seq h1,a _ G' H' k (.refl _) (q8 h1 r1)⟩
  ·cases z
def Vf(s:D->UP->Option UP)(g:SM):List D->SM
 |[],Z=>.nx Z
 |d::r,Z=>match s d Z with
  |none=>.bad
  |some Z1=>match g Z1 with
   |.nx Z2=>Vf s g r Z2
   |.ct Z2=>Vf s g r Z2
   |.bk Z2=>.nx Z2
   |.rt d=>.rt d
   |.ro ds=>.ro ds
   |.ex Z2 d=>.ex Z2 d
   |.bad=>.bad
def Kw(f:M (List D))(s:D->UP->Option UP)(g:SM):SM:=sB f λds=>Vf s g ds
theorem P3{iter:Uu}{body:List Stmt}{f:M (List D)}{s:D->UP->Option UP}{g:SM}(hp:PassesOwn (model X.prog X.w) X.A X.env X.xe)(hc:X.calm=true)(hi:PI X tg iter (iD X.K B G0 f))(hg:PG X tg (tG X.K B G0 s))(hb:PSs X body (tS X.K B G0 KX g))
  (hs:∀x,UN iter X.env x=pure x:=by intro _;rfl):PS X (.For tg iter body [] pos) (tS X.K B G0 KX (Kw f s g)):=
 Zp (Dc hp hc hi hg hb hs) λDn σ H ⟨G,Z,k,a⟩=>by
  refine⟨G,Z,k,?_⟩;unfold Kw sB at a;cases z:f Z with
  |bad=>rw[z]at a;exact a.elim
  |ok ds Z1=>
   rw[z]at a;dsimp only at a⊢;intro J G1 H1 k1 s1 it;refine⟨λi m σ' H'=>m=ds.length-i/\∃G' Z',EOk X.K B G0 G' H' σ' Z'/\Same G1 G'/\aftS X.K B G0 KX (Vf s g (ds.drop i) Z') G' Dn,⟨ds.length,by omega,G1,Z1,k1,.refl _,by rw[List.drop_zero];exact aftS.mono s1 a⟩,?_⟩;rintro i m σ' H' ⟨rfl,G',Z',k',s',a'⟩;by_cases hi:i<ds.length
   ·right;refine⟨it.go i G' H' s' k'.gh hi,λσ2 H2=>∃G2 Z2,EOk X.K B G0 G2 H2 σ2 Z2/\Same G1 G2/\aftS X.K B G0 KX (Vf s g (ds.drop (i+1)) Z2) G2 Dn,λσ2 H2 h2=>⟨ds.length-(i+1),by omega,rfl,h2⟩,λx H2 y=>?_⟩
    obtain⟨G2,ex,rx⟩:=it.yld i G' H' x H2 ds[i] s' k'.gh (Qd hi) y;rw[QU hi,Vf]at a';cases z2:s ds[i] Z' with
    |none=>rw[z2]at a';exact a'.elim
    |some Z2=>
     rw[z2]at a';dsimp only at a';refine⟨G2,Z',ds[i],Z2,k'.ext ex,rx,z2,λσ3 G3 H3 k3 s3=>⟨G3,Z2,k3,?_⟩⟩;have s13:Same G1 G3:=(s'.trans ex.g).trans s3;cases z3:g Z2 with
     |nx Z3=>rw[z3]at a';exact λσ4 G4 H4 k4 s4=>⟨G4,Z3,k4,s13.trans s4,aftS.mono ((ex.g.trans s3).trans s4) a'⟩
     |ct Z3=>rw[z3]at a';exact λσ4 G4 H4 k4 s4=>⟨G4,Z3,k4,s13.trans s4,aftS.mono ((ex.g.trans s3).trans s4) a'⟩
     |bk Z3=>rw[z3]at a';exact λσ4 G4 H4 k4 s4=>a' σ4 G4 H4 k4 ((ex.g.trans s3).trans s4)
     |rt d=>rw[z3]at a';exact a'
     |ro ds=>rw[z3]at a';exact a'
     |ex Z3 d=>rw[z3]at a';exact λv σ4 G4 H4 k4 s4 r4=>a' v σ4 G4 H4 k4 ((ex.g.trans s3).trans s4) r4
     |bad=>rw[z3]at a';exact a'.elim
   ·left;rw[J4 (by omega)]at a'
    exact⟨it.stop i G' H' s' k'.gh (by omega),a' σ' G' H' k' (.refl _)⟩
theorem Bk{k:Nat}{f:Us}{fd:Ut}{ps:List Str}{F:List D->Option D}{g:M (List D)}{x:Str}{p2:Pos}{n:Nat}(FK:FnOk X.prog X.w X.K X.mg X.base CX0 k f fd ps (spD X.K n F))(hr:Room k X.A)(hg:Gl X x)(hm:X.mg x=some (.ref f))(hk:PySem.W.keepIn X.K (.ref f)=true)
  (hb:Vj X.K fd ps []) (ha:PA X (e::es) (tDs X.K B G0 g)) (hn:(e::es).length=n) (hdb:(x==("__debug__" : Str))=false:=by decide) (he:Ux (e::es) X.env=(false,eval e X.env)::Ux es X.env:=by rfl) (hpl:(backTo pos (Ux es X.env)).any (·.1)=false:=by rfl) :
  PE X (.Call (.Name x p2) (e::es) [] pos) (tD X.K B G0 (Kc g λxs=>if xs.length=n then Ke (F xs)else λ_=>.bad)):=
 Kt (CB FK hr hg hm hk hb .nil GP ha hdb he hpl) λσ H Q q=>tM.one (R:=Reps X.K) q λv H2 G Z ds k r a=>by
  split at a
  ·rename_i hl;obtain⟨d,e,a⟩:=a.opt;exact⟨G,ds,d,by rw[Jj,r.length];exact hl,k.gh,by rw[Jj];exact r,e,λw G' H' ex rw=>a.done k ex rw⟩
  ·exact a.elim
end
def Xj(N:List Str)(ds:List D):UP:=(ds.map λd=>some (Sl.pub d))++UA (N.length-ds.length) none
theorem Bj{K:Frag}{N:List Str}{G H:Hp}{vs:List V}{ds:List D}(s:Same G H)(r:Reps K G vs ds):EOk K H G G H (L2.XT N vs) (Xj N ds) where
 bh:=.refl _
 gh:=s
 g0:=.refl _
 np:=λ_ _ _ n=>n
 len:=by unfold L2.XT Xj;rw[Qj,Qj,Qb,Qb,QF,QF,r.length]
 pub:=λi d q=>by
  unfold Xj at q;unfold L2.XT;by_cases hi:i<ds.length
  ·rw[Qy (by rw[Qb];exact hi),Qe]at q;cases z:ds[i]? with
   |none=>rw[z]at q;cases q
   |some d'=>rw[z]at q;cases q;obtain⟨v,e1,r1⟩:=r.get z;refine⟨v,?_,r1⟩;rw[Qy (by rw[Qb,r.length];exact hi),Qe,e1];rfl
  ·rw[Qw (by rw[Qb];omega),QA]at q;split at q<;>cases q
 own:=λi es q=>by
  unfold Xj at q;by_cases hi:i<ds.length
  ·rw[Qy (by rw[Qb];exact hi),Qe]at q;cases z:ds[i]? with
   |none=>rw[z]at q;cases q
   |some d'=>rw[z]at q;cases q
  ·rw[Qw (by rw[Qb];omega),QA]at q;split at q<;>cases q
 sep:=λi j a es fs q _ _ _=>by
  unfold Xj at q;by_cases hi:i<ds.length
  ·rw[Qy (by rw[Qb];exact hi),Qe]at q;cases z:ds[i]? with
   |none=>rw[z]at q;cases q
   |some d'=>rw[z]at q;cases q
  ·rw[Qw (by rw[Qb];omega),QA]at q;split at q<;>cases q
 dp:=by
  have key:∀{i:Nat}{s:Sl},(Xj N ds)[i]?=some (some s)->∃d,s=.pub d:=λ{i s} q=>by
   unfold Xj at q;by_cases hi:i<ds.length
   ·rw[Qy (by rw[Qb];exact hi),Qe]at q;cases z:ds[i]? with
    |none=>rw[z]at q;cases q
    |some d'=>rw[z]at q;cases q;exact⟨_,rfl⟩
   ·rw[Qw (by rw[Qb];omega),QA]at q;split at q<;>cases q
  exact .of (λi p d q=>by obtain⟨_,e⟩:=key q;cases e) λi ds q=>by obtain⟨_,e⟩:=key q;cases e
def Kb(N:List Str)(g:SM)(ds:List D):Option D:=match g (Xj N ds)with
 |.rt d=>some d
 |.nx _=>some .none
 |_=>none
theorem okD{P:Ur}{w:World}{K:Frag}{mg:Str->Option Up}{base:Heap}{x qual:Str}{st:Stmt}{f:Us}{fd:Ut}{N ps:List Str}{k n:Nat}{g:SM}(F:Fun K x qual st f fd)(S:Rl N ps (Z8 st))(hn:ps.length=n)
  (der:∀(cdv:Up)(A:Around)(outer:List Env)(s:Uq)(H:Hp)(E:XK)(B G0:Hp),Room k (A.deeper (envOfC qual (Z8 st) s.heap.objs.size f cdv)) ->
   PSs (Y1 CX0 P w K mg base N qual (Z8 st) f cdv A outer s H E).nox (Wr st) (tS K B G0 KX0 g)):FnOk P w K mg base CX0 (k+1) f fd ps (spD K n (Kb N g)):=by
 refine F.ok S (λvs H Q E h=>?_) (λcdv A outer s H vs Q E hr h=>?_)
 ·obtain⟨_,_,_,hl,_⟩:=h;rw[hl,hn]
 ·obtain⟨G,ds,d,hl,sg,r,hF,q⟩:=h;refine⟨_,der cdv A outer s H E H G hr,G,Xj N ds,Bj sg r,?_⟩;unfold Kb at hF;cases z:g (Xj N ds)with
  |rt d'=>rw[z]at hF;cases hF;exact λv G' H' ex rr=>q v G' H' ex rr
  |nx Z=>rw[z]at hF;cases hF;exact λσ' G' H' k' _=>q .non G' H' k'.exit .non
  |ro ds=>rw[z]at hF;cases hF
  |bk Z=>rw[z]at hF;cases hF
  |ct Z=>rw[z]at hF;cases hF
  |ex Z d=>rw[z]at hF;cases hF
  |bad=>rw[z]at hF;cases hF
section
variable{X:Cx}{B G0:Hp}{e a b c tg:Uu}{pos:Pos}{es rest:List Uu}
def oNeg:D->Option D
 |.int i=>some (.int (-i))
 |_=>none
def ZX(f:M D):M D:=Kc f λx=>Ke (oNeg x)
theorem MX{f:M D}(h:PE X a (tD X.K B G0 f)):PE X (.UnaryOp .USub a pos) (tD X.K B G0 (ZX f)):=
 Kt (Ek E6 h) λσ H Q q=>tM.one (R:=Rep X.K) q λv H2 G Z x k r a=>by
  cases x with
  |int i=>exact⟨i,r.int_inv,aft.now a k (.int _)⟩
  |_=>exact a.elim
end
def Def(P:Ur)(w:World)(K:Frag)(mg:Str->Option Up)(base:Heap)(x:Str)(k n:Nat)(F:List D->Option D):Prop:=
 ∃(f:Us)(fd:Ut)(ps:List Str),mg x=some (.ref f)/\PySem.W.keepIn K (.ref f)=true/\Vj K fd ps []/\FnOk P w K mg base CX0 k f fd ps (spD K n F)
def U0(n:Nat)(F:List D->Option D)(g:M (List D)):M D:=Kc g λxs=>if xs.length=n then Ke (F xs)else λ_=>.bad
section
variable{X:Cx}{B G0:Hp}{e:Uu}{pos:Pos}{es:List Uu}
theorem Ds{k n:Nat}{F:List D->Option D}{g:M (List D)}{x:Str}{p2:Pos}(d:Def X.prog X.w X.K X.mg X.base x k n F)(hr:Room k X.A)(hg:Gl X x)(ha:PA X (e::es) (tDs X.K B G0 g))(hn:(e::es).length=n:=by rfl)
  (hdb:(x==("__debug__" : Str))=false:=by decide) (he:Ux (e::es) X.env=(false,eval e X.env)::Ux es X.env:=by rfl) (hpl:(backTo pos (Ux es X.env)).any (·.1)=false:=by rfl) :
  PE X (.Call (.Name x p2) (e::es) [] pos) (tD X.K B G0 (U0 n F g)):=by
 obtain⟨f,fd,ps,h1,h2,h3,h4⟩:=d;exact Bk h4 hr hg h1 h2 h3 ha hn hdb he hpl
end
theorem Def.mk{P:Ur}{w:World}{K:Frag}{mg:Str->Option Up}{base:Heap}{x:Str}{k n:Nat}{F:List D->Option D}{st:Stmt}{f:Us}{fd:Ut}{ps:List Str}(hm:mg x=some (.ref f))(FU:Fun K x x st f fd)(hb:Vj K fd ps [])(ok:FnOk P w K mg base CX0 k f fd ps (spD K n F)) :
  Def P w K mg base x k n F:=⟨f,fd,ps,hm,FU.kp,hb,ok⟩
theorem FO{K:Frag}{H:Hp}{a:Us}{ns:List Int}{F:List D->Option D}{E:XK}(hS:SqL K H a (ns.map V.int))(h:F [.list (ns.map int)]=some (.bool true)):spD K 1 F [.ref a] H (λv _=>v=.bl true) E:=
 ⟨H,[.list (ns.map int)],.bool true,rfl,.refl _,.cons (.lst hS (Reps.ints ns)) .nil,h,λ_ _ _ _ r=>r.bl_inv⟩
end DL
namespace L2
open PySem PySem.Spec PyProof.Rows
theorem mem_of_lookup{x:Str}{k:NameKind}:∀{l:List (Str×NameKind)},l.lookup x=some k->(x,k)∈l
 |[],h=>by cases h
 |(y,j)::r,h=>by
  rw[QY]at h;split at h
  ·rename_i e;cases h;have:x=y:=by simpa using e
   rw[this];exact Qo
  ·exact Ql _ (mem_of_lookup h)
theorem Ng{env:Env}:∀(l:List (Str×NameKind))(acc:List (Str×Us)),(∀y∈l,y.2=.free->∃c,env.cells.lookup y.1=some c) ->
  ∃cl,(forIn l acc (λx r=>if(x.2==NameKind.free)=true then(do let a ←cellOf env x.1;pure (ForInStep.yield ((x.1,a)::r)))else pure (ForInStep.yield r)):Sem (List (Str×Us)))=pure cl /\
   (∀x c,cl.lookup x=some c->acc.lookup x=some c∨env.cells.lookup x=some c)/\(∀y∈l,y.2=.free->∃c,cl.lookup y.1=some c)/\(∀x c,acc.lookup x=some c->∃c',cl.lookup x=some c')
 |[],acc,_=>⟨acc,rfl,λ_ _ h=>.inl h,λ_ h=>absurd h (by simp),λx c h=>⟨c,h⟩⟩
 |(n,k)::r,acc,h=>by
  by_cases hk:k=.free
  ·subst hk;obtain⟨c,hc⟩:=h (n,.free) Qo rfl;obtain⟨cl,e,p1,p2,p3⟩:=Ng r ((n,c)::acc) λy hy=>h y (Ql _ hy)
   have hco:cellOf env n=pure c:=by unfold cellOf;rw[hc]
   have key:∀x c',((n,c)::acc).lookup x=some c'->acc.lookup x=some c'∨env.cells.lookup x=some c':=λx c' q=>by
    rw[QY]at q;split at q
    ·rename_i e1;cases q;have:x=n:=by simpa using e1
     subst this;exact .inr hc
    ·exact .inl q
   have own:((n,c)::acc).lookup n=some c:=by rw[List.lookup_cons];simp
   refine⟨cl,?_,λx c' q=>?_,λy hy hf=>?_,λx c' q=>?_⟩
   ·rw[List.forIn_cons];have:(if(((n,NameKind.free):Str×NameKind).2==NameKind.free)=true then(do let a ←cellOf env n;pure (ForInStep.yield ((n,a)::acc)))else pure (ForInStep.yield acc):Sem _)=pure (ForInStep.yield ((n,c)::acc)):=by rw[Qk (show((n,NameKind.free).snd==NameKind.free)=true from rfl),hco];rfl
    refine Eq.trans ?_ e;dsimp only at this⊢;rw[this];rfl
   ·rcases p1 x c' q with z|z
    ·exact key x c' z
    ·exact .inr z
   ·rcases QT.mp hy with z|z
    ·subst z;exact p3 n c own
    ·exact p2 y z hf
   ·by_cases hx:x=n
    ·subst hx;exact p3 x c own
    ·refine p3 x c' ?_;have hb:(x==n)=false:=by simpa using hx
     rw[QY,hb];exact q
  ·obtain⟨cl,e,p1,p2,p3⟩:=Ng r acc λy hy=>h y (Ql _ hy)
   refine⟨cl,?_,p1,λy hy hf=>?_,p3⟩
   ·rw[List.forIn_cons];have hb:(k==NameKind.free)=false:=by cases k<;>first|rfl|exact absurd rfl hk
    refine Eq.trans ?_ e;dsimp only;rw[hb,Qs (by decide)];rfl
   ·rcases QT.mp hy with z|z
    ·subst z;exact absurd hf hk
    ·exact p2 y z hf
theorem qZ{scope:Scope}{env:Env}(h:∀y∈scope.names,y.2=.free->∃c,env.cells.lookup y.1=some c) :
  ∃cl,closureFor scope env=pure cl/\(∀x c,cl.lookup x=some c->env.cells.lookup x=some c)/\∀y∈scope.names,y.2=.free->∃c,cl.lookup y.1=some c:=by
 obtain⟨cl,e,p1,p2,_⟩:=Ng scope.names [] h;refine⟨cl,?_,λx c q=>(p1 x c q).elim (λz=>by cases z) id,p2⟩;have e2:((forIn scope.names [] (λx r=>if(x.2==NameKind.free)=true then(do let a ←cellOf env x.1;pure (ForInStep.yield ((x.1,a)::r)))else pure (ForInStep.yield r)):Sem (List (Str×Us))) >>= λs=>pure s)=pure cl:=by rw[e];rfl
 exact e2
theorem HM{env:Env}{x:Str}{k:NameKind}:∀{names:List (Str×NameKind)},(names.map λ(n,k)=>if(k==NameKind.free&&env.scope.kind==.function&&env.kindOf n==some .cell)then(n,NameKind.cell)else(n,k)).lookup x=some k ->
  names.lookup x=some k∨(names.lookup x=some .free/\k=.cell)
 |[],h=>by cases h
 |(n,j)::r,h=>by
  have ih:=@HM env x k r;have h:List.lookup x ((if(j==NameKind.free&&env.scope.kind==.function&&env.kindOf n==some .cell)=true then(n,NameKind.cell)else(n,j))::_)=some k:=h;cases hx:x==n with
  |true=>
   by_cases hc:(j==NameKind.free&&env.scope.kind==.function&&env.kindOf n==some .cell)=true
   ·rw[Qk hc]at h;simp only[QY,hx]at h⊢;cases h;simp only[Je]at hc;have:j=.free:=by have:=hc.1.1;cases j<;>first|rfl|cases this
    subst this;exact .inr ⟨rfl,rfl⟩
   ·rw[Qs hc]at h;simp only[QY,hx]at h⊢;exact .inl h
  |false=>
   by_cases hc:(j==NameKind.free&&env.scope.kind==.function&&env.kindOf n==some .cell)=true
   ·rw[Qk hc]at h;simp only[QY,hx]at h⊢;exact ih h
   ·rw[Qs hc]at h;simp only[QY,hx]at h⊢;exact ih h
theorem Gr{env:Env}{x:Str}:∀{names:List (Str×NameKind)},names.lookup x=some .free ->
  (names.map λ(n,k)=>if(k==NameKind.free&&env.scope.kind==.function&&env.kindOf n==some .cell)then(n,NameKind.cell)else(n,k)).lookup x=some .free ∨
  (names.map λ(n,k)=>if(k==NameKind.free&&env.scope.kind==.function&&env.kindOf n==some .cell)then(n,NameKind.cell)else(n,k)).lookup x=some .cell
 |[],h=>by cases h
 |(n,j)::r,h=>by
  have ih:=@Gr env x r;show List.lookup x ((if(j==NameKind.free&&env.scope.kind==.function&&env.kindOf n==some .cell)=true then(n,NameKind.cell)else(n,j))::_)=_∨List.lookup x ((if(j==NameKind.free&&env.scope.kind==.function&&env.kindOf n==some .cell)=true then(n,NameKind.cell)else(n,j))::_)=_;cases hx:x==n with
  |true=>
   simp only[QY,hx]at h;cases h;by_cases hc:(NameKind.free==NameKind.free&&env.scope.kind==.function&&env.kindOf n==some .cell)=true
   ·rw[if_pos hc];simp[List.lookup_cons,hx]
   ·rw[if_neg hc];simp[List.lookup_cons,hx]
  |false=>
   simp only[QY,hx]at h;by_cases hc:(j==NameKind.free&&env.scope.kind==.function&&env.kindOf n==some .cell)=true
   ·rw[Qk hc];simp only[QY,hx];exact ih h
   ·rw[Qs hc];simp only[QY,hx];exact ih h
theorem HS{env:Env}{x:Str}:∀{names:List (Str×NameKind)},names.lookup x=some .globalImplicit ->
  (names.map λ(n,k)=>if(k==NameKind.free&&env.scope.kind==.function&&env.kindOf n==some .cell)then(n,NameKind.cell)else(n,k)).lookup x=some .globalImplicit
 |[],h=>by cases h
 |(n,j)::r,h=>by
  have ih:=@HS env x r;show List.lookup x ((if(j==NameKind.free&&env.scope.kind==.function&&env.kindOf n==some .cell)=true then(n,NameKind.cell)else(n,j))::_)=_;cases hx:x==n with
  |true=>simp only[QY,hx]at h;cases h;rw[if_neg (by simp)];simp[List.lookup_cons,hx]
  |false=>
   simp only[QY,hx]at h;by_cases hc:(j==NameKind.free&&env.scope.kind==.function&&env.kindOf n==some .cell)=true
   ·rw[Qk hc];simp only[QY,hx];exact ih h
   ·rw[Qs hc];simp only[QY,hx];exact ih h
def Cx.blk(X:Cx)(N':List Str)(scope:Scope)(cl:List (Str×Us))(C:Us)(s₀:Uq)(H₀:Hp)(ex:List Us):Cx:=
 {X with N:=N',s₀:=s₀,H₀:=H₀,env:=compEnvC scope cl C X.env,outer:=X.stack,ex:=ex,fn:=λ_=>false,xe:=λ_ _=>False}
section
variable{X:Cx}{N':List Str}{scope:Scope}{cl:List (Str×Us)}{C:Us}{s₀:Uq}{H₀:Hp}{ex:List Us}{x:Str}
theorem Dr(h:scope.names.lookup x=some .local∨scope.names.lookup x=some .free):Vis (X.blk N' scope cl C s₀ H₀ ex).env.scope x:=by
 rcases h with h|h
 ·exact .inl (lookup_relabel_local h)
 ·rcases Gr (env:=X.env) h with z|z
  ·exact .inr (.inr z)
  ·exact .inr (.inl z)
theorem Oc(h:scope.names.lookup x=some .local):Loc (X.blk N' scope cl C s₀ H₀ ex).env.scope x:=.inl (lookup_relabel_local h)
theorem P2(h:scope.names.lookup x=some .local):(X.blk N' scope cl C s₀ H₀ ex).env.scope.names.lookup x=some .local:=lookup_relabel_local h
theorem FN(h:scope.names.lookup x=some .globalImplicit):Gl (X.blk N' scope cl C s₀ H₀ ex) x:=HS h
end
def Ry(names:List (Str×NameKind))(N N2:List Str)(k:Nat):Bool:=
 N2.length==N.length+k&&(Uz N2.length).all λi=>match N2[i]? with
  |none=>true
  |some x=>match names.lookup x with
   |some .free=>N[i]?==some x
   |some .local=>decide (N.length<=i)&&decide (i<N.length+k)
   |some .cell=>false
   |_=>true
theorem kh{names:List (Str×NameKind)}{N N2:List Str}{k:Nat}(h:Ry names N N2 k=true) :
  N2.length=N.length+k/\∀(i:Nat) x,N2[i]?=some x->(names.lookup x=some .free->N[i]?=some x)/\(names.lookup x=some .local->N.length<=i/\i<N.length+k):=by
 unfold Ry at h;simp only[Je,beq_iff_eq,Jx,Q8]at h;refine⟨h.1,λi x e=>?_⟩;have hi:=(Qg.mp e).1;have:=h.2 i hi;rw[e]at this;refine⟨λq=>?_,λq=>?_⟩
 ·simp only[q]at this;simpa using this
 ·simp only[q]at this;simpa using this
theorem Inv.enter{X:Cx}{pins:List (Us×Obj)}{σ:St}{H:Hp}{s3:Uq}(I:Inv X pins σ H s3){scope:Scope}{cl:List (Str×Us)}{N2:List Str}{k:Nat}{h':Heap}{fp:List Us}{t':Nat}{m0:Str->Option Up}
  (hb:Ry scope.names X.N N2 k=true) (hkind:scope.kind=.function) (hcell:∀y∈scope.names,y.2≠.cell)
  (hfree:∀y∈scope.names,y.2=.free->X.env.scope.names.lookup y.1=some .cell∨X.env.scope.names.lookup y.1=some .free)
  (cl1:∀x c,cl.lookup x=some c->X.env.cells.lookup x=some c) (cl2:∀y∈scope.names,y.2=.free->∃c,cl.lookup y.1=some c)
  (hn:h'.Ns s3.heap.objs.size m0) (hk:∀b o,s3.heap.get? b=some o->h'.get? b=some o) (hf:∀b∈fp,ZC X pins H b) (hfo:∀b∈fp,∃o,s3.heap.get? b=some o) :
  Inv (X.blk N2 scope cl s3.heap.objs.size s3 H fp) pins (σ++UA k none) H {s3 with heap:=h',toks:=t'}:=by
 obtain⟨hl,hN⟩:=kh hb;have lt:∀b o,s3.heap.get? b=some o->b≠s3.heap.objs.size:=λb o e=>QM (Qi e);have ofl:∀x,scope.names.lookup x=some .free->(x,NameKind.free)∈scope.names:=λx h=>mem_of_lookup h;have kinv:∀x kk,(X.blk N2 scope cl s3.heap.objs.size s3 H fp).env.scope.names.lookup x=some kk->scope.names.lookup x=some kk∨(scope.names.lookup x=some .free/\kk=.cell):=λx kk h=>HM (env:=X.env) h
 have isfree:∀x,(X.blk N2 scope cl s3.heap.objs.size s3 H fp).env.scope.names.lookup x=some .cell∨(X.blk N2 scope cl s3.heap.objs.size s3 H fp).env.scope.names.lookup x=some .free->scope.names.lookup x=some .free:=λx h=>by
  rcases h with h|h
  ·rcases kinv x _ h with z|z
   ·exact absurd rfl (hcell _ (mem_of_lookup z))
   ·exact z.1
  ·rcases kinv x _ h with z|z
   ·exact z
   ·exact z.1
 have ok:(X.blk N2 scope cl s3.heap.objs.size s3 H fp).Ok:=
  {
   mod:=I.ok.mod
   kind:=hkind
   glob:=I.ok.glob
   blt:=I.ok.blt
   above:=Qx _
   inj:=λx y c a b=>I.ok.inj x y c (cl1 x c a) (cl1 y c b)
   has:=λx h=>cl2 (x,.free) (ofl x (isfree x h)) rfl
   cab:=λx c h=>by cases h
   hd:=I.ok.hd
   frames:=I.ok.frames
   stk:=.inl rfl
   exf:=λb hb=>⟨let ⟨o,e⟩:=hfo b hb;lt b o e,λx c e=>(hf b hb).2.2.2.2.1 x c (cl1 x c e)⟩
   bs:=I.bs
   bsz:=QS I.ok.bsz I.sz
   noex:=λb o e hb=>by
    rcases(hf b hb).2.2.2.1 with z|z
    ·exact I.ok.noex b o e z
    ·exact absurd (QE (Qi e) (QS I.ok.bsz z)) (Jt _)
   exfs:=λb hb hx=>by
    rcases QT.mp (I.stkSub b hx)with z|z
    ·exact(hf b hb).2.1 z
    ·exact(hf b hb).2.2.1 z
   funs:=I.stack
   frf:=I.stkFree}
 refine⟨ok,rfl,I.bare,Un.kept hk,⟨m0,hn,λi x v e1 e2 e3=>?_⟩,λx c e=>?_,I.hok.fresh (Qx _),λx c e=>I.freeC x c (cl1 x c e),λp hp=>?_,I.hok.kept hk,?_⟩
 ·have nl:scope.names.lookup x≠some .local:=λz=>by
   obtain⟨g1,g2⟩:=(hN i x e1).2 z;rw[←I.len]at g1 g2;rw[Qw g1,QA]at e2;split at e2<;>cases e2
  have fr:scope.names.lookup x=some .free:=by
   rcases e3 with z|z|z
   ·rcases kinv x _ z with q|q
    ·exact absurd q nl
    ·cases q.2
   ·exact isfree x (.inl z)
   ·exact isfree x (.inr z)
  have eN:=(hN i x e1).1 fr;have hi:i<σ.length:=by rw[I.len];exact(Qg.mp eN).1
  rw[Qy hi]at e2;obtain⟨m,hm,hlk⟩:=I.loc;have hkd:=hfree _ (ofl x fr) rfl;obtain⟨u,r,l⟩:=hlk i x v eN e2 (.inr hkd);refine⟨u,r,.inr ⟨?_,?_⟩⟩
  ·rcases e3 with z|z|z
   ·rcases kinv x _ z with q|q
    ·exact absurd q nl
    ·cases q.2
   ·exact .inl z
   ·exact .inr z
  ·rcases l with l|⟨_,c,ec,z⟩
   ·have:X.env.scope.names.lookup x=some .local:=l.1;rcases hkd with q|q<;>(dsimp only at q;rw[this]at q;cases q)
   ·obtain⟨c',ec'⟩:=cl2 _ (ofl x fr) rfl;have:=cl1 _ _ ec';dsimp only at this ec';rw[ec]at this;cases this;obtain⟨o,ho,hd⟩:=z;exact⟨c,ec',o,hk c o ho,hd⟩
 ·obtain⟨v,o,ho,hd⟩:=I.cell x c (cl1 x c e);exact⟨v,o,hk c o ho,hd⟩
 ·obtain⟨e,n,ne,nf,d⟩:=I.pin p hp;refine⟨hk _ _ e,n,lt _ _ e,λz=>?_,d⟩;rcases QT.mp (I.stkSub _ z)with q|q
  ·exact ne q
  ·exact nf q
 ·rw[Qj,QF,I.len];exact hl.symm
abbrev nox:Up->Uq->Prop:=λ_ _=>False
def Rx(prog:Ur)(w:World)(A:Around)(tg:Uu)(ifs:List Uu)(env:Env)(it:Up)(code:Code)(W:(Uq->Prop)->Uq->Prop):Prop:=
 ∀(R:Result->Uq->Prop)(I:Nat->Uq->Prop)(n:Nat)(s:Uq),I n s ->
  (∀n s,I n s->Uw (model prog w) A (pyNext it) (λr s₁=>match r with
   |none=>R (.ok .next) s₁
   |some v=>Uw (model prog w) A (letOwnedTupleGo tg it v) (λ_ s₁'=>Uw (model prog w) A (assign tg env v) (λ_ s₂=>
     Uw (model prog w) A (forIn ifs true λc r=>if r=true then do let ok ←isTrue c env (eval c env);pure (ForInStep.yield ok)else pure (ForInStep.yield r)) (λok s₃=>
      if ok=true then W (λs₅=>∃m,m<n/\I m s₅) s₃ else ∃m,m<n/\I m s₃) nox s₂) nox s₁') nox s₁) nox s)->codeAny (model prog w) A code R s
section
variable{prog:Ur}{w:World}{A:Around}{elt tg i:Uu}{ifs:List Uu}{gens:List Comprehension}{scope:Scope}{pos:Pos}{it acc:Up}{env:Env}{j:Nat}
theorem qy(hg:gens[j]?=some ⟨tg,i,ifs,0⟩)(hn:gens[j+1]?=none):Rx prog w A tg ifs env it (.compLoop (.ListComp elt gens scope pos) j it acc env)
  (λQ s=>Uw (model prog w) A (eval elt env) (λx s₄=>Uw (model prog w) A (call (.builtin "list.append") [acc,x]) (λ_ s₅=>Q s₅) nox s₄) nox s):=by
 intro R I n s h turn;refine codeAny_loop rfl I (λn s hI=>?_) n h;show Uw _ A ((compTurn (.ListComp elt gens scope pos) j it acc env).onRaise (λx=>do noteFrame x env;theTreesLotGoes x)) _ _ s;refine wpAny_noted ?_;unfold compTurn;dsimp only;simp only[hg,hn];refine Qf (Jq (Qf (QG (turn n s hI) (λr s₁ h₁=>?_) λ_ _ h'=>h'.elim)));cases r with
 |none=>exact Qn h₁
 |some v=>
  refine Qf (QG h₁ (λ_ s₁' h₁'=>?_) λ_ _ h'=>h'.elim);refine Qf (QG h₁' (λ_ s₂ h₂=>Qf (QG h₂ (λok s₃ h₃=>?_) λ_ _ h'=>h'.elim)) λ_ _ h'=>h'.elim);cases ok with
  |false=>exact Qn ⟨rfl,h₃⟩
  |true=>exact Qf (Qf (QG h₃ (λx s₄ h₄=>Qf (QG h₄ (λ_ s₅ h₅=>Qn (Qn ⟨rfl,h₅⟩)) λ_ _ h'=>h'.elim)) λ_ _ h'=>h'.elim))
theorem qx{tg1 i1:Uu}{ifs1:List Uu}(hg:gens[j]?=some ⟨tg,i,ifs,0⟩)(hn:gens[j+1]?=some ⟨tg1,i1,ifs1,0⟩)(hs:∀x,UN i1 env x=pure x):Rx prog w A tg ifs env it (.compLoop (.ListComp elt gens scope pos) j it acc env)
  (λQ s=>Uw (model prog w) A (eval i1 env) (λx s₄=>Uw (model prog w) A (pyIter x) (λit1 s₅=>codeAny (model prog w) A (.compStart (.ListComp elt gens scope pos) (j+1) it1 acc env)
   (λr s₆=>match r with | .ok _=>Q s₆ | .error _=>False) s₅) nox s₄) nox s):=by
 intro R I n s h turn;refine codeAny_loop rfl I (λn s hI=>?_) n h;show Uw _ A ((compTurn (.ListComp elt gens scope pos) j it acc env).onRaise (λx=>do noteFrame x env;theTreesLotGoes x)) _ _ s;refine wpAny_noted ?_;unfold compTurn;dsimp only;simp only[hg,hn];refine Qf (Jq (Qf (QG (turn n s hI) (λr s₁ h₁=>?_) λ_ _ h'=>h'.elim)));cases r with
 |none=>exact Qn h₁
 |some v=>
  refine Qf (QG h₁ (λ_ s₁' h₁'=>?_) λ_ _ h'=>h'.elim);refine Qf (QG h₁' (λ_ s₂ h₂=>Qf (QG h₂ (λok s₃ h₃=>?_) λ_ _ h'=>h'.elim)) λ_ _ h'=>h'.elim);cases ok with
  |false=>exact Qn ⟨rfl,h₃⟩
  |true=>
   refine Qf (QG h₃ (λx s₄ h₄=>Qf (Jq (Qf (wpAny_of_eq (hs x) (Qf (wpAny_holding (QG h₄ (λit1 s₅ h₅=>?_) λ_ _ h'=>h'.elim))))))) λ_ _ h'=>h'.elim);refine Qf (wpAny_runOwn (codeAny_mono h₅ λr s₆ h₆=>?_));cases r with
   |ok f=>exact Qn ⟨rfl,h₆⟩
   |error x=>exact h₆.elim
theorem kg{R:Result->Uq->Prop}{s:Uq}(hg:gens[j]?=some ⟨tg,i,ifs,0⟩)
  (h0:codeAny (model prog w) A (.compLoop (.ListComp elt gens scope pos) j it acc env) R s)
  (h:Uw (model prog w) A (pyIter it) (λit' s'=>codeAny (model prog w) A (.compLoop (.ListComp elt gens scope pos) j it' acc env) R s') nox s) :
  codeAny (model prog w) A (.compStart (.ListComp elt gens scope pos) j it acc env) R s:=by
 refine codeAny_of_tree ?_;show Uw _ _ ((compStart (.ListComp elt gens scope pos) j it acc env).onRaise (λx=>do noteFrame x env;standAt theWindowsPlace)) _ _ s;refine wpAny_notedAt ?_;unfold compStart;have hc:(clausesOf (.ListComp elt gens scope pos))[j]?=some ⟨tg,i,ifs,0⟩:=hg;simp only[hc];show Uw _ _ (ask >>= _) _ _ s;refine Qf (wpAny_askSetting (wpAny_ite ?_));split
 ·first
   |exact Qf (Qn (Qn (And.intro rfl h0)))
   |exact Qn (And.intro rfl h0)
 ·first
   |exact Qf (wpAny_rule (Qf (Jq (Qf (QG h (λit' s' h'=>Qn (And.intro rfl h')) λ_ _ x=>x.elim)))))
   |(refine Qf (wpAny_rule ?_);show Uw _ _ (standAt _ >>= _) _ _ s;exact Qf (Jq (Qf (QG h (λit' s' h'=>Qn (And.intro rfl h')) λ_ _ x=>x.elim))))
end
end L2
namespace DL
open PySem PySem.Spec L2
open PyProof.Rows hiding St
def XR:Option Sl->Option Sl
 |some (.own _)=>none
 |some (.deep _ _)=>none
 |x=>x
def Kq(Z:UP):UP:=Z.map XR
theorem qw{Z:UP}{i:Nat}{d:D}(h:(Kq Z)[i]?=some (some (.pub d))):Z[i]?=some (some (.pub d)):=by
 unfold Kq at h;rw[Qe]at h;cases e:Z[i]? with
 |none=>rw[e]at h;cases h
 |some o=>
  rw[e]at h;cases o with
  |none=>cases h
  |some sl=>cases sl with
   |pub d'=>cases h;rfl
   |own ds=>cases h
   |deep p d'=>cases h
theorem Wu{Z:UP}{i:Nat}{ds:List D}(h:(Kq Z)[i]?=some (some (.own ds))):False:=by
 unfold Kq at h;rw[Qe]at h;cases e:Z[i]? with
 |none=>rw[e]at h;cases h
 |some o=>
  rw[e]at h;cases o with
  |none=>cases h
  |some sl=>cases sl with
   |pub d'=>cases h
   |own ds=>cases h
   |deep p d'=>cases h
theorem Nf{Z:UP}{i:Nat}{p:Pat}{d:D}(h:(Kq Z)[i]?=some (some (.deep p d))):False:=by
 unfold Kq at h;rw[Qe]at h;cases e:Z[i]? with
 |none=>rw[e]at h;cases h
 |some o=>
  rw[e]at h;cases o with
  |none=>cases h
  |some sl=>cases sl<;>cases h
def Ze(s:D->UP->Option UP)(t:M Bool)(g:M D):List D->UP->List D->Option (List D)
 |[],_,es=>some es
 |d::r,Z,es=>match s d Z with
  |none=>none
  |some Z1=>match t Z1 with
   |.bad=>none
   |.ok b Z2=>if b=true then(match g Z2 with
     |.bad=>none
     |.ok e Z3=>if es.length<1000000 then Ze s t g r (Kq Z3) (es++[e])else none)
    else Ze s t g r (Kq Z2) es
def ZG(f:M (List D))(k:Nat)(s:D->UP->Option UP)(t:M Bool)(g:M D):M (List D):=λZ=>match f Z with
 |.bad=>.bad
 |.ok ds Z1=>match Ze s t g ds (Kq Z1++UA k none) []with
  |none=>.bad
  |some es=>.ok es Z1
def Y4(X:Cx)(ifs:List Uu)(t:TT):Prop:=
 ∀(pins:List (Us×Obj))(s:Uq)(σ:St)(H:Hp)(Q:Bool->Hp->Prop),Inv X pins σ H s->t σ H Q ->
  Uw (model X.prog X.w) X.A (forIn ifs true λc r=>if r=true then do let ok ←isTrue c X.env (eval c X.env);pure (ForInStep.yield ok)else pure (ForInStep.yield r)) (TP X pins σ Q) X.xe s
section
variable{X:Cx}{B G0:Hp}
theorem Dq:Y4 X [] (tBo X.K B G0 (UU true)):=λpins s σ H Q I ⟨G,Z,k,a⟩=>wpAny_tests_nil ⟨H,I,a true G H k (.refl _) rfl⟩
theorem MW{c:Uu}{t:M Bool}(h:PT X c (tBo X.K B G0 t)):Y4 X [c] (tBo X.K B G0 t):=λpins s σ H Q I q=>wpAny_tests_one (h pins s σ H Q I q)
theorem EOk.rebase{K:Frag}{G H:Hp}{σ:St}{Z:UP}(k:EOk K B G0 G H σ Z):EOk K H G G H σ (Kq Z) where
 bh:=.refl _
 gh:=k.gh
 g0:=.refl _
 np:=λ_ _ _ n=>n
 len:=by unfold Kq;rw[Qb];exact k.len
 pub:=λi d q=>k.pub i d (qw q)
 own:=λi ds q=>(Wu q).elim
 sep:=λi j a ds es q=>(Wu q).elim
 dp:=.of (λ_ _ _ q=>Nf q) λ_ _ q=>Wu q
theorem EOk.more{K:Frag}{G H:Hp}{σ:St}{Z:UP}(k:EOk K H G G H σ (Kq Z))(n:Nat):EOk K H G G H (σ++UA n none) (Kq Z++UA n none) where
 bh:=.refl _
 gh:=k.gh
 g0:=.refl _
 np:=λ_ _ _ n=>n
 len:=by rw[Qj,Qj,k.len,QF,QF]
 pub:=λi d q=>by
  by_cases hi:i<(Kq Z).length
  ·rw[Qy hi]at q;rw[Qy (by rw[←k.len];exact hi)];exact k.pub i d q
  ·rw[Qw (Jd hi),QA]at q;split at q<;>cases q
 own:=λi ds q=>by
  by_cases hi:i<(Kq Z).length
  ·rw[Qy hi]at q;exact(Wu q).elim
  ·rw[Qw (Jd hi),QA]at q;split at q<;>cases q
 sep:=λi j a ds es q=>by
  by_cases hi:i<(Kq Z).length
  ·rw[Qy hi]at q;exact(Wu q).elim
  ·rw[Qw (Jd hi),QA]at q;split at q<;>cases q
 dp:=by
  refine .of (λi p d q=>?_) λi ds q=>?_
  ·by_cases hi:i<(Kq Z).length
   ·rw[Qy hi]at q;exact Nf q
   ·rw[Qw (Jd hi),QA]at q;split at q<;>cases q
  ·by_cases hi:i<(Kq Z).length
   ·rw[Qy hi]at q;exact Wu q
   ·rw[Qw (Jd hi),QA]at q;split at q<;>cases q
theorem EOk.beside{K:Frag}{G H:Hp}{σ:St}{Z:UP}{a:Us}{o:HO}(k:EOk K B G0 G H σ Z)(hg:G a=none):EOk K (upd H a o) G G (upd H a o) σ (Kq Z) where
 bh:=.refl _
 gh:=λb u e=>by rw[Kz (λz=>by subst z;rw[hg]at e;cases e)];exact k.gh b u e
 g0:=.refl _
 np:=λ_ _ _ n=>n
 len:=k.rebase.len
 pub:=k.rebase.pub
 own:=λi ds q=>(Wu q).elim
 sep:=λi j a ds es q=>(Wu q).elim
 dp:=.of (λ_ _ _ q=>Nf q) λ_ _ q=>Wu q
theorem lim1:1000000<=Uv:=lim
def GA:Option Sl->Option Sl
 |some (.own ds)=>some (.pub (.list ds))
 |some (.deep _ d)=>some (.pub d)
 |x=>x
def Yc(Z:UP):UP:=Z.map GA
theorem L5{Z:UP}{i:Nat}{d:D}(h:(Yc Z)[i]?=some (some (.pub d))):Z[i]?=some (some (.pub d))∨(∃ds,d=.list ds/\Z[i]?=some (some (.own ds))) ∨ ∃p,Z[i]?=some (some (.deep p d)):=by
 unfold Yc at h;rw[Qe]at h;cases e:Z[i]? with
 |none=>rw[e]at h;cases h
 |some o=>
  rw[e]at h;cases o with
  |none=>cases h
  |some sl=>cases sl with
   |pub d'=>cases h;exact .inl rfl
   |own ds=>cases h;exact .inr (.inl ⟨ds,rfl,rfl⟩)
   |deep p d'=>cases h;exact .inr (.inr ⟨p,rfl⟩)
theorem SB{Z:UP}{i:Nat}{ds:List D}(h:(Yc Z)[i]?=some (some (.own ds))):False:=by
 unfold Yc at h;rw[Qe]at h;cases e:Z[i]? with
 |none=>rw[e]at h;cases h
 |some o=>
  rw[e]at h;cases o with
  |none=>cases h
  |some sl=>cases sl with
   |pub d'=>cases h
   |own ds=>cases h
   |deep p d'=>cases h
theorem HR{Z:UP}{i:Nat}{p:Pat}{d:D}(h:(Yc Z)[i]?=some (some (.deep p d))):False:=by
 unfold Yc at h;rw[Qe]at h;cases e:Z[i]? with
 |none=>rw[e]at h;cases h
 |some o=>
  rw[e]at h;cases o with
  |none=>cases h
  |some sl=>cases sl<;>cases h
def flat:D->Bool
 |.none=>true | .bool _=>true | .int _=>true | .str _=>true|_=>false
theorem Rep.flat{K:Frag}{G G':Hp}{v:V}{d:D}(r:Rep K G v d)(h:DL.flat d=true):Rep K G' v d:=by
 cases r with
 |non=>exact .non
 |bl b=>exact .bl b
 |int i=>exact .int i
 |str x=>exact .str x
 |lst _ _=>cases h
 |tup _ _=>cases h
 |dic _=>cases h
 |exc _ _ _ _=>cases h
 |dct _ _ _ _ _=>cases h
 |dtt _ _ _ _=>cases h
theorem Reps.flat{K:Frag}{G G':Hp}:∀{vs:List V}{ds:List D},Reps K G vs ds->ds.all DL.flat=true->Reps K G' vs ds
 |_,_,.nil,_=>.nil
 |_,_,.cons r t,h=>by rw[List.all_cons,Je]at h;exact .cons (r.flat h.1) (Reps.flat t h.2)
theorem EOk.lend{K:Frag}{B G0 G H:Hp}{σ:St}{Z:UP}{D:Us}{o:HO}(k:EOk K B G0 G H σ Z)(hD:H D=none)(n:Nat):EOk K (upd H D o) H H (upd H D o) (σ++UA n none) (Yc Z++UA n none) where
 bh:=.refl _
 gh:=Zx hD
 g0:=.refl _
 np:=λ_ _ _ n=>n
 len:=by unfold Yc;rw[Qj,Qj,Qb,k.len,QF,QF]
 pub:=λi d q=>by
  have hl:(Yc Z).length=Z.length:=by unfold Yc;rw[Qb]
  by_cases hi:i<(Yc Z).length
  ·rw[Qy hi]at q;rw[Qy (by rw[←k.len,←hl];exact hi)];rcases L5 q with e|⟨ds,rfl,e⟩|⟨p,e⟩
   ·obtain⟨v,h1,h2⟩:=k.pub i d e;exact⟨v,h1,h2.mono k.gh⟩
   ·obtain⟨a,vs,h1,h2,h3,h4,h5⟩:=k.own i ds e;exact⟨.ref a,h1,.lst (SqL.of h4) (h5.mono k.gh)⟩
   ·obtain⟨ω,k1,k2⟩:=k.dp;obtain⟨v,fp,s,r,_⟩:=k1 i p d e;exact⟨v,s,r.rep k.gh⟩
  ·rw[Qw (Jd hi),QA]at q;split at q<;>cases q
 own:=λi ds q=>by
  by_cases hi:i<(Yc Z).length
  ·rw[Qy hi]at q;exact(SB q).elim
  ·rw[Qw (Jd hi),QA]at q;split at q<;>cases q
 sep:=λi j a ds es q=>by
  by_cases hi:i<(Yc Z).length
  ·rw[Qy hi]at q;exact(SB q).elim
  ·rw[Qw (Jd hi),QA]at q;split at q<;>cases q
 dp:=by
  refine .of (λi p d q=>?_) λi ds q=>?_
  ·by_cases hi:i<(Yc Z).length
   ·rw[Qy hi]at q;exact HR q
   ·rw[Qw (Jd hi),QA]at q;split at q<;>cases q
  ·by_cases hi:i<(Yc Z).length
   ·rw[Qy hi]at q;exact SB q
   ·rw[Qw (Jd hi),QA]at q;split at q<;>cases q
end
def YL(s:D->UP->Option UP)(t:M Bool)(g:M D):List D->UP->List D->Option (List D×UP)
 |[],Z,es=>some (es,Z)
 |d::r,Z,es=>match s d Z with
  |none=>none
  |some Z1=>match t Z1 with
   |.bad=>none
   |.ok b Z2=>if b=true then(match g Z2 with
     |.bad=>none
     |.ok e Z3=>if es.length<1000000 then YL s t g r (Kq Z3) (es++[e])else none)
    else YL s t g r (Kq Z2) es
def XV(s0:D->UP->Option UP)(t0:M Bool)(f1:M (List D))(s1:D->UP->Option UP)(t1:M Bool)(g:M D):List D->UP->List D->Option (List D)
 |[],_,es=>some es
 |d::r,Z,es=>match s0 d Z with
  |none=>none
  |some Z1=>match t0 Z1 with
   |.bad=>none
   |.ok b Z2=>if b=true then(match f1 Z2 with
     |.bad=>none
     |.ok ds Z3=>match YL s1 t1 g ds (Kq Z3) es with
      |none=>none
      |some (es',Z4)=>XV s0 t0 f1 s1 t1 g r Z4 es')
    else XV s0 t0 f1 s1 t1 g r (Kq Z2) es
def S5(f:M (List D))(k:Nat)(s:D->UP->Option UP)(t:M Bool)(f1:M (List D))(s1':D->UP->Option UP)(t1':M Bool)(g:M D):M (List D):=λZ=>match f Z with
 |.bad=>.bad
 |.ok ds Z1=>match XV s t f1 s1' t1' g ds (Kq Z1++UA k none) []with
  |none=>.bad
  |some es=>.ok es Z1
def Xg(s0:D->UP->Option UP)(t0:M Bool)(f1:M (List D))(Rd:List D->UP->List D->Option (List D×UP)):List D->UP->List D->Option (List D×UP)
 |[],Z,es=>some (es,Z)
 |d::r,Z,es=>match s0 d Z with
  |none=>none
  |some Z1=>match t0 Z1 with
   |.bad=>none
   |.ok b Z2=>if b=true then(match f1 Z2 with
     |.bad=>none
     |.ok ds Z3=>match Rd ds (Kq Z3) es with
      |none=>none
      |some (es',Z4)=>Xg s0 t0 f1 Rd r Z4 es')
    else Xg s0 t0 f1 Rd r (Kq Z2) es
def V1(Rd:List D->UP->List D->Option (List D×UP))(ds:List D)(Z:UP)(es:List D):Option (List D):=(Rd ds Z es).map (·.1)
def SZ(f:M (List D))(k:Nat)(s:D->UP->Option UP)(t:M Bool)(f1:M (List D))(s1':D->UP->Option UP)(t1':M Bool)(fx2:M (List D))(s2':D->UP->Option UP)(t2':M Bool)(g:M D):M (List D):=λZ=>match f Z with
 |.bad=>.bad
 |.ok ds Z1=>match V1 (Xg s t f1 (Xg s1' t1' fx2 (YL s2' t2' g))) ds (Kq Z1++UA k none) []with
  |none=>.bad
  |some es=>.ok es Z1
abbrev RdB:=UP->List D->Option (List D×UP)
def rL(g:M D):RdB:=λZ es=>match g Z with
 |.bad=>none
 |.ok e Z3=>if es.length<1000000 then some (es++[e],Kq Z3)else none
def cT(s:D->UP->Option UP)(t:M Bool)(rd:RdB):List D->UP->List D->Option (List D×UP)
 |[],Z,es=>some (es,Z)
 |d::r,Z,es=>match s d Z with
  |none=>none
  |some Z1=>match t Z1 with
   |.bad=>none
   |.ok b Z2=>if b=true then(match rd Z2 es with
     |none=>none
     |some (es',Z')=>cT s t rd r Z' es')
    else cT s t rd r (Kq Z2) es
def rN(f:M (List D))(s:D->UP->Option UP)(t:M Bool)(rd:RdB):RdB:=λZ es=>match f Z with
 |.bad=>none
 |.ok ds Z3=>cT s t rd ds (Kq Z3) es
structure Left(Y:Cx)(D':Us)(pins:List (Us×Obj))(H G:Hp)(es':List D)(Z':UP)(σ':St)(H' G':Hp)(vs':List V)(s':Uq):Prop where
 inv:Inv Y pins σ' H' s'
 eok:EOk Y.K H' G' G' H' σ' Z'
 hh:∀a o,a≠D'->H a=some o->H' a=some o
 gg:Same G G'
 np:∀a(u:MO),a≠D'->H a=some u.ho->G a=none->G' a=none
 hd:H' D'=some (.lst vs')
 gd:G' D'=none
 rp:Reps Y.K G' vs' es'
def SV(Y:Cx)(D':Us)(W:(Uq->Prop)->Uq->Prop)(rd:RdB):Prop:=
 ∀(pins:List (Us×Obj))(sh:Uq)(σ:St)(B1 G1 H G:Hp)(Z Z':UP)(vs:List V)(es es':List D)(Q:Uq->Prop),
  Inv Y pins σ H sh->EOk Y.K B1 G1 G H σ Z->B1 D'=some (.lst vs)->G1 D'=none->Reps Y.K G1 vs es->rd Z es=some (es',Z') ->
  (∀σ' H' G' vs' s',Left Y D' pins B1 G1 es' Z' σ' H' G' vs' s'->Q s')->W Q sh
section
variable{Y:Cx}{D':Us}
theorem qv{elt:Uu}{g:M D}(hx:Y.xe=nox)(he:∀B1 G1,PE Y elt (tD Y.K B1 G1 g)) :
  SV Y D' (λQ s=>Uw (model Y.prog Y.w) Y.A (eval elt Y.env) (λx s₄=>Uw (model Y.prog Y.w) Y.A (call (.builtin "list.append") [.ref D',x]) (λ_ s₅=>Q s₅) nox s₄) nox s) (rL g):=by
 intro pins sh σ B1 G1 H G Z Z' vs es es' Q I k hD gD r z fin;unfold rL at z;cases zg:g Z with
 |bad=>rw[zg]at z;cases z
 |ok e Z4=>
 rw[zg]at z;dsimp only at z;split at z
 ·rename_i hle;cases z;have h:=he B1 G1 pins sh σ H (λv H8=>∃G8,EOk Y.K B1 G1 G8 H8 σ Z4/\Rep Y.K G8 v e) I ⟨G,Z,k,by unfold aft;rw[zg];exact λv G8 H8 k8 _ q=>⟨G8,k8,q⟩⟩;rw[hx]at h;refine thn h λev s8 ⟨v,H8,I8,rv,G8,k8,r8⟩=>?_;have h2:=L7 pins s8 σ H8 (.ref D') [v] (.ref D') [ev] (λ_ H9=>H9=upd H8 D' (.lst (vs++[v]))) I8 rfl (.cons rv .nil) ⟨D',vs,v,rfl,rfl,k8.bh _ _ hD,by have:=lim1;rw[r.length];omega,rfl⟩
  rw[hx]at h2;refine thn h2 λ_ s9 ⟨_,H9,I9,_,e9⟩=>?_;subst e9;have g8:=k8.np _ (.l _) hD gD;exact fin σ _ G8 _ s9 ⟨I9,k8.beside g8,λa o z q=>by rw[Kz z];exact k8.bh a o q,k8.g0,λa o _ q w=>k8.np a o q w,Zf,g8,(r.mono k8.g0).append (.cons r8 .nil)⟩
 ·cases z
theorem Lk{tg:Uu}{ifs:List Uu}{code:Code}{W:(Uq->Prop)->Uq->Prop}{s:D->UP->Option UP}{t:M Bool}{rd:RdB}{it:Us}(hx:Y.xe=nox)(hc:Y.calm=true)(rule:Rx Y.prog Y.w Y.A tg ifs Y.env (.ref it) code W)
  (hg:∀B1 G1,PG Y tg (tG Y.K B1 G1 s)) (ht:∀B1 G1,Y4 Y ifs (tBo Y.K B1 G1 t)) (hb:SV Y D' W rd)
  {pins:List (Us×Obj)} {sh:Uq} {σ:St} {H G:Hp} {Z ZF:UP} {fp:List Us} {tn:Nat->Heap->Prop} {J:It} {ds es esF:List D} {vs:List V} {R:Result->Uq->Prop}
  (I:Inv Y pins σ H sh) (T:Turn Y.prog Y.w Y.K tg J fp it tn) (st:tn 0 sh.heap) (hf:∀b∈fp,ZC Y pins H b)
  (k:EOk Y.K H G G H σ Z) (its:XF Y.K J ds G) (hD:H D'=some (.lst vs)) (gD:G D'=none) (r:Reps Y.K G vs es) (zl:cT s t rd ds Z es=some (esF,ZF))
  (hfin:∀σ' H' G' vs' s',Left Y D' pins H G esF ZF σ' H' G' vs' s'->R (.ok .next) s'):codeAny (model Y.prog Y.w) Y.A code R sh:=by
 have stat:∀{H':Hp},(∀b∈fp,H' b=none)->∀b∈fp,ZC Y pins H' b:=λhn b hb=>⟨hn b hb,(hf b hb).2⟩
 refine rule R (λn s'=>∃i σ' H' G' Z' vs' es',n=ds.length-i/\tn i s'.heap/\(∀b∈fp,H' b=none)/\Left Y D' pins H G es' Z' σ' H' G' vs' s'/\cT s t rd (ds.drop i) Z' es'=some (esF,ZF)) ds.length sh
  ⟨0,σ,H,G,Z,vs,es,rfl,st,λb hb=>(hf b hb).1,⟨I,k,λ_ _ _ q=>q,.refl _,λ_ _ _ _ n=>n,hD,gD,r⟩,by rw[List.drop_zero];exact zl⟩ ?_
 rintro n s' ⟨i,σ',H',G',Z',vs',es',rfl,tn',fr',⟨I',k',sh',sg',np',hD',gD',r'⟩,zc⟩;by_cases hlt:i<ds.length
 ·rw[QU hlt,cT]at zc;cases zs:s ds[i] Z' with
  |none=>rw[zs]at zc;cases zc
  |some Z2=>
  rw[zs]at zc;dsimp only at zc;cases zt:t Z2 with
  |bad=>rw[zt]at zc;cases zc
  |ok b Z3=>
  rw[zt]at zc;dsimp only at zc;refine thn (T.item Y rfl rfl rfl hc i pins s' σ' H' nox I' (stat fr') tn' (its.go i G' H' sg' k'.gh hlt)) λrr s4 ⟨u,hr,h4⟩=>?_;subst hr;refine thn h4 λ_ s5 ⟨x,H5,I5,r5,y5,st5,fr5⟩=>?_
  obtain⟨G5,e5,rx⟩:=its.yld i G' H' x H5 ds[i] sg' k'.gh (Qd hlt) y5;have h6:=hg H' G' _ s5 σ' H5 x u (λσ6 H6=>∃G6,EOk Y.K H' G' G6 H6 σ6 Z2) (I5.pinned (stat fr5) (T.obj _ _ st5)) r5 ⟨G5,Z',ds[i],Z2,k'.ext e5,rx,zs,λσ6 G6 H6 k6 _=>⟨G6,k6⟩⟩;rw[hx]at h6;refine thn h6 λ_ s6 ⟨σ6,H6,I6,G6,k6⟩=>?_;have h7:=ht H' G' _ s6 σ6 H6 (λc H7=>c=b/\∃G7,EOk Y.K H' G' G7 H7 σ6 Z3) I6 ⟨G6,Z2,k6,by unfold aft;rw[zt];exact λc G7 H7 k7 _ q=>⟨q,G7,k7⟩⟩
  rw[hx]at h7;refine thn h7 λok s7 ⟨H7,I7,hb7,G7,k7⟩=>?_;subst hb7
  have again:∀{H9:Hp}{σ9:St}{s9:Uq},Inv Y (pins++Ra fp s5.heap) σ9 H9 s9->Inv Y pins σ9 H9 s9/\tn (i+1) s9.heap/\∀b∈fp,H9 b=none:=λ{H9 σ9 s9} I9=>by refine⟨I9.unpinned,T.keep _ _ _ st5 λb hb o e=>(I9.pin (b,o) (QJ _ (QJ _ (Pw hb e)))).1,λb hb=>?_⟩;obtain⟨o,e,d⟩:=T.obj _ _ st5 b hb;exact(I9.pin (b,o) (QJ _ (QJ _ (Pw hb e)))).2.1
  have lt:ds.length-(i+1)<ds.length-i:=Nat.sub_lt_sub_left hlt (Uc i);cases ok with
  |false=>rw[Qs (by decide)]at zc⊢;obtain⟨J1,J2,J3⟩:=again I7;exact⟨_,lt,i+1,σ6,H7,G7,Kq Z3,vs',es',rfl,J2,J3,⟨J1,k7.rebase,λa o z q=>k7.bh a o (sh' a o z q),sg'.trans k7.g0,λa o z q w=>k7.np a o (sh' a _ z q) (np' a o z q w),k7.bh _ _ hD',k7.np _ (.l _) hD' gD',r'.mono k7.g0⟩,zc⟩
  |true=>
   rw[Qk rfl]at zc⊢;cases ze:rd Z3 es' with
   |none=>rw[ze]at zc;cases zc
   |some pr=>
   obtain⟨es1,Z5⟩:=pr;rw[ze]at zc;refine hb _ s7 σ6 H' G' H7 G7 Z3 Z5 vs' es' es1 _ I7 k7 hD' gD' r' ze λσ9 H9 G9 vs9 s9 L=>?_
   obtain⟨J1,J2,J3⟩:=again L.inv;exact⟨_,lt,i+1,σ9,H9,G9,Z5,vs9,es1,rfl,J2,J3,⟨J1,L.eok,λa o z q=>L.hh a o z (sh' a o z q),sg'.trans L.gg,λa o z q w=>L.np a o z (sh' a _ z q) (np' a o z q w),L.hd,L.gd,L.rp⟩,zc⟩
 ·rw[J4 (Jd hlt),cT]at zc;cases zc;refine thn (T.done Y rfl rfl rfl hc i pins s' σ' H' nox I' (stat fr') tn' (its.stop i G' H' sg' k'.gh (Jd hlt))) λrr s4 ⟨hr,I6⟩=>?_
  subst hr;exact hfin σ' H' G' vs' s4 ⟨I6,k',sh',sg',np',hD',gD',r'⟩
theorem qu{elt tg1 i1:Uu}{ifs1:List Uu}{gens:List Comprehension}{scope:Scope}{pos:Pos}{j:Nat}{W:Up->(Uq->Prop)->Uq->Prop}{f:M (List D)}{s:D->UP->Option UP}{t:M Bool}{rd:RdB}(hx:Y.xe=nox)(hc:Y.calm=true)
  (hn:gens[j+1]?=some ⟨tg1,i1,ifs1,0⟩) (rule:∀it1,Rx Y.prog Y.w Y.A tg1 ifs1 Y.env it1 (.compLoop (.ListComp elt gens scope pos) (j+1) it1 (.ref D') Y.env) (W it1))
  (hi:∀B1 G1,PI Y tg1 i1 (iD Y.K B1 G1 f)) (hg:∀B1 G1,PG Y tg1 (tG Y.K B1 G1 s)) (ht:∀B1 G1,Y4 Y ifs1 (tBo Y.K B1 G1 t)) (hb:∀it1,SV Y D' (W it1) rd) :
  SV Y D' (λQ s=>Uw (model Y.prog Y.w) Y.A (eval i1 Y.env) (λx s₄=>Uw (model Y.prog Y.w) Y.A (pyIter x) (λit1 s₅=>codeAny (model Y.prog Y.w) Y.A (.compStart (.ListComp elt gens scope pos) (j+1) it1 (.ref D') Y.env)
   (λr s₆=>match r with | .ok _=>Q s₆ | .error _=>False) s₅) nox s₄) nox s) (rN f s t rd):=by
 intro pins sh σ B1 G1 H G Z Z' vs es es' Q I k hD gD r z fin;unfold rN at z;cases zf:f Z with
 |bad=>rw[zf]at z;cases z
 |ok ds Z3=>
 rw[zf]at z;have h:=hi B1 G1 pins sh σ H (λJ1 H8=>∃G8,EOk Y.K B1 G1 G8 H8 σ Z3/\XF Y.K J1 ds G8) I ⟨G,Z,k,by rw[zf];exact λJ1 G8 H8 k8 _ q=>⟨G8,k8,q⟩⟩;rw[hx]at h;refine thn h λxv s8 h8=>thn h8 λitv s9 h9=>?_
 obtain⟨it1,fp1,tn1,J1,H9,rfl,I9,T1,st9,f9,G9,k9,its9⟩:=h9
 have loop:codeAny (model Y.prog Y.w) Y.A (.compLoop (.ListComp elt gens scope pos) (j+1) (.ref it1) (.ref D') Y.env) (λr s₆=>match r with | .ok _=>Q s₆ | .error _=>False) s9:=
  Lk hx hc (rule (.ref it1)) hg ht (hb _) I9 T1 st9 f9 k9.rebase its9 (k9.bh _ _ hD) (k9.np _ (.l _) hD gD) (r.mono k9.g0) z λσ' H' G' vs' s' L=>
   fin σ' H' G' vs' s' ⟨L.inv,L.eok,λa o z q=>L.hh a o z (k9.bh a o q),k9.g0.trans L.gg,λa o z q w=>L.np a o z (k9.bh a _ q) (k9.np a o q w),L.hd,L.gd,L.rp⟩
 exact kg hn loop (T1.self Y.A 0 _ _ _ st9 loop)
end
def SU(Y:Cx)(e:Uu)(j:Nat)(tg:Uu)(ifs:List Uu)(rd:RdB):Prop:=
 ∀(D':Us)(it:Up),∃W,Rx Y.prog Y.w Y.A tg ifs Y.env it (.compLoop e j it (.ref D') Y.env) W/\SV Y D' W rd
section
variable{Y:Cx}{elt tg i:Uu}{ifs:List Uu}{gens:List Comprehension}{scope:Scope}{pos:Pos}{j:Nat}
theorem L4{g:M D}(hx:Y.xe=nox)(hg:gens[j]?=some ⟨tg,i,ifs,0⟩)(hn:gens[j+1]?=none)(he:∀B1 G1,PE Y elt (tD Y.K B1 G1 g)):SU Y (.ListComp elt gens scope pos) j tg ifs (rL g):=
 λ_ _=>⟨_,qy hg hn,qv hx he⟩
theorem qt{tg1 i1:Uu}{ifs1:List Uu}{f:M (List D)}{s:D->UP->Option UP}{t:M Bool}{rd:RdB}(hx:Y.xe=nox)(hc:Y.calm=true)(hg:gens[j]?=some ⟨tg,i,ifs,0⟩)(hn:gens[j+1]?=some ⟨tg1,i1,ifs1,0⟩)(hs:∀x,UN i1 Y.env x=pure x)
  (hi:∀B1 G1,PI Y tg1 i1 (iD Y.K B1 G1 f)) (hgt:∀B1 G1,PG Y tg1 (tG Y.K B1 G1 s)) (ht:∀B1 G1,Y4 Y ifs1 (tBo Y.K B1 G1 t)) (hb:SU Y (.ListComp elt gens scope pos) (j+1) tg1 ifs1 rd):SU Y (.ListComp elt gens scope pos) j tg ifs (rN f s t rd):=
 λD' _=>⟨_,qx hg hn hs,qu hx hc hn (λit1=>(Classical.choose_spec (hb D' it1)).1) hi hgt ht (λit1=>(Classical.choose_spec (hb D' it1)).2)⟩
end
def YN(l:Bool)(Z:UP):UP:=match l with|true=>Yc Z|false=>Kq Z
theorem Gz{K:Frag}{B G0 G1 H2:Hp}{σ:St}{Z1:UP}{D:Us}(l:Bool)(k1:EOk K B G0 G1 H2 σ Z1)(hfr:H2 D=none)(n:Nat) :
  ∃Gb,EOk K (upd H2 D (.lst [])) Gb Gb (upd H2 D (.lst [])) (σ++UA n none) (YN l Z1++UA n none)/\Same G1 Gb/\Gb D=none /\
   ∀(G' H':Hp) vs es,(l=true->es.all flat=true)->Same Gb G'->Same H2 H'->Same G' H'->(∀a(u:MO),H2 a=some u.ho->Gb a=none->G' a=none)->G' D=none->Reps K G' vs es->∃Gf,Ext G1 H2 Gf H'/\Gf D=none/\Reps K Gf vs es:=by
 have gD:G1 D=none:=k1.gh.free hfr;cases l with
 |false=>exact⟨G1,(k1.beside gD).more n,.refl _,gD,λG' H' vs es _ g h gh np d r=>⟨G',⟨h,g,gh,np⟩,d,r⟩⟩
 |true=>exact⟨H2,k1.lend hfr n,k1.gh,hfr,λG' H' vs es fl _ h _ _ _ r=>⟨G1,⟨h,.refl _,k1.gh.trans h,λ_ _ _ n=>n⟩,gD,r.flat (fl rfl)⟩⟩
def dCG(l:Bool)(f:M (List D))(k:Nat)(s:D->UP->Option UP)(t:M Bool)(rd:RdB):M (List D):=λZ=>match f Z with
 |.bad=>.bad
 |.ok ds Z1=>match cT s t rd ds (YN l Z1++UA k none) []with
  |none=>.bad
  |some (es,_)=>if l=true->es.all flat=true then .ok es Z1 else .bad
theorem Ob{l:Bool}{f:M (List D)}{k:Nat}{s:D->UP->Option UP}{t:M Bool}{rd:RdB}{Z Z':UP}{es:List D}(h:dCG l f k s t rd Z=.ok es Z'):∃ds ZF,f Z=.ok ds Z'/\cT s t rd ds (YN l Z'++UA k none) []=some (es,ZF)/\(l=true->es.all flat=true):=by
 unfold dCG at h;cases zf:f Z with
 |bad=>rw[zf]at h;cases h
 |ok ds Z1=>
 rw[zf]at h;dsimp only at h;cases zl:cT s t rd ds (YN l Z1++UA k none) []with
 |none=>rw[zl]at h;cases h
 |some pr=>
 obtain⟨esF,ZF⟩:=pr;rw[zl]at h;dsimp only at h;split at h
 ·rename_i hf;cases h;exact⟨ds,ZF,rfl,zl,hf⟩
 ·cases h
section
variable{X:Cx}{B G0:Hp}{KX:XW}
def Yr(X:Cx)(N2:List Str)(scope:Scope)(e tg:Uu)(ifs:List Uu)(s:D->UP->Option UP)(t:M Bool)(rd:RdB):Prop:=
 ∀(cl:List (Str×Us))(C:Us)(s₀:Uq)(H₀:Hp)(ex:List Us),(∀B' G',PG (X.blk N2 scope cl C s₀ H₀ ex) tg (tG X.K B' G' s))/\(∀B' G',Y4 (X.blk N2 scope cl C s₀ H₀ ex) ifs (tBo X.K B' G' t))/\SU (X.blk N2 scope cl C s₀ H₀ ex) e 0 tg ifs rd
structure Sd(SC scope:Scope)(N1 N2:List Str)(k:Nat):Prop where
 b:Ry scope.names N1 N2 k=true
 kind:scope.kind=.function
 cell:∀y∈scope.names,y.2≠.cell
 names:∀y∈scope.names,y.2=.local->scope.names.lookup y.1=some .local
 free:∀y∈scope.names,y.2=.free->SC.names.lookup y.1=some .cell∨SC.names.lookup y.1=some .free
theorem OF{l:Bool}{tg elt iter:Uu}{ifs:List Uu}{gs:List Comprehension}{scope:Scope}{pos pos':Pos}{N2:List Str}{k:Nat}{f:M (List D)}{s:D->UP->Option UP}{t:M Bool}{rd:RdB}{use:Option (Up->Sem Unit)}{Qc:Up->Uq->Prop}(hc:X.calm=true)
  (hi:PI X tg iter (iD X.K B G0 f)) (hblk:Yr X N2 scope (.ListComp elt (⟨tg,iter,ifs,0⟩::gs) scope pos) tg ifs s t rd) (hb:Sd X.env.scope scope X.N N2 k) (hs:∀x,UN iter X.env x=pure x)
  {pins:List (Us×Obj)} {s0:Uq} {σ:St} {G H:Hp} {Z Z1 ZF:UP} {ds esF:List D} (I:Inv X pins σ H s0) (k0:EOk X.K B G0 G H σ Z) (zf:f Z=.ok ds Z1) (zl:cT s t rd ds (YN l Z1++UA k none) []=some (esF,ZF)) (hfl:l=true->esF.all flat=true)
  (hfin:∀(C D:Us)(vs:List V)(G' H':Hp)(s4:Uq)(m:Str->Option Up),Inv X pins σ H' s4->s4.heap.Ns C m->H' C=none->C≠X.env.locals->X.s₀.heap.objs.size<=C->(∀x c,X.env.cells.lookup x=some c->c≠C)->(∀p∈X.pn++pins,p.1≠C) ->
   EOk X.K B G0 G' H' σ Z1->Same G G'->NewL X.K B G' H' σ Z1 D vs esF->compPost (model X.prog X.w) X.A X.xe use Qc (.ref D) C (.ok .next) s4) :
  Uw (model X.prog X.w) X.A (comprehension (.ListComp elt (⟨tg,iter,ifs,0⟩::gs) scope pos) scope X.env pos' (newList []) false (eval iter X.env) use) Qc X.xe s0:=by
 obtain⟨cl,hcl,cl1,cl2⟩:=qZ (scope:=scope) (env:=X.env) λy hy hf=>I.ok.has y.1 (hb.free y hy hf)
 refine wpAny_comprehension_free (use:=use) rfl hs hcl hb.kind hb.names (thn (hi pins s0 σ H (λJ H1=>∃G1,EOk X.K B G0 G1 H1 σ Z1/\Same G G1/\XF X.K J ds G1) I ⟨G,Z,k0,by rw[zf];exact λJ G1 H1 k1 s1 it=>⟨G1,k1,s1,it⟩⟩) λv s1 h1=>thn h1 λitv s2 h2=>?_);obtain⟨it,fp,tn,J,H2,rfl,I2,T,st2,f2,G1,k1,sg1,its⟩:=h2;refine wpAny_newObj_type (wpAny_newFunctionEnv hb.cell (by intro y hy;simp at hy) (λh₁ hns₁ hsb₁=>?_) hb.kind);dsimp only at hns₁ hsb₁⊢;have hfr:H2 s2.heap.objs.size=none:=I2.hok.fresh (Qx _)
 have I3:Inv X pins σ (upd H2 s2.heap.objs.size (.lst [])) {s2 with heap:=s2.heap.push {cls:=.type "list", dict:=none,data:=.seq ([]:List Up).toArray}}:=
  I2.laid (t':=s2.toks) (λb u e=>Qm _ e) (Qx _) ⟨Jw _,[],0,.nil,QD _ rfl⟩
 generalize hP:s2.heap.push {cls:=.type "list", dict:=none,data:=.seq ([]:List Up).toArray}=P at I3 hns₁ hsb₁⊢;have old:∀b o,s2.heap.get? b=some o->P.get? b=some o:=λb o e=>hP ▸ Qm _ e;have kept:∀b o,P.get? b=some o->h₁.get? b=some o:=λb o e=>hsb₁.extBut b o (QM (Qi e)) (Qm _ e);have fpo:∀b∈fp,∃o,s2.heap.get? b=some o:=λb hb=>let ⟨o,e,_⟩:=T.obj _ _ st2 b hb;⟨o,e⟩
 have fpD:∀b∈fp,b≠s2.heap.objs.size:=λb hb=>let ⟨o,e⟩:=fpo b hb;QM (Qi e)
 have f3:∀b∈fp,ZC X pins (upd H2 s2.heap.objs.size (.lst [])) b:=λb hb=>⟨by rw[Kz (fpD b hb)];exact(f2 b hb).1,(f2 b hb).2⟩
 have I4:=I3.enter (scope:=scope) (cl:=cl) (N2:=N2) (k:=k) (fp:=fp) (t':=s2.toks+([]:List (Str×Up)).length) hb.b hb.kind hb.cell hb.free cl1 cl2 hns₁ kept f3 (λb hb=>let ⟨o,e⟩:=fpo b hb;⟨o,old b o e⟩);dsimp only at I4;obtain⟨Gb,kb,sgb,gbD,ex⟩:=Gz l k1 hfr k;have sH:Same H2 (upd H2 s2.heap.objs.size (.lst [])):=Zx hfr;have hD3:upd H2 s2.heap.objs.size (.lst []) s2.heap.objs.size=some (.lst []):=Zf;generalize upd H2 s2.heap.objs.size (.lst [])=H3 at I3 I4 f3 kb sH hD3;generalize s2.heap.objs.size=D at *;have tn0:tn 0 h₁:=T.keep 0 _ _ st2 λb hb o e=>kept b o (old b o e)
 have stat:∀b∈fp,ZC (X.blk N2 scope cl P.objs.size {s2 with heap:=P} H3 fp) pins H3 b:=λb hb=>by
  obtain⟨z0,z1,z2,z3,z4,z5⟩:=f3 b hb;obtain⟨o,e⟩:=fpo b hb;refine⟨z0,QM (Qi (old b o e)),λz=>?_,.inl hb,λx c q=>z4 x c (cl1 x c q),z5⟩;rcases QT.mp (I3.stkSub b z)with q|q
  ·exact z1 q
  ·exact z2 q
 have neD:∀a o,H2 a=some o->a≠D:=λa o q z=>by subst z;rw[hfr]at q;cases q
 obtain⟨hg,ht,hcl'⟩:=hblk cl P.objs.size {s2 with heap:=P} H3 fp;obtain⟨W,rule,body⟩:=hcl' D (.ref it)
 have loop:=Lk (Y:=X.blk N2 scope cl P.objs.size {s2 with heap:=P} H3 fp) (D':=D) (R:=compPost (model X.prog X.w) X.A X.xe use Qc (.ref D) P.objs.size) rfl hc rule hg ht body I4 T tn0 stat kb
  ⟨λi G H s1 s2 hi=>its.go i G H (sgb.trans s1) s2 hi,λi G H s1 s2 hi=>its.stop i G H (sgb.trans s1) s2 hi,λi G H x H' d s1 s2 e y=>its.yld i G H x H' d (sgb.trans s1) s2 e y⟩ hD3 gbD .nil zl λσ' H' G' vs' s4 L=>by
   obtain⟨m,hm,_⟩:=id L.inv.loc;have I7:Inv X pins σ H' s4:=I3.call' (ch:=fp) L.inv.os L.inv.base L.inv.hok L.inv.bare λb hb=>⟨(f3 b hb).2.2.2.1,(f3 b hb).2.1,(f3 b hb).2.2.2.2.1,(f3 b hb).2.2.2.2.2⟩
   obtain⟨Gf,eF,dF,rF⟩:=ex G' H' vs' esF hfl L.gg (λa o q=>L.hh a o (neD a o q) (sH a o q)) L.eok.gh (λa o q z=>L.np a o (neD a _ q) (sH a _ q) z) L.gd L.rp
   refine hfin P.objs.size D vs' Gf H' s4 m I7 hm L.inv.free (JR I3.lt) I3.sz (λx c e z=>by obtain⟨_,q⟩:=I3.cell x c e;exact absurd q.lt (by rw[z];exact Jt _)) (λp hp z=>by have:=Qi (I3.pin p hp).1;exact absurd this (by rw[z];exact Jt _))
    (k1.ext eF) (sg1.trans eF.g) ⟨k1.bh.free hfr,dF,L.hd,rF,λj es' q z=>?_,λj pt d v fp q s r=>k1.freshD eF.h hfr q s r⟩
   obtain⟨a',ws,h1',h2',h3',h4',h5'⟩:=k1.own j es' q;rw[z]at h1';cases h1';rw[hfr]at h4';cases h4'
 exact codeAny_compStart_list loop (T.self X.A 0 _ _ _ tn0 loop)
theorem Gy{l:Bool}{tg elt iter:Uu}{ifs:List Uu}{gs:List Comprehension}{scope:Scope}{pos:Pos}{N2:List Str}{k:Nat}{f:M (List D)}{s:D->UP->Option UP}{t:M Bool}{rd:RdB}(hc:X.calm=true)
  (hi:PI X tg iter (iD X.K B G0 f)) (hblk:Yr X N2 scope (.ListComp elt (⟨tg,iter,ifs,0⟩::gs) scope pos) tg ifs s t rd) (hb:Sd X.env.scope scope X.N N2 k) (hs:∀x,UN iter X.env x=pure x:=by intro _;rfl) :
  PE X (.ListComp elt (⟨tg,iter,ifs,0⟩::gs) scope pos) (tL X.K B G0 (dCG l f k s t rd)):=by
 intro pins s0 σ H Q I ⟨G,Z,k0,a⟩;cases z:dCG l f k s t rd Z with
 |bad=>rw[z]at a;exact a.elim
 |ok es Z1=>
 rw[z]at a;obtain⟨ds,ZF,zf,zl,hfl⟩:=Ob z;rw[eval_ListComp];refine OF hc hi hblk hb hs I k0 zf zl hfl λC D vs G' H' s4 m I7 hm hC hL hz hcl hp k' s' n=>?_
 exact⟨m,hm,λh' sb=>⟨.ref D,H',I7.turned (t':=s4.toks) (it:=C) (λb o hb e=>(sb.2 b hb).trans e) hC hL (.inr hz) hcl hp,rfl,a D vs G' H' k' s' n⟩⟩
theorem sD_g{l:Bool}{y:Str}{j:Nat}{py:Pos}{spos:Pos}{tg elt iter:Uu}{ifs:List Uu}{gs:List Comprehension}{scope:Scope}{pos:Pos}{N2:List Str}{k:Nat}{f:M (List D)}{s:D->UP->Option UP}{t:M Bool}{rd:RdB}(hN:X.N.Nodup)(hj:X.N[j]?=some y)(hy:X.env.scope.names.lookup y=some .local)(hc:X.calm=true)
  (hi:PI X tg iter (iD X.K B G0 f)) (hblk:Yr X N2 scope (.ListComp elt (⟨tg,iter,ifs,0⟩::gs) scope pos) tg ifs s t rd) (hb:Sd X.env.scope scope X.N N2 k) (hs:∀x,UN iter X.env x=pure x:=by intro _;rfl)
  (hsw:swapsWith (.ListComp elt (⟨tg,iter,ifs,0⟩::gs) scope pos) (some (.Name y py)) spos.line X.env=pure true:=by rfl) :
  PS X (.Assign [.Name y py] (.ListComp elt (⟨tg,iter,ifs,0⟩::gs) scope pos) spos) (tS X.K B G0 KX (Za j (dCG l f k s t rd))):=by
 intro pins s0 σ H Dn I ⟨G,Z,k0,a⟩;unfold Za sB at a;cases z:dCG l f k s t rd Z with
 |bad=>rw[z]at a;exact a.elim
 |ok es Z1=>
 rw[z]at a;dsimp only at a;by_cases hl:j<Z1.length
 ·rw[Qk hl]at a;obtain⟨ds,ZF,zf,zl,hfl⟩:=Ob z;rw[exec_Assign_Name_used _ _ _ _ hsw];refine Qf (Jq (Qf ?_));show Uw _ X.A (do let _ ←comprehension (.ListComp elt (⟨tg,iter,ifs,0⟩::gs) scope pos) scope X.env _ (newList []) false (eval iter X.env) (some (assign (.Name y py) X.env))) _ _ s0;refine Qf (QG (OF (use:=some (assign (.Name y py) X.env)) (Qc:=λ_ s'=>SP X pins Dn .next s') hc hi hblk hb hs I k0 zf zl hfl λC D vs G' H' s4 m I7 hm hC hL hz hcl hp k' s' n=>?_) (λ_ s' hq=>Qn (Qn hq)) λ_ _ e=>e);show Uw _ X.A (assign (.Name y py) X.env (.ref D)) _ _ s4;refine wpAny_assign_Name (Ni I7 hN hj (.inl hy) (v:=.ref D) rfl (λs5 I8 ⟨ad,sb,hx⟩=>?_) (.inr hy))
  have hCa:C≠ad:=by
   rcases hx with e|e
   ·rw[e];exact hL
   ·exact Ne.symm (hcl y ad e)
  refine⟨m,hm.sameBut sb hCa,λh' sb'=>⟨_,H',I8.turned (t':=s5.toks) (it:=C) (λb o hb e=>(sb'.2 b hb).trans e) hC hL (.inr hz) hcl hp,?_⟩⟩;exact a _ G' H' (k'.setOwn n hl) s'
 ·rw[Qs hl]at a;exact a.elim
theorem Gx{K:Frag}{f f':M (List D)}(h:∀Z es Z',f Z=.ok es Z'->f' Z=.ok es Z'){σ:St}{H:Hp}{Q:VK}(q:tL K B G0 f σ H Q):tL K B G0 f' σ H Q:=by
 obtain⟨G,Z,k,a⟩:=q;refine⟨G,Z,k,?_⟩;cases z:f Z with
 |bad=>rw[z]at a;exact a.elim
 |ok es Z'=>rw[z]at a;rw[h Z es Z' z];exact a
theorem NL{K:Frag}{f f':M (List D)}{j:Nat}(h:∀Z es Z',f Z=.ok es Z'->f' Z=.ok es Z'){Dn:_}{σ:St}{H:Hp}(q:tS K B G0 KX (Za j f) Dn σ H):tS K B G0 KX (Za j f') Dn σ H:=by
 obtain⟨G,Z,k,a⟩:=q;refine⟨G,Z,k,?_⟩;unfold Za sB at a⊢;cases z:f Z with
 |bad=>rw[z]at a;exact a.elim
 |ok es Z'=>rw[z]at a;rw[h Z es Z' z];exact a
end
theorem OE{s:D->UP->Option UP}{t:M Bool}{g:M D}:∀{ds:List D}{Z:UP}{es esF:List D},Ze s t g ds Z es=some esF->∃ZF,cT s t (rL g) ds Z es=some (esF,ZF)
 |[],Z,es,esF,h=>by rw[Ze]at h;cases h;exact⟨Z,rfl⟩
 |d::r,Z,es,esF,h=>by
  rw[Ze]at h;rw[cT];cases zs:s d Z with
  |none=>rw[zs]at h;cases h
  |some Z1=>
  rw[zs]at h;dsimp only at h⊢;cases zt:t Z1 with
  |bad=>rw[zt]at h;cases h
  |ok b Z2=>
  rw[zt]at h;dsimp only at h⊢;cases b with
  |false=>exact OE (ds:=r) h
  |true=>
   rw[Qk rfl]at h⊢;unfold rL;cases zg:g Z2 with
   |bad=>rw[zg]at h;cases h
   |ok e Z3=>
   rw[zg]at h;dsimp only at h⊢;split at h
   ·rename_i hl;rw[Qk hl];exact OE (ds:=r) h
   ·cases h
theorem Py{s:D->UP->Option UP}{t:M Bool}{g:M D}:∀{ds:List D}{Z:UP}{es:List D},YL s t g ds Z es=cT s t (rL g) ds Z es
 |[],Z,es=>rfl
 |d::r,Z,es=>by
  rw[YL,cT];cases s d Z with
  |none=>rfl
  |some Z1=>
  dsimp only;cases t Z1 with
  |bad=>rfl
  |ok b Z2=>
  dsimp only;cases b with
  |false=>exact Py (ds:=r)
  |true=>
   rw[Qk rfl,Qk rfl];unfold rL;cases g Z2 with
   |bad=>rfl
   |ok e Z3=>
   dsimp only;split
   ·exact Py (ds:=r)
   ·rfl
theorem Px{s s1:D->UP->Option UP}{t t1:M Bool}{f:M (List D)}{Rd:List D->UP->List D->Option (List D×UP)}{rd:RdB}(hR:∀ds Z es,Rd ds Z es=cT s1 t1 rd ds Z es) :
  ∀{ds:List D}{Z:UP}{es:List D},Xg s t f Rd ds Z es=cT s t (rN f s1 t1 rd) ds Z es
 |[],Z,es=>rfl
 |d::r,Z,es=>by
  rw[Xg,cT];cases s d Z with
  |none=>rfl
  |some Z1=>
  dsimp only;cases t Z1 with
  |bad=>rfl
  |ok b Z2=>
  dsimp only;cases b with
  |false=>exact Px hR (ds:=r)
  |true=>
   rw[Qk rfl,Qk rfl];unfold rN;cases f Z2 with
   |bad=>rfl
   |ok ds Z3=>
   dsimp only;rw[hR];cases cT s1 t1 rd ds (Kq Z3) es with
   |none=>rfl
   |some pr=>exact Px hR (ds:=r)
theorem OZ{s s1:D->UP->Option UP}{t t1:M Bool}{f:M (List D)}{g:M D}:∀{ds:List D}{Z:UP}{es esF:List D},XV s t f s1 t1 g ds Z es=some esF->∃ZF,cT s t (rN f s1 t1 (rL g)) ds Z es=some (esF,ZF)
 |[],Z,es,esF,h=>by rw[XV]at h;cases h;exact⟨Z,rfl⟩
 |d::r,Z,es,esF,h=>by
  rw[XV]at h;rw[cT];cases zs:s d Z with
  |none=>rw[zs]at h;cases h
  |some Z1=>
  rw[zs]at h;dsimp only at h⊢;cases zt:t Z1 with
  |bad=>rw[zt]at h;cases h
  |ok b Z2=>
  rw[zt]at h;dsimp only at h⊢;cases b with
  |false=>exact OZ (ds:=r) h
  |true=>
   rw[Qk rfl]at h⊢;unfold rN;cases zg:f Z2 with
   |bad=>rw[zg]at h;cases h
   |ok ds Z3=>
   rw[zg]at h;dsimp only at h⊢;rw[←Py];cases zl:YL s1 t1 g ds (Kq Z3) es with
   |none=>rw[zl]at h;cases h
   |some pr=>rw[zl]at h;exact OZ (ds:=r) h
theorem Lj{f:M (List D)}{k:Nat}{s:D->UP->Option UP}{t:M Bool}{g:M D}(Z:UP)(es:List D)(Z':UP)(h:ZG f k s t g Z=.ok es Z'):dCG false f k s t (rL g) Z=.ok es Z':=by
 unfold ZG at h;unfold dCG;cases zf:f Z with
 |bad=>rw[zf]at h;cases h
 |ok ds Z1=>
 rw[zf]at h;dsimp only[YN]at h⊢;cases zl:Ze s t g ds (Kq Z1++UA k none) []with
 |none=>rw[zl]at h;cases h
 |some esF=>
 rw[zl]at h;cases h;obtain⟨ZF,e⟩:=OE zl;rw[e];exact Qk λz=>by cases z
theorem qq{f f1:M (List D)}{k:Nat}{s s1:D->UP->Option UP}{t t1:M Bool}{g:M D}(Z:UP)(es:List D)(Z':UP)(h:S5 f k s t f1 s1 t1 g Z=.ok es Z'):dCG false f k s t (rN f1 s1 t1 (rL g)) Z=.ok es Z':=by
 unfold S5 at h;unfold dCG;cases zf:f Z with
 |bad=>rw[zf]at h;cases h
 |ok ds Z1=>
 rw[zf]at h;dsimp only[YN]at h⊢;cases zl:XV s t f1 s1 t1 g ds (Kq Z1++UA k none) []with
 |none=>rw[zl]at h;cases h
 |some esF=>
 rw[zl]at h;cases h;obtain⟨ZF,e⟩:=OZ zl;rw[e];exact Qk λz=>by cases z
theorem qp{f f1 f2:M (List D)}{k:Nat}{s s1 s2:D->UP->Option UP}{t t1 t2:M Bool}{g:M D}(Z:UP)(es:List D)(Z':UP)(h:SZ f k s t f1 s1 t1 f2 s2 t2 g Z=.ok es Z'):dCG false f k s t (rN f1 s1 t1 (rN f2 s2 t2 (rL g))) Z=.ok es Z':=by
 unfold SZ at h;unfold dCG;cases zf:f Z with
 |bad=>rw[zf]at h;cases h
 |ok ds Z1=>
 rw[zf]at h;dsimp only[YN,V1]at h⊢;rw[Px λ_ _ _=>Px λ_ _ _=>Py]at h;cases zl:cT s t (rN f1 s1 t1 (rN f2 s2 t2 (rL g))) ds (Kq Z1++UA k none) []with
 |none=>rw[zl]at h;cases h
 |some pr=>
 rw[zl]at h;cases h;exact Qk λz=>by cases z
def Vm(q:Option NameKind->Bool)(SC scope:Scope)(N1 N2:List Str)(k:Nat):Bool:=
 Ry scope.names N1 N2 k&&decide (scope.kind=.function)&&scope.names.all λy=>match y.2 with
  |.cell=>false
  |.local=>decide (scope.names.lookup y.1=some .local)
  |.free=>q (SC.names.lookup y.1)
  |_=>true
def Sc:Option NameKind->Bool
 |some .cell=>true|some .free=>true|_=>false
theorem qY{q:Option NameKind->Bool}{SC SC' scope:Scope}{N1 N2:List Str}{k:Nat}(h:Vm q SC scope N1 N2 k=true)(f:∀x,q (SC.names.lookup x)=true->SC'.names.lookup x=some .cell∨SC'.names.lookup x=some .free):Sd SC' scope N1 N2 k:=by
 unfold Vm at h;rw[Je,Je,Jx]at h;obtain⟨⟨h1,h2⟩,h3⟩:=h;refine⟨h1,Qa h2,λy hy e=>?_,λy hy e=>?_,λy hy e=>?_⟩
 ·have:=h3 y hy;rw[e]at this;cases this
 ·have:=h3 y hy;rw[e]at this;exact Qa this
 ·have:=h3 y hy;rw[e]at this;exact f _ this
theorem Oa{SC scope:Scope}{N1 N2:List Str}{k:Nat}(h:Vm Sc SC scope N1 N2 k=true):Sd SC scope N1 N2 k:=qY h λx e=>by
 cases z:SC.names.lookup x with
 |none=>rw[z]at e;cases e
 |some y=>rw[z]at e;cases y<;>first|exact .inl rfl|exact .inr rfl|cases e
section
variable{X:Cx}{B G0:Hp}{KX:XW}
theorem Gw{l:Bool}{tg elt iter:Uu}{ifs:List Uu}{gs:List Comprehension}{scope:Scope}{pos:Pos}{f:M (List D)}{s:D->UP->Option UP}{t:M Bool}{rd:RdB}{F:M (List D)}(SC:Scope)(N1 N2:List Str)(k:Nat)(le:∀Z es Z',F Z=.ok es Z'->dCG l f k s t rd Z=.ok es Z')(hc:X.calm=true)
  (hi:PI X tg iter (iD X.K B G0 f)) (hblk:Yr X N2 scope (.ListComp elt (⟨tg,iter,ifs,0⟩::gs) scope pos) tg ifs s t rd) (h1:X.env.scope=SC) (h2:X.N=N1) (hb:Vm Sc SC scope N1 N2 k=true) (hs:∀x,UN iter X.env x=pure x:=by intro _;rfl) :
  PE X (.ListComp elt (⟨tg,iter,ifs,0⟩::gs) scope pos) (tL X.K B G0 F):=
 Kt (Gy hc hi hblk (by rw[h1,h2];exact Oa hb) hs) λ_ _ _ q=>Gx le q
theorem sD_1{l:Bool}{y:Str}{j:Nat}{py:Pos}{spos:Pos}{tg elt iter:Uu}{ifs:List Uu}{gs:List Comprehension}{scope:Scope}{pos:Pos}{f:M (List D)}{s:D->UP->Option UP}{t:M Bool}{rd:RdB}{F:M (List D)}(SC:Scope)(N1 N2:List Str)(k:Nat)(le:∀Z es Z',F Z=.ok es Z'->dCG l f k s t rd Z=.ok es Z')(hN:X.N.Nodup)(hj:X.N[j]?=some y)(hy:X.env.scope.names.lookup y=some .local)(hc:X.calm=true)
  (hi:PI X tg iter (iD X.K B G0 f)) (hblk:Yr X N2 scope (.ListComp elt (⟨tg,iter,ifs,0⟩::gs) scope pos) tg ifs s t rd) (h1:X.env.scope=SC) (h2:X.N=N1) (hb:Vm Sc SC scope N1 N2 k=true) (hs:∀x,UN iter X.env x=pure x:=by intro _;rfl)
  (hsw:swapsWith (.ListComp elt (⟨tg,iter,ifs,0⟩::gs) scope pos) (some (.Name y py)) spos.line X.env=pure true:=by rfl) :
  PS X (.Assign [.Name y py] (.ListComp elt (⟨tg,iter,ifs,0⟩::gs) scope pos) spos) (tS X.K B G0 KX (Za j F)):=
 Zp (sD_g hN hj hy hc hi hblk (by rw[h1,h2];exact Oa hb) hs hsw) λ_ _ _ q=>NL le q
end
theorem Bh{f:M (List D)}{k:Nat}{s s1' s2':D->UP->Option UP}{t t1' t2':M Bool}{f1 f2:M (List D)}{g:M D}{Z Z1 Z2:UP}{ds es:List D}(h1:f Z=.ok ds Z1)(h2:Xg s t f1 (Xg s1' t1' f2 (YL s2' t2' g)) ds (Kq Z1++UA k none) []=some (es,Z2)) :
  SZ f k s t f1 s1' t1' f2 s2' t2' g Z=.ok es Z1:=by
 unfold SZ;rw[h1];dsimp only[V1];rw[h2];rfl
section
variable{X:Cx}{B G0:Hp}{e a b c tg:Uu}{pos:Pos}{es rest:List Uu}
theorem EOk.given{K:Frag}{G H:Hp}{σ:St}{Z:UP}{a:Us}{vs:List V}{ds:List D}(k:EOk K B G0 G H σ Z)(n:NewL K B G H σ Z a vs ds):EOk K B G0 (upd G a (.lst vs)) H σ Z where
 bh:=k.bh
 gh:=λb u q=>by
  by_cases z:b=a
  ·subst z;rw[Zf]at q;cases q;exact n.h
  ·rw[Kz z]at q;exact k.gh b u q
 g0:=k.g0.trans (Zx n.g)
 np:=λb o q z=>by
  have zb:b≠a:=λz=>by subst z;rw[n.b]at q;cases q
  rw[Kz zb];exact k.np b o q z
 len:=k.len
 pub:=λi d q=>let ⟨v,h1,h2⟩:=k.pub i d q;⟨v,h1,h2.mono (Zx n.g)⟩
 own:=λi ds q=>by
  obtain⟨b,ws,h1,h2,h3,h4,h5⟩:=k.own i ds q;have zb:b≠a:=λz=>by subst z;exact n.f i ds q h1
  exact⟨b,ws,h1,h2,by rw[Kz zb];exact h3,h4,h5.mono (Zx n.g)⟩
 sep:=k.sep
 dp:=k.dp.map (λ_ _ _ q=>⟨q,rfl⟩) (λ_ ds q=>⟨ds,q,rfl⟩) λi p d v fp q s r w nn=>⟨r.mono (Zx n.g) (.refl _),λb m=>⟨(w b m).1,by rw[Kz (λz=>n.dp i p d v fp q s r (by rw[←z];exact m))];exact(w b m).2⟩⟩
theorem Dp{f:M (List D)}(h:PE X e (tL X.K B G0 f)):PE X e (tD X.K B G0 (U6 UB f)):=
 Kt h λσ H Q ⟨G,Z,k,a⟩=>by
  refine⟨G,Z,k,?_⟩;unfold U6 Kc at a;cases z:f Z with
  |bad=>rw[z]at a;exact a.elim
  |ok ds Z1=>rw[z]at a;intro ad vs G' H' k' s' n;exact a (.ref ad) _ H' (k'.given n) (s'.trans (Zx n.g)) (.lst (SqL.of Zf) (n.r.mono (Zx n.g)))
theorem Bg(hc:X.calm=true):YS X (.builtin "all") (λxs H Q=>∃l,∃bs:List Bool,xs=[.ref l]/\SqL X.K H l (bs.map V.bl)/\Q (.bl (bs.all id)) H):=by
 intro pins s σ H xs us Q I rx h;obtain⟨l,bs,rfl,hq,q⟩:=h;obtain⟨u,rfl,ru⟩:=rx.one;cases ru;obtain⟨its,rv,p,hz⟩:=I.list hq;have hl:=p.isList;have hlt:l<s.heap.objs.size:=by obtain⟨_,e,_⟩:=id hl;exact Qi e
 have key:∀(i:Nat) v,its.toArray[i]?=some v->∃t,bs[i]?=some t/\v=.bool t:=λi v e=>by
  have e:its[i]?=some v:=by simpa using e
  have hi:i<bs.length:=by have:=(Qg.mp e).1;have h2:=rv.length;rw[Qb]at h2;omega
  obtain⟨u,e2,r2⟩:=rv.get (i:=i) (x:=.bl bs[i]) (by rw[Qe,Qd hi];rfl);rw[e]at e2;cases e2;exact⟨bs[i],Qd hi,r2⟩
 refine call_all_walk (JI hl ?_)
 refine⟨s.heap.objs.size,[s.heap.objs.size,l],[s.heap.objs.size],its.toArray.size,_,_,λi=>(bs[i]?).getD true,rfl,Walks.list (A:=X.A.in1) (I.ok.hd hc) _ l (QM hlt) its.toArray,
  ⟨⟨_,QD _ rfl,rfl,rfl⟩,hl.push _⟩,λi v s' Q' E' hP hQ=>?_,λh' tk hk=>?_⟩
 ·obtain⟨b,e,rfl⟩:=key i v hP;simp only[e,JW]at hQ;exact Q2 hQ
 ·have hn:its.toArray.size=bs.length:=by have:=rv.length;rw[List.length_map]at this;simp;omega
  have e:((Uz its.toArray.size).all λi=>(bs[i]?).getD true)=bs.all id:=by
   rw[hn,JD,Jx,Jx];constructor
   ·intro h b hb;obtain⟨i,hi,e⟩:=List.getElem_of_mem hb;have:=h i (Q8.mpr hi);simp only[Qd hi,JW,e]at this;exact this
   ·intro h i hi;have hi':=Q8.mp hi;simp only[Qd hi',JW];exact h _ (JM hi')
  rw[e];exact⟨.bl (bs.all id),H,I.kept (t':=tk) λb x e=>hk b x (λhm=>by rw[Q4.mp hm]at e;exact Jt _ (Qi e)) (Qm _ e),rfl,q⟩
def Vq:List D->Option (List Bool)
 |[]=>some []
 |.bool b::r=>(Vq r).map (b :: ·)
 |_=>none
theorem Gq{K:Frag}{G:Hp}:∀{vs:List V}{ds:List D}{bs:List Bool},Reps K G vs ds->Vq ds=some bs->vs=bs.map V.bl
 |_,_,bs,.nil,e=>by cases e;rfl
 |_,_,bs,.cons (d:=d) r t,e=>by
  cases d with
  |bool b=>
   unfold Vq at e;cases z:Vq _ with
   |none=>rw[z]at e;cases e
   |some cs=>rw[z]at e;cases e;rw[r.bl_inv,Gq t z];rfl
  |_=>cases e
def YF:List D->Option D
 |[.list ds]=>(Vq ds).map λbs=>.bool (bs.all id)
 |_=>none
theorem Fv(hc:X.calm=true):YU X (.builtin "all") YF:=by
 refine⟨_,Bg hc,λvs G H ds d Q s r e k=>?_⟩;unfold YF at e;split at e
 ·rename_i ds;cases z:Vq ds with
  |none=>rw[z]at e;cases e
  |some bs=>rw[z]at e;cases e;obtain⟨v,rfl,q⟩:=r.one_inv;obtain⟨l,ws,rfl,h1,r1⟩:=q.lst_inv;have hw:=Gq r1 z;subst hw;exact⟨l,bs,rfl,s.seq h1,k _ G H (.refl s) (.bl _)⟩
 ·cases e
def Its(x:Str):It:=⟨λi _=>i<x.cps.size,λi H v H'=>H'=H/\∃c,x.cps[i]?=some c/\v=.str ⟨#[c]⟩,λi _=>x.cps.size<=i⟩
theorem Bf{P:Ur}{w:World}{K:Frag}{tg:Uu}(x:Str)(t:Tok)(it:Us):Turn P w K tg (Its x) [it] it (λi h=>h.IsStrIter it (strIterType x) x t i) where
 mem:=by simp
 obj:=λi h st b hb=>by
  have e:b=it:=by simpa using hb
  subst e;obtain⟨o,e,c,d⟩:=st;exact⟨o,e,λv z=>by rw[d]at z;cases z⟩
 keep:=λi h h' st k=>by obtain⟨o,e,c,d⟩:=st;exact⟨o,k it (by simp) o e,c,d⟩
 item:=by
  intro X hP hw hK hc i pins s σ H E I hf st hg;subst hP hw hK;obtain⟨f0,f1,f2,f3,f4,f5⟩:=hf it (by simp);have hx:x.cps[i]?=some x.cps[i]:=JP hg
  have fin:∀h' tk(T:String),strIterType x=T->h'.IsStrIter it T x t (i+1)->Heap.SameBut it s.heap h'->["enumerate", "zip", "dict_itemiterator", "dict_reverseitemiterator", "odict_iterator", "itertools.zip_longest", "itertools.pairwise"].contains T=false ->
    ∃u,some (Value.str ⟨#[x.cps[i]]⟩ s.toks)=some u/\Uw (model X.prog X.w) X.A (letOwnedTupleGo tg (.ref it) u) (λ_ s2=>∃v H',Inv X pins σ H' s2/\RelV v u/\(Its x).yld i H v H'/\s2.heap.IsStrIter it (strIterType x) x t (i+1)/\∀b∈[it],H' b=none) E {s with heap:=h',toks:=tk}:=by
   intro h' tk T eT st' sb hn;have I1:Inv X pins σ H {s with heap:=h',toks:=tk}:=I.turned (t':=tk) (λb o hb e=>(sb.2 b hb).trans e) f0 f1 f3 f4 f5;obtain⟨o,e,c,d⟩:=id st';refine⟨_,rfl,RH (s:={s with heap:=h',toks:=tk}) e c d hn ⟨.str ⟨#[x.cps[i]]⟩,H,I1,⟨_,rfl⟩,⟨rfl,_,hx,rfl⟩,by rw[eT];exact st',λb hb=>(hf b hb).1⟩⟩
  cases ha:x.cps.all (· < 128)with
  |true=>
   have eT:strIterType x = "str_ascii_iterator" :=by simp[strIterType,ha]
   rw[eT]at st;exact wpAny_pyNext_ascii_item st hx λh' st' sb=>fin h' _ _ eT st' sb (by decide)
  |false=>
   have eT:strIterType x = "str_iterator" :=by simp[strIterType,ha]
   rw[eT]at st;exact wpAny_pyNext_wide_item st hx λh' st' sb=>fin h' _ _ eT st' sb (by decide)
 done:=by
  intro X hP hw hK hc i pins s σ H E I hf st hg;subst hP hw hK;obtain⟨f0,f1,f2,f3,f4,f5⟩:=hf it (by simp);have hx:x.cps[i]?=none:=Array.getElem?_eq_none hg;cases ha:x.cps.all (· < 128)with
  |true=>
   have eT:strIterType x = "str_ascii_iterator" :=by simp[strIterType,ha]
   rw[eT]at st;exact wpAny_pyNext_ascii_end (I.ok.hd hc) st hx λh' eb=>⟨rfl,I.turned (t':=s.toks) (λb o hb e=>eb b o hb e) f0 f1 f3 f4 f5⟩
  |false=>
   have eT:strIterType x = "str_iterator" :=by simp[strIterType,ha]
   rw[eT]at st;exact wpAny_pyNext_wide_end (I.ok.hd hc) st hx λh' eb=>⟨rfl,I.turned (t':=s.toks) (λb o hb e=>eb b o hb e) f0 f1 f3 f4 f5⟩
 self:=λA i s Q E st h=>by
  cases ha:x.cps.all (· < 128)with
  |true=>
   have eT:strIterType x = "str_ascii_iterator" :=by simp[strIterType,ha]
   rw[eT]at st;exact wpAny_pyIter_striter_ascii st h
  |false=>
   have eT:strIterType x = "str_iterator" :=by simp[strIterType,ha]
   rw[eT]at st;exact wpAny_pyIter_striter_wide st h
def iAny(K:Frag)(tl:TE):TI:=λσ H R=>tl σ H λx H1=>(∃a,x=.ref a/\(∃xs,SqL K H1 a xs)/\R (Itl K a) H1)∨(∃a,x=.ref a/\(∃xs,SqT K H1 a xs)/\R (Itt K a) H1) ∨ ∃z,x=.str z/\R (Its z) H1
theorem FM{l:Uu}{tl:TE}(hl:PE X l tl):PI X tg l (iAny X.K tl):=by
 intro pins s σ H R I h;refine thn (hl pins s σ H _ I h) λv s1 ⟨x,H1,I1,r1,q1⟩=>?_
 have fpOk:∀b∈[s1.heap.objs.size],ZC X pins H1 b:=λb hb=>by
  have e:b=s1.heap.objs.size:=by simpa using hb
  subst e;exact I1.fpOk (Qx _) (I1.hok.fresh (Qx _))
 rcases q1 with ⟨a,e,⟨xs,hq⟩,q⟩|⟨a,e,⟨xs,hq⟩,q⟩|⟨z,e,q⟩
 ·subst e;cases r1;obtain⟨its,rv,p,hz⟩:=I1.list hq;refine JI p.isList ?_;exact⟨s1.heap.objs.size,[s1.heap.objs.size],_,_,H1,rfl,I1.kept (t':=s1.toks) λb o e=>Qm _ e,jA a _,⟨_,QD _ rfl,rfl,rfl⟩,fpOk,q⟩
 ·subst e;cases r1;obtain⟨its,rv,p,hz⟩:=I1.tuple hq;refine wpAny_pyIter_tuple p ?_;exact⟨s1.heap.objs.size,[s1.heap.objs.size],_,_,H1,rfl,I1.kept (t':=s1.toks) λb o e=>Qm _ e,jI a _,⟨_,QD _ rfl,rfl,rfl⟩,fpOk,q⟩
 ·subst e;obtain⟨t,rfl⟩:=r1;refine wpAny_pyIter_strU ?_;exact⟨s1.heap.objs.size,[s1.heap.objs.size],_,_,H1,rfl,I1.kept (t':=s1.toks) λb o e=>Qm _ e,Bf z t _,⟨_,QD _ rfl,rfl,rfl⟩,fpOk,q⟩
def SY(z:Str):List D:=z.cps.toList.map λc=>.str ⟨#[c]⟩
def P9:D->Option (List D)
 |.list ds=>some ds
 |.tuple ds=>some ds
 |.str z=>some (SY z)
 |_=>none
theorem jQ{K:Frag}{G1:Hp}{ad:Us}{vs:List V}{ds:List D}(h:SqT K G1 ad vs)(r:Reps K G1 vs ds):XF K (Itt K ad) ds G1 where
 go:=λi G H s1 s2 hi=>by
  have hi':i<vs.length:=by rw[r.length];exact hi
  exact⟨vs,vs[i],Xb (s1.trans s2) h,Qd hi'⟩
 stop:=λi G H s1 s2 hi=>⟨vs,Xb (s1.trans s2) h,by rw[r.length];exact hi⟩
 yld:=λi G H x H' d s1 s2 e y=>by obtain⟨rfl,y⟩:=y;obtain⟨v,e1,r1⟩:=r.get e;have:=y vs (Xb (s1.trans s2) h);rw[e1]at this;cases this;exact⟨G,.refl s2,r1.mono s1⟩
theorem qo{K:Frag}{G1:Hp}{z:Str}:XF K (Its z) (SY z) G1 where
 go:=λi G H s1 s2 hi=>by unfold SY at hi;simpa[Its]using hi
 stop:=λi G H s1 s2 hi=>by unfold SY at hi;simpa[Its]using hi
 yld:=λi G H x H' d s1 s2 e y=>by
  obtain⟨rfl,c,hc,rfl⟩:=y;unfold SY at e;rw[Qe]at e;have:z.cps.toList[i]?=some c:=by simpa using hc
  rw[this]at e;cases e;exact⟨G,.refl s2,.str _⟩
def K7(f:M D):M (List D):=Kc f λx=>Ke (P9 x)
theorem P1{f:M D}(h:PE X e (tD X.K B G0 f)):PI X tg e (iD X.K B G0 (K7 f)):=Xo (FM h) λσ H R q=>tM.toI (R0:=Rep X.K) q λv H' G' Z' x k r a=>by
 cases x with
 |list ds=>obtain⟨ad,vs,rfl,h1,r1⟩:=r.lst_inv;exact .inl ⟨ad,rfl,⟨vs,k.gh.seq h1⟩,a _ G' H' k (.refl _) (jB h1 r1)⟩
 |tuple ds=>obtain⟨ad,vs,rfl,h1,r1⟩:=r.tup_inv;exact .inr (.inl ⟨ad,rfl,⟨vs,Xb k.gh h1⟩,a _ G' H' k (.refl _) (jQ h1 r1)⟩)
 |str z=>have:=r.str_inv;subst this;exact .inr (.inr ⟨z,rfl,a _ G' H' k (.refl _) qo⟩)
 |_=>exact a.elim
def inS(i j:Str):Bool:=!(Builtin.Str.occurrences j i 0 j.length 1).isEmpty
def oInS:D->D->Option Bool
 |.str i,.str j=>some (inS i j)
 |_,_=>none
def No:D->D->Option Bool
 |.str i,.str j=>some (!inS i j)
 |_,_=>none
theorem Fu:OpB X (Uy .In) oInS:=⟨_,jw,λv u G H x y d Q s rx ry e k=>by
 unfold oInS at e;split at e
 ·cases e;have:=rx.str_inv;subst this;have:=ry.str_inv;subst this;exact⟨_,_,rfl,rfl,k⟩
 ·cases e⟩
theorem FL:OpB X (Uy .NotIn) No:=⟨_,kG,λv u G H x y d Q s rx ry e k=>by
 unfold No at e;split at e
 ·cases e;have:=rx.str_inv;subst this;have:=ry.str_inv;subst this;exact⟨_,_,rfl,rfl,k⟩
 ·cases e⟩
theorem Ft{x:Str}{i:Int}(hg:Gl X x)(hm:∃t,X.mg x=some (.int i t))(hd:(x==("__debug__" : Str))=false:=by decide):PE X (.Name x pos) (tD X.K B G0 (UU (.int i))):=by obtain⟨t,hm⟩:=hm;exact Kt (M4 (v:=.int i) hg hm ⟨t,rfl⟩ hd) λσ H Q ⟨G,Z,k,a⟩=>aft.now a k (.int _)
end
section
variable{X:Cx}{B G0:Hp}{KX:XW}{e o a b c tg i:Uu}{pos p2:Pos}{es rest:List Uu}{te to ti:TE}
def FJ(te to ti:TE):TS:=λD σ H=>te σ H λv H1=>to σ H1 λx H2=>ti σ H2 λk H3=>∃l xs n,x=.ref l/\H3 l=some (.lst xs)/\k=.int n/\0<=n/\n<xs.length/\D.nx σ (upd H3 l (.lst (xs.set n.toNat v)))
theorem Be(he:PE X e te)(ho:PE X o to)(hi:PE X i ti)(hs:swapsWith e (some (.Subscript o i p2)) pos.line X.env=pure false:=by rfl):PS X (.Assign [.Subscript o i p2] e pos) (FJ te to ti):=by
 intro pins s σ H D I h;refine wpAny_Assign_Subscript (thn (he pins s σ H _ I h) λv s1 ⟨x,H1,I1,r1,q1⟩=>thn (ho pins s1 σ H1 _ I1 q1) λov s2 ⟨y,H2,I2,r2,q2⟩=>thn (hi pins s2 σ H2 _ I2 q2) λiv s3 ⟨k,H3,I3,r3,q3⟩=>?_) hs;obtain⟨l,xs,n,rfl,hl,rfl,h0,h1,q⟩:=q3;cases r2;obtain⟨t,rfl⟩:=r3;obtain⟨z,its,m,r,hlen,ee⟩:=I3.lstM hl
 refine PySem.W.ki_setAt (items:=its.toArray) (n:=m) ee h0 (by
                                  have:Uv<2 ^ 63:=by decide
                                  omega) (by simp;omega) ?_
 refine⟨σ,_,I3.lset (t':=s3.toks) (its:=its) (its':=its.set n.toNat v) (f:=(·.setIfInBounds n.toNat v)) hl ee (by simp) (r.set r1 n.toNat) (by rw[List.length_set];exact z),q⟩
def Vz(j:Nat)(g f:M D):SM:=sB f λd Z1=>match Z1[j]? with
 |some (some (.own _))=>sB g (λy Z2=>match y with
  |.int k=>(match Z2[j]? with
   |some (some (.own ds))=>if 0<=k/\k<ds.length then .nx (Z2.set j (some (.own (ds.set k.toNat d))))else .bad
   |_=>.bad)
  |_=>.bad) Z1
 |_=>.bad
theorem MV{j:Nat}{f g:M D}(he:PE X e (tD X.K B G0 f))(ho:PE X o (Zi j))(hi:PE X i (tD X.K B G0 g))(hs:swapsWith e (some (.Subscript o i p2)) pos.line X.env=pure false:=by rfl) :
  PS X (.Assign [.Subscript o i p2] e pos) (tS X.K B G0 KX (Vz j g f)):=
 Zp (Be he ho hi hs) λD σ H q=>tS.bnd (R:=Rep X.K) q λv H1 G1 Z1 d k r a=>by
  cases q0:Z1[j]? with
  |none=>rw[q0]at a;exact a.elim
  |some o0=>
   cases o0 with
   |none=>rw[q0]at a;exact a.elim
   |some sl0=>
    cases sl0 with
    |deep _ _=>rw[q0]at a;exact a.elim
    |pub d=>rw[q0]at a;exact a.elim
    |own ds0=>
     rw[q0]at a;obtain⟨ad,vs0,h1,h2,h3,h4,h5⟩:=k.own j ds0 q0;refine⟨.ref ad,h1,G1,Z1,k,?_⟩;dsimp only at a;unfold sB at a;cases z:g Z1 with
     |bad=>rw[z]at a;exact a.elim
     |ok y Z2=>
      rw[z]at a;dsimp only at a;intro kv G' H' k' s' r';cases y with
      |int n=>
       dsimp only at a;cases q:Z2[j]? with
       |none=>rw[q]at a;exact a.elim
       |some oo=>
        cases oo with
        |none=>rw[q]at a;exact a.elim
        |some sl=>
         cases sl with
         |deep _ _=>rw[q]at a;exact a.elim
         |pub d=>rw[q]at a;exact a.elim
         |own ds=>
          rw[q]at a;dsimp only at a;split at a
          ·rename_i hn;obtain⟨ad',vs,g1,g2,g3,g4,g5⟩:=k'.own j ds q;rw[h1]at g1;cases g1;refine⟨ad,vs,n,rfl,g4,r'.int_inv,hn.1,by rw[g5.length];exact hn.2,?_⟩;exact a σ G' _ (k'.change q h1 (g5.set (r.mono s') n.toNat)) s'
          ·exact a.elim
      |_=>exact a.elim
def Xu(z:Str)(lo hi:Option Int):Str:=if(Builtin.Str.strSliceIndices lo hi 1 z.length).length=z.length then z else⟨((Builtin.Str.strSliceIndices lo hi 1 z.length).filterMap (z.cps[·]?)).toArray⟩
theorem FI:SlR X (λx lo hi H Q=>∃z,x=.str z/\(Xu z lo hi).length<=Uv/\Q (.str (Xu z lo hi)) H):=by
 intro pins s σ H x v vl vu lo hi sl Q I rx hs pl pu h;obtain⟨z,rfl,hz,q⟩:=h;obtain⟨t,rfl⟩:=rx;refine⟨"str", _,F.slot_str_getitem.lookup,typeIs_str s z t,?_⟩
 obtain⟨l,el,e1⟩:∃l:Option (Int×Tok),vl=partValue l/\l.map (·.1)=lo:=by
  cases pl with
  |none=>exact⟨none,rfl,rfl⟩
  |int k t'=>exact⟨some (k,t'),rfl,rfl⟩
 obtain⟨u,eu,e2⟩:∃u:Option (Int×Tok),vu=partValue u/\u.map (·.1)=hi:=by
  cases pu with
  |none=>exact⟨none,rfl,rfl⟩
  |int k t'=>exact⟨some (k,t'),rfl,rfl⟩
 subst el eu;refine wpAny_getItem_str_slice (l:=l) (u:=u) (st:=none) hs rfl ?_;unfold sliceMade slicePicked;rw[e1,e2];unfold Xu at hz q;by_cases hw:(Builtin.Str.strSliceIndices lo hi 1 z.length).length=z.length
 ·rw[Qk hw]at hz q;rw[if_pos (by simp[hw])];exact⟨.str z,H,I,⟨t,rfl⟩,q⟩
 ·rw[Qs hw]at hz q;rw[if_neg (by simp[hw])];exact⟨hz,.str _,H,I.tok _,⟨_,rfl⟩,q⟩
end
section
variable{X:Cx}{B G0:Hp}{KX:XW}{e o a b c tg i:Uu}{pos p2:Pos}{es rest:List Uu}{te to ti:TE}
theorem pvb(i:Nat){x:Str}{pos:Pos}{N':List Str}{scope:Scope}{cl:List (Str×Us)}{C:Us}{s₀:Uq}{H₀:Hp}{ex:List Us}(hN:N'[i]?=some x:=by rfl)
  (h:scope.names.lookup x=some .local∨scope.names.lookup x=some .free:=by first|exact .inl rfl|exact .inr rfl) (hd:(x==("__debug__" : Str))=false:=by decide) (hcd:(x==("__classdict__" : Str))=false:=by decide) :
  PE (X.blk N' scope cl C s₀ H₀ ex) (.Name x pos) (Zi i):=NX hN (Dr h) hd hcd
def YM:D->Option Int->Option Int->Option D
 |.list xs,lo,hi=>some (.list (DL.cutD xs lo hi))
 |.str z,lo,hi=>if(Xu z lo hi).length<=1000000 then some (.str (Xu z lo hi))else none
 |_,_,_=>none
def ZW(f:M D)(lo hi:M (Option Int)):M D:=Kc f λx=>Kc lo λl=>Kc hi λh=>Ke (YM x l h)
theorem qX{lo hi:Option Uu}{f:M D}{l h:M (Option Int)}(he:PE X e (tD X.K B G0 f))(hl:PO X lo (tOi X.K B G0 l))(hu:PO X hi (tOi X.K B G0 h)) :
  PE X (.Subscript e (.Slice lo hi none p2) pos) (tD X.K B G0 (ZW f l h)):=
 Kt (Ah (Cv.or FI) he hl hu) λσ H Q q=>by
  refine tM.one (R:=Rep X.K) q λv H2 G Z x k r a=>?_;refine tM.nx (R:=λ_ b c=>b=c) k a λl' H3 G3 Z3 xl k3 s3 r3 a3=>?_;refine tM.nx (R:=λ_ b c=>b=c) k3 a3 λh' H4 G4 Z4 xh k4 s4 r4 a4=>?_;have r3:l'=xl:=r3;have r4:h'=xh:=r4;subst r3 r4;unfold Ke YM at a4
  cases x with
  |list xs=>obtain⟨ad,vs,rfl,h1,r1⟩:=((r.mono s3).mono s4).lst_inv;exact .inl ⟨ad,vs,rfl,k4.gh.seq h1,λp hp=>aft.done a4 k4 (Ext.new k4.gh hp) (.lst (SqL.of Zf) ((r1.cut l' h').mono (Zx (k4.gh.free hp))))⟩
  |str z=>
   dsimp only at a4;have:=r.str_inv;subst this;by_cases hc:(Xu z l' h').length<=1000000
   ·rw[Qk hc]at a4;exact .inr ⟨z,rfl,QS hc lim,aft.now a4 k4 (.str _)⟩
   ·rw[Qs hc]at a4;exact a4.elim
  |_=>exact a4.elim
end
section
variable{X:Cx}{B G0:Hp}{e o a b c tg:Uu}{pos p2:Pos}{es rest:List Uu}{te to ti:TE}
def Zl{β:Type}(p:D->D->Option β)(i:Nat)(g:M D):M β:=λZ=>match Z[i]? with
 |some (some (.pub d))=>(Kc g λy=>Ke (p d y)) Z
 |some (some (.own _))=>(Kc g λy=>λZ'=>match Z'[i]? with|some (some (.own ds))=>Ke (p (.list ds) y) Z'|_=>.bad) Z
 |_=>.bad
theorem Nn{K:Frag}{σ:St}{H:Hp}{p:D->D->Option Bool}{r:R2}{i:Nat}{g:M D}{Q:Bool->Hp->Prop}{QV:VK}(hq:∀t H3,Q t H3->QV (.bl t) H3)(hr:∀v u G H x y d Q,Same G H->Rep K G v x->Rep K G u y->p x y=some d->Q (.bl d) H->r v u H Q)
  (q:tBo K B G0 (Zl p i g) σ H Q):Zi i σ H λx H1=>tD K B G0 g σ H1 λy H2=>r x y H2 QV:=by
 obtain⟨G,Z,k,a⟩:=q;unfold Zl at a;cases q:Z[i]? with
 |none=>rw[q]at a;exact a.elim
 |some o=>
  cases o with
  |none=>rw[q]at a;exact a.elim
  |some sl=>
   cases sl with
   |deep _ _=>rw[q]at a;exact a.elim
   |pub d=>
    rw[q]at a;obtain⟨v,h1,h2⟩:=k.pub i d q;refine⟨v,h1,G,Z,k,?_⟩;dsimp only[Kc]at a;cases z:g Z with
    |bad=>rw[z]at a;exact a.elim
    |ok y Z1=>rw[z]at a;intro u G' H' k' s' r';obtain⟨d',e',a'⟩:=aft.opt a;exact hr v u G' H' d y d' _ k'.gh (h2.mono s') r' e' (hq _ _ (a' d' G' H' k' s' rfl))
   |own ds=>
    rw[q]at a;obtain⟨ad,vs,h1,h2,h3,h4,h5⟩:=k.own i ds q;refine⟨.ref ad,h1,G,Z,k,?_⟩;dsimp only[Kc]at a;cases z:g Z with
    |bad=>rw[z]at a;exact a.elim
    |ok y Z1=>
     rw[z]at a;dsimp only at a;intro u G' H' k' s' r';cases q1:Z1[i]? with
     |none=>rw[q1]at a;exact a.elim
     |some oo=>
      cases oo with
      |none=>rw[q1]at a;exact a.elim
      |some sl1=>
       cases sl1 with
       |deep _ _=>rw[q1]at a;exact a.elim
       |pub d1=>rw[q1]at a;exact a.elim
       |own ds1=>
        rw[q1]at a;dsimp only at a;obtain⟨ad',ws,g1,g2,g3,g4,g5⟩:=k'.own i ds1 q1;rw[h1]at g1;cases g1;obtain⟨d',e',a'⟩:=aft.opt a;have sg:Same G' (upd G' ad (.lst ws)):=Zx g3
        have sh:Same (upd G' ad (.lst ws)) H':=λb o q=>by
         by_cases z:b=ad
         ·subst z;rw[Zf]at q;cases q;exact g4
         ·rw[Kz z]at q;exact k'.gh b o q
        exact hr (.ref ad) u _ H' (.list ds1) y d' _ sh (.lst (SqL.of Zf) (g5.mono sg)) (r'.mono sg) e' (hq _ _ (a' d' G' H' k' s' rfl))
theorem Do{op:CmpOp}{p:D->D->Option Bool}{i:Nat}{g:M D}(o:OpB X (Uy op) p)(ha:PE X a (Zi i))(hb:PE X b (tD X.K B G0 g))(hm:behindInMarks op b=false) :
  PT X (.Compare a [op] [b] pos) (tBo X.K B G0 (Zl p i g)):=by
 obtain⟨r,h,j⟩:=o;exact YE (Oh h ha hb hm) λσ H Q q=>Nn (λt H3 z=>⟨t,rfl,z⟩) j q
theorem Dm{op:CmpOp}{p:D->D->Option Bool}{i:Nat}{g:M D}(o:OpB X (Uy op) p)(ha:PE X a (Zi i))(hb:PE X b (tD X.K B G0 g))(hm:behindInMarks op b=false) :
  PE X (.Compare a [op] [b] pos) (tD X.K B G0 (U6 UC (Zl p i g))):=by
 obtain⟨r,h,j⟩:=o;exact Kt (M6 h ha hb hm) λσ H Q q=>Nn (λt H3 z=>z) j (tBo.val q)
end
end DL
namespace L2
open PySem PySem.Spec PyProof.Rows
def Itz(K:Frag)(a b:Us):It:=
 ⟨λi H=>∃xs x ys y,SqL K H a xs/\xs[i]?=some x/\SqL K H b ys/\ys[i]?=some y,
  λi H v H'=>∃p x y,H p=none/\v=.ref p/\(∀xs,SqL K H a xs->xs[i]?=some x)/\(∀ys,SqL K H b ys->ys[i]?=some y)/\H'=upd H p (.tup [x,y]),
  λi H=>∃xs ys,SqL K H a xs/\SqL K H b ys/\(xs.length<=i∨ys.length<=i)⟩
theorem Bd{P:Ur}{w:World}{K:Frag}{elts:List Uu}{x1}{tp:Pos}(a b z TI TO i1 i2:Us)(Dz:ZipApart z TI TO i1 i2 a b) :
  Turn P w K (.Tuple elts x1 tp) (Itz K a b) [z,TI,TO,i1,i2] z (λi h=>IsZip h z TI TO .none/\IsPair h TI (.ref i1) (.ref i2)/\(∃c d,IsPair h TO c d)/\h.IsListIter i1 a i/\h.IsListIter i2 b i) where
 mem:=by simp
 obj:=λi h st c hc=>by
  obtain⟨h1,h2,⟨c0,d0,h3⟩,⟨o4,h4,_,d4⟩,⟨o5,h5,_,d5⟩⟩:=st;have hc':c=z∨c=TI∨c=TO∨c=i1∨c=i2:=by simpa using hc
  rcases hc' with rfl|rfl|rfl|rfl|rfl
  ·exact⟨_,h1,λv q=>by have q':Data.fields _=Data.cell v:=q;cases q'⟩
  ·exact⟨_,h2,λv q=>by have q':Data.seq _ _=Data.cell v:=q;cases q'⟩
  ·exact⟨_,h3,λv q=>by have q':Data.seq _ _=Data.cell v:=q;cases q'⟩
  ·exact⟨o4,h4,λv q=>by rw[d4]at q;cases q⟩
  ·exact⟨o5,h5,λv q=>by rw[d5]at q;cases q⟩
 keep:=λi h h' st k=>by obtain⟨h1,h2,⟨c0,d0,h3⟩,h4,h5⟩:=st;exact⟨k z (by simp) _ h1,k TI (by simp) _ h2,⟨c0,d0,k TO (by simp) _ h3⟩,h4.at λo q=>k i1 (by simp) o q,h5.at λo q=>k i2 (by simp) o q⟩
 item:=by
  intro X hP hw hK hc i pins s σ H E I hf st hg;subst hP hw hK;obtain⟨h1,h2,⟨c0,d0,h3⟩,h4,h5⟩:=st;obtain⟨xs,x,ys,y,hq,hx,hq',hy⟩:=hg;obtain⟨its,rv,p,hz⟩:=I.list hq;obtain⟨its',rv',p',hz'⟩:=I.list hq';obtain⟨u,hu,ru⟩:=rv.get hx;obtain⟨u',hu',ru'⟩:=rv'.get hy;refine wpAny_pyNext_zip_item Dz h1 h2 h3 h4 h5 p.isList p'.isList (x:=u) (y:=u') (by simpa using hu) (by simpa using hu') λh' g1 g3 g4 g5 gp gs gk=>?_
  refine⟨_,rfl,wpAny_letOwnedTupleGo_zip g1 λh2' gz sb=>?_⟩;have hzl:z<s.heap.objs.size:=Qi h1;have sb':Heap.SameBut z h' h2':=sb;have gp2:h2'.get? s.heap.objs.size=some {cls:=.type "tuple", data:=.seq #[u,u']}:=(sb'.2 _ (JR hzl)).trans gp
  have kk:∀c o,c∉[z,TI,TO,i1,i2]->s.heap.get? c=some o->h2'.get? c=some o:=λc o hc q=>by
   have n1:c≠z:=λe=>hc (by simp[e])
   have n3:c≠TO:=λe=>hc (by simp[e])
   have n4:c≠i1:=λe=>hc (by simp[e])
   have n5:c≠i2:=λe=>hc (by simp[e])
   exact(sb'.2 c n1).trans (gk c o n1 n3 n4 n5 q)
  have hn:H s.heap.objs.size=none:=I.hok.fresh (Qx _)
  have I2:Inv X pins σ (upd H s.heap.objs.size (.tup [x,y])) {s with heap:=h2'}:=
   I.turnedNew (t':=s.toks) (fp:=[z,TI,TO,i1,i2]) hf kk (Qx _) ⟨by show 2<=Uv;decide,[u,u'],.cons ru (.cons ru' .nil),⟨_,gp2,rfl,_,rfl⟩⟩
  have gTI:IsPair h' TI (.ref i1) (.ref i2):=gk TI _ Dz.TIz Dz.TITO Dz.TIi1 Dz.TIi2 h2
  refine⟨.ref s.heap.objs.size,_,I2,rfl,⟨_,x,y,hn,rfl,λws hw=>by rw[I.list_inj hw hq];exact hx,λws hw=>by rw[I.list_inj hw hq'];exact hy,rfl⟩,
   ⟨gz,(sb'.2 _ Dz.TIz).trans gTI,⟨u,u',(sb'.2 _ Dz.TOz).trans g3⟩,g4.at λo q=>(sb'.2 _ Dz.i1z).trans q,g5.at λo q=>(sb'.2 _ Dz.i2z).trans q⟩,λc hc=>?_⟩
  have hlt:c<s.heap.objs.size:=by
   have hc':c=z∨c=TI∨c=TO∨c=i1∨c=i2:=by simpa using hc
   rcases hc' with rfl|rfl|rfl|rfl|rfl
   ·exact hzl
   ·exact Qi h2
   ·exact Qi h3
   ·obtain⟨o,ho,_⟩:=h4;exact Qi ho
   ·obtain⟨o,ho,_⟩:=h5;exact Qi ho
  rw[Kz (QM hlt)];exact(hf c hc).1
 done:=by
  intro X hP hw hK hc i pins s σ H E I hf st hg;subst hP hw hK;obtain⟨h1,h2,⟨c0,d0,h3⟩,h4,h5⟩:=st;obtain⟨xs,ys,hq,hq',hx⟩:=hg;obtain⟨its,rv,p,hz⟩:=I.list hq;obtain⟨its',rv',p',hz'⟩:=I.list hq';have hl:=rv.length;have hl':=rv'.length;refine wpAny_pyNext_zip_end (I.ok.hd hc) Dz h1 h2 h3 h4 h5 p.isList p'.isList ?_ λh' eb=>⟨rfl,I.turnedL (t':=s.toks) hf λc o hb q=>eb c o (λe=>hb (by simp[e])) (λe=>hb (by simp[e])) (λe=>hb (by simp[e])) (λe=>hb (by simp[e])) q⟩
  rcases hx with hx|hx
  ·exact .inl (by simp;omega)
  ·exact .inr (by simp;omega)
 self:=λ_ _ _ _ _ st h=>wpAny_pyIter_zip st.1 h
section
variable{X:Cx}
def iZip(K:Frag)(ta:TA):TI:=λσ H R=>ta σ H λvs H1=>∃a b xs ys,vs=[.ref a,.ref b]/\SqL K H1 a xs/\SqL K H1 b ys/\R (Itz K a b) H1
theorem FH{a b:Uu}{ta:TA}{p pos:Pos}{elts:List Uu}{x1}{tp:Pos}(hg:Gl X "zip")(hm:X.mg "zip" = none)(ha:PA X [a,b] ta)
  (hs:Ux [a,b] X.env=[(false,eval a X.env),(false,eval b X.env)]:=by rfl) (hs2:Ux [b] X.env=[(false,eval b X.env)]:=by rfl):PI X (.Tuple elts x1 tp) (.Call (.Name "zip" p) [a,b] [] pos) (iZip X.K ta):=by
 intro pins s σ H R I h;refine Call_ (Vn I hg hm boot_zip (Jy (thn (ha pos pins s σ H _ I h) λus s1 ⟨vs,H1,I1,r1,q1⟩=>?_) (by rw[hs,hs2]) (by rw[hs2];rfl)));obtain⟨l1,l2,xs,ys,e,hq,hq',q⟩:=q1;subst e;cases r1 with
 |cons r rr=>
  cases rr with
  |cons r' rr=>
   cases rr;cases (show _=Value.ref l1 from r);cases (show _=Value.ref l2 from r');obtain⟨its,rv,pl,hz⟩:=I1.list hq;obtain⟨its',rv',pl',hz'⟩:=I1.list hq';have n1:l1<s1.heap.objs.size:=by obtain⟨_,e,_⟩:=id pl.isList;exact Qi e
   have n2:l2<s1.heap.objs.size:=by obtain⟨_,e,_⟩:=id pl'.isList;exact Qi e
   have ne:∀i j:Nat,i≠j->s1.heap.objs.size+i≠s1.heap.objs.size+j:=λi j h e=>h (Nat.add_left_cancel e);have m1:∀m:Nat,l1≠s1.heap.objs.size+m:=λm=>QM (QE n1 (Nat.le_add_right _ _));have m2:∀m:Nat,l2≠s1.heap.objs.size+m:=λm=>QM (QE n2 (Nat.le_add_right _ _));refine call_zip_2 pl.isList pl'.isList λh' g1 g2 g3 g4 g5 gs kk=>?_;have I2:Inv X pins σ H1 {s1 with heap:=h'}:=I1.kept (t':=s1.toks) kk;refine wpAny_pyIter_zip g1 ?_
   refine⟨s1.heap.objs.size+4,[s1.heap.objs.size+4,s1.heap.objs.size+2,s1.heap.objs.size+3,s1.heap.objs.size,s1.heap.objs.size+1],_,_,H1,rfl,I2,
    Bd l1 l2 (s1.heap.objs.size+4) (s1.heap.objs.size+2) (s1.heap.objs.size+3) s1.heap.objs.size (s1.heap.objs.size+1) ⟨ne 2 4 (by decide),ne 3 4 (by decide),ne 0 4 (by decide),ne 1 4 (by decide),ne 2 3 (by decide),ne 2 0 (by decide),ne 2 1 (by decide),ne 3 0 (by decide),ne 3 1 (by decide),ne 0 1 (by decide),m1 4,m1 3,m1 0,m1 1,m2 4,m2 3,m2 0,m2 1⟩,⟨g1,g2,⟨_,_,g3⟩,g4,g5⟩,λc hc=>?_,q⟩
   have hc':s1.heap.objs.size<=c:=by
    have hc':c=s1.heap.objs.size+4∨c=s1.heap.objs.size+2∨c=s1.heap.objs.size+3∨c=s1.heap.objs.size∨c=s1.heap.objs.size+1:=by simpa using hc
    rcases hc' with rfl|rfl|rfl|rfl|rfl<;>first|exact Nat.le_add_right _ _|exact Qx _
   exact I1.fpOk hc' (I1.hok.fresh hc')
end
end L2
namespace DL
open PySem PySem.Spec L2
open PyProof.Rows hiding St
section
variable{X:Cx}{B G0:Hp}{e a b c tg:Uu}{pos:Pos}{es rest:List Uu}
def Yx(xs ys:List D):List D:=(xs.zip ys).map λp=>.tuple [p.1,p.2]
theorem qm{K:Frag}{G1:Hp}{a b:Us}{vs ws:List V}{ds es:List D}(h:SqL K G1 a vs)(h':SqL K G1 b ws)(r:Reps K G1 vs ds)(r':Reps K G1 ws es):XF K (Itz K a b) (Yx ds es) G1 where
 go:=λi G H s1 s2 hi=>by
  unfold Yx at hi;rw[Qb,JK]at hi;have hi1:i<vs.length:=by rw[r.length];omega
  have hi2:i<ws.length:=by rw[r'.length];omega
  exact⟨vs,vs[i],ws,ws[i],(s1.trans s2).seq h,Qd hi1,(s1.trans s2).seq h',Qd hi2⟩
 stop:=λi G H s1 s2 hi=>by unfold Yx at hi;rw[Qb,JK]at hi;refine⟨vs,ws,(s1.trans s2).seq h,(s1.trans s2).seq h',?_⟩;rw[r.length,r'.length];omega
 yld:=λi G H x H' d s1 s2 e y=>by
  obtain⟨p,u,v,hp,rfl,y1,y2,rfl⟩:=y;have z1:=y1 vs ((s1.trans s2).seq h);have z2:=y2 ws ((s1.trans s2).seq h');unfold Yx at e;rw[Qe]at e;cases q:(ds.zip es)[i]? with
  |none=>rw[q]at e;cases e
  |some pr=>rw[q]at e;cases e;rw[JQ]at q;obtain⟨u',e1,r1⟩:=r.get q.1;obtain⟨v',e2,r2⟩:=r'.get q.2;rw[z1]at e1;rw[z2]at e2;cases e1;cases e2;exact⟨upd G p (.tup [u,v]),Ext.new s2 hp,.tup (SqT.of Zf) (.cons ((r1.mono s1).mono (Zx (s2.free hp))) (.cons ((r2.mono s1).mono (Zx (s2.free hp))) .nil))⟩
def XX:List D->Option (List D)
 |[.list xs,.list ys]=>some (Yx xs ys)
 |_=>none
theorem Bc{x l:List D}(h:XX x=some l):∃xs ys,x=[.list xs,.list ys]/\l=Yx xs ys:=by
 unfold XX at h;split at h
 ·cases h;exact⟨_,_,rfl,rfl⟩
 ·cases h
def X2(f:M (List D)):M (List D):=Kc f λx=>Ke (XX x)
theorem FG{f:M (List D)}{p2:Pos}{elts:List Uu}{x1}{tp:Pos}(hg:Gl X "zip")(hm:X.mg "zip" = none)(ha:PA X [a,b] (tDs X.K B G0 f))(hs:Ux [a,b] X.env=[(false,eval a X.env),(false,eval b X.env)]:=by rfl)(hs2:Ux [b] X.env=[(false,eval b X.env)]:=by rfl) :
  PI X (.Tuple elts x1 tp) (.Call (.Name "zip" p2) [a,b] [] pos) (iD X.K B G0 (X2 f)):=Xo (FH hg hm ha hs hs2) λσ H R q=>tM.toI (R0:=Reps X.K) q λv H' G' Z' x k r a=>by
 cases z:XX x with
 |none=>rw[z]at a;exact a.elim
 |some l=>
  rw[z]at a;obtain⟨xs,ys,rfl,rfl⟩:=Bc z;cases r with
  |cons r1 rr=>
   cases rr with
   |cons r2 rr=>cases rr;obtain⟨l1,vs,rfl,h1,q1⟩:=r1.lst_inv;obtain⟨l2,ws,rfl,h2,q2⟩:=r2.lst_inv;exact⟨l1,l2,vs,ws,rfl,k.gh.seq h1,k.gh.seq h2,a _ G' H' k (.refl _) (qm h1 h2 q1 q2)⟩
end
section
variable{X:Cx}{B G0:Hp}{e o a b c tg:Uu}{pos p2 p3:Pos}{es rest:List Uu}{te to ti:TE}
def oIn:D->D->Option Bool
 |.str i,.str j=>some (inS i j)
 |x,.list xs=>if x.canLay0=true/\UF xs=true/\x.depth<=60 then some (xs.any λy=>UH y x)else none
 |x,.tuple xs=>if x.canLay0=true/\UF xs=true/\x.depth<=60 then some (xs.any λy=>UH y x)else none
 |_,_=>none
def YZ(x y:D):Option Bool:=(oIn x y).map λt=>!t
def Xp(x y:D):Option Bool:=match y with
 |.list xs=>if x.canLay0=true/\UF xs=true/\x.depth<=60 then some (xs.any λy=>UH y x)else none
 |.tuple xs=>if x.canLay0=true/\UF xs=true/\x.depth<=60 then some (xs.any λy=>UH y x)else none
 |_=>none
theorem Fs(hu:X.A.units+64<cLine):OpB X (Uy .In) Xp:=by
 refine⟨λv u H Q=>∃G x y d,Same G H/\Rep X.K G v x/\Rep X.K G u y/\Xp x y=some d/\Q (.bl d) H,?_,λv u G H x y d Q s rx ry e k=>⟨G,x,y,d,s,rx,ry,e,k⟩⟩;intro pins s σ H x y v u Q I rx ry ⟨G,dx,dy,d,sg,px,py,e,q⟩;unfold Xp at e;split at e
 ·split at e
  ·rename_i c;cases e;obtain⟨as,ra⟩:=YY I sg px rx c.1;obtain⟨bs,rb⟩:=YY I sg py ry (show UF _=true from c.2.1);exact SeqAt.in_list_reads rb ra c.2.1 c.1 (by have:=c.2.2;omega) ⟨.bl _,H,I,rfl,q⟩
  ·cases e
 ·split at e
  ·rename_i c;cases e;obtain⟨as,ra⟩:=YY I sg px rx c.1;obtain⟨bs,rb⟩:=YY I sg py ry (show UF _=true from c.2.1);exact SeqAt.in_tuple_reads rb ra c.2.1 c.1 (by have:=c.2.2;omega) ⟨.bl _,H,I,rfl,q⟩
  ·cases e
 ·cases e
theorem FF(hu:X.A.units+64<cLine):OpB X (Uy .NotIn) (λx y=>(Xp x y).map λt=>!t):=by
 refine⟨λv u H Q=>∃G x y d,Same G H/\Rep X.K G v x/\Rep X.K G u y/\(Xp x y).map (λt=>!t)=some d/\Q (.bl d) H,?_,λv u G H x y d Q s rx ry e k=>⟨G,x,y,d,s,rx,ry,e,k⟩⟩;intro pins s σ H x y v u Q I rx ry ⟨G,dx,dy,d,sg,px,py,e,q⟩;unfold Xp at e;split at e
 ·split at e
  ·rename_i c;cases e;obtain⟨as,ra⟩:=YY I sg px rx c.1;obtain⟨bs,rb⟩:=YY I sg py ry (show UF _=true from c.2.1);exact SeqAt.notIn_list_reads rb ra c.2.1 c.1 (by have:=c.2.2;omega) ⟨.bl _,H,I,rfl,q⟩
  ·cases e
 ·split at e
  ·rename_i c;cases e;obtain⟨as,ra⟩:=YY I sg px rx c.1;obtain⟨bs,rb⟩:=YY I sg py ry (show UF _=true from c.2.1);exact SeqAt.notIn_tuple_reads rb ra c.2.1 c.1 (by have:=c.2.2;omega) ⟨.bl _,H,I,rfl,q⟩
  ·cases e
 ·cases e
theorem B_in(hu:X.A.units+64<cLine):OpB X (Uy .In) oIn:=(Fu.or (Fs hu)).congr λx y=>by cases x<;>cases y<;>rfl
theorem Fq(hu:X.A.units+64<cLine):OpB X (Uy .NotIn) YZ:=(FL.or (FF hu)).congr λx y=>by cases x<;>cases y<;>rfl
theorem ql{tl th ts:TO}{lo hi:Option Uu}{st:Uu}(he:PE X e te)(hl:PO X lo tl)(hu:PO X hi th)(hst:PO X (some st) ts):PE X (.Subscript e (.Slice lo hi (some st) p2) pos)
  (λσ H Q=>te σ H λx H1=>tl σ H1 λl H2=>th σ H2 λu H3=>ts σ H3 λt H4=>∃a xs,x=.ref a/\SqL X.K H4 a xs/\l=none/\u=none/\t=some (-1)/\∀p,H4 p=none->Q (.ref p) (upd H4 p (.lst xs.reverse))):=by
 intro pins s σ H Q I h;refine Subscript_ (thn (he pins s σ H _ I h) λv s1 ⟨x,H1,I1,r1,q1⟩=>?_);refine wpAny_Slice (thn (hl pins s1 σ H1 _ I1 q1) λvl s2 ⟨l,H2,I2,pl,q2⟩=>thn (hu pins s2 σ H2 _ I2 q2) λvu s3 ⟨u,H3,I3,pu,q3⟩=>thn (hst pins s3 σ H3 _ I3 q3) λvt s4 ⟨t,H4,I4,pt,q4⟩=>?_);obtain⟨a,xs,rfl,hx,rfl,rfl,rfl,q⟩:=q4;cases r1;have I5:Inv X pins σ H4 {s4 with heap:=s4.heap.push {cls:=.type "slice", data:=.fields #[vl,vu,vt]}}:=I4.kept (t':=s4.toks) λb ob q=>Qm _ q
 obtain⟨its,r,ht,hz⟩:=I5.list hx;have hlen:=r.length;have hg:Uw (model X.prog X.w) X.A (getItem (.ref a) (.ref s4.heap.objs.size)) (EP X pins σ Q) X.xe {s4 with heap:=s4.heap.push {cls:=.type "slice", data:=.fields #[vl,vu,vt]}}:=by refine wpAny_getItem_list_slice ht.isList (Heap.IsSliceOf.new ..) pl pu pt (by simp) ?_ (by rw[List.size_toArray]<;>omega);rw[PySem.W.krv_pick];refine⟨.ref _,_,I5.laid (t':=s4.toks) (o:=.lst xs.reverse) (λb ob q=>Qm _ q) (Qx _) ?_,rfl,q _ (I5.hok.fresh (Qx _))⟩;exact⟨by rw[Jb];exact hz,its.reverse,0,r.reverse,QD _ rfl⟩
 show Uw (model X.prog X.w) X.A (subscriptTail e (.Slice lo hi (some st) p2) (.ref a) (.ref s4.heap.objs.size)) (EP X pins σ Q) X.xe {s4 with heap:=s4.heap.push {cls:=.type "slice", data:=.fields #[vl,vu,vt]}};exact tail_any (ops:=[.ref a,.ref s4.heap.objs.size]) ht.isList.typeIs slot_list_getitem.lookup hg (by with_unfolding_all rfl)
def Wz:D->Option Int->Option Int->Option Int->Option D
 |.list xs,none,none,some i=>if i = -1 then some (.list xs.reverse)else none
 |_,_,_,_=>none
def X3(f:M D)(lo hi st:M (Option Int)):M D:=Kc f λx=>Kc lo λl=>Kc hi λh=>Kc st λt=>Ke (Wz x l h t)
theorem Cc{lo hi:Option Uu}{st:Uu}{f:M D}{l h t:M (Option Int)}(he:PE X e (tD X.K B G0 f))(hl:PO X lo (tOi X.K B G0 l))(hu:PO X hi (tOi X.K B G0 h))(hst:PO X (some st) (tOi X.K B G0 t)) :
  PE X (.Subscript e (.Slice lo hi (some st) p2) pos) (tD X.K B G0 (X3 f l h t)):=
 Kt (ql he hl hu hst) λσ H Q q=>by
  refine tM.one (R:=Rep X.K) q λv H2 G Z x k r a=>?_;refine tM.nx (R:=λ_ b c=>b=c) k a λl' H3 G3 Z3 xl k3 s3 r3 a3=>?_;refine tM.nx (R:=λ_ b c=>b=c) k3 a3 λh' H4 G4 Z4 xh k4 s4 r4 a4=>?_;refine tM.nx (R:=λ_ b c=>b=c) k4 a4 λt' H5 G5 Z5 xt k5 s5 r5 a5=>?_;have r3:l'=xl:=r3;have r4:h'=xh:=r4;have r5:t'=xt:=r5;subst r3 r4 r5
  cases x with
  |list xs=>
   cases l' with
   |some _=>exact a5.elim
   |none=>
   cases h' with
   |some _=>exact a5.elim
   |none=>
   cases t' with
   |none=>exact a5.elim
   |some i=>
   obtain⟨ad,vs,rfl,h1,r1⟩:=(((r.mono s3).mono s4).mono s5).lst_inv;by_cases hi:i = -1
   ·subst hi;exact⟨ad,vs,rfl,k5.gh.seq h1,rfl,rfl,rfl,λp hp=>aft.done a5 k5 (Ext.new k5.gh hp) (.lst (SqL.of Zf) (r1.reverse.mono (Zx (k5.gh.free hp))))⟩
   ·unfold Ke Wz at a5;dsimp only at a5;rw[Qs hi]at a5;exact a5.elim
  |_=>unfold Ke Wz at a5;exact a5.elim
def Ve:List D->Option (List D)
 |[.list xs]=>some xs
 |[.tuple xs]=>some xs
 |_=>none
theorem qk{x l:List D}(h:Ve x=some l):x=[.list l]∨x=[.tuple l]:=by
 unfold Ve at h;split at h
 ·cases h;exact .inl rfl
 ·cases h;exact .inr rfl
 ·cases h
theorem qW:bootBuiltins "list" = some (.type "list"):=by decide +kernel
def VJ(i:Nat):M (List D):=λZ=>match Z[i]? with
 |some (some (.pub d))=>Ke (Ve [d]) Z
 |some (some (.own ds))=>.ok ds Z
 |_=>.bad
theorem qi{i:Nat}(hg:Gl X "list")(hm:X.mg "list" = none)(ho:PE X a (Zi i))(he:Ux [a] X.env=(false,eval a X.env)::Ux [] X.env:=by rfl) :
  PE X (.Call (.Name "list" p2) [a] [] pos) (tL X.K B G0 (VJ i)):=
 Kt (Nh kE hg hm qW (VS ho Sr he) (by decide) (by decide) he rfl) λσ H Q ⟨G,Z,k,q⟩=>by
  unfold VJ at q;cases z:Z[i]? with
  |none=>rw[z]at q;exact q.elim
  |some oo=>
   cases oo with
   |none=>rw[z]at q;exact q.elim
   |some sl=>
    cases sl with
    |deep _ _=>rw[z]at q;exact q.elim
    |own ds=>rw[z]at q;dsimp only at q;obtain⟨ad,vs,h1,h2,h3,h4,h5⟩:=k.own i ds z;exact⟨.ref ad,h1,ad,vs,rfl,.inl (SqL.of h4),λl hp=>q l vs G _ (k.ext (Ext.hid k.gh hp)) (.refl _) (NewL.of k hp h5)⟩
    |pub d=>
     rw[z]at q;dsimp only[Ke]at q;obtain⟨v,h1,h2⟩:=k.pub i d z;cases z2:Ve [d]with
     |none=>rw[z2]at q;exact q.elim
     |some l=>
      rw[z2]at q;dsimp only at q;rcases qk z2 with e|e
      ·cases e;obtain⟨p,ws,rfl,g1,r1⟩:=h2.lst_inv;exact⟨_,h1,p,ws,rfl,.inl (k.gh.seq g1),λad hp=>q ad ws G _ (k.ext (Ext.hid k.gh hp)) (.refl _) (NewL.of k hp r1)⟩
      ·cases e;obtain⟨p,ws,rfl,g1,r1⟩:=h2.tup_inv;exact⟨_,h1,p,ws,rfl,.inr (Xb k.gh g1),λad hp=>q ad ws G _ (k.ext (Ext.hid k.gh hp)) (.refl _) (NewL.of k hp r1)⟩
def SS:List D->Option D
 |[.int i]=>some (.int i)
 |[.bool b]=>some (.int (if b then 1 else 0))
 |_=>none
theorem FE:YU X (.type "int") SS:=by
 refine⟨_,ju,λvs G H ds d Q s r e k=>?_⟩;unfold SS at e;split at e
 ·cases e;obtain⟨v,rfl,q⟩:=r.one_inv;rw[q.int_inv];exact .inl ⟨_,rfl,k _ G H (.refl s) (.int _)⟩
 ·cases e;obtain⟨v,rfl,q⟩:=r.one_inv;rw[q.bl_inv];exact .inr ⟨_,rfl,k _ G H (.refl s) (.int _)⟩
 ·cases e
theorem Fp{x:Str}{zs:List Str}(hg:Gl X x)(hm:∃ad o its n,X.mg x=some (.ref ad)/\X.K.lookup ad=some o/\o.cls=.type "tuple" /\ o.data=.seq its n/\its.size<=Uv/\Vals (zs.map V.str) its.toList)(hd:(x==("__debug__" : Str))=false:=by decide) :
  PE X (.Name x pos) (tD X.K B G0 (UU (.tuple (zs.map UD)))):=by
 obtain⟨ad,o,its,n,hm,h1,h2,h3,h4,h5⟩:=hm;refine Kt (M4 (v:=.ref ad) hg hm rfl hd) λσ H Q ⟨G,Z,k,a⟩=>aft.now a k (.tup (.inr ⟨o,its,n,h1,h2,h3,h4,h5⟩) ?_)
 have:∀zs:List Str,Reps X.K G (zs.map V.str) (zs.map UD):=λzs=>by
  induction zs with
  |nil=>exact .nil
  |cons z r ih=>exact .cons (.str _) ih
 exact this zs
end
section
variable{X:Cx}{B G0:Hp}{e o a b c tg:Uu}{pos p2 p3 p4:Pos}{es rest:List Uu}{te to ti:TE}
theorem Vv:∀{ns:List Int}{us:List Up},Vals (ns.map V.int) us->PyProof.Rows.IntsAre us ns
 |[],_,.nil=>.nil
 |n::ns,_,.cons h t=>by obtain⟨tk,rfl⟩:=h;exact .cons n tk (Vv t)
def VI(ns:List Int):Nat:=(PyProof.Rows.firstMet (λi=>ns.getD i 0) ns.length).length
theorem qh(hc:X.calm=true):YS X (.type "set") (λxs H Q=>∃l,∃ns:List Int,xs=[.ref l]/\SqL X.K H l (ns.map V.int)/\ns.length+1<4096/\∀S p,H p=none->Q (.ref p) (upd H p (.set S (VI ns)))):=by
 intro pins s σ H xs us Q I rx h;obtain⟨l,ns,rfl,hq,hb,q⟩:=h;obtain⟨u,rfl,ru⟩:=rx.one;cases ru;obtain⟨its,rv,p,hz⟩:=I.list hq;have hi:=Vv rv;have hn:its.toArray.size=ns.length:=by have:=rv.length;rw[List.length_map]at this;simp;omega
 refine call_set_list (I.ok.hd hc) p.isList (ns:=ns) (by simpa using hi) (by rw[hn];exact hb) λh' tk hS hk=>?_
 rw[hn]at hS;refine⟨.ref s.heap.objs.size,_,I.laid (t':=tk) (λb o e=>hk b o (Qi e) e) (Qx _) (show ZE X.prog X.w _ h' _ (.set _ (VI ns))from hS),rfl,q _ _ (I.hok.fresh (Qx _))⟩
theorem qg:YS X (.builtin "len") (λxs H Q=>∃p S n,xs=[.ref p]/\H p=some (.set S n)/\Q (.int n) H):=by
 intro pins s σ H xs us Q I rx h;obtain⟨p,S,n,rfl,hp,q⟩:=h;obtain⟨u,rfl,ru⟩:=rx.one;cases ru;obtain⟨o,es,ep,t,h1,h2,h3,h4,h5,h6,h7,h8⟩:=(show s.heap.SetOf (intKind X.prog X.w) p S n from I.hok p _ hp)
 have hsb:scanBound=4096:=rfl;refine call_len_set h1 h2 h3 h7 (by omega) ?_;rw[h8];exact⟨.int n,H,I.tok _,⟨_,rfl⟩,q⟩
def Yh:List D->Option (List Int)
 |[]=>some []
 |.int i::r=>(Yh r).map (i :: ·)
 |_=>none
theorem VX{K:Frag}{G:Hp}:∀{vs:List V}{ds:List D}{ns:List Int},Reps K G vs ds->Yh ds=some ns->vs=ns.map V.int
 |_,_,ns,.nil,e=>by cases e;rfl
 |_,_,ns,.cons (d:=d) r t,e=>by
  cases d with
  |int b=>
   unfold Yh at e;cases z:Yh _ with
   |none=>rw[z]at e;cases e
   |some cs=>rw[z]at e;cases e;rw[r.int_inv,VX t z];rfl
  |_=>cases e
theorem V0(ns:List Int):Yh (ns.map int)=some ns:=by
 induction ns with
 |nil=>rfl
 |cons b r ih=>rw[Qq,Yh,ih];rfl
def Wp:List D->Option D
 |[.list ds]=>(match Yh ds with
  |some ns=>if ns.length+1<4096 then some (.int (VI ns))else none
  |none=>none)
 |_=>none
theorem jP{xs:List D}{d:D}(h:Wp xs=some d):∃ds ns,xs=[.list ds]/\Yh ds=some ns/\ns.length+1<4096/\d=.int (VI ns):=by
 unfold Wp at h;split at h
 ·rename_i ds;cases z:Yh ds with
  |none=>rw[z]at h;cases h
  |some ns=>
   rw[z]at h;dsimp only at h;split at h
   ·rename_i c;cases h;exact⟨ds,ns,rfl,z,c,rfl⟩
   ·cases h
 ·cases h
theorem qf:bootBuiltins "set" = some (.type "set"):=by decide +kernel
theorem qV{f:M (List D)}(hc:X.calm=true)(hg:Gl X "len")(hm:X.mg "len" = none)(hg2:Gl X "set")(hm2:X.mg "set" = none)(ha:PA X [a] (tDs X.K B G0 f))(he:Ux [a] X.env=(false,eval a X.env)::Ux [] X.env:=by rfl)
  (he2:Ux [.Call (.Name "set" p2) [a] [] p3] X.env=(false,eval (.Call (.Name "set" p2) [a] [] p3) X.env)::Ux [] X.env:=by rfl) :
  PE X (.Call (.Name "len" p4) [.Call (.Name "set" p2) [a] [] p3] [] pos) (tD X.K B G0 (Zm Wp f)):=
 Kt (Pp qg hg hm boot_len (VS (Nh (qh hc) hg2 hm2 qf ha (by decide) (by decide) he rfl) Sr he2) (by decide) (by decide) he2 rfl) λσ H Q q=>tM.one (R:=Reps X.K) q λvs H2 G Z x k r a=>by obtain⟨d,e,a⟩:=a.opt;obtain⟨ds,ns,rfl,z,c,rfl⟩:=jP e;obtain⟨v,rfl,q1⟩:=r.one_inv;obtain⟨l,ws,rfl,h1,r1⟩:=q1.lst_inv;have:=VX r1 z;subst this;refine⟨l,ns,rfl,k.gh.seq h1,c,λS p hp=>⟨p,S,VI ns,rfl,Zf,?_⟩⟩;exact aft.done a k (Ext.hid k.gh hp) (.int _)
end
end DL
namespace L2
open PySem PySem.Spec PyProof.Rows
end L2
namespace DL
open PySem PySem.Spec L2
open PyProof.Rows hiding St
end DL
namespace L2
open PySem PySem.Spec PyProof.Rows
section
variable{prog:Ur}{w:World}{A:Around}{E:Up->Uq->Prop}{s:Uq}{M:Model}{env:Env}
theorem Cb{pos:Pos}{T:String}{args:List (Bool×Sem Up)}{kws:List (Option Str×Sem Up)}{Q:Up->Uq->Prop}(hp:args.any (·.1)=false)(hk:kws.any (·.1.isNone)=false)
  (h:Uw M A (evalArgs (.type T) true args kws) (λa s1=>Uw M A (call (.type T) a.pos a.kw) Q E s1) E s):Uw M A (callWith pos (.type T) [] args kws) Q E s:=by
 unfold callWith;refine Qf (wpAny_holding (QG h (λa s1 h1=>Qf (Jq ?_)) λ_ _ z=>z));simp only[hp,hk,Bool.false_or];refine Qf (Qn ?_);exact Qf (QG h1 (λr s2 hr=>Qf (wpAny_holding (wpAny_point (Qn hr)))) λ_ _ z=>z)
theorem Bb(l:Us)(t:Tok)(items:Array Up)(n:Nat)(dct:Option Us)(sl:Array (Option Up)) :
  Meets (Builtin.«enumerate.__new__» ⟨[.type "enumerate", .ref l],[("start", .int 1 t)]⟩) (λ_ R s=>s.heap.get? l=some ⟨.type "list", dct,.seq items n,sl⟩ /\
   R (.ok (.ret (.ref (s.heap.push {cls:=.type "list_iterator", data:=.fields #[.ref l,.int 0 0]}).objs.size))) {s with heap:=(s.heap.push {cls:=.type "list_iterator", data:=.fields #[.ref l,.int 0 0]}).push {cls:=.type "enumerate", data:=.fields #[.none,.bool false,.ref s.heap.objs.size,rawInt 1,.none,.none]}}):=
 .of_wp λprog w A R s h=>by
  obtain⟨hp,g,d,tk,os⟩:=s;obtain⟨hl,h⟩:=h;have hsub:=sub_enumerate;have hL:Heap.IsList (Shared.heap ⟨hp,g,d,tk,os⟩) l items:=⟨_,hl,rfl,n,rfl⟩
  wp_walk using AutoSeq1.wpAny_loadPart' hl
  refine wpAny_stack_any λst=>(Qn ?_);split
  ·rename_i c _ _ _ _ _;cases (c==Value.type "enumerate")<;>(wp_walk using(AutoSeq1.wpAny_loadPart' hl),(JI hL))<;>exact⟨_,rfl,h⟩
  ·(wp_walk using(AutoSeq1.wpAny_loadPart' hl),(JI hL));exact⟨_,rfl,h⟩
theorem kt{T newId initId:String}{Bn Bi:Builtin}{args:List Up}{kw:List (Str×Up)}{S:PySem.Spec}{Q Q1:Up->Uq->Prop}(ft:TypeCalled T newId initId)
  (hct:checkTypeCall T ⟨args,kw⟩=pure ()) (hcn:checkBuiltinCall newId ⟨.type T::args,kw⟩=pure ()) (eN:entryFor table newId=some Bn) (eI:entryFor table initId=some Bi)
  (g:Meets (Bn ⟨.type T::args,kw⟩) S) (h:S A.in1 (wants Q1 E) s)
  (hnext:∀obj s1,Q1 obj s1->s1.TypeIs obj T/\argsOk initId ⟨obj::args,kw⟩/\∃Si,Meets (Bi ⟨obj::args,kw⟩) Si/\Si A.in1 (wants (λr s2=>r=.none/\Q obj s2) E) s1) :
  Uw (model prog w) A (call (.type T) args kw) Q E s:=by
 obtain⟨c,tl,hmro⟩:=ft.mro;have hmade:=ft.made;have hsub:=ft.sub;refine wpAny_call (codeAny_of_tree ?_);show Uw _ _ (callAny (.type T) _) _ _ _;refine Qn ⟨Code.quiet_builtin _ (by decide +kernel),(JF F.entry_type_call ?_)⟩;rw[Around.under_plain (weight_type_call_type T args kw) (units_type_call_type T args kw)];have h1:=ft.notType;have h2:=ft.canCreate
 repeat' (any_goals (first|wp_step|assumption))
 refine codeAny_mono (codeAny_call_builtin ft.plain eN (wpAny_of_eq hcn (g prog w A.in1 _ s h))) λr s1 hr=>?_
 match r,hr with
 |.error e,hr=>exact hr
 |.ok (.ret obj),hr=>
  obtain⟨hT,hok,Si,gi,hsi⟩:=hnext _ _ hr;have hli:=ft.init.lookup;have hbi:=ft.init.bind obj
  repeat' (any_goals (first|wp_step|assumption))
  refine codeAny_mono (codeAny_call_builtin ft.init.plain eI (ft.init.check _ _ _ _ _ _ _ _ hT hok (gi prog w A.in1 _ s1 hsi))) λr2 s2 hr2=>?_
  match r2,hr2 with
  |.error e,hr2=>exact hr2
  |.ok (.ret r),hr2=>
   obtain⟨rfl,hq⟩:=hr2
   repeat' (any_goals (first|wp_step|assumption))
  |.ok .next,hr2=>exact hr2.elim
  |.ok .brk,hr2=>exact hr2.elim
  |.ok .cont,hr2=>exact hr2.elim
 |.ok .next,hr=>exact hr.elim
 |.ok .brk,hr=>exact hr.elim
 |.ok .cont,hr=>exact hr.elim
theorem jO{T newId:String}{self:Up}{rest:List Up}{kw:List (Str×Up)}(hl:typeLookup (.type T) "__init__" = pure (some (.builtin "object.__init__")))
  (hm:Bind.madeBy (.type T)=pure (some newId)) (hne:(some newId != some "object.__new__")=true) :
  Meets (Builtin.«object.__init__» ⟨self::rest,kw⟩) (λ_ R s=>s.TypeIs self T/\R (.ok (.ret .none)) s):=by
 refine .of_wp λprog w A R s hs=>?_
 obtain⟨hT,hq⟩:=hs;cases rest with
 |nil=>
  cases kw with
  |nil=>exact Qn ⟨_,rfl,hq⟩
  |cons k kw=>(repeat' (any_goals (first|wp_step|assumption)));exact⟨_,rfl,hq⟩
 |cons a rest=>(repeat' (any_goals (first|wp_step|assumption)));exact⟨_,rfl,hq⟩
theorem jN(a:Up)(t:Tok):checkTypeCall "enumerate" ⟨[a],[("start", .int 1 t)]⟩=pure ():=by kernel_rfl
theorem qU(a:Up)(t:Tok):checkBuiltinCall "enumerate.__new__" ⟨[.type "enumerate", a],[("start", .int 1 t)]⟩=pure ():=by kernel_rfl
theorem jM(o a:Up)(t:Tok):argsOk "object.__init__" ⟨[o,a],[("start", .int 1 t)]⟩:=by unfold argsOk;kernel_rfl
theorem qT{l:Us}{items:Array Up}{t:Tok}{Q:Up->Uq->Prop}(hL:s.heap.IsList l items)
  (h:∀h',IsEnum h' (s.heap.objs.size+1) s.heap.objs.size 1 .none->h'.IsListIter s.heap.objs.size l 0->(∀b o,s.heap.get? b=some o->h'.get? b=some o)->Q (.ref (s.heap.objs.size+1)) {s with heap:=h'}) :
  Uw (model prog w) A (call (.type "enumerate") [.ref l] [("start", .int 1 t)]) Q E s:=by
 obtain⟨⟨c,dct,dt,sl⟩,hl,hc,n,hd⟩:=hL;replace hc:c=.type "list" :=hc;replace hd:dt=.seq items n:=hd;subst hc hd;have hz:(s.heap.push {cls:=.type "list_iterator", data:=.fields #[.ref l,.int 0 0]}).objs.size=s.heap.objs.size+1:=Heap.size_push ..;have he:IsEnum ((s.heap.push {cls:=.type "list_iterator", data:=.fields #[.ref l,.int 0 0]}).push {cls:=.type "enumerate", data:=.fields #[.none,.bool false,.ref s.heap.objs.size,rawInt 1,.none,.none]}) (s.heap.objs.size+1) s.heap.objs.size 1 .none:=by rw[←hz];exact QD _ rfl
 refine kt F.called_enumerate (jN _ t) (qU _ t) F.entry_enumerate_new F.entry_object_init (Bb l t items n dct sl) (Q1:=λobj s1=>s1.TypeIs obj "enumerate" /\ Q obj s1) ⟨hl,?_⟩ λobj s1 hq=>
  ⟨hq.1,jM obj _ t,_,jO F.called_enumerate.init.lookup F.called_enumerate.made (by decide),hq.1,rfl,hq.2⟩
 show _/\_;rw[hz];exact⟨⟨_,he,rfl⟩,h _ he ⟨_,Qm _ (QD _ rfl),rfl,rfl⟩ λb o x=>Qm _ (Qm _ x)⟩
end
section
variable{prog:Ur}{w:World}{A:Around}{E:Up->Uq->Prop}{s:Uq}
theorem qe{en it l:Us}{i:Nat}{j:Int}{items:Array Up}{x old:Up}{Q:Option Up->Uq->Prop}(st:IsEnum s.heap en it j old)(li:s.heap.IsListIter it l i)(ls:s.heap.IsList l items)
  (at_:items[i]?=some x) (ne:en≠it)
  (k:∀h',IsEnumOut h' en it (j+1) x s.heap.objs.size->h'.IsListIter it l (i+1)->h'.get? s.heap.objs.size=some {cls:=.type "tuple", data:=.seq #[.int j s.toks,x]}->(∀b o,b≠en->b≠it->s.heap.get? b=some o->h'.get? b=some o) ->
   Q (some (.ref s.heap.objs.size)) {s with heap:=h',toks:=s.toks+1}):Uw (model prog w) A (pyNext (.ref en)) Q E s:=by
 have ty:s.TypeIs (.ref en) "enumerate" :=⟨_,st,rfl⟩
 have lt:en<s.heap.objs.size:=Qi st;unfold pyNext;refine Qf (wpAny_attempt (wpAny_callSpecial?_slot (name:=UJ "__next__") ty F.slot_enumerate_next (wpAny_call_entry F.slot_enumerate_next ty F.entry_enumerate_next ?_ (F.args_enumerate_next_1 _))));show Uw _ _ (field (.ref en) 2 >>= _) _ _ s;refine Qf (wpAny_field st rfl (x:=.ref it) rfl ?_);refine Qf (wpAny_nextOf_list_item li ls at_ λm1 li1 c1=>?_);have c1:Heap.SameBut it s.heap m1:=c1;have st1:IsEnum m1 en it j old:=(c1.2 en ne).trans st;show Uw _ _ (field (.ref en) 3 >>= _) _ _ {s with heap:=m1};refine Qf (wpAny_field st1 rfl (x:=rawInt j) rfl ?_);show Uw _ _ (field (.ref en) 4 >>= _) _ _ {s with heap:=m1};refine Qf (wpAny_field st1 rfl (x:=.none) rfl ?_);show Uw _ _ (mkInt j >>= _) _ _ {s with heap:=m1};refine Qf (wpAny_mkInt ?_);show Uw _ _ (setField (.ref en) 3 (rawInt (j+1)) >>= _) _ _ {s with heap:=m1,toks:=s.toks+1};refine wpAny_bind (wpAny_setField_rec st1 (by simp) λm2 st2 c2=>?_);have c2:Heap.SameBut en m1 m2:=c2;have st2:IsEnum m2 en it (j+1) old:=st2;show Uw _ _ (setField (.ref en) 4 .none >>= _) _ _ {s with heap:=m2,toks:=s.toks+1};refine wpAny_bind (wpAny_setField_rec st2 (by simp) λm3 st3 c3=>?_);have c3:Heap.SameBut en m2 m3:=c3;have st3:IsEnum m3 en it (j+1) old:=st3;show Uw _ _ (newTuple [.int j s.toks,x] >>= _) _ _ {s with heap:=m3,toks:=s.toks+1};refine Qf (wpAny_newTuple ?_);have z3:m3.objs.size=s.heap.objs.size:=c3.1.trans (c2.1.trans c1.1);have st4:IsEnum (m3.push {cls:=.type "tuple", data:=.seq #[.int j s.toks,x]}) en it (j+1) old:=Qm _ (show IsEnum m3 en it (j+1) old from st3);have tp4:(m3.push {cls:=.type "tuple", data:=.seq #[.int j s.toks,x]}).get? s.heap.objs.size=some {cls:=.type "tuple", data:=.seq #[.int j s.toks,x]}:=by rw[←z3];exact QD _ rfl
 have kp4:∀b o,b≠en->b≠it->s.heap.get? b=some o->(m3.push {cls:=.type "tuple", data:=.seq #[.int j s.toks,x]}).get? b=some o:=λb o n1 n2 q=>Qm _ ((c3.2 b n1).trans ((c2.2 b n1).trans ((c1.2 b n2).trans q)))
 have li4:(m3.push {cls:=.type "tuple", data:=.seq #[.int j s.toks,x]}).IsListIter it l (i+1):=by obtain⟨o,q,r⟩:=li1;exact⟨o,Qm _ ((c3.2 it (Ne.symm ne)).trans ((c2.2 it (Ne.symm ne)).trans q)),r⟩
 generalize m3.push {cls:=.type "tuple", data:=.seq #[.int j s.toks,x]}=m4 at st4 tp4 kp4 li4;show Uw _ _ (Builtin.SmallTypes.ownedTupleIsFree (.ref en) >>= _) _ _ {s with heap:=m4,toks:=s.toks+1};rw[z3];refine Qf ?_;unfold Builtin.SmallTypes.ownedTupleIsFree Builtin.SmallTypes.ownedTupleHandOut;refine Qf (wpAny_field st4 rfl (x:=.none) rfl (Qn ?_));simp only[if_true];refine wpAny_bind (wpAny_rule (wpAny_bind (wpAny_field st4 rfl (x:=old) rfl (wpAny_bind (wpAny_setField_rec st4 (by simp) λm5 st5 c5=>?_)))));have c5:Heap.SameBut en m4 m5:=c5;have st5:IsEnum m5 en it (j+1) x:=st5;refine wpAny_bind (wpAny_bind (wpAny_setField_rec st5 (by simp) λm6 st6 c6=>?_));have c6:Heap.SameBut en m5 m6:=c6;have st6:IsEnumOut m6 en it (j+1) x s.heap.objs.size:=st6;refine wpAny_setField_rec st6 (by simp) λm7 st7 c7=>?_
 have c7:Heap.SameBut en m6 m7:=c7;have st7:IsEnumOut m7 en it (j+1) x s.heap.objs.size:=st7;have up:∀b,b≠en->m7.get? b=m4.get? b:=λb n=>(c7.2 b n).trans ((c6.2 b n).trans (c5.2 b n));refine Qf (wpAny_letGo (Qn ⟨_,rfl,Qn (k m7 st7 ?_ ((up _ (JR lt)).trans tp4) λb o n1 n2 q=>(up b n1).trans (kp4 b o n1 n2 q))⟩))
 obtain⟨o,q,r⟩:=li4;exact⟨o,(up it (Ne.symm ne)).trans q,r⟩
theorem qG{en it l:Us}{i:Nat}{j:Int}{items:Array Up}{old:Up}{Q:Option Up->Uq->Prop}(hh:A.handled=none)(st:IsEnum s.heap en it j old)(li:s.heap.IsListIter it l i)(ls:s.heap.IsList l items)
  (at_:items[i]?=none) (k:∀h',Heap.ExtBut it s.heap h'->Q none {s with heap:=h'}):Uw (model prog w) A (pyNext (.ref en)) Q E s:=by
 have ty:s.TypeIs (.ref en) "enumerate" :=⟨_,st,rfl⟩
 unfold pyNext;refine Qf (wpAny_attempt (wpAny_callSpecial?_slot (name:=UJ "__next__") ty F.slot_enumerate_next (wpAny_call_entry F.slot_enumerate_next ty F.entry_enumerate_next ?_ (F.args_enumerate_next_1 _))));show Uw _ _ (field (.ref en) 2 >>= _) _ _ s;refine Qf (wpAny_field st rfl (x:=.ref it) rfl (Qf (m:=Builtin.SmallTypes.nextOf (.ref it)) (wpAny_nextOf_list_end hh li ls at_ λh' z c y=>?_)));obtain⟨o,q,t⟩:=y;exact Qf (wpAny_isInstance (T:= "StopIteration") (b:=true) ⟨o,q,t⟩ isSubtype_stop (Qn (k _ c)))
end
def T7(K:Frag)(a:Us):It:=
 ⟨λi H=>∃xs x,SqL K H a xs/\xs[i]?=some x,
  λi H v H'=>∃p x,H p=none/\v=.ref p/\(∀xs,SqL K H a xs->xs[i]?=some x)/\H'=upd H p (.tup [.int (1+(i:Int)),x]),
  λi H=>∃xs,SqL K H a xs/\xs.length<=i⟩
theorem qS{P:Ur}{w:World}{K:Frag}{elts:List Uu}{x1}{tp:Pos}(a e it:Us)(hne:e≠it) :
  Turn P w K (.Tuple elts x1 tp) (T7 K a) [e,it] e (λi h=>(∃old,IsEnum h e it (1+(i:Int)) old)/\h.IsListIter it a i) where
 mem:=by simp
 obj:=λi h st b hb=>by
  obtain⟨⟨old,he⟩,o,ho,c,d⟩:=st;have hb':b=e∨b=it:=by simpa using hb
  rcases hb' with rfl|rfl
  ·exact⟨_,he,λv z=>by have z':Data.fields _=Data.cell v:=z;cases z'⟩
  ·exact⟨o,ho,λv z=>by rw[d]at z;cases z⟩
 keep:=λi h h' st k=>by obtain⟨⟨old,he⟩,hi⟩:=st;exact⟨⟨old,k e (by simp) _ he⟩,hi.at λo q=>k it (by simp) o q⟩
 item:=by
  intro X hP hw hK hc i pins s σ H E I hf st hg;subst hP hw hK;obtain⟨⟨old,he⟩,hi⟩:=st;obtain⟨xs,x,hq,hx⟩:=hg;obtain⟨its,rv,p,hz⟩:=I.list hq;obtain⟨u,hu,ru⟩:=rv.get hx;refine qe he hi p.isList (x:=u) (by simpa using hu) hne λh1 out hi1 ht kk=>?_
  refine⟨_,rfl,wpAny_letOwnedTupleGo_enum out λh2 he2 hs2=>?_⟩;have hel:e<s.heap.objs.size:=Qi he;have hs2':Heap.SameBut e h1 h2:=hs2;have ht2:h2.get? s.heap.objs.size=some {cls:=.type "tuple", data:=.seq #[.int (1+(i:Int)) s.toks,u]}:=(hs2'.2 _ (JR hel)).trans ht
  have kk2:∀b o,b∉[e,it]->s.heap.get? b=some o->h2.get? b=some o:=λb o hb q=>by
   have hbe:b≠e:=λz=>hb (by simp[z])
   have hbi:b≠it:=λz=>hb (by simp[z])
   exact(hs2'.2 b hbe).trans (kk b o hbe hbi q)
  have hn:H s.heap.objs.size=none:=I.hok.fresh (Qx _)
  have I2:Inv X pins σ (upd H s.heap.objs.size (.tup [.int (1+(i:Int)),x])) {s with heap:=h2,toks:=s.toks+1}:=
   I.turnedNew (fp:=[e,it]) hf kk2 (Qx _) ⟨by show 2<=Uv;decide,[.int (1+(i:Int)) s.toks,u],.cons ⟨_,rfl⟩ (.cons ru .nil),⟨_,ht2,rfl,_,rfl⟩⟩
  refine⟨.ref s.heap.objs.size,_,I2,rfl,⟨_,x,hn,rfl,λys hy=>by rw[I.list_inj hy hq];exact hx,rfl⟩,⟨⟨u,?_⟩,?_⟩,λb hb=>?_⟩
  ·have e2:(1+((i+1:Nat):Int))=1+(i:Int)+1:=by omega
   rw[e2];exact he2
  ·exact hi1.at λo q=>(hs2'.2 it (Ne.symm hne)).trans q
  ·have hlt:b<s.heap.objs.size:=by
    have hb':b=e∨b=it:=by simpa using hb
    rcases hb' with rfl|rfl
    ·exact hel
    ·obtain⟨o,ho,_⟩:=hi;exact Qi ho
   rw[Kz (QM hlt)];exact(hf b hb).1
 done:=by intro X hP hw hK hc i pins s σ H E I hf st hg;subst hP hw hK;obtain⟨⟨old,he⟩,hi⟩:=st;obtain⟨xs,hq,hx⟩:=hg;obtain⟨its,rv,p,hz⟩:=I.list hq;have hl:=rv.length;exact qG (I.ok.hd hc) he hi p.isList (by simp;omega) λh' eb=>⟨rfl,I.turnedL (t':=s.toks) hf λb o hb q=>eb b o (λz=>hb (by simp[z])) q⟩
 self:=λ_ _ _ _ _ st h=>by obtain⟨⟨old,he⟩,_⟩:=st;exact wpAny_pyIter_enum he h
section
variable{X:Cx}
theorem Ba{a:Uu}{ta:TA}{p pos k1 k2:Pos}{j}{elts:List Uu}{x1}{tp:Pos}(hg:Gl X "enumerate")(hm:X.mg "enumerate" = none)(ha:PA X [a] ta)
  (hs:backTo pos (Ux [a] X.env)=(false,eval a X.env)::backTo pos (Ux [] X.env):=by rfl) (hpl:(backTo pos (Ux [a] X.env)).any (·.1)=false:=by rfl) :
  PI X (.Tuple elts x1 tp) (.Call (.Name "enumerate" p) [a] [⟨some "start", .Constant (.int 1) j k1,k2⟩] pos) (λσ H R=>ta σ H λvs H1=>∃a xs,vs=[.ref a]/\SqL X.K H1 a xs/\R (T7 X.K a) H1):=by
 intro pins s σ H R I h;refine wpAny_Call_Name_kw (Vn I hg hm boot_enumerate (Cb hpl rfl ?_));rw[hs];refine evalArgs_kwB rfl ?_;rw[←hs];refine thn (ha pos pins s σ H _ I h) λus s1 ⟨vs,H1,I1,r1,q1⟩=>?_;refine kws_cons (wpAny_Constant_int (kws_nil ?_))
 obtain⟨l,xs,e,hq,q⟩:=q1;subst e;cases r1 with
 |cons r rr=>
  cases rr;cases (show _=Value.ref l from r);have I1':=I1.tok (s1.toks+1);obtain⟨its,rv,pl,hz⟩:=I1'.list hq;refine qT pl.isList λh' he hi kk=>?_;have I2:Inv X pins σ H1 {s1 with heap:=h',toks:=s1.toks+1}:=I1'.kept (t':=s1.toks+1) kk;refine wpAny_pyIter_enum he ?_
  refine⟨s1.heap.objs.size+1,[s1.heap.objs.size+1,s1.heap.objs.size],_,_,H1,rfl,I2,qS l _ _ (Nat.succ_ne_self _),⟨⟨_,he⟩,hi⟩,λb hb=>?_,q⟩;have hb':b=s1.heap.objs.size+1∨b=s1.heap.objs.size:=by simpa using hb
  rcases hb' with rfl|rfl
  ·exact I1.fpOk (JY _) (I1.hok.fresh (JY _))
  ·exact I1.fpOk (Qx _) (I1.hok.fresh (Qx _))
end
end L2
namespace DL
open PySem PySem.Spec L2
open PyProof.Rows hiding St
section
variable{X:Cx}{B G0:Hp}{e a b c tg:Uu}{pos:Pos}{es rest:List Uu}
theorem jL{K:Frag}{G1:Hp}{ad:Us}{vs:List V}{ds:List D}(h:SqL K G1 ad vs)(r:Reps K G1 vs ds):XF K (T7 K ad) (Yj 1 ds) G1 where
 go:=λi G H s1 s2 hi=>by
  rw[YB]at hi;have hi':i<vs.length:=by rw[r.length];exact hi
  exact⟨vs,vs[i],(s1.trans s2).seq h,Qd hi'⟩
 stop:=λi G H s1 s2 hi=>by rw[YB]at hi;exact⟨vs,(s1.trans s2).seq h,by rw[r.length];exact hi⟩
 yld:=λi G H x H' d s1 s2 e y=>by
  obtain⟨p,v,hp,rfl,y1,rfl⟩:=y;have z1:=y1 vs ((s1.trans s2).seq h);rw[O0]at e;cases q:ds[i]? with
  |none=>rw[q]at e;cases e
  |some dd=>
   rw[q]at e;cases e;obtain⟨v',e1,r1⟩:=r.get q;rw[z1]at e1;cases e1;refine⟨upd G p (.tup [.int (1+(i:Int)),v]),Ext.new s2 hp,.tup (SqT.of Zf) (.cons ?_ (.cons ((r1.mono s1).mono (Zx (s2.free hp))) .nil))⟩;have:((1+i:Nat):Int)=1+(i:Int):=by omega
   rw[this];exact .int _
def So:List D->Option (List D)
 |[.list ds]=>some (Yj 1 ds)
 |_=>none
def RP(f:M (List D)):M (List D):=Kc f λx=>Ke (So x)
theorem qR{x l:List D}(h:So x=some l):∃ds,x=[.list ds]/\l=Yj 1 ds:=by
 unfold So at h;split at h
 ·cases h;exact⟨_,rfl,rfl⟩
 ·cases h
theorem C9{f:M (List D)}{p2 k1 k2:Pos}{j}{elts:List Uu}{x1}{tp:Pos}(hg:Gl X "enumerate")(hm:X.mg "enumerate" = none)(ha:PA X [a] (tDs X.K B G0 f))
  (hs:backTo pos (Ux [a] X.env)=(false,eval a X.env)::backTo pos (Ux [] X.env):=by rfl) (hpl:(backTo pos (Ux [a] X.env)).any (·.1)=false:=by rfl) :
  PI X (.Tuple elts x1 tp) (.Call (.Name "enumerate" p2) [a] [⟨some "start", .Constant (.int 1) j k1,k2⟩] pos) (iD X.K B G0 (RP f)):=Xo (Ba hg hm ha hs hpl) λσ H R q=>tM.toI (R0:=Reps X.K) q λv H' G' Z' x k r a=>by
 cases z:So x with
 |none=>rw[z]at a;exact a.elim
 |some l=>rw[z]at a;obtain⟨ds,rfl,rfl⟩:=qR z;obtain⟨v,rfl,q⟩:=r.one_inv;obtain⟨l,ws,rfl,h1,r1⟩:=q.lst_inv;exact⟨l,ws,rfl,k.gh.seq h1,a _ G' H' k (.refl _) (jL h1 r1)⟩
end
section
variable{X:Cx}
def most:List Int->Int
 |[]=>0
 |[n]=>n
 |n::r=>if most r > n then most r else n
theorem Pt:∀{ns:List Int},0<ns.length->most ns∈ns
 |[n],_=>List.mem_singleton.2 rfl
 |n::m::r,_=>by
  have ih:=Pt (ns:=m::r) (Uj _);unfold most;split
  ·exact Ql _ ih
  ·exact Qo ..
theorem P8:∀{ns:List Int}{a:Int},a∈ns->a<=most ns
 |[n],a,h=>by rw[List.mem_singleton.1 h];exact QX _
 |n::m::r,a,h=>by
  have ih:∀b,b∈m::r->b<=most (m::r):=λb hb=>P8 hb;unfold most;rcases QT.1 h with e|h
  ·subst e;split<;>omega
  ·have:=ih a h;split<;>omega
theorem Ca{ns:List Int}{M:Int}(h1:M∈ns)(h2:∀a,a∈ns->a<=M):most ns=M:=
 J7 (h2 _ (Pt (List.length_pos_of_mem h1))) (P8 h1)
theorem qF(hc:X.calm=true):YS X (.builtin "max") (λxs H Q=>∃l,∃ns:List Int,xs=[.ref l]/\SqL X.K H l (ns.map V.int)/\0<ns.length/\Q (.int (most ns)) H):=by
 intro pins s σ H xs us Q I rx h;obtain⟨l,ns,rfl,hq,hb,q⟩:=h;obtain⟨u,rfl,ru⟩:=rx.one;cases ru;obtain⟨its,rv,p,hz⟩:=I.list hq;have hi:=Vv rv;obtain⟨ys,e⟩:=hi.allInts.items;have hns:ns=ys.toList.map (·.1):=by rw[←hi.numsOf,←nums_intItems,←e]
 have hsz:0<ys.size:=by rw[hns,Qb,JA]at hb;exact hb
 have hl:=p.isList;rw[e]at hl;refine max_intList (I.ok.hd hc) hl hsz λv h' tk hv hk=>?_
 obtain⟨t,rfl⟩:=intItems_at hv;obtain⟨h1,h2⟩:=argBest_gt (numAt ys) (ys.size-1);refine⟨.int (most ns),H,I.kept hk,⟨t,?_⟩,q⟩;rw[Ca (M:=_) ?_ ?_]
 ·rw[hns,numAt_eq];exact getD_mem (by rw[Qb,JA];omega)
 ·intro a ha;rw[hns]at ha;obtain⟨j,hj,rfl⟩:=mem_getD ha;rw[Qb,JA]at hj;rw[←numAt_eq];exact h2 j (by omega)
def Vy:List D->Option D
 |[.list ds]=>(match Yh ds with
  |some ns=>if 0<ns.length then some (.int (most ns))else none
  |none=>none)
 |_=>none
theorem qE{xs:List D}{d:D}(h:Vy xs=some d):∃ds ns,xs=[.list ds]/\Yh ds=some ns/\0<ns.length/\d=.int (most ns):=by
 unfold Vy at h;split at h
 ·rename_i ds;cases z:Yh ds with
  |none=>rw[z]at h;cases h
  |some ns=>
   rw[z]at h;dsimp only at h;split at h
   ·rename_i c;cases h;exact⟨ds,ns,rfl,z,c,rfl⟩
   ·cases h
 ·cases h
theorem FD(hc:X.calm=true):YU X (.builtin "max") Vy:=by refine⟨_,qF hc,λvs G H ds d Q s r e k=>?_⟩;obtain⟨ds,ns,rfl,z,c,rfl⟩:=qE e;obtain⟨v,rfl,q1⟩:=r.one_inv;obtain⟨l,ws,rfl,h1,r1⟩:=q1.lst_inv;have:=VX r1 z;subst this;exact⟨l,ns,rfl,s.seq h1,c,k _ G H (.refl s) (.int _)⟩
theorem Li{ns:List Int}(h:0<ns.length):Vy [.list (ns.map .int)]=some (.int (most ns)):=by unfold Vy;simp only[V0,Qk h]
end
section
variable{X:Cx}{B G0:Hp}{e o:Uu}{es:List Uu}
theorem jK{h:Heap}{vs:List Up}{xs:List D}{as:List Us}{d:D}(rs:ReadsAll h vs xs as)(hxs:UF xs=true) :
  vs.countP (λy=>UH (SeqAt.readOf h y) d)=xs.countP (λy=>UH y d):=by
 have key:xs=vs.map (SeqAt.readOf h):=(SeqAt.readsAll_map xs vs as hxs rs).symm;rw[key,List.countP_map];rfl
def Vp(y x:D):Option D:=match y with
 |.list ds=>if x.canLay0=true/\UF ds=true/\x.depth<=60 then some (.int (ds.countP λy=>UH y x))else none
 |_=>none
theorem C8(hu:X.A.units+64<cLine):MtR X "list.count" (λv vs H Q=>∃G u y x d,vs=[u]/\Same G H/\Rep X.K G v y/\Rep X.K G u x/\Vp y x=some (.int d)/\Q (.int d) H):=by
 intro pins s σ H x xs v us Q I rx rs h;obtain⟨G,u,dy,dx,d,rfl,sg,py,px,e,q⟩:=h;obtain⟨w,rfl,rw'⟩:=rs.one;unfold Vp at e;split at e
 ·rename_i ds;split at e
  ·rename_i c;obtain⟨bs,rb⟩:=YY I sg py rx (show UF _=true from c.2.1);obtain⟨as,ra⟩:=YY I sg px rw' c.1;cases rb with
   |list h1 h2 h3 h4=>rename_i l ob its cs n;obtain⟨cls,dd,data,sl⟩:=ob;simp only at h2 h3;subst h2 h3;refine call_meets F.slot_list_count ⟨_,h1,rfl⟩ F.entry_list_count (F.args_list_count_2 _ _) (SeqAt.list_countAt _ _ _ dd sl _ (λy=>UH (SeqAt.readOf s.heap y) dx)) ⟨h1,SeqAt.items_eqAt h4 ra c.2.1 c.1 (by have:=c.2.2;omega),?_⟩;rw[jK h4 c.2.1];cases e;exact⟨.int _,H,I.tok _,⟨_,rfl⟩,q⟩
  ·cases e
 ·cases e
def R4(y:D)(xs:List D):Option D:=match xs with
 |[x]=>Vp y x
 |_=>none
theorem jJ{ds xs:List D}{d:D}(h:R4 (.list ds) xs=some d):∃x n,xs=[x]/\d=.int n/\Vp (.list ds) x=some (.int n):=by
 unfold R4 at h;split at h
 ·rename_i x;have h':=h;unfold Vp at h;dsimp only at h;split at h
  ·cases h;exact⟨x,_,rfl,rfl,h'⟩
  ·cases h
 ·cases h
def Ss(f:M D)(g:M (List D)):M D:=Kc f λy=>Kc g λxs=>Ke (match y with | .list ds=>R4 (.list ds) xs|_=>none)
theorem qD{apos cpos:Pos}{f:M D}{g:M (List D)}(hu:X.A.units+64<cLine)(ho:PE X o (tD X.K B G0 f))(ha:PA X (e::es) (tDs X.K B G0 g))
  (hbase:attributeBase o "count" X.env (eval o X.env)=eval o X.env:=by rfl)
  (hfew:((backTo cpos (Ux (e::es) X.env)).all (λx=>!x.1)&&(backToKw cpos (keywordEach [] X.env)).all (λx=>x.1.isSome)
   && decide ((e::es).length+([]:List Keyword).length+(if([]:List Keyword).isEmpty then 0 else 1)<30))=true:=by rfl)
  (hline:(apos.endLine==cpos.line)=true:=by rfl) (hs:Ux (e::es) X.env=(false,eval e X.env)::Ux es X.env:=by rfl) (hplain:(backTo cpos (Ux es X.env)).any (·.1)=false:=by rfl) :
  PE X (.Call (.Attribute o "count" apos) (e::es) [] cpos) (tD X.K B G0 (Ss f g)):=
 Kt (PF F.plainAttrs_list F.slot_list_count F.type_list_count (C8 hu) ho ha hbase hfew hline hs hplain) λσ H Q q=>by
  refine tM.one (R:=Rep X.K) q λv H2 G Z y k r a=>?_
  cases y with
  |list ds=>
   obtain⟨l,ws,rfl,h1,r1⟩:=r.lst_inv;refine⟨.inl ⟨rfl,ws,k.gh.seq h1⟩,?_⟩;refine tM.nx (R:=Reps X.K) k a λxs H3 G3 Z3 es k3 s3 r3 a3=>?_
   obtain⟨d,e,a3⟩:=a3.opt;obtain⟨x,n,rfl,rfl,e'⟩:=jJ e;obtain⟨u,rfl,ru⟩:=r3.one_inv;exact⟨G3,u,.list ds,x,n,rfl,k3.gh,r.mono s3,ru,e',aft.now a3 k3 (.int _)⟩
  |_=>
   unfold Kc at a;cases z:g Z with
   |bad=>rw[z]at a;exact a.elim
   |ok xs Z1=>rw[z]at a;exact a.elim
theorem Lh{f:M D}{g:M (List D)}{Z Z1 Z2:UP}{ds:List D}{x d:D}(h1:f Z=.ok (.list ds) Z1)(h2:g Z1=.ok [x] Z2)(h3:Vp (.list ds) x=some d):Ss f g Z=.ok d Z2:=by unfold Ss Kc;rw[h1];dsimp only;rw[h2];dsimp only[R4];rw[h3];rfl
end
section
variable{prog:Ur}{w:World}{A:Around}{R:Result->Uq->Prop}{h0:Heap}{l I S:Us}{rs:List (Us×List Up)}
def Xv(h h':Heap):Prop:=∀b o,h.get? b=some o->h'.get? b=some o
def Ls1(h:Heap)(a:Us)(its:List Up)(sl:Array (Option Up)):Prop:=∃n,h.get? a=some {cls:=.type "list", dict:=none,data:=.seq its.toArray n,slots:=sl}
def Ls(h:Heap)(a:Us)(its:List Up):Prop:=∃n sl,h.get? a=some {cls:=.type "list", dict:=none,data:=.seq its.toArray n,slots:=sl}
theorem Ls.kept{h h':Heap}{a:Us}{its:List Up}(x:Ls h a its)(k:Xv h h'):Ls h' a its:=by obtain⟨n,sl,e⟩:=x;exact⟨n,sl,k _ _ e⟩
theorem qQ(hh:A.in1.handled=none)(hI:h0.objs.size<=I)(hS:h0.objs.size<=S)(hIS:S≠I)(hl:h0.IsList l (rs.map λp=>Value.ref p.1).toArray)(hr:∀p∈rs,Ls h0 p.1 p.2) :
  ∀(k i:Nat)(s:Uq)(t:Us)(acc:List Up)(c:Nat)(sl:Array (Option Up)),rs.length-i=k->i<=rs.length->Xv h0 s.heap->s.heap.IsListIter I l i ->
   s.heap.get? S=some {cls:=.type "list", dict:=none,data:=.seq #[.ref t] c,slots:=#[]}->t≠S->t≠I->Ls1 s.heap t acc sl->acc.length+((rs.drop i).map (·.2)).flatten.length<=Uv ->
   (∀p h' tk sl',Xv h0 h'->Ls1 h' p (acc++((rs.drop i).map (·.2)).flatten) sl'->(p=t/\i=rs.length/\sl'=sl∨h0.objs.size<=p/\sl'=#[])->R (.ok (.ret (.ref p))) {s with heap:=h',toks:=tk}) ->
   codeAny (model prog w) A (.builtin "sum.loop" ⟨[.ref I,.ref S,rawInt 2,rawInt 0],[]⟩) R s:=by
 intro k;induction k with
 |zero=>
  intro i s t acc c sl hk hi hK hit hSS htS htI ht hz hR;have hin:i=rs.length:=by omega
  subst hin;refine JF F.entry_sum_loop ?_;rw[Around.under_plainId F.plain_sum_loop _];show Uw _ A.in1 (seqItems? (.ref S) >>= _) _ _ s;refine Qf (wpAny_seqItems hSS rfl ?_);show Uw _ A.in1 (tryCatch (pyNext (.ref I)) _ >>= _) _ _ s;have hl':s.heap.IsList l (rs.map λp=>Value.ref p.1).toArray:=by obtain⟨o,e,r⟩:=hl;exact⟨o,hK _ _ e,r⟩
  refine wpAny_bind (wpAny_tryCatch (wpAny_pyNext_list_end hh hit hl' (by simp) λh' ex=>?_));refine Qn (hR t h' s.toks sl (λb o e=>?_) ?_ (.inl ⟨rfl,rfl,rfl⟩))
  ·exact ex b o (QM (QE (Qi e) hI)) (hK b o e)
  ·obtain⟨n,e⟩:=ht;rw[List.drop_length,JZ,List.flatten_nil,Jj];exact⟨n,ex _ _ htI e⟩
 |succ k ih=>
  intro i s t acc c sl hk hi hK hit hSS htS htI ht hz hR;have hlt:i<rs.length:=by omega
  refine JF F.entry_sum_loop ?_;rw[Around.under_plainId F.plain_sum_loop _];show Uw _ A.in1 (seqItems? (.ref S) >>= _) _ _ s;refine Qf (wpAny_seqItems hSS rfl ?_);show Uw _ A.in1 (tryCatch (pyNext (.ref I)) _ >>= _) _ _ s;have hl':s.heap.IsList l (rs.map λp=>Value.ref p.1).toArray:=by obtain⟨o,e,r⟩:=hl;exact⟨o,hK _ _ e,r⟩
  refine wpAny_bind (wpAny_tryCatch (wpAny_pyNext_list_item (x:=.ref (rs[i]'hlt).1) hit hl' (by simp[hlt]) λh' hit' sb=>?_));show Uw _ A.in1 ((holding [Value.ref (rs[i]'hlt).1] (binaryOp .Add (.ref t) (.ref (rs[i]'hlt).1))).attempt >>= _) _ _ _;refine Qf (wpAny_attempt (wpAny_holding ?_));have hm:rs[i]'hlt∈rs:=JM hlt;have hd:rs.drop i=rs[i]'hlt::rs.drop (i+1):=QU hlt;have hK':Xv h0 h':=λb o e=>(sb.2 b (QM (QE (Qi e) hI))).trans (hK b o e)
  obtain⟨n1,e1⟩:=ht;have e1':=(sb.2 t htI).trans e1;obtain⟨n2,s2,e2⟩:=(hr _ hm).kept hK';have hSS':=(sb.2 S hIS).trans hSS;rw[hd,Qq,QL,Qj]at hz;refine concat_meets ⟨_,e1',rfl⟩ ⟨_,e2,rfl⟩ noFill_list_add seq_list_add PySem.F.slot_list_add PySem.F.entry_list_add (PySem.F.args_list_add_2 _ _) (list_addW t _ acc.toArray _ n1 n2 none none sl s2 (by rw[QI,QI];omega)) ⟨e1',e2,?_⟩;have hlS:S<h'.objs.size:=Qi hSS';have hlI:I<h'.objs.size:=by obtain⟨o,e,_⟩:=hit';exact Qi e
  have ea:acc.toArray++(rs[i]'hlt).2.toArray=(acc++(rs[i]'hlt).2).toArray:=by simp
  rw[ea];have hP:∀b o,h'.get? b=some o->(h'.push {cls:=Value.type "list", data:=Data.seq (acc++(rs[i]'hlt).2).toArray}).get? b=some o:=λb o e=>Qm _ e
  have hS1:=hP _ _ hSS';have hNew:(h'.push {cls:=Value.type "list", data:=Data.seq (acc++(rs[i]'hlt).2).toArray}).get? h'.objs.size=some {cls:=Value.type "list", data:=Data.seq (acc++(rs[i]'hlt).2).toArray}:=QD _ rfl;show Uw _ A.in1 (updateSeq S (λ_=>#[.ref h'.objs.size]) >>= _) _ _ _;refine Qf (wpAny_updateSeq hS1 rfl ?_);have hS2:=Heap.get?_update_self (Obj.mapSeq λ_=>#[Value.ref h'.objs.size]) hS1 rfl;refine Qf (wpAny_letGo ?_);refine Qf (wpAny_updateSeq hS2 rfl (Qn ⟨plainId_quiet F.plain_sum_loop _,?_⟩));have oth:∀b o,b≠S->(h'.push {cls:=Value.type "list", data:=Data.seq (acc++(rs[i]'hlt).2).toArray}).get? b=some o->(((h'.push {cls:=Value.type "list", data:=Data.seq (acc++(rs[i]'hlt).2).toArray}).update S (Obj.mapSeq λx=>#[Value.ref h'.objs.size])).update S (Obj.mapSeq λx=>#[Value.ref h'.objs.size])).get? b=some o:=λb o hb e=>(Heap.get?_update_other _ _ (Ne.symm hb)).trans ((Heap.get?_update_other _ _ (Ne.symm hb)).trans e)
  refine ih (i+1) _ h'.objs.size (acc++(rs[i]'hlt).2) _ #[] (by omega) hlt ?_ ?_ (Heap.get?_update_self _ hS2 rfl) (JR hlS) (JR hlI) ?_ (by rw[Qj];omega) λp h'' tk sl' hk'' hp hq=>?_
  ·exact λb o e=>oth b o (QM (QE (Qi e) hS)) (hP b o (hK' b o e))
  ·obtain⟨o,e,r⟩:=hit';exact⟨o,oth I o (Ne.symm hIS) (hP I o e),r⟩
  ·exact⟨_,oth _ _ (JR hlS) hNew⟩
  ·refine hR p h'' tk sl' hk'' ?_ (.inr ?_)
   ·rw[hd,Qq,QL,←Jg];exact hp
   ·rcases hq with ⟨rfl, -,e⟩|hq
    ·exact⟨Nat.le_of_lt (Nat.lt_of_le_of_lt hS hlS),e⟩
    ·exact hq
end
section
variable{prog:Ur}{w:World}{A:Around}{E:Up->Uq->Prop}{s:Uq}{l z:Us}{rs:List (Us×List Up)}
theorem qC(a b:Up):argsOk "sum" ⟨[a,b],[]⟩:=by unfold argsOk;kernel_rfl
theorem qP{Q:Up->Uq->Prop}(hh:A.handled=none)(hl:s.heap.IsList l (rs.map λp=>Value.ref p.1).toArray)(hr:∀p∈rs,Ls s.heap p.1 p.2)(hz:Ls s.heap z [])(hb:(rs.map (·.2)).flatten.length<=Uv)
  (h:∀p h' tk sl',Xv s.heap h'->Ls1 h' p (rs.map (·.2)).flatten sl'->(p=z/\rs=[]∨s.heap.objs.size<=p/\sl'=#[])->Q (.ref p) {s with heap:=h',toks:=tk}) :
  Uw (model prog w) A (call (.builtin "sum") [.ref l,.ref z]) Q E s:=by
 refine call_function_tree F.kind_sum F.plain_sum F.entry_sum (qC _ _) ?_;unfold Builtin.«sum»;simp only[Qv,QN];rw[Qs (by decide)];refine Qf (wpAny_of_eq (show Builtin.Builtins.bindParams "sum" ["start"] 0 ⟨[.ref z],[]⟩=pure [some (.ref z)]from rfl) ?_);refine Qf (JI hl ?_);refine Qf (Qn ?_);obtain⟨n,sl,ez⟩:=id hz;have ty:∀h:Heap,h.get? z=some {cls:=.type "list", dict:=none,data:=.seq [].toArray n,slots:=sl}->({s with heap:=h}:Uq).TypeIs (.ref z) "list" :=λh e=>⟨_,e,rfl⟩
 have ez':(s.heap.push {cls:=.type "list_iterator", data:=.fields #[.ref l,.int 0 0]}).get? z=_:=Qm _ ez;simp only[List.forIn_cons,List.forIn_nil];refine Qf (Qf (Qf (wpAny_isInstance (T:= "list") (b:=false) (ty _ ez') F.sub_list_str ?_)));simp only[J5,if_false];refine Qn (Qf (Qf (wpAny_isInstance (T:= "list") (b:=false) (ty _ ez') F.sub_list_bytes ?_)));simp only[J5,if_false];refine Qn (Qf (Qf (wpAny_isInstance (T:= "list") (b:=false) (ty _ ez') F.sub_list_bytearray ?_)));simp only[J5,if_false];refine Qn (Qn ?_);refine Qf (wpAny_newObj_type ?_);have hzs:=Qi ez;have s1:(s.heap.push {cls:=.type "list_iterator", data:=.fields #[.ref l,.int 0 0]}).objs.size=s.heap.objs.size+1:=Heap.size_push ..;have k2:Xv s.heap ((s.heap.push {cls:=.type "list_iterator", data:=.fields #[.ref l,.int 0 0]}).push {cls:=.type "list", data:=.seq #[.ref z]}):=λb o e=>Qm _ (Qm _ e)
 refine Qn ⟨plainId_quiet F.plain_sum_loop _,qQ (h0:=s.heap) (l:=l) (I:=s.heap.objs.size) (S:=(s.heap.push {cls:=.type "list_iterator", data:=.fields #[.ref l,.int 0 0]}).objs.size) (rs:=rs) hh (Qx _) (by rw[s1];exact JY _) (by rw[s1];exact Nat.succ_ne_self _) hl hr rs.length 0 _ z [] 0 sl rfl (Jw _)
  k2 ⟨_,Heap.get?_push_of_some _ (Heap.get?_push_size _ rfl),rfl,rfl⟩ (Heap.get?_push_size _ rfl) (by rw[s1];exact Nat.ne_of_lt (Nat.lt_succ_of_lt hzs)) (Nat.ne_of_lt hzs) ⟨n,k2 _ _ ez⟩ (by simpa using hb) λp h' tk sl' hk hp hq=>?_⟩
 exact h p h' tk sl' hk (by simpa using hp) (hq.imp (λe=>⟨e.1,List.eq_nil_of_length_eq_zero e.2.1.symm⟩) id)
end
section
variable{X:Cx}{pins:List (Us×Obj)}{σ:St}{H:Hp}{s:Uq}
theorem MZ(I:Inv X pins σ H s):∀{rs:List (Us×List V)},(∀p∈rs,SqL X.K H p.1 p.2) ->
  ∃ts:List (Us×List Up),(ts.map λp=>Value.ref p.1)=(rs.map λp=>Value.ref p.1)/\(∀p∈ts,Ls s.heap p.1 p.2)/\Vals (rs.map (·.2)).flatten (ts.map (·.2)).flatten
 |[],_=>⟨[],rfl,(λ_ h=>by cases h),(show Vals [] []from Paired.nil)⟩
 |p::rs,h=>by
  obtain⟨ts,e,hl,hv⟩:=MZ I λq hq=>h q (Ql _ hq)
  obtain⟨its,rv,⟨⟨c1,d1,t1,sl⟩,n,e1,ec,ed,et⟩,z⟩:=I.list (h p (Qo ..));simp only at ec ed et;subst ec ed et;refine⟨(p.1,its)::ts,by rw[Qq,Qq,e],λq hq=>?_,?_⟩
  ·rcases QT.1 hq with rfl|hq
   ·exact⟨n,sl,e1⟩
   ·exact hl q hq
  ·rw[Qq,Qq,QL,QL];exact rv.append hv
theorem L1:∀{as:List Us}{us:List Up},Vals (as.map V.ref) us->us=as.map Value.ref
 |[],_,.nil=>rfl
 |a::as,_,.cons h t=>by cases h;rw[L1 t];rfl
theorem qB(hc:X.calm=true):YS X (.builtin "sum") (λxs H Q=>∃l z,∃rs:List (Us×List V),xs=[.ref l,.ref z]/\SqL X.K H l (rs.map λp=>V.ref p.1)/\(∀p∈rs,SqL X.K H p.1 p.2)/\SqL X.K H z []/\(rs.map (·.2)).flatten.length<=Uv /\
  (rs=[]->Q (.ref z) H)/\∀p,H p=none->Q (.ref p) (upd H p (.lst (rs.map (·.2)).flatten))):=by
 intro pins s σ H xs us Q I rx h;obtain⟨l,z,rs,rfl,hq,hr,hz,hb,q0,q⟩:=h;obtain⟨u,u',rfl,ru,ru'⟩:=PH rx;cases ru;cases ru';obtain⟨its,rv,pl, -⟩:=I.list hq;obtain⟨ts,e,hl,hv⟩:=MZ I hr;have ei:its=ts.map λp=>Value.ref p.1:=by rw[e];have:=L1 (as:=rs.map (·.1)) (us:=its) (by rw[Ja];exact rv);rw[this,Ja];rfl
 subst ei;obtain⟨zi,rz,⟨⟨c1,d1,t1,sl⟩,n,e1,ec,ed,et⟩, -⟩:=I.list hz;cases rz;simp only at ec ed et;subst ec ed et;have hlen:=hv.length;refine qP (I.ok.hd hc) pl.isList hl ⟨n,sl,e1⟩ (by omega) λp h' tk sl' hk hp hq=>?_
 rcases hq with ⟨rfl,rfl⟩|⟨hp',rfl⟩
 ·have hr0:rs=[]:=by
   cases rs with
   |nil=>rfl
   |cons a b=>cases e
  exact⟨.ref _,H,I.kept hk,rfl,q0 hr0⟩
 ·obtain⟨m,ep⟩:=hp;exact⟨.ref p,_,I.laid (t':=tk) hk hp' (show ZE X.prog X.w _ h' _ (.lst _)from⟨hb,_,m,hv,ep⟩),rfl,q p (I.hok.fresh hp')⟩
def Ws:List D->Option (List (List D))
 |[]=>some []
 |.list xs::r=>(Ws r).map (xs :: ·)
 |_=>none
theorem HL{K:Frag}{G:Hp}:∀{vs:List V}{ds:List D}{ls:List (List D)},Reps K G vs ds->Ws ds=some ls ->
  ∃rs:List (Us×List V),vs=(rs.map λp=>V.ref p.1)/\(∀p∈rs,SqL K G p.1 p.2)/\Reps K G (rs.map (·.2)).flatten ls.flatten/\rs.length=ls.length
 |_,_,ls,.nil,e=>by cases e;exact⟨[],rfl,(λ_ h=>by cases h),.nil,rfl⟩
 |_,_,ls,.cons (d:=d) r t,e=>by
  cases d with
  |list xs=>
   unfold Ws at e;cases z:Ws _ with
   |none=>rw[z]at e;cases e
   |some cs=>
    rw[z]at e;cases e;obtain⟨rs,rfl,h1,h2,h3⟩:=HL t z;obtain⟨a,ws,rfl,h,rr⟩:=r.lst_inv;refine⟨(a,ws)::rs,rfl,λp hp=>?_,?_,congrArg (· + 1) h3⟩
    ·rcases QT.1 hp with rfl|hp
     ·exact h
     ·exact h1 p hp
    ·rw[Qq,QL,QL];exact rr.append h2
  |_=>cases e
theorem qO(ls:List (List D)):Ws (ls.map UB)=some ls:=by
 induction ls with
 |nil=>rfl
 |cons b r ih=>rw[Qq,Ws,ih];rfl
def Sb:List D->Option D
 |[.list ds,.list []]=>(match Ws ds with
  |some ls=>if ls.flatten.length<=1000000 then some (.list ls.flatten)else none
  |none=>none)
 |_=>none
theorem qA{xs:List D}{d:D}(h:Sb xs=some d):∃ds ls,xs=[.list ds,.list []]/\Ws ds=some ls/\ls.flatten.length<=1000000/\d=.list ls.flatten:=by
 unfold Sb at h;split at h
 ·rename_i ds;cases z:Ws ds with
  |none=>rw[z]at h;cases h
  |some ls=>
   rw[z]at h;dsimp only at h;split at h
   ·rename_i c;cases h;exact⟨ds,ls,rfl,z,c,rfl⟩
   ·cases h
 ·cases h
theorem FC(hc:X.calm=true):YU X (.builtin "sum") Sb:=by
 refine⟨_,qB hc,λvs G H ds d Q s r e k=>?_⟩;obtain⟨ds,ls,rfl,z,c,rfl⟩:=qA e;obtain⟨v,v',rfl,q1,q2⟩:=r.two_inv;obtain⟨l,ws,rfl,h1,r1⟩:=q1.lst_inv;obtain⟨a,ws2,rfl,h2,r2⟩:=q2.lst_inv;have:=r2.nil_inv;subst this;obtain⟨rs,rfl,g1,g2,g3⟩:=HL r1 z;refine⟨l,a,rs,rfl,s.seq h1,λp hp=>s.seq (g1 p hp),s.seq h2,?_,λe0=>?_,λp hp=>?_⟩
 ·rw[g2.length];exact QS c lim
 ·subst e0;have:ls=[]:=List.eq_nil_of_length_eq_zero g3.symm;subst this;exact k _ G H (.refl s) (.lst h2 .nil)
 ·exact k _ _ _ (.new s hp) (.lst (SqL.of Zf) (g2.mono (Zx (s.free hp))))
end
section
variable{X:Cx}
def YQ(ns:List Int):List Int:=ns.mergeSort λa b=>decide (a<=b)
theorem Vr(ns:List Int):(YQ ns).Perm ns:=List.mergeSort_perm ..
theorem L0(ns:List Int):(YQ ns).Pairwise (· <= ·):=by have:=List.pairwise_mergeSort (le:=λa b:Int=>decide (a<=b)) (by intro a b c;simp;omega) (by intro a b;simp;omega) ns;exact this.imp (by simp)
theorem MY:∀{a b:List Int},a.Perm b->a.Pairwise (· <= ·)->b.Pairwise (· <= ·)->a=b
 |[],b,p,_,_=>by rw[List.nil_perm.1 p]
 |x::a,[],p,_,_=>by have:=p.length_eq;simp at this
 |x::a,y::b,p,ha,hb=>by
  have hx:y<=x:=by
   rcases QT.1 (p.mem_iff.1 (Qo ..))with e|e
   ·exact Int.le_of_eq e.symm
   ·exact(Ju.1 hb).1 x e
  have hy:x<=y:=by
   rcases QT.1 (p.mem_iff.2 (Qo ..))with e|e
   ·exact Int.le_of_eq e.symm
   ·exact(Ju.1 ha).1 y e
  have e:=J7 hy hx;subst e;rw[MY (List.Perm.cons_inv p) (Ju.1 ha).2 (Ju.1 hb).2]
theorem LZ:∀{us:List Up}{ns:List Int},PyProof.Rows.IntsAre us ns->Vals (ns.map V.int) us
 |_,_,.nil=>Paired.nil
 |_,_,.cons n t h=>Paired.cons ⟨t,rfl⟩ (LZ h)
theorem qN:YS X (.builtin "sorted") (λxs H Q=>∃l,∃ns:List Int,xs=[.ref l]/\SqL X.K H l (ns.map V.int)/\ns.length<64/\∀p,H p=none->Q (.ref p) (upd H p (.lst ((YQ ns).map V.int)))):=by
 intro pins s σ H xs us Q I rx h;obtain⟨l,ns,rfl,hq,hb,q⟩:=h;obtain⟨u,rfl,ru⟩:=rx.one;cases ru;obtain⟨its,rv,p,hz⟩:=I.list hq;have hi:=Vv rv;have hn:its.length=ns.length:=by have:=rv.length;rw[Qb]at this;omega
 refine sorted_ints p.isList hi (by omega) λout ns' a1 a2 a3=>?_
 obtain⟨e,he⟩:=sortedAll_at s.heap its out;have en:ns'=YQ ns:=MY (a2.trans (Vr ns).symm) a3 (L0 ns);subst en;refine⟨.ref (s.heap.objs.size+1),_,I.laid (t':=s.toks) (λb o=>sortedAll_old) (JY _) (show ZE X.prog X.w _ _ _ (.lst ((YQ ns).map V.int))from⟨?_,out.toList,e,LZ a1,he⟩),rfl,q _ (I.hok.fresh (JY _))⟩;rw[Qb,(Vr ns).length_eq];rw[Qb]at hz;exact hz
def VH:List D->Option D
 |[.list ds]=>(match Yh ds with
  |some ns=>if ns.length<64 then some (.list ((YQ ns).map .int))else none
  |none=>none)
 |_=>none
theorem qM{xs:List D}{d:D}(h:VH xs=some d):∃ds ns,xs=[.list ds]/\Yh ds=some ns/\ns.length<64/\d=.list ((YQ ns).map .int):=by
 unfold VH at h;split at h
 ·rename_i ds;cases z:Yh ds with
  |none=>rw[z]at h;cases h
  |some ns=>
   rw[z]at h;dsimp only at h;split at h
   ·rename_i c;cases h;exact⟨ds,ns,rfl,z,c,rfl⟩
   ·cases h
 ·cases h
theorem LY{K:Frag}{G:Hp}:∀ns:List Int,Reps K G (ns.map V.int) (ns.map int)
 |[]=>.nil
 |n::r=>.cons (.int n) (LY r)
theorem D9:YU X (.builtin "sorted") VH:=by refine⟨_,qN,λvs G H ds d Q s r e k=>?_⟩;obtain⟨ds,ns,rfl,z,c,rfl⟩:=qM e;obtain⟨v,rfl,q1⟩:=r.one_inv;obtain⟨l,ws,rfl,h1,r1⟩:=q1.lst_inv;have:=VX r1 z;subst this;exact⟨l,ns,rfl,s.seq h1,c,λp hp=>k _ _ _ (.new s hp) (.lst (SqL.of Zf) (LY _))⟩
theorem qz{ns:List Int}(h:ns.length<64):VH [.list (ns.map .int)]=some (.list ((YQ ns).map .int)):=by unfold VH;simp only[V0,Qk h]
end
@[simp] theorem mBind_ok{α β:Type}{f:M α}{k:α->M β}{Z Z':UP}{x:α}(h:f Z=.ok x Z'):Kc f k Z=k x Z':=by unfold Kc;rw[h]
theorem LX{s:D->UP->Option UP}{g:SM}{P:Nat->UP->Prop}{R:Out->Prop}:∀(ds:List D)(n:Nat)(Z:UP),P n Z ->
  (∀i d Z,ds[i]?=some d->P (n+i) Z->∃Z1,s d Z=some Z1/\((∃Z2,(g Z1=.nx Z2∨g Z1=.ct Z2)/\P (n+i+1) Z2)∨(∃x,g Z1=.rt x/\R (.rt x))∨(∃Z2,g Z1=.bk Z2/\R (.nx Z2))∨(∃Z2 x,g Z1=.ex Z2 x/\R (.ex Z2 x)) ∨ ∃x,g Z1=.ro x/\R (.ro x)))->(∀Z,P (n+ds.length) Z->R (.nx Z))->R (Vf s g ds Z)
 |[],n,Z,h,_,f=>f Z h
 |d::r,n,Z,h,st,f=>by
  obtain⟨Z1,e1,e2⟩:=st 0 d Z rfl h;rw[Vf,e1];dsimp only;rcases e2 with ⟨Z2,e2,h2⟩|⟨x,e2,h2⟩|⟨Z2,e2,h2⟩|⟨Z2,x,e2,h2⟩|⟨x,e2,h2⟩
  ·have goal:=LX (R:=R) r (n+1) Z2 h2 (λi d' Z3 q p=>by
    have e:n+1+i=n+(i+1):=by omega
    rw[e]at p⊢;exact st (i+1) d' Z3 (by simpa using q) p) (λZ3 p=>f Z3 (by
    have e:n+1+r.length=n+(d::r).length:=by rw[Qv];omega
    rw[e]at p;exact p))
   rcases e2 with e2|e2<;>(rw[e2];exact goal)
  ·rw[e2];exact h2
  ·rw[e2];exact h2
  ·rw[e2];exact h2
  ·rw[e2];exact h2
theorem SI{lo hi:Int}{i:Nat}{d:D}(h:(Yk lo hi)[i]?=some d):d=.int (lo+i)/\(i:Int)<hi-lo:=by have hl:i<(Yk lo hi).length:=(Qg.mp h).1;rw[Wv]at hl;unfold Yk at h;rw[Qe,Qd (by rw[Qr];exact hl),J0]at h;cases h;exact⟨rfl,by omega⟩
section
variable{α β:Type}{Z Z1 Z2 Z3 Z':UP}{f g h:M D}
theorem UZ{a:α}:UU a Z=.ok a Z:=rfl
theorem UY:UQ Z=.ok [] Z:=rfl
theorem Yv{o:Option α}{a:α}(h:o=some a):Ke o Z=.ok a Z:=by subst h;rfl
theorem K5{f:M α}{k:α->M β}{x:α}{r:Res β}(h:f Z=.ok x Z1)(h2:k x Z1=r):Kc f k Z=r:=by unfold Kc;rw[h];exact h2
theorem KS{f:M α}{k:α->β}{x:α}(h:f Z=.ok x Z1):U6 k f Z=.ok (k x) Z1:=by unfold U6 Kc;rw[h];rfl
theorem UR{i:Nat}{d:D}(h:Z[i]?=some (some (.pub d))):UO i Z=.ok d Z:=by unfold UO;rw[h]
theorem Yo{i:Nat}{ds:List D}(h:Z[i]?=some (some (.own ds)))(h2:Z.set i (some (.pub (.list ds)))=Z'):UO i Z=.ok (.list ds) Z':=by unfold UO;rw[h];subst h2;rfl
theorem U7{op:D->D->Option β}{x y:D}{r:β}(h1:f Z=.ok x Z1)(h2:g Z1=.ok y Z2)(h3:op x y=some r):UV op f g Z=.ok r Z2:=by unfold UV;exact K5 h1 (K5 h2 (Yv h3))
theorem UT{g:M (List D)}{x:D}{xs:List D}(h1:f Z=.ok x Z1)(h2:g Z1=.ok xs Z2):US f g Z=.ok (x::xs) Z2:=by unfold US;exact K5 h1 (K5 h2 rfl)
theorem YA{g:M (List D)}{xs:List D}(h1:g Z=.ok xs Z1)(h2:xs.length<=1000000):Kx g Z=.ok (.tuple xs) Z1:=by unfold Kx;exact K5 h1 (by rw[Qk h2];rfl)
theorem Zu{g:M (List D)}{xs:List D}(h1:g Z=.ok xs Z1)(h2:xs.length<=1000000):Kr g Z=.ok (.list xs) Z1:=by unfold Kr;exact K5 h1 (by rw[Qk h2];rfl)
theorem VR{g:M (List D)}{xs:List D}(h1:g Z=.ok xs Z1)(h2:xs.length<=1000000):(Kc g λxs=>if xs.length<=1000000 then UU xs else λ_=>.bad) Z=.ok xs Z1:=
 K5 h1 (by rw[Qk h2];rfl)
theorem K8{i:Nat}{d y r:D}(h:Z[i]?=some (some (.pub d)))(h1:g Z=.ok y Z1)(h2:oIx d y=some r):U9 i g Z=.ok r Z1:=by unfold U9;rw[h];exact K5 h1 (Yv h2)
theorem RO{i:Nat}{ds es:List D}{y r:D}(h:Z[i]?=some (some (.own ds)))(h1:g Z=.ok y Z1)(h3:Z1[i]?=some (some (.own es)))(h2:oIx (.list es) y=some r):U9 i g Z=.ok r Z1:=by unfold U9;rw[h];exact K5 h1 (by rw[h3];exact Yv h2)
theorem ZN{p:List D->Option D}{g:M (List D)}{xs:List D}{r:D}(h1:g Z=.ok xs Z1)(h2:p xs=some r):Zm p g Z=.ok r Z1:=by unfold Zm;exact K5 h1 (Yv h2)
theorem Kn{n:Nat}{F:List D->Option D}{g:M (List D)}{xs:List D}{r:D}(h1:g Z=.ok xs Z1)(h2:xs.length=n)(h3:F xs=some r):U0 n F g Z=.ok r Z1:=by unfold U0;exact K5 h1 (by rw[Qk h2];exact Yv h3)
theorem VG{i:Int}(h1:f Z=.ok (.int i) Z1):ZX f Z=.ok (.int (-i)) Z1:=by unfold ZX;exact K5 h1 rfl
theorem Z7{i:Nat}{d r:D}(h:Z[i]?=some (some (.pub d)))(h2:Kg [d]=some r):Zq i Z=.ok r Z:=by unfold Zq;rw[h];exact Yv h2
theorem D8{i:Nat}{ds:List D}(h:Z[i]?=some (some (.own ds))):Zq i Z=.ok (.int ds.length) Z:=by unfold Zq;rw[h]
theorem VU{g:M (List D)}{i:Int}{r:List D}(h1:g Z=.ok [.int i] Z1)(h2:Sj [.int i]=some r):Wf g Z=.ok r Z1:=by unfold Wf;exact K5 h1 (Yv h2)
theorem D7{g:M (List D)}{i j:Int}{r:List D}(h1:g Z=.ok [.int i,.int j] Z1)(h2:Se [.int i,.int j]=some r):RD g Z=.ok r Z1:=by unfold RD;exact K5 h1 (Yv h2)
theorem XN{g:M (List D)}{xs r:List D}(h1:g Z=.ok xs Z1)(h2:SN xs=some r):YR g Z=.ok r Z1:=by unfold YR;exact K5 h1 (Yv h2)
theorem YX{i:Int}(h1:f Z=.ok (.int i) Z1):(Kc f λx=>Ke (Yz x)) Z=.ok (some i) Z1:=K5 h1 rfl
theorem Xf{f:M Bool}{t:Bool}(h1:f Z=.ok t Z1):K0 f Z=.ok (!t) Z1:=KS h1
theorem XJ{t:Bool}(h1:f Z=.ok (.bool t) Z1):Z9 f Z=.ok t Z1:=by unfold Z9;exact K5 h1 rfl
theorem FA{f g:M Bool}{t u:Bool}(h1:f Z=.ok t Z)(h2:t=true->g Z=.ok u Z):ZB f g Z=.ok (t&&u) Z:=by
 unfold ZB;refine K5 h1 ?_;cases t with
 |true=>rw[Qk rfl];exact h2 rfl
 |false=>rfl
theorem R3{t u:Bool}(h1:f Z=.ok (.bool t) Z)(h2:t=true->g Z=.ok (.bool u) Z):VA f g Z=.ok (.bool (t&&u)) Z:=by
 unfold VA;refine K5 h1 ?_;cases t with
 |true=>exact h2 rfl
 |false=>rfl
theorem NK{t u:Bool}(h1:f Z=.ok (.bool t) Z)(h2:t=false->g Z=.ok (.bool u) Z):X1 f g Z=.ok (.bool (t || u)) Z:=by
 unfold X1;refine K5 h1 ?_;cases t with
 |false=>exact h2 rfl
 |true=>rfl
theorem Mn{t:Bool}(h1:f Z=.ok (.bool t) Z1):SR f Z=.ok (.bool (!t)) Z1:=by unfold SR;exact K5 h1 rfl
theorem NJ{f:M Bool}{g h:M α}{r:Res α}(h1:f Z=.ok true Z1)(h2:g Z1=r):mIf f g h Z=r:=by unfold mIf;exact K5 h1 (by rw[Qk rfl];exact h2)
theorem PU{f:M Bool}{g h:M α}{r:Res α}(h1:f Z=.ok false Z1)(h2:h Z1=r):mIf f g h Z=r:=by unfold mIf;exact K5 h1 (by rw[Qs (by decide)];exact h2)
theorem Fo{f:M Bool}{g h:M α}{t:Bool}{x y:α}(h1:f Z=.ok t Z1)(h2:g Z1=.ok x Z1)(h3:h Z1=.ok y Z1):mIf f g h Z=.ok (if t=true then x else y) Z1:=by
 unfold mIf;refine K5 h1 ?_;cases t with
 |true=>rw[Qk rfl,Qk rfl];exact h2
 |false=>rw[Qs (by decide),Qs (by decide)];exact h3
theorem OD{p q:D->D->Option Bool}{x y z:D}{t u:Bool}(h1:f Z=.ok x Z)(h2:g Z=.ok y Z)(h3:p x y=some t)(h4:t=true->h Z=.ok z Z)(h5:t=true->q y z=some u):VL p q f g h Z=.ok (t&&u) Z:=by
 unfold VL;refine K5 h1 (K5 h2 (K5 (Yv h3) ?_));cases t with
 |true=>rw[Qk rfl];exact K5 (h4 rfl) (Yv (h5 rfl))
 |false=>rfl
theorem Zh{i j:Int}:U4 (.int i) (.int j)=some (.int (i+j)):=rfl
theorem XI{x y:List D}(h:x.length+y.length<=1000000):U4 (.list x) (.list y)=some (.list (x++y)):=by unfold U4;exact Qk h
theorem YT{i j:Int}:K3 (.int i) (.int j)=some (.int (i-j)):=rfl
theorem Rw{i j:Int}(h1 : -18446744073709551616<i)(h2:i<18446744073709551616):Ku (.int i) (.int j)=some (.int (i*j)):=by unfold Ku Yq;exact Qk (.inl ⟨by omega,by omega⟩)
theorem SG{i j:Int}(h1 : -18446744073709551616<j)(h2:j<18446744073709551616):Ku (.int i) (.int j)=some (.int (i*j)):=by unfold Ku Yq;exact Qk (.inr ⟨by omega,by omega⟩)
theorem Rp{x:List D}{k:Int}(h : -1000000<=k/\k<=1000000/\x.length*k.toNat<=1000000):Ku (.list x) (.int k)=some (.list (UA k.toNat x).flatten):=by unfold Ku;exact Qk h
theorem VT{i j:Int}(h:0<j):Yp (.int i) (.int j)=some (.int (i % j)):=by unfold Yp WD;exact Qk h
theorem Mm{i j:Int}(h:0<j)(h2:j<18446744073709551616):X0 (.int i) (.int j)=some (.int (i / j)):=by unfold X0 WE;exact Qk ⟨h,h2⟩
theorem D6{i j:Int}(h:0<=j/\j<=1000000/\i.natAbs<2 ^ 64):XY (.int i) (.int j)=some (.int (i ^ j.toNat)):=by unfold XY WC;exact Qk h
theorem Wi{i j:Int}:oEq (.int i) (.int j)=some (decide (i=j)):=by unfold oEq;rw[if_pos ⟨rfl,rfl,by simp[UG]⟩];congr 1
theorem Zw{xs:List D}:Kg [.list xs]=some (.int xs.length):=rfl
theorem Ml{i j:Int}:SO [.int i,.int j]=some (.int (if j > i then j else i)):=rfl
theorem VQ{j:Int}(h1:j<=1000000)(h2 : -1000000<=j):Sj [.int j]=some (Yk 0 j):=by unfold Sj;exact Qk ⟨h1,h2⟩
theorem C7{i j:Int}(h1:j<=1000000)(h2 : -1000000<=j)(h3:i<=1000000)(h4 : -1000000<=i):Se [.int i,.int j]=some (Yk i j):=by unfold Se;exact Qk ⟨h1,h2,h3,h4⟩
theorem XH{xs:List D}:SN [.list xs]=some (Yj 0 xs):=rfl
theorem KO{i:Nat}{d:D}(h1:f Z=.ok d Z1)(h2:i<Z1.length)(h3:Z1.set i (some (.pub d))=Z'):U8 i f Z=.nx Z':=by unfold U8 ZS sB gN;rw[h1];dsimp only;rw[if_pos h2];subst h3;rfl
theorem Yn{i:Nat}{f:M (List D)}{ds:List D}(h1:f Z=.ok ds Z1)(h2:i<Z1.length)(h3:Z1.set i (some (.own ds))=Z'):Za i f Z=.nx Z':=by unfold Za sB;rw[h1];dsimp only;rw[if_pos h2];subst h3;rfl
theorem Wo{i:Nat}{d:D}{ds0 ds:List D}(h0:Z[i]?=some (some (.own ds0)))(h1:f Z=.ok d Z1)(h2:Z1[i]?=some (some (.own ds)))(h3:ds.length<1000000)(h4:Z1.set i (some (.own (ds++[d])))=Z'):ZT i f Z=.nx Z':=by unfold ZT sB;rw[h0];dsimp only;rw[h1];dsimp only;rw[h2];dsimp only;rw[if_pos h3];subst h4;rfl
theorem VF{d:D}{s:D->UP->Option UP}(h1:f Z=.ok d Z1)(h2:s d Z1=some Z'):ZS f s Z=.nx Z':=by unfold ZS sB;rw[h1];dsimp only;rw[h2]
theorem Vo{d:D}(h1:f Z=.ok d Z1):XS f Z=.nx Z1:=by unfold XS sB;rw[h1]
theorem UX{i:Nat}{d:D}(h:i<Z.length)(h2:Z.set i (some (.pub d))=Z'):gN i d Z=some Z':=by unfold gN;rw[Qk h,h2]
theorem KD:gN0 [] Z=some Z:=rfl
theorem U5{s:D->UP->Option UP}{t:List D->UP->Option UP}{d:D}{r:List D}(h1:s d Z=some Z1)(h2:t r Z1=some Z'):gNC s t (d::r) Z=some Z':=by unfold gNC;dsimp only;rw[h1];exact h2
theorem KB{n:Nat}{t:List D->UP->Option UP}{ds:List D}(h1:ds.length=n)(h2:t ds Z=some Z'):gT n t (.tuple ds) Z=some Z':=by unfold gT;dsimp only;rw[if_pos h1];exact h2
structure Ho(g:SM)(Z:UP)(Q:Out->Prop):Prop where
 out:Q (g Z)
def Fn(h:SM)(Q:Out->Prop):Out->Prop
 |.nx Z'=>Ho h Z' Q
 |o=>Q o
structure PB(h:SM)(Q:Out->Prop)(o:Out):Prop where
 out:Fn h Q o
variable{Q:Out->Prop}{s t u:SM}
theorem KI(h:Ho s Z (PB t Q)):Ho (UW s t) Z Q:=by
 have h:=h.out.out;constructor;unfold UW;cases e:s Z with
 |nx o=>rw[e]at h;exact h.out
 |_=>rw[e]at h;exact h
theorem Km(h1:s Z=.nx Z1)(h2:Ho t Z1 Q):Ho (UW s t) Z Q:=by
 constructor;unfold UW;rw[h1];exact h2.out
theorem ZM{o:Out}(h1:s Z=o)(h2:Q o):Ho s Z Q:=by constructor;rw[h1];exact h2
theorem K2(h:Q (.nx Z)):Ho sNx Z Q:=⟨h⟩
theorem KJ{o:UP}(h:Ho t o Q):PB t Q (.nx o):=⟨h⟩
theorem VP{d:D}(h:Q (.rt d)):PB t Q (.rt d):=⟨h⟩
theorem KF{f:M Bool}{b:Bool}(h1:f Z=.ok b Z1)(h2:b=true->Ho s Z1 Q)(h3:b=false->Ho t Z1 Q):Ho (sIf f s t) Z Q:=by
 constructor;unfold sIf sB;rw[h1];dsimp only
 cases b with
 |true=>rw[Qk rfl];exact(h2 rfl).out
 |false=>rw[Qs (by decide)];exact(h3 rfl).out
theorem KH{d:D}(h1:f Z=.ok d Z1)(h2:Q (.rt d)):Ho (U3 f) Z Q:=by constructor;unfold U3 sB;rw[h1];exact h2
theorem Mk{P:Out->Prop}(h:Ho s Z P)(k:∀o,P o->Q o):Ho s Z Q:=⟨k _ h.out⟩
def Fm(I:UP->Prop)(Q:Out->Prop):Out->Prop
 |.nx Z | .ct Z=>I Z
 |.bk Z=>Q (.nx Z)
 |.rt d=>Q (.rt d)
 |.ex Z d=>Q (.ex Z d)
 |.ro ds=>Q (.ro ds)
 |.bad=>False
structure Sa(I:UP->Prop)(Q:Out->Prop)(o:Out):Prop where
 out:Fm I Q o
theorem Zg{I:UP->Prop}(h:I Z):Sa I Q (.nx Z):=⟨h⟩
theorem Rk{I:UP->Prop}{d:D}(h:Q (.rt d)):Sa I Q (.rt d):=⟨h⟩
theorem ZO{f:M (List D)}{tg:D->UP->Option UP}{ds:List D}(I:Nat->UP->Prop)(h1:f Z=.ok ds Z1)(h0:I 0 Z1)
  (hst:∀i d Z,ds[i]?=some d->I i Z->∃Z2,tg d Z=some Z2/\Ho s Z2 (Sa (I (i+1)) Q)) (hend:∀Z,I ds.length Z->Q (.nx Z)):Ho (Kw f tg s) Z Q:=by
 constructor;unfold Kw sB;rw[h1];dsimp only
 refine LX (P:=I) (R:=Q) ds 0 Z1 h0 (λi d Z e p=>?_) (λZ p=>hend Z (by rw[Q3]at p;exact p));rw[Q3]at p;obtain⟨Z2,e2,q⟩:=hst i d Z e p;refine⟨Z2,e2,?_⟩;rw[Q3];have q:=q.out.out;cases z:s Z2 with
 |nx o=>rw[z]at q;exact .inl ⟨o,.inl rfl,q⟩
 |ct o=>rw[z]at q;exact .inl ⟨o,.inr rfl,q⟩
 |rt o=>rw[z]at q;exact .inr (.inl ⟨o,rfl,q⟩)
 |bk o=>rw[z]at q;exact .inr (.inr (.inl ⟨o,rfl,q⟩))
 |ex o x=>rw[z]at q;exact .inr (.inr (.inr (.inl ⟨o,x,rfl,q⟩)))
 |ro o=>rw[z]at q;exact .inr (.inr (.inr (.inr ⟨o,rfl,q⟩)))
 |bad=>rw[z]at q;exact q.elim
theorem Vl{N:List Str}{ds:List D}{P:D->Prop}(h0:Xj N ds=Z)(h:Ho s Z λo=>∃d,o=.rt d/\P d):∃d,Kb N s ds=some d/\P d:=by subst h0;obtain⟨d,e,p⟩:=h.out;refine⟨d,?_,p⟩;unfold Kb;rw[e]
theorem Zd{N:List Str}{ds:List D}{d:D}(h0:Xj N ds=Z)(h:Ho s Z λo=>o=.rt d):Kb N s ds=some d:=by obtain⟨d',e,p⟩:=Vl (P:=λx=>x=d) h0 (Mk h λo e=>⟨d,e,rfl⟩);rw[e,p]
end
section
variable{α β:Type}{Z Z1 Z2 Z3 Z':UP}{f g h:M D}
theorem Vk{l u:M (Option Int)}{x r:D}{a b:Option Int}(h1:f Z=.ok x Z1)(h2:l Z1=.ok a Z2)(h3:u Z2=.ok b Z3)(h4:YM x a b=some r):ZW f l u Z=.ok r Z3:=by unfold ZW;exact K5 h1 (K5 h2 (K5 h3 (Yv h4)))
theorem XU{f g:M Bool}{u:Bool}(h1:f Z=.ok false Z1)(h2:g Z1=.ok u Z2):mOr f g Z=.ok u Z2:=by unfold mOr;exact K5 h1 (by rw[Qs (by decide)];exact h2)
theorem P7{f g:M Bool}(h1:f Z=.ok false Z1):ZB f g Z=.ok false Z1:=by unfold ZB;exact K5 h1 rfl
theorem P6{f g:M Bool}{u:Bool}(h1:f Z=.ok true Z1)(h2:g Z1=.ok u Z2):ZB f g Z=.ok u Z2:=by unfold ZB;exact K5 h1 (by rw[Qk rfl];exact h2)
theorem Vt{c:String}{d:D}{t:Bool}(h:f Z=.ok d Z1)(ht:(!KP d c)=t):K0 (Z9 (U6 (λd=>.bool (KP d c)) f)) Z=.ok t Z1:=by subst ht;exact Xf (XJ (KS (k:=λd=>UC (KP d c)) h))
theorem ZH{x:D}{r:List D}(h1:f Z=.ok x Z1)(h2:P9 x=some r):K7 f Z=.ok r Z1:=by unfold K7;exact K5 h1 (Yv h2)
theorem Z6{p:D->D->Option β}{i:Nat}{d y:D}{r:β}(h:Z[i]?=some (some (.pub d)))(h1:g Z=.ok y Z1)(h2:p d y=some r):Zl p i g Z=.ok r Z1:=by unfold Zl;rw[h];exact K5 h1 (Yv h2)
theorem C6{p:D->D->Option β}{i:Nat}{ds es:List D}{y:D}{r:β}(h:Z[i]?=some (some (.own ds)))(h1:g Z=.ok y Z1)(h3:Z1[i]?=some (some (.own es)))(h2:p (.list es) y=some r):Zl p i g Z=.ok r Z1:=by unfold Zl;rw[h];exact K5 h1 (by rw[h3];exact Yv h2)
theorem YC{f:M (List D)}{k:Nat}{s:D->UP->Option UP}{t:M Bool}{ds es:List D}(h1:f Z=.ok ds Z1)(h2:Ze s t g ds (Kq Z1++UA k none) []=some es):ZG f k s t g Z=.ok es Z1:=by unfold ZG;rw[h1];dsimp only;rw[h2]
theorem Rn{s:D->UP->Option UP}{t:M Bool}(p:D->Bool)(q:D->D)(I:UP->Prop):∀(ds:List D)(Z:UP)(es:List D),(∀d∈ds,∀Z,I Z->∃Z1,s d Z=some Z1/\t Z1=.ok (p d) Z1/\(p d=true->g Z1=.ok (q d) Z1)/\I (Kq Z1))->I Z->es.length+ds.length<=1000000 ->
  Ze s t g ds Z es=some (es++(ds.filter p).map q)
 |[],Z,es,_,_,_=>by rw[Ze];simp
 |d::r,Z,es,st,h0,hz=>by
  obtain⟨Z1,e1,e2,e3,h1⟩:=st d Qo Z h0;have ih:=λes' hz'=>Rn p q I r (Kq Z1) es' (λd' hd=>st d' (Ql _ hd)) h1 hz';rw[Qv]at hz;rw[Ze,e1];dsimp only;rw[e2];dsimp only
  cases hp:p d with
  |true=>rw[Qk rfl,e3 hp];dsimp only;rw[Qk (by omega),ih _ (by rw[Qj,Q9];omega),List.filter_cons_of_pos hp,Qq,Jg];rfl
  |false=>rw[Qs (by decide),ih _ (by omega),List.filter_cons_of_neg (by rw[hp];decide)]
theorem R1{j:Nat}{d:D}{k:Int}{ds0 ds:List D}(h1:f Z=.ok d Z1)(h0:Z1[j]?=some (some (.own ds0)))(h2:g Z1=.ok (.int k) Z2)(h3:Z2[j]?=some (some (.own ds)))(h4:0<=k/\k<ds.length)(h5:Z2.set j (some (.own (ds.set k.toNat d)))=Z'):Vz j g f Z=.nx Z':=by unfold Vz sB;rw[h1];dsimp only;rw[h0];dsimp only;rw[h2];dsimp only;rw[h3];dsimp only;rw[if_pos h4];subst h5;rfl
theorem Vs{xs:List D}{a b:Option Int}:YM (.list xs) a b=some (.list (DL.cutD xs a b)):=rfl
theorem Yw{xs:List D}:P9 (.list xs)=some xs:=rfl
theorem j9(bs:List Bool):Vq (bs.map UC)=some bs:=by
 induction bs with
 |nil=>rfl
 |cons b r ih=>rw[Qq,Vq,ih];rfl
theorem D5{bs:List Bool}:YF [.list (bs.map UC)]=some (.bool (bs.all id)):=by unfold YF;dsimp only;rw[j9];rfl
end
section
variable{α β:Type}{Z Z1 Z2 Z3 Z4 Z':UP}{f g h:M D}{s:SM}
theorem Fz{g:M (List D)}{xs r:List D}(h1:g Z=.ok xs Z1)(h2:XX xs=some r):X2 g Z=.ok r Z1:=by unfold X2;exact K5 h1 (Yv h2)
theorem NI{l u t:M (Option Int)}{xs:List D}(h1:f Z=.ok (.list xs) Z1)(h2:l Z1=.ok none Z2)(h3:u Z2=.ok none Z3)(h4:t Z3=.ok (some (-1)) Z4):X3 f l u t Z=.ok (.list xs.reverse) Z4:=by unfold X3;exact K5 h1 (K5 h2 (K5 h3 (K5 h4 (Yv (by unfold Wz;exact Qk rfl)))))
theorem OC{i:Nat}{d:D}{ds:List D}(h:Z[i]?=some (some (.pub d)))(h2:Ve [d]=some ds):VJ i Z=.ok ds Z:=by unfold VJ;rw[h];exact Yv h2
theorem SX{N:List Str}{ds:List D}(h0:Xj N ds=Z)(h:Ho s Z λo=>∃Z',o=.nx Z'):Kb N s ds=some .none:=by subst h0;obtain⟨Z',e⟩:=h.out;unfold Kb;rw[e]
theorem RZ{i j:Int}:oNe (.int i) (.int j)=some (!decide (i=j)):=by unfold oNe;rw[if_pos ⟨rfl,rfl,by simp[UG]⟩];congr 1
theorem Lg{xs:List Int}{j:Nat}{v:Int}:(xs.map int).set j (.int v)=(xs.set j v).map int:=by rw[List.map_set]
theorem Rj{xs:List Int}{a b:Int}(ha:0<=a)(hb:0<=b)(hl:b<=xs.length):DL.cutD (xs.map int) (some a) (some b)=((xs.drop a.toNat).take (b.toNat-a.toNat)).map int:=by
 unfold DL.cutD HT.sIx;dsimp only;rw[Qs (by omega),Qs (by omega),Qb,List.map_take,List.map_drop];have e2:min b.toNat xs.length=b.toNat:=by omega
 rw[e2];by_cases hab:a.toNat<=xs.length
 ·have e1:min a.toNat xs.length=a.toNat:=by omega
  rw[e1]
 ·have e3:b.toNat-a.toNat=0:=by omega
  have e4:b.toNat-min a.toNat xs.length=0:=by omega
  rw[e3,e4,JV,JV]
end
section
variable{Z Z1:UP}
theorem C5{g:M (List D)}{xs r:List D}(h1:g Z=.ok xs Z1)(h2:So xs=some r):RP g Z=.ok r Z1:=by unfold RP;exact K5 h1 (Yv h2)
theorem AS{xs:List D}:So [.list xs]=some (Yj 1 xs):=rfl
end
section
variable{X:Cx}{B G0:Hp}{KX:XW}{e o a b c tg i:Uu}{pos p2:Pos}{es rest:List Uu}
def Xh(f:M Bool)(g:SM):Nat->SM
 |0,_=>.bad
 |n+1,Z=>match f Z with
  |.bad=>.bad
  |.ok t Z1=>if t=true then(match g Z1 with
   |.nx Z2=>Xh f g n Z2
   |.ct Z2=>Xh f g n Z2
   |.bk Z2=>.nx Z2
   |.rt d=>.rt d
   |.ro ds=>.ro ds
   |.ex Z2 d=>.ex Z2 d
   |.bad=>.bad)else .nx Z1
theorem C4{body:List Stmt}{f:M Bool}{g:SM}(n:Nat)(hp:PassesOwn (model X.prog X.w) X.A X.env X.xe)(hc:PT X c (tBo X.K B G0 f))(hb:PSs X body (tS X.K B G0 KX g)):PS X (.While c body [] pos) (tS X.K B G0 KX (Xh f g n)):=
 Zp (Am hp hc hb) λDn σ H ⟨G,Z,k,a⟩=>by
  refine⟨λm σ' H'=>∃G' Z',EOk X.K B G0 G' H' σ' Z'/\aftS X.K B G0 KX (Xh f g m Z') G' Dn,⟨n,G,Z,k,a⟩,?_⟩;rintro m σ' H' ⟨G',Z',k',a'⟩;cases m with
  |zero=>exact a'.elim
  |succ m=>
   rw[Xh]at a';refine⟨G',Z',k',?_⟩;cases z:f Z' with
   |bad=>rw[z]at a';exact a'.elim
   |ok t Z1=>
    rw[z]at a';dsimp only at a';intro v G1 H1 k1 s1 e1;subst e1;cases v with
    |false=>rw[Qs JG]at a'⊢;exact a' _ G1 H1 k1 s1
    |true=>
     rw[Qk rfl]at a'⊢;refine⟨λσ2 H2=>∃G2 Z2,EOk X.K B G0 G2 H2 σ2 Z2/\aftS X.K B G0 KX (Xh f g m Z2) G2 Dn,λσ2 H2 h2=>⟨m,Uc m,h2⟩,G1,Z1,k1,?_⟩;cases z2:g Z1 with
     |nx Z2=>rw[z2]at a';exact λσ4 G4 H4 k4 s4=>⟨G4,Z2,k4,aftS.mono (s1.trans s4) a'⟩
     |ct Z2=>rw[z2]at a';exact λσ4 G4 H4 k4 s4=>⟨G4,Z2,k4,aftS.mono (s1.trans s4) a'⟩
     |bk Z2=>rw[z2]at a';exact λσ4 G4 H4 k4 s4=>a' σ4 G4 H4 k4 (s1.trans s4)
     |rt d=>rw[z2]at a';exact a'
     |ro ds=>rw[z2]at a';exact a'
     |ex Z2 d=>rw[z2]at a';exact λv σ4 G4 H4 k4 s4 r4=>a' v σ4 G4 H4 k4 (s1.trans s4) r4
     |bad=>rw[z2]at a';exact a'.elim
def Xm(op:Int->Int->Option D)(j:Nat)(f:M D):SM:=λZ=>match Z[j]? with
 |some (some (.pub (.int a)))=>sB f (λy Z1=>match y with
  |.int b=>(match op a b with
   |some d=>if j<Z1.length then .nx (Z1.set j (some (.pub d)))else .bad
   |none=>.bad)
  |_=>.bad) Z
 |_=>.bad
def IpD(X:Cx)(op:Operator)(p:Int->Int->Option D):Prop:=∃ti,PIp X op ti/\∀i j d,p i j=some d->∃v:V,(∀G,Rep X.K G v d)/\∀H(Q:VK),Q v H->ti (.int i) (.int j) H Q
theorem D4:IpD X .Add (λi j=>some (.int (i+j))):=⟨_,De,λi j d e=>by cases e;exact⟨_,λ_=>.int _,λH Q q=>⟨i,j,rfl,rfl,q⟩⟩⟩
theorem D3:IpD X .Mult Yq:=⟨_,CC,λi j d e=>by
 unfold Yq at e;split at e
 ·rename_i h;cases e;exact⟨_,λ_=>.int _,λH Q q=>⟨i,j,rfl,rfl,h,q⟩⟩
 ·cases e⟩
theorem Fy{j:Nat}{x:Str}{op:Operator}{p:Int->Int->Option D}{f:M D}{pos':Pos}(hN:X.N.Nodup)(hi:X.N[j]?=some x)(hx:Loc X.env.scope x)(ho:IpD X op p)(he:PE X e (tD X.K B G0 f))(hf:X.fn x=true∨X.env.scope.names.lookup x=some .local:=by first|exact .inl rfl|exact .inr rfl|assumption) :
  PS X (.AugAssign (.Name x pos') op e pos) (tS X.K B G0 KX (Xm p j f)):=by
 obtain⟨ti,hti,hp⟩:=ho;refine Zp (Et hN hi hx he hti hf) λDn σ H ⟨G,Z,k,a⟩=>?_;unfold Xm at a
 cases q:Z[j]? with
 |none=>rw[q]at a;exact a.elim
 |some o0=>
  cases o0 with
  |none=>rw[q]at a;exact a.elim
  |some sl=>
   cases sl with
   |deep _ _=>rw[q]at a;exact a.elim
   |own ds=>rw[q]at a;exact a.elim
   |pub d0=>
    rw[q]at a;cases d0 with
    |int i0=>
     dsimp only at a;obtain⟨v,h1,h2⟩:=k.pub j _ q;cases h2.int_inv;refine⟨.int i0,h1,G,Z,k,?_⟩;unfold sB at a;cases z:f Z with
     |bad=>rw[z]at a;exact a.elim
     |ok y Z1=>
      rw[z]at a;dsimp only at a;intro u G1 H1 k1 s1 r1;cases y with
      |int i1=>
       cases r1.int_inv;dsimp only at a;cases w:p i0 i1 with
       |none=>rw[w]at a;exact a.elim
       |some d=>
        rw[w]at a;dsimp only at a;split at a
        ·rename_i hl;obtain⟨v',rv,hq⟩:=hp i0 i1 d w;exact hq H1 _ (a _ G1 H1 (k1.setPub (rv G1) hl) s1)
        ·exact a.elim
      |_=>exact a.elim
    |_=>exact a.elim
theorem C3:PGet X (λo i H Q=>∃p xs k v,o=.ref p/\i=.int k/\H p=some (.lst xs)/\atI xs k=some v/\Q v H):=by
 intro pins s σ H x y v u Q I rx ry h;obtain⟨p,xs,k,z,rfl,rfl,hp,he,q⟩:=h;cases rx;obtain⟨t,rfl⟩:=ry;obtain⟨its,n,r,ho,hz⟩:=I.lst hp;obtain⟨j,h1,h2,h3,h4,h5⟩:=R6 he;have hl:=r.length;have hn:=VM;obtain⟨w,ew,rw'⟩:=r.get h2;have fin:EP X pins σ Q w s:=⟨z,H,I,rw',q⟩;have il:s.heap.IsList p its.toArray:=⟨_,ho,rfl,⟨_,rfl⟩⟩
 by_cases h0:0<=k
 ·have hj:k.toNat=j:=by
   rw[seqIndex_of h0 h5]at h1;exact QP h1
  exact wpAny_getItem_list il h0 (by omega) (by rw[hj];simpa using ew) fin
 ·have hj:(k+(its.toArray.size:Int)).toNat=j:=by
   rw[seqIndex_neg (by omega) h4]at h1;rw[QI,←hl];exact QP h1
  exact wpAny_getItem_list_neg il (by omega) (by rw[List.size_toArray,←hl];exact h4) (by omega) (by rw[hj];simpa using ew) fin
def We(Z:UP)(j:Nat):Option (List D):=match Z[j]? with
 |some (some (.own ds))=>some ds
 |_=>none
theorem Po{Z:UP}{j:Nat}{ds:List D}(h:We Z j=some ds):Z[j]?=some (some (.own ds)):=by
 unfold We at h;split at h
 ·rename_i es e;cases h;exact e
 ·cases h
theorem OB{Z:UP}{j:Nat}{ds:List D}(h:Z[j]?=some (some (.own ds))):We Z j=some ds:=by unfold We;rw[h]
def Vd(op:Int->Int->Option D)(j:Nat)(g f:M D):SM:=λZ=>match We Z j with
 |none=>.bad
 |some _=>sB g (λy Z1=>match y with
  |.int k=>(match (We Z1 j).bind (atI · k)with
   |some (.int a)=>sB f (λy2 Z2=>match y2 with
    |.int b=>(match op a b,We Z2 j with
     |some d,some es=>(match ixN es.length k with
      |some n=>.nx (Z2.set j (some (.own (es.set n d))))
      |none=>.bad)
     |_,_=>.bad)
    |_=>.bad) Z1
   |_=>.bad)
  |_=>.bad) Z
theorem D2{j:Nat}{op:Operator}{p:Int->Int->Option D}{f g:M D}{tpos:Pos}(ho:PE X o (Zi j))(hi:PE X i (tD X.K B G0 g))(hp:IpD X op p)(he:PE X e (tD X.K B G0 f))
  (ha:∀ov iv new,augStore i ov iv new=(do holding [new,ov,iv] (setItem ov iv new);release [new,ov,iv] [];pure .next):=by intros;rfl):PS X (.AugAssign (.Subscript o i tpos) op e pos) (tS X.K B G0 KX (Vd p j g f)):=by
 obtain⟨ti,hti,hp⟩:=hp;refine Zp (CD ho hi C3 he hti Ag ha) λDn σ H ⟨G,Z,k,a⟩=>?_;unfold Vd at a
 cases q0:We Z j with
 |none=>rw[q0]at a;exact a.elim
 |some ds0=>
 rw[q0]at a;dsimp only at a;obtain⟨ad,vs0,h1,h2,h3,h4,h5⟩:=k.own j ds0 (Po q0);refine⟨.ref ad,h1,G,Z,k,?_⟩;unfold sB at a;cases z:g Z with
 |bad=>rw[z]at a;exact a.elim
 |ok y Z1=>
 rw[z]at a;dsimp only at a;intro kv G1 H1 k1 s1 r1;cases y with
 |int n=>
  cases r1.int_inv;dsimp only at a;cases q1:We Z1 j with
  |none=>rw[q1]at a;exact a.elim
  |some ds1=>
  rw[q1]at a;dsimp only[Option.bind_some]at a;cases q2:atI ds1 n with
  |none=>rw[q2]at a;exact a.elim
  |some d1=>
  rw[q2]at a;obtain⟨ad1,vs1,g1,g2,g3,g4,g5⟩:=k1.own j ds1 (Po q1);rw[h1]at g1;cases g1;obtain⟨v1,e1,rv1⟩:=g5.atI q2;cases d1 with
  |int i0=>
   cases rv1.int_inv;dsimp only at a;refine⟨ad,vs1,n,.int i0,rfl,rfl,g4,e1,G1,Z1,k1,?_⟩;cases z2:f Z1 with
   |bad=>rw[z2]at a;exact a.elim
   |ok y2 Z2=>
   rw[z2]at a;dsimp only at a;intro u G2 H2 k2 s2 r2;cases y2 with
   |int i1=>
    cases r2.int_inv;dsimp only at a;cases w:p i0 i1 with
    |none=>rw[w]at a;exact a.elim
    |some d=>
    cases q3:We Z2 j with
    |none=>rw[w,q3]at a;exact a.elim
    |some es=>
    rw[w,q3]at a;dsimp only at a;obtain⟨ad2,vs2,f1,f2,f3,f4,f5⟩:=k2.own j es (Po q3);rw[h1]at f1;cases f1;cases q4:ixN es.length n with
    |none=>rw[q4]at a;exact a.elim
    |some m=>
    rw[q4]at a;dsimp only at a;obtain⟨v',rv,hq⟩:=hp i0 i1 d w;refine hq H2 _ ⟨ad,vs2,n,m,rfl,rfl,f4,by rw[f5.length];exact q4,?_⟩;exact a σ G2 _ (k2.change (Po q3) h1 (f5.set (rv G2) m)) (s1.trans s2)
   |_=>exact a.elim
  |_=>exact a.elim
 |_=>exact a.elim
end
section
variable{X:Cx}{B G0:Hp}{e o a b c tg i:Uu}{pos p2:Pos}{es rest:List Uu}
theorem AR:MtR X "list.index" (λv vs H Q=>∃l k,∃ns:List Int,v=.ref l/\vs=[.int k]/\SqL X.K H l (ns.map V.int)/\PyData.layable0 (.list (ns.map .int))=true/\k∈ns/\Q (.int (ns.idxOf k:Nat)) H):=by intro pins s σ H x vs v us Q I rx rv h;obtain⟨l,k,ns,rfl,rfl,hq,hl,hk,q⟩:=h;cases rx;obtain⟨u,rfl,ru⟩:=rv.one;obtain⟨t,rfl⟩:=ru;obtain⟨its,rv,p,hz⟩:=I.list hq;exact index_list_ints p.isList (Vv rv) hl hk ⟨.int _,H,I.tok _,⟨_,rfl⟩,q⟩
def Sy(y:D)(xs:List D):Option D:=match y,xs with
 |.list ds,[.int k]=>(match Yh ds with
  |some ns=>if PyData.layable0 (.list (ns.map .int))=true/\k∈ns then some (.int (ns.idxOf k:Nat))else none
  |none=>none)
 |_,_=>none
theorem j8{ds xs:List D}{d:D}(h:Sy (.list ds) xs=some d):∃k ns,xs=[.int k]/\Yh ds=some ns/\PyData.layable0 (.list (ns.map .int))=true/\k∈ns/\d=.int (ns.idxOf k:Nat):=by
 unfold Sy at h;split at h
 ·rename_i ds' k e1;cases e1;cases z:Yh ds with
  |none=>rw[z]at h;cases h
  |some ns=>
   rw[z]at h;dsimp only at h;split at h
   ·rename_i c;cases h;exact⟨k,ns,rfl,rfl,c.1,c.2,rfl⟩
   ·cases h
 ·cases h
def RN(f:M D)(g:M (List D)):M D:=Kc f λy=>Kc g λxs=>Ke (match y with | .list ds=>Sy (.list ds) xs|_=>none)
theorem AQ{apos cpos:Pos}{f:M D}{g:M (List D)}(ho:PE X o (tD X.K B G0 f))(ha:PA X (e::es) (tDs X.K B G0 g))
  (hbase:attributeBase o "index" X.env (eval o X.env)=eval o X.env:=by rfl)
  (hfew:((backTo cpos (Ux (e::es) X.env)).all (λx=>!x.1)&&(backToKw cpos (keywordEach [] X.env)).all (λx=>x.1.isSome)
   && decide ((e::es).length+([]:List Keyword).length+(if([]:List Keyword).isEmpty then 0 else 1)<30))=true:=by rfl)
  (hline:(apos.endLine==cpos.line)=true:=by rfl) (hs:Ux (e::es) X.env=(false,eval e X.env)::Ux es X.env:=by rfl) (hplain:(backTo cpos (Ux es X.env)).any (·.1)=false:=by rfl) :
  PE X (.Call (.Attribute o "index" apos) (e::es) [] cpos) (tD X.K B G0 (RN f g)):=
 Kt (PF F.plainAttrs_list F.slot_list_index F.type_list_index AR ho ha hbase hfew hline hs hplain) λσ H Q q=>by
  refine tM.one (R:=Rep X.K) q λv H2 G Z y k r a=>?_
  cases y with
  |list ds=>
   obtain⟨l,ws,rfl,h1,r1⟩:=r.lst_inv;refine⟨.inl ⟨rfl,ws,k.gh.seq h1⟩,?_⟩;refine tM.nx (R:=Reps X.K) k a λxs H3 G3 Z3 es k3 s3 r3 a3=>?_
   obtain⟨d,e,a3⟩:=a3.opt;obtain⟨x,ns,rfl,z,hl,hk,rfl⟩:=j8 e;obtain⟨u,rfl,ru⟩:=r3.one_inv;have:=VX r1 z;subst this;exact⟨l,x,ns,rfl,by rw[ru.int_inv],k3.gh.seq (s3.seq h1),hl,hk,aft.now a3 k3 (.int _)⟩
  |_=>
   unfold Kc at a;cases z:g Z with
   |bad=>rw[z]at a;exact a.elim
   |ok xs Z1=>rw[z]at a;exact a.elim
theorem C0{f:M D}{g:M (List D)}{Z Z1 Z2:UP}{ds:List D}{x d:D}(h1:f Z=.ok (.list ds) Z1)(h2:g Z1=.ok [x] Z2)(h3:Sy (.list ds) [x]=some d):RN f g Z=.ok d Z2:=by unfold RN Kc;rw[h1];dsimp only;rw[h2];dsimp only;rw[h3];rfl
end
end DL
namespace DL
open PySem PySem.Spec PySem.W PyProof.Rows
def Kj{α:Type}(lt:Nat->Nat->Bool):KasT α->α
 |.ret a=>a
 |.ask i j k=>Kj lt (k (lt i j))
theorem SA{α β:Type}{lt:Nat->Nat->Bool}{f:α->KasT β}:∀t:KasT α,Kj lt (t.bind f)=Kj lt (f (Kj lt t))
 |.ret _=>rfl
 |.ask i j k=>by show Kj lt ((k (lt i j)).bind f)=_;rw[SA];rfl
section
variable{key:Nat->Int}{p:Array Nat}
def KA(key:Nat->Int)(p:Array Nat)(i:Nat):Int:=key (p.getD i 0)
def srt(key:Nat->Int)(p:Array Nat)(m:Nat):Prop:=∀i j,i<=j->j<m->KA key p i<=KA key p j
def dsc(key:Nat->Int)(p:Array Nat)(m:Nat):Prop:=∀i j,i<=j->j<m->KA key p j<=KA key p i
abbrev kl(key:Nat->Int)(i j:Nat):Bool:=decide (key i<key j)
theorem LW{k d i:Nat}(hk:k<p.size)(hd:d<=k):KA key (bubble p k d) i=if i=k-d then KA key p k else if k-d<i/\i<=k then KA key p (i-1)else KA key p i:=by
 unfold KA;simp only[Ji];rw[getElem?_bubble hk d hd]
 repeat' split
 all_goals rfl
theorem SW{i j k:Nat}(hj:j<=p.size):KA key (kas_rev p i j) k=if i<=k/\k<j then KA key p (i+j-1-k)else KA key p k:=by
 unfold KA kas_rev;simp only[Ji];rw[getElem?_mirror_all hj]
 split<;>rfl
theorem VO{i j:Nat}:(kas_rev p i j).size=p.size:=mirror_size _ _ _ _
theorem Wt{i j:Nat}:(kas_rev p i j).Perm p:=mirror_perm _ _ _ _
theorem OA:∀(f n:Nat),1<=n->srt key p n->srt key p (Kj (kl key) (kas_asc p f n))/\n<=Kj (kl key) (kas_asc p f n)/\Kj (kl key) (kas_asc p f n)<=n+f /\
  (Kj (kl key) (kas_asc p f n)<n+f->KA key p (Kj (kl key) (kas_asc p f n))<KA key p (Kj (kl key) (kas_asc p f n)-1))
 |0,n,h1,hs=>⟨hs,Qx _,Qx _,λh=>absurd h (Jt _)⟩
 |f+1,n,h1,hs=>by
  unfold kas_asc Kj;cases c:kl key (p.getD n 0) (p.getD (n-1) 0)with
  |true=>dsimp only;rw[Qk rfl];exact⟨hs,Qx _,by show n<=n+(f+1);omega,λ_=>Qa c⟩
  |false=>
   dsimp only;rw[Qs (by decide)];have hle:KA key p (n-1)<=KA key p n:=Uo.mp (Jh c)
   obtain⟨a1,a2,a3,a4⟩:=OA f (n+1) (by omega) (λi j hij hj=>by
    by_cases hjn:j=n
    ·subst hjn;by_cases hin:i=j
     ·subst hin;exact QX _
     ·exact JS (hs i (j-1) (by omega) (by omega)) hle
    ·exact hs i j hij (by omega))
   exact⟨a1,by omega,by omega,λh=>a4 (by omega)⟩
def eqs(key:Nat->Int)(p:Array Nat)(n q:Nat):Prop:=∀i,n-1-q<=i->i<n->KA key p i=KA key p (n-1)
theorem Pn:∀(f:Nat)(p:Array Nat)(n q:Nat),1<=n->q+1<=n->n+f<=p.size->dsc key p n->eqs key p n q ->
  let r:=Kj (kl key) (kas_desc f p n q)
  r.1.Perm p/\r.1.size=p.size/\dsc key r.1 r.2.1/\eqs key r.1 r.2.1 r.2.2/\r.2.2+1<=r.2.1/\n<=r.2.1/\r.2.1<=n+f
 |0,p,n,q,h1,hq,hz,hd,he=>⟨Uh _,rfl,hd,he,hq,Qx _,Qx _⟩
 |f+1,p,n,q,h1,hq,hz,hd,he=>by
  intro r;have hr:r=Kj (kl key) (kas_desc (f+1) p n q):=rfl;unfold kas_desc Kj at hr;cases c:kl key (p.getD n 0) (p.getD (n-1) 0)with
  |true=>
   rw[c]at hr;(try dsimp only at hr);rw[if_pos rfl]at hr;have hlt:KA key p n<KA key p (n-1):=Qa c
   have ext:∀p':Array Nat,(∀i,KA key p' i=KA key p i)->dsc key p' (n+1)/\eqs key p' (n+1) 0:=λp' hp=>⟨λi j hij hj=>by
     rw[hp,hp];by_cases hjn:j=n
     ·subst hjn;by_cases hin:i=j
      ·subst hin;exact QX _
      ·exact JS (Int.le_of_lt hlt) (hd i (j-1) (by omega) (by omega))
     ·exact hd i j hij (by omega),λi hi1 hi2=>by
     have:i=n:=by omega
     subst this;rfl⟩
   by_cases hq0:q > 0
   ·rw[Qk hq0]at hr
    have same:∀i,KA key (kas_rev p (n-(q+1)) n) i=KA key p i:=λi=>by
     rw[SW (by omega)];split
     ·rw[he _ (by omega) (by omega),he i (by omega) (by omega)]
     ·rfl
    obtain⟨d1,e1⟩:=ext _ same;obtain⟨a1,a2,a3,a4,a5,a6,a7⟩:=Pn f (kas_rev p (n-(q+1)) n) (n+1) 0 (by omega) (by omega) (by rw[VO];omega) d1 e1;rw[←hr]at a1 a2 a3 a4 a5 a6 a7;exact⟨a1.trans Wt,a2.trans VO,a3,a4,a5,by omega,by omega⟩
   ·rw[Qs hq0]at hr;obtain⟨d1,e1⟩:=ext p λ_=>rfl
    obtain⟨a1,a2,a3,a4,a5,a6,a7⟩:=Pn f p (n+1) 0 (by omega) (by omega) (by omega) d1 e1;rw[←hr]at a1 a2 a3 a4 a5 a6 a7;exact⟨a1,a2,a3,a4,a5,by omega,by omega⟩
  |false=>
   rw[c]at hr;(try dsimp only at hr);rw[if_neg (by decide)]at hr;unfold Kj at hr;have hle:KA key p (n-1)<=KA key p n:=Uo.mp (Jh c);cases d:kl key (p.getD (n-1) 0) (p.getD n 0)with
   |true=>rw[d]at hr;(try dsimp only at hr);rw[if_pos rfl]at hr;unfold Kj at hr;rw[hr];exact⟨Uh _,rfl,hd,he,hq,Qx _,by show n<=n+(f+1);omega⟩
   |false=>
    rw[d]at hr;(try dsimp only at hr);rw[if_neg (by decide)]at hr;have hge:KA key p n<=KA key p (n-1):=Uo.mp (Jh d)
    obtain⟨a1,a2,a3,a4,a5,a6,a7⟩:=Pn f p (n+1) (q+1) (by omega) (by omega) (by omega) (λi j hij hj=>by
     by_cases hjn:j=n
     ·subst hjn;by_cases hin:i=j
      ·subst hin;exact QX _
      ·exact JS hge (hd i (j-1) (by omega) (by omega))
     ·exact hd i j hij (by omega)) (λi hi1 hi2=>by
     have e0:KA key p n=KA key p (n-1):=J7 hge hle;show KA key p i=KA key p (n+1-1);rw[Nat.add_sub_cancel,e0];by_cases hin:i=n
     ·subst hin;exact e0
     ·exact he i (by omega) (by omega))
    rw[←hr]at a1 a2 a3 a4 a5 a6 a7;exact⟨a1,a2,a3,a4,a5,by omega,by omega⟩
theorem Gi{n nrem:Nat}(h1:1<=n)(hn:n<=nrem)(hz:nrem<=p.size)(hd:dsc key p n) :
  let r:=Kj (kl key) (kas_tail3 n nrem p)
  r.2.Perm p/\r.2.size=p.size/\srt key r.2 r.1/\1<=r.1/\r.1<=nrem:=by
 intro r;have hr:r=Kj (kl key) (kas_tail3 n nrem p):=rfl;unfold kas_tail3 at hr;rw[SA]at hr;have hs:srt key (kas_rev p 0 n) n:=λi j hij hj=>by rw[SW (by omega),SW (by omega),Qk (by omega),Qk (by omega)];exact hd _ _ (by omega) (by omega)
 obtain⟨a1,a2,a3,_⟩:=OA (key:=key) (p:=kas_rev p 0 n) (nrem-n) n h1 hs;rw[hr];exact⟨Wt,VO,a1,by show 1<=Kj _ _;omega,by show Kj _ _<=_;omega⟩
theorem Gm{n nrem:Nat}(h1:1<=n)(hn:n+1<=nrem)(hz:nrem<=p.size)(hd:dsc key p (n+1)) :
  let r:=Kj (kl key) (kas_descPart n nrem p)
  r.2.Perm p/\r.2.size=p.size/\srt key r.2 r.1/\1<=r.1/\r.1<=nrem:=by
 intro r;have hr:r=Kj (kl key) (kas_descPart n nrem p):=rfl;unfold kas_descPart at hr;rw[SA]at hr
 obtain⟨a1,a2,a3,a4,a5,a6,a7⟩:=Pn (key:=key) (nrem-(n+1)) p (n+1) 0 (by omega) (by omega) (by omega) hd (λi hi1 hi2=>by
  have:i=n:=by omega
  subst this;rfl)
 generalize Kj (kl key) (kas_desc (nrem-(n+1)) p (n+1) 0)=d at hr a1 a2 a3 a4 a5 a6 a7;obtain⟨p1,n1,q1⟩:=d;dsimp only at hr a1 a2 a3 a4 a5 a6 a7;by_cases hq:q1 > 0
 ·rw[Qk hq]at hr
  have same:∀i,KA key (kas_rev p1 (n1-(q1+1)) n1) i=KA key p1 i:=λi=>by
   rw[SW (by omega)];split
   ·rw[a4 _ (by omega) (by omega),a4 i (by omega) (by omega)]
   ·rfl
  obtain⟨b1,b2,b3,b4,b5⟩:=Gi (key:=key) (p:=kas_rev p1 (n1-(q1+1)) n1) (n:=n1) (nrem:=nrem) (by omega) (by omega) (by rw[VO];omega) (λi j hij hj=>by rw[same,same];exact a3 i j hij hj);rw[hr];exact⟨(b1.trans Wt).trans a1,(b2.trans VO).trans a2,b3,b4,b5⟩
 ·rw[Qs hq]at hr;obtain⟨b1,b2,b3,b4,b5⟩:=Gi (key:=key) (p:=p1) (n:=n1) (nrem:=nrem) (by omega) (by omega) (by omega) a3;rw[hr];exact⟨b1.trans a1,b2.trans a2,b3,b4,b5⟩
theorem qL{nrem:Nat}(h1:1<=nrem)(hz:nrem<=p.size) :
  let r:=Kj (kl key) (kas_count nrem p)
  r.2.Perm p/\r.2.size=p.size/\srt key r.2 r.1/\1<=r.1/\r.1<=nrem:=by
 intro r;have hr:r=Kj (kl key) (kas_count nrem p):=rfl;unfold kas_count at hr;rw[SA]at hr
 obtain⟨a1,a2,a3,a4⟩:=OA (key:=key) (p:=p) (nrem-1) 1 (Qx _) (λi j hij hj=>by
  have:i=j:=by omega
  subst this;exact QX _)
 generalize Kj (kl key) (kas_asc p (nrem-1) 1)=n at hr a1 a2 a3 a4;by_cases hn:(n==nrem)=true
 ·rw[Qk hn]at hr;unfold Kj at hr;rw[hr];exact⟨Uh _,rfl,a1,a2,by show n<=nrem;omega⟩
 ·rw[Qs hn]at hr;have hne:n≠nrem:=by simpa using hn
  have hlt:=a4 (by omega);by_cases hn1:n > 1
  ·rw[Qk hn1]at hr;unfold Kj at hr;cases c:kl key (p.getD 0 0) (p.getD (n-1) 0)with
   |true=>rw[c]at hr;(try dsimp only at hr);rw[if_pos rfl]at hr;unfold Kj at hr;rw[hr];exact⟨Uh _,rfl,a1,a2,by show n<=nrem;omega⟩
   |false=>
    rw[c]at hr;(try dsimp only at hr);rw[if_neg (by decide)]at hr;have hge:KA key p (n-1)<=KA key p 0:=Uo.mp (Jh c);have all:∀i,i<n->KA key p i=KA key p 0:=λi hi=>J7 (JS (a1 i (n-1) (by omega) (by omega)) hge) (a1 0 i (by omega) hi)
    have same:∀i,KA key (kas_rev p 0 n) i=KA key p i:=λi=>by
     rw[SW (by omega)];split
     ·rw[all _ (by omega),all i (by omega)]
     ·rfl
    obtain⟨b1,b2,b3,b4,b5⟩:=Gm (key:=key) (p:=kas_rev p 0 n) (n:=n) (nrem:=nrem) a2 (by omega) (by rw[VO];exact hz) (λi j hij hj=>by
     rw[same,same];by_cases hjn:j=n
     ·subst hjn;by_cases hin:i=j
      ·subst hin;exact QX _
      ·rw[all i (by omega)];rw[all (j-1) (by omega)]at hlt;exact Int.le_of_lt hlt
     ·rw[all i (by omega),all j (by omega)];exact QX _)
    rw[hr];exact⟨b1.trans Wt,b2.trans VO,b3,b4,b5⟩
  ·rw[Qs hn1]at hr;have:n=1:=by omega
   subst this
   obtain⟨b1,b2,b3,b4,b5⟩:=Gm (key:=key) (p:=p) (n:=1) (nrem:=nrem) (Qx _) (by omega) hz (λi j hij hj=>by
    by_cases hij2:i=j
    ·subst hij2;exact QX _
    ·have h0:i=0:=by omega
     have h1:j=1:=by omega
     subst h0;subst h1;exact Int.le_of_lt hlt)
   rw[hr];exact⟨b1,b2,b3,b4,b5⟩
theorem Nd{k:Nat}(hs:srt key p k):∀(f l r:Nat),l<=r->r<=k->r-l<=f->(∀i,i<l->KA key p i<=KA key p k)->(∀i,r<=i->i<k->KA key p k<KA key p i) ->
  let m:=Kj (kl key) (kas_place p k f l r)
  m<=k/\(∀i,i<m->KA key p i<=KA key p k)/\(∀i,m<=i->i<k->KA key p k<KA key p i)
 |0,l,r,hlr,hrk,hf,h1,h2=>⟨by show l<=k;omega,h1,λi (hi:l<=i)=>h2 i (by omega)⟩
 |f+1,l,r,hlr,hrk,hf,h1,h2=>by
  intro m;have hm:m=Kj (kl key) (kas_place p k (f+1) l r):=rfl;unfold kas_place at hm;by_cases hge:l ≥ r
  ·rw[Qk hge]at hm;unfold Kj at hm;rw[hm];exact⟨by omega,h1,λi hi=>h2 i (by omega)⟩
  ·rw[Qs hge]at hm;unfold Kj at hm;cases c:kl key (p.getD k 0) (p.getD ((l+r) / 2) 0)with
   |true=>rw[c]at hm;(try dsimp only at hm);rw[if_pos rfl]at hm;rw[hm];have hlt:KA key p k<KA key p ((l+r) / 2):=Qa c;exact Nd hs f l ((l+r) / 2) (by omega) (by omega) (by omega) h1 λi hi hik=>Int.lt_of_lt_of_le hlt (hs _ _ hi hik)
   |false=>rw[c]at hm;(try dsimp only at hm);rw[if_neg (by decide)]at hm;rw[hm];have hle:KA key p ((l+r) / 2)<=KA key p k:=Uo.mp (Jh c);exact Nd hs f ((l+r) / 2+1) r (by omega) hrk (by omega) (λi hi=>JS (hs i ((l+r) / 2) (by omega) (by omega)) hle) h2
theorem Lf:∀(f:Nat)(p:Array Nat)(k:Nat),k+f<=p.size->srt key p k->let r:=Kj (kl key) (kas_bin f p k);r.Perm p/\r.size=p.size/\srt key r (k+f)
 |0,p,k,_,hs=>⟨Uh _,rfl,hs⟩
 |f+1,p,k,hz,hs=>by
  intro r;have hr:r=Kj (kl key) (kas_bin (f+1) p k):=rfl;unfold kas_bin at hr;rw[SA]at hr;obtain⟨a1,a2,a3⟩:=Nd (key:=key) hs k 0 k (Jw _) (Qx _) (by omega) (λi hi=>by omega) (λi h1 h2=>by omega);generalize Kj (kl key) (kas_place p k k 0 k)=l at hr a1 a2 a3;have hk:k<p.size:=by omega
  obtain⟨b1,b2,b3⟩:=Lf f (bubble p k (k-l)) (k+1) (by rw[bubble_size];omega) (λi j hij hj=>by
   rw[LW hk (by omega),LW hk (by omega),show k-(k-l)=l by omega];by_cases hi:i=l
   ·rw[Qk hi];by_cases hjl:j=l
    ·rw[Qk hjl];exact QX _
    ·rw[Qs hjl,Qk (by omega)];exact Int.le_of_lt (a3 (j-1) (by omega) (by omega))
   ·rw[Qs hi];by_cases hi2:l<i/\i<=k
    ·rw[Qk hi2,Qs (show ¬j=l by omega),Qk (by omega)];exact hs _ _ (by omega) (by omega)
    ·rw[Qs hi2];by_cases hjl:j=l
     ·rw[Qk hjl];exact a2 i (by omega)
     ·rw[Qs hjl];split
      ·exact hs _ _ (by omega) (by omega)
      ·exact hs _ _ (by omega) (by omega))
  rw[hr];exact⟨b1.trans (bubble_perm _ _ _),b2.trans (bubble_size _ _ _),by rw[show k+(f+1)=k+1+f by omega];exact b3⟩
theorem AO{n:Nat}(h1:1<=n):let r:=Kj (kl key) (kas_sort n);r.Perm (List.toArray (Uz n))/\r.size=n/\srt key r n:=by
 intro r;have hr:r=Kj (kl key) (kas_sort n):=rfl;unfold kas_sort at hr;rw[SA]at hr;have hsz:(List.toArray (Uz n)).size=n:=by simp
 obtain⟨a1,a2,a3,a4,a5⟩:=qL (key:=key) (p:=List.toArray (Uz n)) (nrem:=n) h1 (by rw[hsz];exact Qx _);generalize Kj (kl key) (kas_count n (List.toArray (Uz n)))=d at hr a1 a2 a3 a4 a5;by_cases hlt:d.1<n
 ·rw[Qk hlt]at hr;have hmax:max d.1 1=d.1:=by omega
  rw[hmax]at hr;obtain⟨b1,b2,b3⟩:=Lf (key:=key) (n-d.1) d.2 d.1 (by omega) a3;rw[hr];exact⟨b1.trans a1,by omega,by rw[show d.1+(n-d.1)=n by omega]at b3;exact b3⟩
 ·rw[Qs hlt]at hr;unfold Kj at hr;rw[hr];exact⟨a1,by omega,by rw[show d.1=n by omega]at a3;exact a3⟩
def Asks{α:Type}(N:Nat)(R:α->Prop):KasT α->Prop
 |.ret a=>R a
 |.ask i j k=>i<N/\j<N/\∀b,Asks N R (k b)
theorem Asks.bind{α β:Type}{N:Nat}{R:α->Prop}{S:β->Prop}{f:α->KasT β}(hf:∀a,R a->Asks N S (f a)):∀{t:KasT α},Asks N R t->Asks N S (t.bind f)
 |.ret a,h=>hf a h
 |.ask _ _ k,⟨h1,h2,h3⟩=>⟨h1,h2,λb=>Asks.bind hf (h3 b)⟩
theorem Le{α:Type}{lt:Nat->Nat->Bool}{cmp:Nat->Nat->(Bool->Uq->Prop)->Uq->Prop}{s:Uq}{N:Nat}{R:α->Prop}(hc:∀i j C,i<N->j<N->C (lt i j) s->cmp i j C s):∀(t:KasT α)(Q:α->Uq->Prop),Asks N R t->Q (Kj lt t) s->t.kasWp cmp Q s
 |.ret _,_,_,h=>h
 |.ask i j k,Q,⟨h1,h2,h3⟩,h=>hc i j _ h1 h2 (Le hc (k (lt i j)) Q (h3 _) h)
def bnd(N:Nat)(p:Array Nat):Prop:=∀i,p.getD i 0<N
theorem SF{N:Nat}{p q:Array Nat}(hN:0<N)(h:bnd N p)(e:q.Perm p):bnd N q:=λi=>by
 rw[Ji];cases z:q[i]? with
 |none=>exact hN
 |some v=>have hm:v∈q:=Array.mem_of_getElem? z;have hm2:v∈p:=e.mem_iff.mp hm;obtain⟨j,hj,e2⟩:=Array.mem_iff_getElem.mp hm2;have:=h j;rw[Ji,JP hj,e2]at this;exact this
section
variable{N:Nat}(hN:0<N)
include hN
theorem Oz{p:Array Nat}(h:bnd N p):∀(f n:Nat),Asks N (λ_=>True) (kas_asc p f n)
 |0,_=>trivial
 |f+1,n=>⟨h _,h _,λb=>by
  cases b with
  |true=>(try dsimp only);rw[if_pos rfl];trivial
  |false=>(try dsimp only);rw[if_neg (by decide)];exact Oz h f (n+1)⟩
theorem Pm:∀(f:Nat)(p:Array Nat)(n q:Nat),bnd N p->Asks N (λr=>bnd N r.1) (kas_desc f p n q)
 |0,p,_,_,h=>h
 |f+1,p,n,q,h=>⟨h _,h _,λb=>by
  cases b with
  |true=>
   dsimp only;rw[Qk rfl];split
   ·exact Pm f _ _ _ (SF hN h Wt)
   ·exact Pm f _ _ _ h
  |false=>
   dsimp only;rw[Qs (by decide)];refine⟨h _,h _,λb=>?_⟩;cases b with
   |true=>(try dsimp only);rw[if_pos rfl];exact h
   |false=>(try dsimp only);rw[if_neg (by decide)];exact Pm f _ _ _ h⟩
theorem Gh{p:Array Nat}{n nrem:Nat}(h:bnd N p):Asks N (λr=>bnd N r.2) (kas_tail3 n nrem p):=
 Asks.bind (N:=N) (R:=λ_=>True) (S:=λr:Nat×Array Nat=>bnd N r.2) (f:=λm=>.ret (m,kas_rev p 0 n)) (λ_ _=>SF (p:=p) (q:=kas_rev p 0 n) hN h Wt) (Oz hN (SF hN h Wt) _ _)
theorem Gk{p:Array Nat}{n nrem:Nat}(h:bnd N p):Asks N (λr=>bnd N r.2) (kas_descPart n nrem p):=
 Asks.bind (λr hr=>by
  split
  ·exact Gh hN (SF hN hr Wt)
  ·exact Gh hN hr) (Pm hN _ _ _ _ h)
theorem qK{p:Array Nat}{nrem:Nat}(h:bnd N p):Asks N (λr=>bnd N r.2) (kas_count nrem p):=
 Asks.bind (R:=λ_=>True) (λn _=>by
  split
  ·exact h
  ·split
   ·refine⟨h _,h _,λb=>?_⟩;cases b with
    |true=>(try dsimp only);rw[if_pos rfl];exact h
    |false=>(try dsimp only);rw[if_neg (by decide)];exact Gk hN (SF hN h Wt)
   ·exact Gk hN h) (Oz hN h _ _)
theorem Nc{p:Array Nat}(h:bnd N p)(k:Nat):∀(f l r:Nat),Asks N (λ_=>True) (kas_place p k f l r)
 |0,_,_=>trivial
 |f+1,l,r=>by
  unfold kas_place;split
  ·trivial
  ·refine⟨h _,h _,λb=>?_⟩;cases b with
   |true=>(try dsimp only);rw[if_pos rfl];exact Nc h k f _ _
   |false=>(try dsimp only);rw[if_neg (by decide)];exact Nc h k f _ _
theorem Ld:∀(f:Nat)(p:Array Nat)(k:Nat),bnd N p->Asks N (λ_=>True) (kas_bin f p k)
 |0,_,_,_=>trivial
 |f+1,p,k,h=>Asks.bind (R:=λ_=>True) (λl _=>Ld f _ _ (SF hN h (bubble_perm _ _ _))) (Nc hN h k _ _ _)
end
theorem AN{n:Nat}(hn:0<n):Asks n (λ_=>True) (kas_sort n):=by
 have hb:bnd n (List.toArray (Uz n)):=λi=>by
  rw[Ji];by_cases hi:i<n
  ·simp[hi]
  ·simp[hi,hn]
 refine Asks.bind (λr hr=>?_) (qK hn hb);split
 ·exact Ld hn _ _ _ hr
 ·trivial
end
def Kv(q:Int×Int):Int:=q.1*10000000+q.2
def okP(q:Int×Int):Prop:=-1000000<=q.2/\q.2<=1000000
theorem D1{x y:Int×Int}(hx:okP x)(hy:okP y):Kv x<Kv y ↔ (x.1<y.1∨x.1=y.1/\x.2<y.2):=by unfold Kv okP at *;omega
theorem CZ{x y:Int×Int}(hx:okP x)(hy:okP y)(h:Kv x=Kv y):x=y:=by
 unfold Kv okP at *;have h1:x.1=y.1:=by omega
 have h2:x.2=y.2:=by omega
 exact Prod.ext h1 h2
section
variable{prog:Ur}{w:World}{A:Around}{E:Up->Uq->Prop}{s:Uq}
def RM(h:Heap)(v:Up)(q:Int×Int):Prop:=∃a t u o n,v=.ref a/\h.get? a=some o/\o.cls=.type "tuple" /\ o.data=.seq #[.int q.1 t,.int q.2 u] n
theorem D0{x y:Up}{p q:Int×Int}{Q:Bool->Uq->Prop}(hx:RM s.heap x p)(hy:RM s.heap y q)(h:Q (decide (p.1<q.1∨p.1=q.1/\p.2<q.2)) s):Uw (model prog w) A (keyLt' (tuples' true) x y) Q E s:=by
 obtain⟨a,t,u,o,n,rfl,e1,c1,d1⟩:=hx;obtain⟨b,t',u',o',n',rfl,e2,c2,d2⟩:=hy;refine kat_lt e1 d1 e2 d2 ?_;show KatLex prog w A true _ Q [(Value.int p.1 t,Value.int q.1 t'),(Value.int p.2 u,Value.int q.2 u')] 0 s;refine kat_cons (wpAny_eqBool_int ?_);by_cases h1:p.1=q.1
 ·have e:(p.1==q.1)=true:=by simpa using h1
  rw[e];refine kat_yes (kat_cons (wpAny_eqBool_int ?_));by_cases h2:p.2=q.2
  ·have e:(p.2==q.2)=true:=by simpa using h2
   rw[e];refine kat_yes (kat_nil ?_);have:decide (p.1<q.1∨p.1=q.1/\p.2<q.2)=false:=QO (by omega);rw[this]at h;exact h
  ·have e:(p.2==q.2)=false:=by simpa using h2
   rw[e];refine kat_no (kat_one _ _ (PyProof.Rows.lt_int ?_))
   have:decide (p.1<q.1∨p.1=q.1/\p.2<q.2)=decide (p.2<q.2):=by
    by_cases z:p.2<q.2
    ·rw[Q7 z,Q7 (.inr ⟨h1,z⟩)]
    ·rw[QO z,QO (by omega)]
   rw[this]at h;exact h
 ·have e:(p.1==q.1)=false:=by simpa using h1
  rw[e];refine kat_no (oneLt_int ?_)
  have:decide (p.1<q.1∨p.1=q.1/\p.2<q.2)=decide (p.1<q.1):=by
   by_cases z:p.1<q.1
   ·rw[Q7 z,Q7 (.inl z)]
   ·rw[QO z,QO (by omega)]
  rw[this]at h;exact h
def YK(h:Heap):List Up->LP->Prop
 |[],[]=>True
 |v::vs,q::qs=>RM h v q/\YK h vs qs
 |_,_=>False
theorem YK.get{h:Heap}:∀{vs:List Up}{qs:LP},YK h vs qs->vs.length=qs.length/\∀(i:Nat)(hi:i<vs.length),RM h (vs.getD i .none) (qs.getD i (0,0))
 |[],[],_=>⟨rfl,λi hi=>absurd hi (J8 _)⟩
 |v::vs,q::qs,⟨h1,h2⟩=>by
  obtain⟨e,f⟩:=YK.get h2;refine⟨by simp[e],λi hi=>?_⟩;cases i with
  |zero=>exact h1
  |succ i=>exact f i (by simpa using hi)
theorem YK.tups{h:Heap}:∀{vs:List Up}{qs:LP},YK h vs qs->∃fs:List Up,KatTups h vs fs/\fs.length=vs.length/\∀v∈fs,∃i t,v=.int i t
 |[],[],_=>⟨[],trivial,rfl,λ_ h=>by cases h⟩
 |v::vs,q::qs,⟨hp,h2⟩=>by
  obtain⟨a,t,u,o,n,rfl,e1,c1,d1⟩:=hp;obtain⟨fs,f1,f2,f3⟩:=YK.tups h2;refine⟨.int q.1 t::fs,.cons e1 c1 d1 rfl f1,by simp[f2],λv hv=>?_⟩;rcases QT.mp hv with rfl|hv
  ·exact⟨_,_,rfl⟩
  ·exact f3 v hv
theorem YK.mono{h h':Heap}(k:∀b o,h.get? b=some o->h'.get? b=some o):∀{vs:List Up}{qs:LP},YK h vs qs->YK h' vs qs
 |[],[],_=>trivial
 |v::vs,q::qs,⟨hp,h2⟩=>by obtain⟨a,t,u,o,n,rfl,e1,c1,d1⟩:=hp;exact⟨⟨a,t,u,o,n,rfl,k _ _ e1,c1,d1⟩,YK.mono k h2⟩
def RC(qs:LP)(π:List Nat):Prop:=π.Perm (Uz qs.length)/\(π.map λi=>qs.getD i (0,0)).Pairwise λx y=>Kv x<=Kv y
theorem kH{a:Us}{vs:List Up}{qs:LP}{n:Nat}{P:Fin->Uq->Prop}(ho:s.heap.get? a=some (seqObj "list" vs.toArray n))
  (hp:YK ((s.heap.update a (Obj.mapSeq λ_=>#[]))) vs qs) (hq:∀q∈qs,okP q) (h64:vs.length<64)
  (h:∀π:List Nat,RC qs π->P (.done (.ret .none)) {s with heap:=sortedHeap s.heap a vs (List.toArray (π.map λi=>vs.getD i .none))}) :
  Uw (model prog w) A (Builtin.«list.sort» ⟨[.ref a],[]⟩) P E s:=by
 obtain⟨hl,hget⟩:=hp.get;rw[list_sort_plain];have ha:a<s.heap.objs.size:=Qi ho;refine Qf (listItems_at ho rfl ?_);refine Qf (listUpdate_at ho rfl ?_);obtain⟨e1,ho1⟩:∃e1,(s.heap.update a (Obj.mapSeq λ_=>#[])).get? a=some (seqObj "list" #[] e1):=⟨_,get?_update_seq ho (λ_=>#[])⟩
 refine Qf (seqEpoch_at ho1 rfl ?_);refine Qf (wpAny_newTuple ?_);refine Qf (wpAny_newList ?_);refine wpAny_holding ?_;have ho6:(((s.heap.update a (Obj.mapSeq λ_=>#[])).push (seqObj "tuple" vs.toArray 0)).push (seqObj "list" #[] 0)).get? a=some (seqObj "list" #[] e1):=by rw[Heap.get?_push_ne _ _ _ (by rw[size_push',Heap.size_update];exact QM (Ub ha)),Heap.get?_push_ne _ _ _ (by rw[Heap.size_update];exact QM ha)];exact ho1
 have hp6:YK (((s.heap.update a (Obj.mapSeq λ_=>#[])).push (seqObj "tuple" vs.toArray 0)).push (seqObj "list" #[] 0)) vs qs:=hp.mono λb o e=>Qm _ (Qm _ e)
 show Uw (model prog w) A _ P E {s with heap:=((s.heap.update a (Obj.mapSeq λ_=>#[])).push (seqObj "tuple" vs.toArray 0)).push (seqObj "list" #[] 0)};dsimp only;have hsz:vs.toArray.size=vs.length:=by simp
 by_cases h2:vs.toArray.size<2
 ·rw[Qk h2,Qk h2];refine Qf (Qn ?_);rw[StateT.run_pure];refine Qf (Qn ?_);dsimp only;refine Qf (seqEpoch_at ho6 rfl ?_);refine Qf (listUpdate_at ho6 rfl ?_ (hsz2:=by rw[Array.size_map];show(pairsOf vs).size<=_;rw[pairsOf_size,sizeLine_eq];omega));simp only[bne_self_eq_false,J5,if_false]
  have hid:(arrOf (SortSt.mk' general' (vs.toArray.zip vs.toArray) #[] 7 none)).map (·.2)=List.toArray ((Uz vs.length).map λi=>vs.getD i .none):=by
   show(vs.toArray.zip vs.toArray).map (·.2)=_
   apply Array.toList_inj.mp;apply Jr;intro i;simp only[Array.toList_map,Array.toList_zip,Qe,JQ];by_cases hi:i<vs.length
   ·simp[List.getElem?_zip_eq_some,hi,List.getElem?_range]
   ·simp[hi]
  rw[hid];refine Qn (h (Uz vs.length) ⟨by rw[hl],?_⟩);rw[List.pairwise_map];rw[hsz]at h2
  rcases(show vs.length=0∨vs.length=1 by omega)with z|z<;>rw[z]
  ·exact .nil
  ·exact List.pairwise_singleton _ _
 ·rw[Qs h2,Qs h2];rw[hsz]at h2;obtain⟨fs,f1,f2,f3⟩:=hp6.tups;refine Qf (kat_kind (T:=.type "int") f1 (by omega) (λv hv=>by obtain⟨i,t,rfl⟩:=f3 v hv;exact(show Looks _ _ (pure (Value.type "int")) _ from .now)) rfl ?_)
  refine Qf (QG (kat_run (ks:=vs) (G:=λp s'=>s' = {s with heap:=((s.heap.update a (Obj.mapSeq λ_=>#[])).push (seqObj "tuple" vs.toArray 0)).push (seqObj "list" #[] 0)}/\p=Kj (kl λi=>Kv (qs.getD i (0,0))) (kas_sort vs.length))
   (Q:=λst' s'=>s' = {s with heap:=((s.heap.update a (Obj.mapSeq λ_=>#[])).push (seqObj "tuple" vs.toArray 0)).push (seqObj "list" #[] 0)}/\failedOf st'=none/\arrOf st'=(Kj (kl λi=>Kv (qs.getD i (0,0))) (kas_sort vs.length)).map (kas_item (vs.toArray.zip vs.toArray)))
   rfl (by omega) h64 (λp st' s' a1 a2 a3 a4=>⟨a4.1,a3,by rw[a2,a4.2]⟩) ?_) ?_ λ_ _ e=>e)
  ·refine Le (N:=vs.length) (R:=λ_=>True) (lt:=kl λi=>Kv (qs.getD i (0,0))) (λi j C hi hj hC=>?_) _ _ (AN (by omega)) ⟨rfl,rfl⟩;refine D0 (YK.get hp6 |>.2 i hi) (YK.get hp6 |>.2 j hj) ?_;have oi:okP (qs.getD i (0,0)):=hq _ (by rw[Qh,Qd (by omega)];exact JM _);have oj:okP (qs.getD j (0,0)):=hq _ (by rw[Qh,Qd (by omega)];exact JM _);have e:decide ((qs.getD i (0,0)).1<(qs.getD j (0,0)).1∨(qs.getD i (0,0)).1=(qs.getD j (0,0)).1/\(qs.getD i (0,0)).2<(qs.getD j (0,0)).2)=kl (λi=>Kv (qs.getD i (0,0))) i j:=by unfold kl;exact decide_eq_decide.mpr (D1 oi oj).symm
   rw[e];exact hC
  ·rintro⟨⟨⟩,st'⟩ s' ⟨rfl,hf,har⟩;dsimp only;obtain⟨b1,b2,b3⟩:=AO (key:=λi=>Kv (qs.getD i (0,0))) (n:=vs.length) (by omega);generalize Kj (kl λi=>Kv (qs.getD i (0,0))) (kas_sort vs.length)=p at har b1 b2 b3;have hout:=kat_snds (ks:=vs) (vs:=vs) rfl har;have hsz2:((arrOf st').map (·.2)).size=vs.length:=by rw[hout,QI,Qb,JA,b2]
   refine Qf (seqEpoch_at ho6 rfl ?_);refine Qf (listUpdate_at ho6 rfl ?_ (hsz2:=by rw[hsz2,sizeLine_eq];omega));rw[hf];simp only[bne_self_eq_false,J5,if_false];rw[hout];refine Qn (h p.toList ⟨?_,?_⟩)
   ·have:=Array.perm_iff_toList_perm.mp b1;rw[←hl];exact this
   ·rw[List.pairwise_map,List.pairwise_iff_getElem];intro i j hi hj hij;rw[JA,b2]at hi hj;have:=b3 i j (by omega) hj;unfold KA at this;rw[Ji,Ji,JP (by omega),JP (by omega)]at this;simpa using this
end
section
variable{prog:Ur}{w:World}{A:Around}{E:Up->Uq->Prop}{s:Uq}
theorem kf{l:Us}{vs:List Up}{qs:LP}{Q:Up->Uq->Prop}(hl:s.heap.IsList l vs.toArray)(hp:YK s.heap vs qs)(hq:∀q∈qs,okP q)(h64:vs.length<64)
  (h:∀π:List Nat,RC qs π->Q (.ref (s.heap.objs.size+1)) {s with heap:=sortedAll s.heap vs (List.toArray (π.map λi=>vs.getD i .none))}) :
  Uw (model prog w) A (call (.builtin "sorted") [.ref l]) Q E s:=by
 refine Calls.call_function_entry kind_sorted plain_sorted entry_sorted (args_sorted1 _) ?_;unfold Builtin.«sorted»;refine Qf (m:=checkCount "sorted" 1 1 _) (Qn ?_);refine Qf (collect_list hl ?_);refine Qf (wpAny_newList ?_);have hsz:((s.heap.push (seqObj "list" #[] 0)).update s.heap.objs.size (Obj.mapSeq (· ++ vs.toArray))).objs.size=s.heap.objs.size+1:=by rw[Heap.size_update,size_push']
 have hoL:(((s.heap.push (seqObj "list" #[] 0)).update s.heap.objs.size (Obj.mapSeq (· ++ vs.toArray))).push (seqObj "list" vs.toArray 0)).get? (s.heap.objs.size+1)=some (seqObj "list" vs.toArray 0):=by rw[←hsz];exact QD _ rfl
 show Uw _ _ _ _ _ {s with heap:=((s.heap.push (seqObj "list" #[] 0)).update s.heap.objs.size (Obj.mapSeq (· ++ vs.toArray))).push (seqObj "list" vs.toArray 0)};rw[hsz];refine Qf (wpAny_holding (wpAny_call_entry slot_list_sort ⟨_,hoL,rfl⟩ entry_list_sort (kH (qs:=qs) hoL (hp.mono λb o e=>?_) hq h64 λπ a1=>⟨_,rfl,?_⟩) (args_list_sort _)))
 ·have hlt:b<s.heap.objs.size:=Qi e;dsimp only;have hlt':(b:Nat)<s.heap.objs.size:=hlt;rw[Heap.get?_update_ne _ _ _ _ (QM (Ub hlt')),Heap.get?_push_ne _ _ _ (by rw[hsz];exact QM (Ub hlt')),Heap.get?_update_ne _ _ _ _ (QM hlt),Heap.get?_push_ne _ _ _ (QM hlt)];exact e
 ·exact Qn ⟨_,rfl,h π a1⟩
end
end DL
namespace DL
open PySem PySem.Spec L2
open PyProof.Rows hiding St
section
variable{X:Cx}
theorem Lc{pins:List (Us×Obj)}{s:Uq}{σ:St}{H:Hp}(I:Inv X pins σ H s):∀{as:List Us}{us:List Up}{qs:LP},Vals (as.map V.ref) us->as.length=qs.length->(∀(i:Nat) a q,as[i]?=some a->qs[i]?=some q->SqT X.K H a [.int q.1,.int q.2])->YK s.heap us qs
 |[],_,[],.nil,_,_=>trivial
 |a::as,_,q::qs,.cons r t,hl,h=>by refine⟨?_,Lc I t (by simpa using hl) λi a q h1 h2=>h (i+1) a q (by simpa using h1) (by simpa using h2)⟩;cases r;obtain⟨its,rv,⟨o,e,c,n,d⟩,_⟩:=I.tuple (h 0 a q rfl rfl);obtain⟨u,v,rfl,r1,r2⟩:=rv.two;obtain⟨t1,rfl⟩:=r1;obtain⟨t2,rfl⟩:=r2;exact⟨a,t1,t2,o,n,rfl,e,c,by simpa using d⟩
theorem LV{as:List Us}{us:List Up}(r:Vals (as.map V.ref) us):∀(π:List Nat),(∀i∈π,i<as.length)->Vals (π.map λi=>V.ref (as.getD i 0)) (π.map λi=>us.getD i .none)
 |[],_=>.nil
 |i::π,h=>by
  refine .cons ?_ (LV r π λj hj=>h j (Ql _ hj));have hi:=h i Qo;have e:(as.map V.ref)[i]?=some (.ref (as.getD i 0)):=by rw[List.getElem?_map,List.getElem?_eq_getElem hi];simp[List.getD,List.getElem?_eq_getElem hi]
  obtain⟨u,e2,ru⟩:=r.get e;simp only[List.getD,e2,JW];exact ru
theorem qJ:YS X (.builtin "sorted") (λxs H Q=>∃l,∃as:List Us,∃qs:LP,xs=[.ref l]/\SqL X.K H l (as.map V.ref)/\as.length=qs.length/\(∀(i:Nat) a q,as[i]?=some a->qs[i]?=some q->SqT X.K H a [.int q.1,.int q.2])/\(∀q∈qs,okP q)/\qs.length<64 /\
  ∀π p,RC qs π->H p=none->Q (.ref p) (upd H p (.lst (π.map λi=>V.ref (as.getD i 0))))):=by
 intro pins s σ H xs us Q I rx h;obtain⟨l,as,qs,rfl,hq,hl,ht,ho,hb,q⟩:=h;obtain⟨u,rfl,ru⟩:=rx.one;cases ru;obtain⟨its,rv,p,hz⟩:=I.list hq;have hn:its.length=qs.length:=by have:=rv.length;rw[Qb]at this;omega
 refine kf (qs:=qs) p.isList (Lc I rv hl ht) ho (by omega) λπ hπ=>?_
 obtain⟨e,he⟩:=sortedAll_at s.heap its (List.toArray (π.map λi=>its.getD i .none));have hπl:∀i∈π,i<as.length:=λi hi=>by have:=hπ.1.mem_iff.mp hi;rw[Q8]at this;omega
 refine⟨.ref (s.heap.objs.size+1),_,I.laid (t':=s.toks) (λb o=>sortedAll_old) (JY _) (show ZE X.prog X.w _ _ _ (.lst (π.map λi=>V.ref (as.getD i 0)))from⟨?_,_,e,LV rv π hπl,he⟩),rfl,q π _ hπ (I.hok.fresh (JY _))⟩;rw[Qb,hπ.1.length_eq,Qr];rw[Qb]at hz;omega
def RL:D->Option (Int×Int)
 |.tuple [.int a,.int b]=>some (a,b)
 |_=>none
def Vx:List D->Option LP
 |[]=>some []
 |d::r=>(RL d).bind λq=>(Vx r).map (q :: ·)
def KR(q:Int×Int):D:=.tuple [.int q.1,.int q.2]
theorem AM{d:D}{q:Int×Int}(h:RL d=some q):d=KR q:=by
 unfold RL at h;split at h
 ·cases h;rfl
 ·cases h
theorem HK:∀{ds:List D}{qs:LP},Vx ds=some qs->ds=qs.map KR
 |[],qs,h=>by cases h;rfl
 |d::r,qs,h=>by
  unfold Vx at h;cases z:RL d with
  |none=>rw[z]at h;cases h
  |some q=>
   rw[z]at h;cases z2:Vx r with
   |none=>rw[z2]at h;cases h
   |some qs'=>rw[z2]at h;cases h;rw[AM z,HK z2];rfl
theorem Gp:∀qs:LP,Vx (qs.map KR)=some qs
 |[]=>rfl
 |q::r=>by rw[Qq,Vx,Gp r];rfl
def Wl(qs:LP):LP:=qs.mergeSort λx y=>decide (Kv x<=Kv y)
theorem Gg(qs:LP):(Wl qs).Perm qs:=List.mergeSort_perm ..
theorem LU(qs:LP):(Wl qs).Pairwise λx y=>Kv x<=Kv y:=by have:=List.pairwise_mergeSort (le:=λx y:Int×Int=>decide (Kv x<=Kv y)) (by intro a b c;simp;omega) (by intro a b;simp;omega) qs;exact this.imp (by simp)
theorem OT:∀{a b:LP},(∀x∈a,okP x)->a.Perm b->a.Pairwise (λx y=>Kv x<=Kv y)->b.Pairwise (λx y=>Kv x<=Kv y)->a=b
 |[],b,_,p,_,_=>by rw[List.nil_perm.1 p]
 |x::a,[],_,p,_,_=>by have:=p.length_eq;simp at this
 |x::a,y::b,ok,p,ha,hb=>by
  have hx:Kv y<=Kv x:=by
   rcases QT.1 (p.mem_iff.1 (Qo ..))with e|e
   ·rw[e];exact QX _
   ·exact(Ju.1 hb).1 x e
  have hy:Kv x<=Kv y:=by
   rcases QT.1 (p.mem_iff.2 (Qo ..))with e|e
   ·rw[e];exact QX _
   ·exact(Ju.1 ha).1 y e
  have oky:okP y:=ok y (p.mem_iff.2 (Qo ..));have e:=CZ (ok x (Qo ..)) oky (J7 hy hx);subst e;rw[OT (λz hz=>ok z (Ql _ hz)) (List.Perm.cons_inv p) (Ju.1 ha).2 (Ju.1 hb).2]
theorem CY{qs:LP}{π:List Nat}(ok:∀q∈qs,okP q)(h:RC qs π):(π.map λi=>qs.getD i (0,0))=Wl qs:=by
 have hp:(π.map λi=>qs.getD i (0,0)).Perm qs:=by
  have h1:=h.1.map λi=>qs.getD i (0,0)
  have e:(Uz qs.length).map (λi=>qs.getD i (0,0))=qs:=by
   apply Jr;intro i;rw[Qe];by_cases hi:i<qs.length
   ·rw[List.getElem?_range hi,List.getElem?_eq_getElem hi];simp[List.getD,List.getElem?_eq_getElem hi]
   ·rw[QC (by rw[Qr];omega),QC (by omega)];rfl
  rw[e]at h1;exact h1
 exact OT (λx hx=>ok x (hp.mem_iff.mp hx)) (hp.trans (Gg qs).symm) h.2 (LU qs)
def okPB(q:Int×Int):Bool:=decide (-1000000<=q.2/\q.2<=1000000)
def S9:List D->Option D
 |[.list ds]=>(match Vx ds with
  |some qs=>if qs.length<64/\qs.all okPB=true then some (.list ((Wl qs).map KR))else none
  |none=>none)
 |_=>none
theorem qI{xs:List D}{d:D}(h:S9 xs=some d):∃qs:LP,xs=[.list (qs.map KR)]/\qs.length<64/\(∀q∈qs,okP q)/\d=.list ((Wl qs).map KR):=by
 unfold S9 at h;split at h
 ·rename_i ds;cases z:Vx ds with
  |none=>rw[z]at h;cases h
  |some qs=>
   rw[z]at h;dsimp only at h;split at h
   ·rename_i c;cases h;exact⟨qs,by rw[HK z],c.1,λq hq=>(show -1000000<=q.2/\q.2<=1000000 from Qa (Jx.mp c.2 q hq)),rfl⟩
   ·cases h
 ·cases h
theorem Ht{K:Frag}{G:Hp}:∀{vs:List V}{qs:LP},Reps K G vs (qs.map KR)->∃as:List Us,vs=as.map V.ref/\as.length=qs.length/\∀(i:Nat) a q,as[i]?=some a->qs[i]?=some q->SqT K G a [.int q.1,.int q.2]
 |_,[],.nil=>⟨[],rfl,rfl,λi a q h=>by simp at h⟩
 |_,q::qs,.cons r t=>by
  obtain⟨as,rfl,hl,h⟩:=Ht t;obtain⟨a,ws,rfl,h1,r1⟩:=r.tup_inv;cases r1 with
  |cons ra rb=>
   obtain⟨v,rfl,rb'⟩:=rb.one_inv;refine⟨a::as,rfl,by simp[hl],λi a' q' e1 e2=>?_⟩;cases i with
   |zero=>cases e1;cases e2;rw[ra.int_inv,rb'.int_inv]at h1;exact h1
   |succ i=>exact h i a' q' (by simpa using e1) (by simpa using e2)
theorem CW{K:Frag}{G:Hp}{a:Us}{q:Int×Int}(h:SqT K G a [.int q.1,.int q.2]):Rep K G (.ref a) (KR q):=.tup h (.cons (.int _) (.cons (.int _) .nil))
theorem Hs{K:Frag}{G:Hp}{as:List Us}{qs:LP}(hl:as.length=qs.length)(h:∀(i:Nat) a q,as[i]?=some a->qs[i]?=some q->SqT K G a [.int q.1,.int q.2]):∀π:List Nat,(∀i∈π,i<qs.length)->Reps K G (π.map λi=>V.ref (as.getD i 0)) ((π.map λi=>qs.getD i (0,0)).map KR)
 |[],_=>.nil
 |i::π,hb=>by
  refine .cons ?_ (Hs hl h π λj hj=>hb j (Ql _ hj));have hi:=hb i Qo;refine CW (h i _ _ ?_ ?_)
  ·rw[List.getElem?_eq_getElem (by omega)];simp[List.getD,List.getElem?_eq_getElem (show i<as.length by omega)]
  ·rw[List.getElem?_eq_getElem hi];simp[List.getD,List.getElem?_eq_getElem hi]
theorem DZ:YU X (.builtin "sorted") S9:=by refine⟨_,qJ,λvs G H ds d Q s r e k=>?_⟩;obtain⟨qs,rfl,h64,ok,rfl⟩:=qI e;obtain⟨v,rfl,q1⟩:=r.one_inv;obtain⟨l,ws,rfl,h1,r1⟩:=q1.lst_inv;obtain⟨as,rfl,hl,ht⟩:=Ht r1;refine⟨l,as,qs,rfl,s.seq h1,hl,λi a q e1 e2=>Xb s (ht i a q e1 e2),ok,h64,λπ p hπ hp=>?_⟩;have hb:∀i∈π,i<qs.length:=λi hi=>Q8.mp (hπ.1.mem_iff.mp hi);have rr:=(Hs hl ht π hb).mono (Zx (s.free hp):Same G (upd G p (.lst (π.map λi=>V.ref (as.getD i 0)))));rw[CY ok hπ]at rr;exact k _ _ _ (Ext.new s hp) (.lst (SqL.of Zf) rr)
theorem YU.or{f:Up}{p q:List D->Option D}(h1:YU X f p)(h2:YU X f q):YU X f (λxs=>(p xs).orElse λ_=>q xs):=by
 obtain⟨r1,c1,k1⟩:=h1;obtain⟨r2,c2,k2⟩:=h2;refine⟨λxs H Q=>r1 xs H Q∨r2 xs H Q,λpins s σ H xs us Q I rx h=>?_,λvs G H ds d Q s r e k=>?_⟩
 ·rcases h with h|h
  ·exact c1 pins s σ H xs us Q I rx h
  ·exact c2 pins s σ H xs us Q I rx h
 ·dsimp only at e;cases z:p ds with
  |some d'=>rw[z]at e;cases e;exact .inl (k1 vs G H ds _ Q s r z k)
  |none=>rw[z]at e;exact .inr (k2 vs G H ds _ Q s r e k)
def VE(xs:List D):Option D:=(VH xs).orElse λ_=>S9 xs
theorem Fx:YU X (.builtin "sorted") VE:=D9.or DZ
theorem Ge{ns:List Int}(h:ns.length<64):VE [.list (ns.map .int)]=some (.list ((YQ ns).map .int)):=by unfold VE;rw[qz h];rfl
theorem AL{qs:LP}(h:qs.length<64)(ok:∀q∈qs,okP q):VE [.list (qs.map KR)]=some (.list ((Wl qs).map KR)):=by
 cases qs with
 |nil=>
  have e1:Wl []=[]:=by unfold Wl;simp
  have e2:YQ []=[]:=by unfold YQ;simp
  have:=Ge (ns:=[]) (by decide);rw[e2]at this;rw[e1];exact this
 |cons q r=>have e1:VH [.list ((q::r).map KR)]=none:=rfl;unfold VE;rw[e1,Option.orElse];unfold S9;dsimp only;rw[Gp];exact Qk ⟨h,Jx.mpr λq hq=>Q7 (show -1000000<=q.2/\q.2<=1000000 from ok q hq)⟩
end
section
variable{X:Cx}{B G0:Hp}{e o a b c tg:Uu}{pos p2:Pos}{es rest:List Uu}{te to ti:TE}
def T9{β:Type}(p:D->D->Option β)(f:M D)(j:Nat):M β:=Kc f λx=>λZ=>match Z[j]? with
 |some (some (.pub d))=>Ke (p x d) Z
 |some (some (.own ds))=>Ke (p x (.list ds)) Z
 |_=>.bad
theorem Fl{K:Frag}{σ:St}{H:Hp}{p:D->D->Option Bool}{r:R2}{j:Nat}{f:M D}{Q:Bool->Hp->Prop}{QV:VK}(hq:∀t H3,Q t H3->QV (.bl t) H3)
  (hr:∀v u G H x y d Q,Same G H->Rep K G v x->Rep K G u y->p x y=some d->Q (.bl d) H->r v u H Q)
  (q:tBo K B G0 (T9 p f j) σ H Q):tD K B G0 f σ H λx H1=>Zi j σ H1 λy H2=>r x y H2 QV:=by
 refine tM.one (R:=Rep K) q λv H2 G Z x k rx a=>?_
 cases z:Z[j]? with
 |none=>rw[z]at a;exact a.elim
 |some o=>
  cases o with
  |none=>rw[z]at a;exact a.elim
  |some sl=>
   cases sl with
   |deep _ _=>rw[z]at a;exact a.elim
   |pub d=>rw[z]at a;dsimp only at a;obtain⟨d',e',a'⟩:=aft.opt a;obtain⟨u,h1,h2⟩:=k.pub j d z;exact⟨u,h1,hr v u G H2 x d d' _ k.gh rx h2 e' (hq _ _ (a' d' G H2 k (.refl _) rfl))⟩
   |own ds=>rw[z]at a;dsimp only at a;obtain⟨d',e',a'⟩:=aft.opt a;obtain⟨ad,vs,h1,h2,h3,h4,h5⟩:=k.own j ds z;exact⟨.ref ad,h1,hr v (.ref ad) H2 H2 x (.list ds) d' _ (.refl _) (rx.mono k.gh) (.lst (SqL.of h4) (h5.mono k.gh)) e' (hq _ _ (a' d' G H2 k (.refl _) rfl))⟩
theorem DY{op:CmpOp}{p:D->D->Option Bool}{j:Nat}{f:M D}(o:OpB X (Uy op) p)(ha:PE X a (tD X.K B G0 f))(hb:PE X b (Zi j))(hm:behindInMarks op b=false) :
  PT X (.Compare a [op] [b] pos) (tBo X.K B G0 (T9 p f j)):=by
 obtain⟨r,h,i⟩:=o;exact YE (Oh h ha hb hm) λσ H Q q=>Fl (λt H3 z=>⟨t,rfl,z⟩) i q
theorem Lb{β:Type}{p:D->D->Option β}{f:M D}{j:Nat}{Z Z1:UP}{x:D}{ds:List D}{r:β}(h1:f Z=.ok x Z1)(h2:Z1[j]?=some (some (.own ds)))(h3:p x (.list ds)=some r):T9 p f j Z=.ok r Z1:=by unfold T9;exact K5 h1 (by rw[h2];exact Yv h3)
end
def S8(Z:UP)(j:Nat):Option D:=match Z[j]? with
 |some (some (.pub d))=>some d
 |some (some (.own ds))=>some (.list ds)
 |some (some (.deep _ d))=>some d
 |_=>none
theorem EOk.tree{K:Frag}{B G0 G H:Hp}{σ:St}{Z:UP}{j:Nat}{d:D}(k:EOk K B G0 G H σ Z)(h:S8 Z j=some d):∃v,σ[j]?=some (some v)/\Rep K H v d:=by
 unfold S8 at h;split at h
 ·rename_i d' e;cases h;obtain⟨v,h1,h2⟩:=k.pub j _ e;exact⟨v,h1,h2.mono k.gh⟩
 ·rename_i ds e;cases h;obtain⟨a,vs,h1,h2,h3,h4,h5⟩:=k.own j ds e;exact⟨.ref a,h1,.lst (SqL.of h4) (h5.mono k.gh)⟩
 ·rename_i p d' e;cases h;obtain⟨ω,k1,k2⟩:=k.dp;obtain⟨v,fp,s,r,_⟩:=k1 j p _ e;exact⟨v,s,r.rep k.gh⟩
 ·cases h
end DL
namespace HT
open PySem PyProof.Rows
theorem CV{xs ys:List Int}{i:Nat}(h1:xs.length<=i):ZD (ys.drop i) (xs.drop i)=false:=by rw[List.drop_of_length_le h1];cases ys.drop i<;>rfl
theorem BL{xs ys:List Int}{i:Nat}(h1:ys.length<=i)(h2:i<xs.length):ZD (ys.drop i) (xs.drop i)=true:=by rw[List.drop_of_length_le h1,QU h2];rfl
theorem BK{xs ys:List Int}{i:Nat}{a c:Int}(h1:xs[i]?=some a)(h2:ys[i]?=some c):ZD (ys.drop i) (xs.drop i)=if c=a then ZD (ys.drop (i+1)) (xs.drop (i+1))else decide (c<a):=by obtain⟨l1,e1⟩:=Qg.mp h1;obtain⟨l2,e2⟩:=Qg.mp h2;rw[QU l1,QU l2,RA,e1,e2]
section
open PySem.SeqAt
open PySem.AutoSeq1 (wpAny_loadPart')
open PySem.MeetsSeq PySem.MeetsSeq2 PySem.MeetsSeq3
theorem BJ(A:Around)(s:Uq)(a:Int)(t:Tok)(c:Int)(u:Tok)(prog:Ur)(w:World)(E:Up->Uq->Prop)(Q:Up->Uq->Prop)(h:Q (.bool (decide (c<a))) s) :
  Uw (model prog w) A (richCompare .Gt (.int a t) (.int c u)) Q E s:=
 (PyProof.Rows.gt_int h:Uw (model prog w) A (Uy .Gt (.int a t) (.int c u)) Q E s)
theorem AK{p q:Us}{us vs:Array Up}{m m':Nat}{dp dq:Option Us}{sp sq:Array (Option Up)}{xs ys:List Int}(ix:IntsAre us.toList xs)(iy:IntsAre vs.toList ys) :
  ∀d i:Nat,us.size-i=d->i<=us.size->i<=vs.size->Meets (Builtin.«list.__eq__.loop» ⟨[.ref p,.ref q,rawInt i,rawInt 4],[]⟩)
   (λ_ R s=>s.heap.get? p=some {cls:=.type "list", dict:=dp,data:=.seq us m,slots:=sp}/\s.heap.get? q=some {cls:=.type "list", dict:=dq,data:=.seq vs m',slots:=sq} /\
    R (.ok (.ret (.bool (ZD (ys.drop i) (xs.drop i))))) s):=by
 have zx:us.size=xs.length:=by rw[←ix.length];simp
 have zy:vs.size=ys.length:=by rw[←iy.length];simp
 intro d;induction d with
 |zero=>
  intro i hd h1 h2 prog w A R s h;obtain⟨hp,g,dd,tk,os⟩:=s;obtain⟨gp,gq,h⟩:=h
  wp_walk using wpAny_loadPart' gp,wpAny_loadPart' gq
  have n1:us[((i:Nat):Int).toNat]?=none:=by simp;omega
  rw[n1]
  wp_walk using wpAny_loadPart' gp,wpAny_loadPart' gq
  show R (.ok (.ret (.bool (decide (us.size > vs.size))))) _;rw[QO (by omega)];rw[CV (by omega)]at h;exact h
 |succ d ih=>
  intro i hd h1 h2 prog w A R s h;obtain⟨hp,g,dd,tk,os⟩:=s;obtain⟨gp,gq,h⟩:=h
  wp_walk using wpAny_loadPart' gp,wpAny_loadPart' gq
  have lt1:i<us.size:=by omega
  have s1:us[((i:Nat):Int).toNat]?=some us[i]:=by simp[lt1]
  obtain⟨a,t,ea,xa⟩:=ix.at (i:=i) (v:=us[i]) (by simp[lt1]);rcases Nat.lt_or_ge i vs.size with lt2|ge2
  ·have s2:vs[((i:Nat):Int).toNat]?=some vs[i]:=by simp[lt2]
   obtain⟨c,u,ec,yc⟩:=iy.at (i:=i) (v:=vs[i]) (by simp[lt2]);rw[s1,s2,ea,ec];rw[BK xa yc]at h;obtain⟨e,he,hiff⟩:=Ai A.in1 ⟨hp,g,dd,tk,os⟩ a t c u;refine Qf (he prog w _ _ ?_);cases e with
   |true=>
    have hac:a=c:=hiff.mp rfl;rw[Qk hac.symm]at h
    wp_walk
    have up:((i:Int)+1)=((i+1:Nat):Int):=by omega
    rw[up];exact⟨plainId_quiet plain_eq_loop _,JF entry_eq_loop (by rw[Around.under_plainId plain_eq_loop _];exact ih (i+1) (by omega) (by omega) (by omega) prog w A R _ ⟨gp,gq,h⟩)⟩
   |false=>
    have hac:¬c=a:=λz=>absurd (hiff.mpr z.symm) JG;rw[Qs hac]at h;have rc:=BJ A.in1 ⟨hp,g,dd,tk,os⟩ a t c u prog w
    wp_walk using wpAny_loadPart' gp,wpAny_loadPart' gq
    rw[s1,s2,ea,ec]
    wp_walk using rc
    exact h
  ·have n2:vs[((i:Nat):Int).toNat]?=none:=by simp;omega
   rw[s1,n2]
   wp_walk using wpAny_loadPart' gp,wpAny_loadPart' gq
   show R (.ok (.ret (.bool (decide (us.size > vs.size))))) _;rw[Q7 (by omega)];rw[BL (by omega) (by omega)]at h;exact h
theorem qH{p q:Us}{us vs:Array Up}{m m':Nat}{dp dq:Option Us}{sp sq:Array (Option Up)}{xs ys:List Int}(ix:IntsAre us.toList xs)(iy:IntsAre vs.toList ys) :
  Meets (Builtin.«list.__gt__» ⟨[.ref p,.ref q],[]⟩)
   (λ_ R s=>s.heap.get? p=some {cls:=.type "list", dict:=dp,data:=.seq us m,slots:=sp}/\s.heap.get? q=some {cls:=.type "list", dict:=dq,data:=.seq vs m',slots:=sq} /\
    R (.ok (.ret (.bool (ZD ys xs)))) s):=by
 intro prog w A R s h;obtain⟨hp,g,dd,tk,os⟩:=s;obtain⟨gp,gq,h⟩:=h;have f3:=AutoSeq1.sub_list_list
 wp_walk using wpAny_loadPart' gp,wpAny_loadPart' gq
 exact⟨plainId_quiet plain_eq_loop _,JF entry_eq_loop (by rw[Around.under_plainId plain_eq_loop _];exact AK ix iy _ 0 rfl (Nat.zero_le _) (Nat.zero_le _) prog w A R _ ⟨gp,gq,by simpa using h⟩)⟩
end
section
variable{prog:Ur}{w:World}{A:Around}{E:Up->Uq->Prop}{s:Uq}
theorem j7{p q:Us}{us vs:Array Up}{xs ys:List Int}{Q:Up->Uq->Prop}(hl:s.heap.IsList p us)(hb:s.heap.IsList q vs)(ix:IntsAre us.toList xs)(iy:IntsAre vs.toList ys)
  (hu:A.units<cLine) (h:Q (.bool (ZD ys xs)) s):Uw (model prog w) A (Uy .Gt (.ref p) (.ref q)) Q E s:=by
 obtain⟨⟨cls,dd,data,sl⟩,ho,hc,n,hd⟩:=id hl;obtain⟨⟨cls2,dd2,data2,sl2⟩,ho2,hc2,n2,hd2⟩:=id hb;simp only at hc hd hc2 hd2;subst hc hd hc2 hd2
 exact richCompare_meets_room (op:=.Gt) ⟨_,ho,rfl⟩ ⟨_,ho2,rfl⟩ PySem.F.slot_list_gt PySem.F.entry_list_gt (PySem.F.args_list_gt_2 _ _) (qH ix iy)
  ⟨ho,ho2,show Value.bool (ZD ys xs)≠Value.notImplemented/\Q (.bool (ZD ys xs)) s from⟨(λx=>nomatch x),h⟩⟩ hu
end
end HT
namespace DL
open PySem PySem.Spec L2
open PyProof.Rows hiding St
section
variable{X:Cx}
def XZ(x y:D):Option Bool:=match x,y with
 |.list xs,.list ys=>(match Yh xs,Yh ys with
  |some ns,some ms=>some (HT.ZD ms ns)
  |_,_=>none)
 |_,_=>none
def rGtL(K:Frag):R2:=λx y H Q=>∃a b ns ms,x=.ref a/\y=.ref b/\SqL K H a (ns.map V.int)/\SqL K H b (ms.map V.int)/\Q (.bl (HT.ZD ms ns)) H
theorem Fw(hu:X.A.units<cLine):OpR X (Uy .Gt) (rGtL X.K):=by intro pins s σ H x y v u Q I rx ry h;obtain⟨a,b,ns,ms,rfl,rfl,ha,hb,q⟩:=h;cases rx;cases ry;obtain⟨its,r1,p1,_⟩:=I.list ha;obtain⟨its2,r2,p2,_⟩:=I.list hb;exact HT.j7 p1.isList p2.isList (HU r1) (HU r2) hu ⟨.bl (HT.ZD ms ns),H,I,rfl,q⟩
theorem Fk(hu:X.A.units+64<cLine):OpB X (Uy .Gt) XZ:=by
 refine⟨_,Fw (by omega),λv u G H x y d Q s rx ry e k=>?_⟩;unfold XZ at e;split at e
 ·rename_i xs ys;cases z1:Yh xs with
  |none=>rw[z1]at e;cases e
  |some ns=>
   rw[z1]at e;cases z2:Yh ys with
   |none=>rw[z2]at e;cases e
   |some ms=>rw[z2]at e;cases e;obtain⟨a,vs,rfl,q1,w1⟩:=rx.lst_inv;obtain⟨b,us,rfl,q2,w2⟩:=ry.lst_inv;have e1:=VX w1 z1;have e2:=VX w2 z2;subst e1 e2;exact⟨a,b,ns,ms,rfl,rfl,s.seq q1,s.seq q2,k⟩
 ·cases e
def WA(x y:D):Option Bool:=((oIB λi j=>decide (j<i)) x y).orElse λ_=>XZ x y
theorem Fj(hu:X.A.units+64<cLine):OpB X (Uy .Gt) WA:=OpB.or B_gt (Fk hu)
theorem DX{ns ms:List Int}:WA (.list (ns.map .int)) (.list (ms.map .int))=some (HT.ZD ms ns):=by
 have e:XZ (.list (ns.map .int)) (.list (ms.map .int))=some (HT.ZD ms ns):=by unfold XZ;dsimp only;rw[V0,V0]
 unfold WA;rw[e];rfl
end
section
variable{X:Cx}
def Sh(x y:D):Option (List D):=match x,y with
 |.list xs,.int k=>if -1000000<=k/\k<=1000000/\xs.length*k.toNat<=1000000 then some (UA k.toNat xs).flatten else none
 |_,_=>none
theorem AJ{x y:D}{ds:List D}(h:Sh x y=some ds):∃xs k,x=.list xs/\y=.int k/\(-1000000<=k/\k<=1000000/\xs.length*k.toNat<=1000000)/\ds=(UA k.toNat xs).flatten:=by
 unfold Sh at h;split at h
 ·split at h
  ·rename_i xs k c;cases h;exact⟨xs,k,rfl,rfl,c,rfl⟩
  ·cases h
 ·cases h
def VD(f g:M D):M (List D):=Kc f λx=>Kc g λy=>Ke (Sh x y)
theorem Mj{f g:M D}(ha:PE X a (tD X.K B G0 f))(hb:PE X b (tD X.K B G0 g)):PE X (.BinOp a .Mult b pos) (tL X.K B G0 (VD f g)):=
 Kt (Nz MR ha hb) λσ H Q ⟨G,Z,k,q⟩=>by
  refine⟨G,Z,k,?_⟩;unfold VD Kc at q;cases z:f Z with
  |bad=>rw[z]at q;exact q.elim
  |ok x Z1=>
   rw[z]at q;dsimp only at q;intro v G1 H1 k1 s1 r1;refine⟨G1,Z1,k1,?_⟩;cases z2:g Z1 with
   |bad=>rw[z2]at q;exact q.elim
   |ok y Z2=>
    rw[z2]at q;dsimp only[Ke]at q;intro u G2 H2 k2 s2 r2;cases z3:Sh x y with
    |none=>rw[z3]at q;exact q.elim
    |some ds=>rw[z3]at q;obtain⟨xs,i,rfl,rfl,c,rfl⟩:=AJ z3;obtain⟨l,vs,rfl,h1,w⟩:=r1.lst_inv;exact⟨l,i,vs,rfl,r2.int_inv,k2.gh.seq (s2.seq h1),by omega,by omega,by rw[w.length];exact QS c.2.2 lim,λp hp=>q p _ G2 _ (k2.ext (Ext.hid k2.gh hp)) (s1.trans s2) (NewL.of k2 hp ((w.mono s2).rep _))⟩
theorem Ov{f g:M D}{Z Z1 Z2:UP}{x:D}{n:Nat}(h1:f Z=.ok (.list [x]) Z1)(h2:g Z1=.ok (.int n) Z2)(h:n<=1000):VD f g Z=.ok (UA n x) Z2:=by
 unfold VD Kc;rw[h1];dsimp only;rw[h2];dsimp only[Ke]
 have e:Sh (.list [x]) (.int n)=some (UA n x):=by
  unfold Sh;dsimp only;rw[Qk ⟨by omega,by omega,by show 1*_<=_;omega⟩]
  congr 1
  rw[Qz];clear h2 h;induction n with
  |zero=>rfl
  |succ n ih=>rw[QQ,QL,ih,QQ];rfl
 rw[e]
end
end DL
namespace DL
open PySem
theorem lz0{P:List Up->Prop}{us:List Up}(hl:us.length=0)(h:P []):P us:=by
 cases us with
 |nil=>exact h
 |cons a r=>cases hl
theorem lzS{P:List Up->Prop}{us:List Up}{n:Nat}(hl:us.length=n+1)(h:∀a r,r.length=n->P (a::r)):P us:=by
 cases us with
 |nil=>cases hl
 |cons a r=>exact h a r (Nat.succ.inj hl)
theorem lz1{P:List Up->Prop}{us:List Up}(hl:us.length=1)(h:∀a,P [a]):P us:=lzS hl λa r e=>lz0 (P:=λr=>P (a::r)) e (h a)
theorem lz2{P:List Up->Prop}{us:List Up}(hl:us.length=2)(h:∀a b,P [a,b]):P us:=lzS hl λa r e=>lz1 (P:=λr=>P (a::r)) e (h a)
theorem lz3{P:List Up->Prop}{us:List Up}(hl:us.length=3)(h:∀a b c,P [a,b,c]):P us:=lzS hl λa r e=>lz2 (P:=λr=>P (a::r)) e (h a)
theorem lz4{P:List Up->Prop}{us:List Up}(hl:us.length=4)(h:∀a b c d,P [a,b,c,d]):P us:=lzS hl λa r e=>lz3 (P:=λr=>P (a::r)) e (h a)
theorem lz5{P:List Up->Prop}{us:List Up}(hl:us.length=5)(h:∀a b c d e,P [a,b,c,d,e]):P us:=lzS hl λa r e=>lz4 (P:=λr=>P (a::r)) e (h a)
theorem bz1{fd:Ut}{ps:List Str}{us:List Up}(hl:us.length=1)(h:∀a,bindArgs fd {pos:=[a]}=pure (ps.zip [a])):bindArgs fd {pos:=us}=pure (ps.zip us):=lz1 (P:=λus=>bindArgs fd {pos:=us}=pure (ps.zip us)) hl h
theorem bz2{fd:Ut}{ps:List Str}{us:List Up}(hl:us.length=2)(h:∀a b,bindArgs fd {pos:=[a,b]}=pure (ps.zip [a,b])):bindArgs fd {pos:=us}=pure (ps.zip us):=lz2 (P:=λus=>bindArgs fd {pos:=us}=pure (ps.zip us)) hl h
theorem bz3{fd:Ut}{ps:List Str}{us:List Up}(hl:us.length=3)(h:∀a b c,bindArgs fd {pos:=[a,b,c]}=pure (ps.zip [a,b,c])):bindArgs fd {pos:=us}=pure (ps.zip us):=lz3 (P:=λus=>bindArgs fd {pos:=us}=pure (ps.zip us)) hl h
theorem bz4{fd:Ut}{ps:List Str}{us:List Up}(hl:us.length=4)(h:∀a b c d,bindArgs fd {pos:=[a,b,c,d]}=pure (ps.zip [a,b,c,d])):bindArgs fd {pos:=us}=pure (ps.zip us):=lz4 (P:=λus=>bindArgs fd {pos:=us}=pure (ps.zip us)) hl h
theorem bz5{fd:Ut}{ps:List Str}{us:List Up}(hl:us.length=5)(h:∀a b c d e,bindArgs fd {pos:=[a,b,c,d,e]}=pure (ps.zip [a,b,c,d,e])):bindArgs fd {pos:=us}=pure (ps.zip us):=lz5 (P:=λus=>bindArgs fd {pos:=us}=pure (ps.zip us)) hl h
end DL
namespace DL
open PySem PySem.Spec L2
open PyProof.Rows hiding St
def whole(h:Heap):Frag:=(Uz h.objs.size).filterMap λa=>(h.get? a).map λo=>(a,o)
theorem Hr{g:Us->Option Obj}{x:Us}:∀l:List Us,(l.filterMap λa=>(g a).map λo=>(a,o)).lookup x=if x∈l then g x else none
 |[]=>rfl
 |y::l=>by
  have ih:=Hr (g:=g) (x:=x) l;by_cases e:x=y
  ·subst e;rw[Qk Qo];cases z:g x with
   |none=>rw[List.filterMap_cons_none (by rw[z];rfl),ih,z];split<;>rfl
   |some o=>rw[List.filterMap_cons_some (by rw[z];rfl),QY,beq_self_eq_true]
  ·have m:(x∈y::l)=(x∈l):=by simp[List.mem_cons,e]
   have b:(x==y)=false:=by simpa using e
   have ih':(if x∈y::l then g x else none)=_:=(by simp only[m];exact ih.symm)
   rw[ih'];cases z:g y with
   |none=>rw[List.filterMap_cons_none (by rw[z];rfl)]
   |some o=>rw[List.filterMap_cons_some (by rw[z];rfl),QY,b]
theorem Rm{h:Heap}{a:Us}:(whole h).lookup a=h.get? a:=by
 unfold whole;rw[Hr];split
 ·rfl
 ·rename_i n;cases z:h.get? a with
  |none=>rfl
  |some o=>exact absurd (Q8.mpr (Qi z)) n
theorem BI(h:Heap):(whole h).In h:=λa o e=>by rw[Rm]at e;exact e
def Fi(st:Stmt):Option DefRec:=match st with
 |.FunctionDef name a b _ _ _ sc _ _ pos=>some ⟨name,a,b,sc,pos⟩
 |_=>none
def PR(st:Stmt):Option Str:=match st with
 |.FunctionDef name _ _ _ _ _ _ _ _ _=>some name
 |_=>none
def Fh(st:Stmt):Pos:=match st with
 |.FunctionDef _ _ _ _ _ _ _ _ _ pos=>pos
 |_=>⟨0,0,0,0⟩
abbrev Zy(p:Ur)(i:Nat):Stmt:=p.main.body.getD i (.Pass ⟨0,0,0,0⟩)
def S7(p:Ur)(ix:List Nat):List DefRec:=ix.filterMap λi=>Fi (Zy p i)
section
variable{p q:Ur}{loose:List Str}{mean:ExcName->Option Up}{mg mb:Str->Option Up}{h:Heap}{w:World}
theorem NH{ix:List Nat}(T:Top q loose mean mg mb h)(e:recsOf q=S7 p ix)(i:Nat)(x:Str)(hi:ix.contains i=true)(hn:PR (Zy p i)=some x):∃f fd,mg x=some (.ref f)/\Fun (whole h) x x (Zy p i) f fd:=by
 cases hs:Zy p i with
 |FunctionDef name a b _ _ _ sc _ _ pos=>
  rw[hs]at hn;cases hn;have hd:(⟨x,a,b,sc,pos⟩:DefRec)∈recsOf q:=by rw[e];exact List.mem_filterMap.mpr ⟨i,by simpa using hi,by rw[hs];rfl⟩
  obtain⟨f,⟨oc,od,dt,osl⟩,pm,cd,doc,h1,h2,h3,h4⟩:=T.fn _ hd;have h3:dt=_:=h3;subst h3;refine⟨f,_,h1,⟨⟨oc,od,.none,doc,pm,_,cd,_,osl,rfl,by rw[Rm];exact h2,?_⟩,?_⟩⟩
  ·obtain⟨c,⟨_,_,dc,_⟩,vs,t,rfl,g1,g2,g3⟩:=h4;have g2:dc=_:=g2;subst g2;unfold PySem.W.codeIn;dsimp only;rw[Rm,g1];dsimp only;have g4:vs.toList[1]?=some (.str x t):=by rw[Array.getElem?_toList];exact g3
   cases hv:vs.toList with
   |nil=>rw[hv]at g4;cases g4
   |cons v0 r=>
    rw[hv]at g4;cases r with
    |nil=>cases g4
    |cons v1 r=>cases g4;exact beq_self_eq_true _
  ·unfold PySem.W.keepIn;dsimp only;rw[Rm,h2]
 |_=>rw[hs]at hn;cases hn
theorem AI{K:Frag}{x qual y:Str}{st:Stmt}{f:Us}{fd:Ut}(F:Fun K x qual st f fd)
  (hb:∀(kV doc pm:Up)(an:Option Us)(cdv ct v:Up),bindArgs (PySem.W.fnOf x qual (Sx st) (Wr st) (Z8 st) .none kV doc pm an cdv ct) ⟨[v],[]⟩=pure [(y,v)]) (s:Uq) (v:Up):BindsTo s fd ⟨[v],[]⟩ [(y,v)]:=by
 obtain⟨oc,od,kV,doc,pm,an,cdv,ct,osl,rfl,lk,hcd⟩:=F.ex;exact .of_eq (hb kV doc pm an cdv ct v)
def RF(q:Ur)(loose:List Str)(x:Str):Bool:=
 !startupNames.contains x && !loose.contains x && !((recsOf q).map (·.name)).contains x && !((litsOf q).map (·.1)).contains x && !((clssOf q loose).map (·.name)).contains x
theorem YW(T:Top q loose mean mg mb h){xs:List Str}(e:xs.all (RF q loose)=true){x:Str}(hx:x∈xs):mg x=none:=by have:=Jx.mp e x hx;unfold RF at this;simp only[Je,Bool.not_eq_true',List.contains_eq_mem,decide_eq_false_iff_not]at this;exact T.free x this.1.1.1.1 this.1.1.1.2 this.1.1.2 this.1.2 this.2
theorem Pl(T:Top q loose mean mg mb h){x:Str}{i:Int}(e:valOf q x=some (.int i)):∃t,mg x=some (.int i t):=by obtain⟨v,h1,h2⟩:=T.const x _ e;have:=h2 h;cases this;exact⟨_,h1⟩
theorem Nm:∀{vs:List Up}{ss:List Str},StrsAre vs ss->Vals (ss.map V.str) vs
 |_,_,.nil=>.nil
 |_,_,.cons y t r=>.cons ⟨t,rfl⟩ (Nm r)
theorem AH(B:Tables q w mg h){x:Str}{ss:List Str}(e:tupStrsOf q x=some ss)(hl:ss.length<=1000) :
  ∃ad o its n,mg x=some (.ref ad)/\(whole h).lookup ad=some o/\o.cls=.type "tuple" /\ o.data=.seq its n/\its.size<=Uv/\Vals (ss.map V.str) its.toList:=by
 obtain⟨a,vs,h1,⟨o,h2,h3,n,h4⟩,h5⟩:=B.tupS x ss e;have r:=Nm h5;refine⟨a,o,_,n,h1,by rw[Rm];exact h2,h3,h4,?_,r⟩;have:=r.length;rw[Qb]at this;have l:(1000:Nat)<=Uv:=by decide
 rw[QI];omega
end
def scOk(sc:Scope)(N gl:List Str):Bool:=(N.all λx=>match sc.names.lookup x with|some .local=>true|some .cell=>true|_=>false)&&gl.all λx=>match sc.names.lookup x with|some .globalImplicit=>true|_=>false
def fnB(sc:Scope)(N gl:List Str):Bool:=decide (sc.kind=.function) && !sc.isCoroutine && !sc.isGenerator&&decide N.Nodup&&(sc.names.all λy=>match y.2 with | .free=>false|_=>true)&&scOk sc N gl
structure FnNm(sc:Scope)(N gl:List Str):Prop where
 kind:sc.kind=.function
 co:sc.isCoroutine=false
 gen:sc.isGenerator=false
 nd:N.Nodup
 nofree:∀y∈sc.names,y.2≠.free
 nm:∀x∈N,sc.names.lookup x=some .local∨sc.names.lookup x=some .cell
 gl:∀x∈gl,sc.names.lookup x=some .globalImplicit
theorem KZ{sc:Scope}{N gl:List Str}(H:fnB sc N gl=true):FnNm sc N gl:=by
 unfold fnB scOk at H;simp only[Je,Q6,Bool.not_eq_true',Jx]at H;obtain⟨⟨⟨⟨⟨h1,h2⟩,h3⟩,h4⟩,h5⟩,h6,h7⟩:=H;refine⟨h1,h2,h3,h4,λy hy e=>?_,λx hx=>?_,λx hx=>?_⟩
 ·have:=h5 y hy;rw[e]at this;cases this
 ·have:=h6 x hx;split at this
  ·rename_i e;exact .inl e
  ·rename_i e;exact .inr e
  ·cases this
 ·have:=h7 x hx;split at this
  ·rename_i e;exact e
  ·cases this
section
variable{sc:Scope}{N gl:List Str}{x:Str}
theorem nq(H:FnNm sc N gl):N.Nodup:=H.nd
theorem fq(H:FnNm sc N gl)(n:Nat):Rl N (N.take n) sc:=⟨H.kind,H.co,H.gen,H.nd,by rw[QW,List.take_eq_take_iff];omega,λx hx=>H.nm x (List.mem_of_mem_take hx),H.nofree⟩
theorem lq(H:FnNm sc N gl)(i:Nat)(h:N[i]?=some x:=by rfl):L2.Loc sc x:=H.nm x (Qt h)
theorem gq(H:FnNm sc N gl)(i:Nat)(h:gl[i]?=some x:=by rfl):sc.names.lookup x=some .globalImplicit:=H.gl x (Qt h)
theorem pq{X:Cx}{pos:Pos}(H:FnNm X.env.scope X.N gl)(i:Nat)(h:X.N[i]?=some x:=by rfl)(hd:(x==("__debug__" : Str))=false:=by decide)(hc:(x==("__classdict__" : Str))=false:=by decide):PE X (.Name x pos) (Zi i):=
 NX h ((H.nm x (Qt h)).elim .inl λz=>.inr (.inl z)) hd hc
end
theorem K1{q p:Ur}{loose:List Str}{mean:ExcName->Option Up}{mg mb:Str->Option Up}{h:Heap}{ix:List Nat}(P:Ur)(w:World)(base:Heap){ps:List Str}{k n:Nat}{F:List D->Option D}(T:Top q loose mean mg mb h)(e:recsOf q=S7 p ix)(i:Nat)(x:Str)(hi:ix.contains i=true)(hn:PR (Zy p i)=some x)
  (ok:∀{f:Us}{fd:Ut},Fun (whole h) x x (Zy p i) f fd->FnOk P w (whole h) mg base CX0 k f fd ps (spD (whole h) n F))
  (hb:∀(kV doc pm:Up)(an:Option Us)(cdv ct:Up)(us:List Up),us.length=ps.length->bindArgs (PySem.W.fnOf x x (Sx (Zy p i)) (Wr (Zy p i)) (Z8 (Zy p i)) .none kV doc pm an cdv ct) ⟨us,[]⟩=pure (ps.zip us)):Def P w (whole h) mg base x k n F:=by
 obtain⟨f,fd,m,FU⟩:=NH T e i x hi hn;exact Def.mk m FU (FU.binds hb) (ok FU)
section
variable{X:Cx}{B G0:Hp}{e:Uu}{pos:Pos}{es:List Uu}
theorem pdf{k kk n:Nat}{F:List D->Option D}{g:M (List D)}{x:Str}{p2:Pos}(d:Def X.prog X.w X.K X.mg X.base x k n F)(hr:Room kk X.A)(hg:Gl X x)(ha:PA X (e::es) (tDs X.K B G0 g))(hk:k<=kk:=by decide)(hn:(e::es).length=n:=by rfl)
  (hdb:(x==("__debug__" : Str))=false:=by decide) (he:Ux (e::es) X.env=(false,eval e X.env)::Ux es X.env:=by rfl) (hpl:(backTo pos (Ux es X.env)).any (·.1)=false:=by rfl) :
  PE X (.Call (.Name x p2) (e::es) [] pos) (tD X.K B G0 (U0 n F g)):=Ds d (hr.mono hk) hg ha hn hdb he hpl
end
theorem Fg{q p:Ur}{loose:List Str}{mean:ExcName->Option Up}{mg mb:Str->Option Up}{h:Heap}{ix:List Nat}{P:Ur}{w:World}{k:Nat}{F:List D->Option D}{y:Str}{fa:Us}(T:Top q loose mean mg mb h)(e:recsOf q=S7 p ix)(i:Nat)(x:Str)(hi:ix.contains i=true)(hn:PR (Zy p i)=some x)(hfa:mg x=some (.ref fa))
  (hb:∀(kV doc pm:Up)(an:Option Us)(cdv ct v:Up),bindArgs (PySem.W.fnOf x x (Sx (Zy p i)) (Wr (Zy p i)) (Z8 (Zy p i)) .none kV doc pm an cdv ct) ⟨[v],[]⟩=pure [(y,v)])
  (ok:∀(base:Heap){f:Us}{fd:Ut},Fun (whole h) x x (Zy p i) f fd->FnOk P w (whole h) mg base CX0 k f fd [y] (spD (whole h) 1 F)) :
  ∃fd:Ut,(∀(s:Uq)(v:Up),BindsTo s fd ⟨[v],[]⟩ [(y,v)])/\∀base:Heap,FnOk P w (whole h) mg base CX0 k fa fd [y] (spD (whole h) 1 F):=by
 obtain⟨f,fd,m,FU⟩:=NH T e i x hi hn;cases hfa.symm.trans m;exact⟨fd,AI FU hb,λbase=>ok base FU⟩
theorem BH{l:PySem.W.OpenLaw}{n k:Nat}{q:Ur}{loose:List Str}{XP:(Str->Option Up)->Heap->Prop}{YP:World->Heap->Prop}{d:DefRec}{F:List D->Option D}{x:Str}
  (hn:l.most=some n) (hn2:n<=Uv) (hdf:d.params.defaults=[]) (hr:Room k callerA)
  (hF:∀(w:World)(s₀:Uq)(mg mb:Str->Option Up)(fa:Us)(h:Heap),PySem.W.Ground q loose [] XP w s₀ mg mb h->mg d.name=some (.ref fa) ->
   ∃fd:Ut,(∀(s:Uq)(u:Up),BindsTo s fd ⟨[u],[]⟩ [(x,u)])/\∀base:Heap,FnOk l.prog w (whole h) mg base CX0 k fa fd [x] (spD (whole h) 1 F))
  (hl:∀ns:List Int,ns.length<=n->F [.list (ns.map int)]=some (.bool true)) :
  PySem.W.WalkO q loose XP YP l.row.toRowW d [] (λf vs=>PySem.call f vs):=by
 refine Att.attach_call hn hdf λw s₀ s₁ mg mb fa o pm cd doc a vs ns G Y ho hd hcd hmg hobj hints hlen hg=>?_
 obtain⟨fd,hb,hF⟩:=hF w s₀ mg mb fa _ G hmg;exact Ae (BI _) G.T.g G.T.b G.T.builtins G.T.nolimit hg hobj hints (QS hlen hn2) hr (λbase _ _=>hF base) hb (λH hO hS=>FO hS (hl ns hlen)) λH e s' z=>z
end DL
namespace L2
open PySem PySem.Spec PyProof.Rows
end L2
namespace DL
open PySem PySem.Spec L2
open PyProof.Rows hiding St
def XQ:D->Option Key
 |.int i=>some (.inl i)
 |.str x=>some (.inr x)
 |_=>none
section
variable{K:Frag}{B G0 G H:Hp}{σ:St}{Z:UP}
theorem La{d:D}{k:Key}(h:XQ d=some k):d=kD k:=by
 cases d with
 |int i=>cases h;rfl
 |str x=>cases h;rfl
 |_=>cases h
theorem Rep.key_inv{v:V}{k:Key}(r:Rep K G v (kD k)):v=kV k:=by
 cases k with
 |inl i=>exact r.int_inv
 |inr x=>exact r.str_inv
theorem EOk.under{p:Us}(k:EOk K B G0 G H σ Z)(hp:H p=none):EOk K (upd B p (.dK [])) G0 G (upd H p (.dK [])) σ Z where
 bh:=λb o q=>by
  by_cases z:b=p
  ·subst z;rw[Zf]at q⊢;exact q
  ·rw[Kz z]at q⊢;exact k.bh b o q
 gh:=k.gh.trans (Zx hp)
 g0:=k.g0
 np:=λa u q n=>by
  by_cases z:a=p
  ·subst z;exact k.gh.free hp
  ·rw[Kz z]at q;exact k.np a u q n
 len:=k.len
 pub:=k.pub
 own:=λi ds q=>by obtain⟨a,vs,h1,h2,h3,h4,h5⟩:=k.own i ds q;have z:a≠p:=Ym h4 hp;exact⟨a,vs,h1,by rw[Kz z];exact h2,h3,by rw[Kz z];exact h4,h5⟩
 sep:=k.sep
 dp:=k.dp.map (λ_ _ _ q=>⟨q,rfl⟩) (λ_ ds q=>⟨ds,q,rfl⟩) λi pt d v fp q s r w n=>⟨r.mono (.refl _) (Zx hp),λb m=>let ⟨_,hl⟩:=r.isl b m;⟨by rw[Kz (Ym hl hp)];exact(w b m).1,(w b m).2⟩⟩
end
section
variable{X:Cx}{B G0:Hp}{KX:XW}{e o a b c:Uu}{pos p2:Pos}{es rest:List Uu}
def SL(x y:D):Option D:=match x,XQ y with
 |.dict kvs,some k=>(kvs.find? λp=>decide (XQ p.1=some k)).map (·.2)
 |_,_=>none
theorem Pf(k:Key):XQ (kD k)=some k:=by cases k<;>rfl
theorem M9{K:Frag}{G:Hp}{k:Key}{d:D}:∀{ks:List Key}{vs:List V}{ds:List D},Reps K G vs ds->(((ks.map kD).zip ds).find? λp=>decide (XQ p.1=some k)).map (·.2)=some d->∃v,ZQ (ks.zip vs) k=some v/\Rep K G v d
 |[],vs,ds,_,e=>by simp at e
 |q::ks,_,_,.nil,e=>by simp at e
 |q::ks,_,_,@Reps.cons _ _ v d0 vs ds r t,e=>by
  rw[Qq,QR,List.find?_cons]at e;unfold ZQ;rw[QR,List.find?_cons];rw[Pf]at e;by_cases h:q=k
  ·subst h;simp only[decide_true]at e⊢;cases e;exact⟨v,rfl,r⟩
  ·have h':¬(some q=some k):=λz=>h (QP z)
   simp only[h,h',decide_false]at e⊢;exact M9 t e
end
end DL
namespace DL
open PySem PySem.Spec L2 PySem.SeqAt PySem.AutoSeq1
open PyProof.Rows hiding St
end DL
namespace DL
open PySem PySem.Spec L2
open PyProof.Rows hiding St
end DL
namespace L2
open PySem PySem.Spec PyProof.Rows
end L2
namespace DL
open PySem PySem.Spec L2
open PyProof.Rows hiding St
end DL
namespace L2
open PySem PySem.Spec PyProof.Rows
end L2
namespace DL
open PySem PySem.Spec L2
open PyProof.Rows hiding St
end DL
namespace L2
open PySem PySem.Spec PyProof.Rows
end L2
namespace DL
open PySem PySem.Spec L2
open PyProof.Rows hiding St
theorem EOk.lent{K:Frag}{B G0 G H:Hp}{σ:St}{Z:UP}(k:EOk K B G0 G H σ Z):EOk K H H H H σ (Yc Z) where
 bh:=.refl _
 gh:=.refl _
 g0:=.refl _
 np:=λ_ _ e n=>by rw[n]at e;cases e
 len:=by unfold Yc;rw[Qb];exact k.len
 pub:=λi d e=>by
  rcases L5 e with e2|⟨ds,rfl,e2⟩|⟨p,e2⟩
  ·exact k.tree (by unfold S8;rw[e2])
  ·exact k.tree (by unfold S8;rw[e2])
  ·exact k.tree (by unfold S8;rw[e2])
 own:=λi ds e=>(SB e).elim
 sep:=λi j a ds es e=>(SB e).elim
 dp:=.of (λ_ _ _ q=>HR q) λ_ _ q=>SB q
end DL
namespace L2
open PySem PySem.Spec PyProof.Rows
end L2
namespace DL
open PySem PySem.Spec L2
open PyProof.Rows hiding St
end DL
namespace L2
open PySem PySem.Spec PyProof.Rows
end L2
namespace DL
open PySem PySem.Spec L2
open PyProof.Rows hiding St
theorem PQ{α:Type}(a:α):[a].Nodup:=by simp
section
variable{K:Frag}{B G0 G H:Hp}{σ:St}{Z:UP}
structure NewT(K:Frag)(B G H:Hp)(σ:St)(Z:UP)(pt:Pat)(v:V)(d:D)(fp:List Us):Prop where
 r:RepO K G H pt v d fp
 nd:fp.Nodup
 b:∀a∈fp,B a=none/\G a=none
 f:∀a∈fp,∀(j:Nat) es,Z[j]?=some (some (.own es))->σ[j]?≠some (some (.ref a))
 dp:∀a∈fp,∀(j:Nat) p d v fp',Z[j]?=some (some (.deep p d))->σ[j]?=some (some v)->RepO K G H p v d fp'->a∉fp'
theorem EOk.setDeep{i:Nat}{pt:Pat}{v:V}{d:D}{fp:List Us}(k:EOk K B G0 G H σ Z)(n:NewT K B G H σ Z pt v d fp)(hi:i<Z.length):EOk K B G0 G H (σ.set i (some v)) (Z.set i (some (.deep pt d))) where
 bh:=k.bh
 gh:=k.gh
 g0:=k.g0
 np:=k.np
 len:=by rw[Q5,Q5];exact k.len
 pub:=λj d' q=>by
  by_cases z:i=j
  ·subst z;have:=Yd q;cases this
  ·rw[Qp z]at q⊢;exact k.pub j d' q
 own:=λj es q=>by
  by_cases z:i=j
  ·subst z;have:=Yd q;cases this
  ·rw[Qp z]at q⊢;exact k.own j es q
 sep:=λj l c es fs q1 q2 s1 s2=>by
  have z1:i≠j:=λz=>by subst z;have:=Yd q1;cases this
  have z2:i≠l:=λz=>by subst z;have:=Yd q2;cases this
  rw[Qp z1]at q1 s1;rw[Qp z2]at q2 s2;exact k.sep j l c es fs q1 q2 s1 s2
 dp:=by
  obtain⟨ω,k1,k2⟩:=k.dp;have hs:i<σ.length:=by rw[←k.len];exact hi
  refine⟨λb=>if b∈fp then i else ω b,λj p d' q=>?_,λj es b q s=>?_⟩
  ·by_cases z:i=j
   ·subst z;have:=Yd q;cases this;exact⟨v,fp,QH hs,n.r,n.nd,λa m=>⟨(n.b a m).1,(n.b a m).2,Qk m⟩⟩
   ·rw[Qp z]at q⊢;obtain⟨v',fp',s,r,nn,w⟩:=k1 j p d' q;refine⟨v',fp',s,r,nn,λb m=>⟨(w b m).1,(w b m).2.1,?_⟩⟩;dsimp only;rw[Qs (λz=>n.dp b z j p d' v' fp' q s r m)];exact(w b m).2.2
  ·by_cases z:i=j
   ·subst z;have:=Yd q;cases this
   ·rw[Qp z]at q s;dsimp only;rw[Qs (λz=>n.f b z j es q s)];exact k2 j es b q s
theorem RepOl.leaf:∀{vs:List V}{ds:List D},Reps K G vs ds->RepOl K G H .leaf vs ds []
 |_,_,.nil=>.nil
 |_,_,.cons h t=>.cons (f1:=[]) (f2:=[]) (.leaf h) (RepOl.leaf t)
def Sg(Z:UP)(i:Nat):Option (Pat×D):=match Z[i]? with
 |some (some (.own ds))=>some (.lst .leaf,.list ds)
 |some (some (.deep p d))=>some (p,d)
 |_=>none
theorem EOk.slots(k:EOk K B G0 G H σ Z):∃ω:Us->Nat,∀(i:Nat) p d,Sg Z i=some (p,d)->∃v fp,σ[i]?=some (some v)/\RepO K G H p v d fp/\fp.Nodup/\∀a∈fp,B a=none/\G a=none/\ω a=i:=by
 obtain⟨ω,k1,k2⟩:=k.dp;refine⟨ω,λi p d h=>?_⟩;unfold Sg at h;split at h
 ·rename_i ds q;cases h;obtain⟨a,vs,h1,h2,h3,h4,h5⟩:=k.own i ds q;refine⟨.ref a,[a],h1,.lst h4 (.leaf h5),PQ a,λb m=>?_⟩;rw[Q4.mp m];exact⟨h2,h3,k2 i ds a q h1⟩
 ·rename_i p' d' q;cases h;exact k1 i p d q
 ·cases h
theorem EOk.mutD{j:Nat}{p:Pat}{d d':D}{v:V}{fp fp':List Us}{a:Us}{o:HO}(k:EOk K B G0 G H σ Z)(hd:Z[j]?=some (some (.deep p d)))(hv:σ[j]?=some (some v))(r:RepO K G H p v d fp)(ha:a∈fp)
  (r':RepO K G (upd H a o) p v d' fp') (nd':fp'.Nodup) (sub:∀b∈fp',b∈fp):EOk K B G0 G (upd H a o) σ (Z.set j (some (.deep p d'))):=by
 obtain⟨ω,k1,k2⟩:=k.dp;obtain⟨v0,fp0,s0,r0,n0,w0⟩:=k1 j p d hd;rw[hv]at s0;cases s0;have e0:=r0.uniq (.refl _) r;subst e0;obtain⟨hb,hg,hw⟩:=w0 a ha;obtain⟨ws,hl⟩:=r.isl a ha;have nt:∀vs,H a≠some (.tup vs):=λvs z=>by rw[hl]at z;cases ws<;>cases z
 have hjl:j<Z.length:=(Qg.mp hd).1;have nz:∀{m:Nat}{s:Sl},j≠m->(Z.set j (some (.deep p d')))[m]?=some (some s)->Z[m]?=some (some s):=λ{m s} z q=>by rw[Qp z]at q;exact q
 refine⟨λb u e=>?_,λb u e=>?_,k.g0,k.np,by rw[Q5];exact k.len,λm dm e=>?_,λm es e=>?_,λm l c es fs q1 q2 s1 s2=>?_,ω,λm pm dm e=>?_,λm es b e s=>?_⟩
 ·rw[Kz (Ym e hb)];exact k.bh b u e
 ·rw[Kz (Ym e hg)];exact k.gh b u e
 ·by_cases z:j=m
  ·subst z;have:=Yd e;cases this
  ·exact k.pub m dm (nz z e)
 ·by_cases z:j=m
  ·subst z;have:=Yd e;cases this
  ·have e:=nz z e;obtain⟨c,us,g1,g2,g3,g4,g5⟩:=k.own m es e;have zc:c≠a:=λw=>by subst w;exact z (hw.symm.trans (k2 m es c e g1))
   exact⟨c,us,g1,g2,g3,by rw[Kz zc];exact g4,g5⟩
 ·have z1:j≠m:=λz=>by subst z;have:=Yd q1;cases this
  have z2:j≠l:=λz=>by subst z;have:=Yd q2;cases this
  exact k.sep m l c es fs (nz z1 q1) (nz z2 q2) s1 s2
 ·by_cases z:j=m
  ·subst z;have:=Yd e;cases this;exact⟨v,fp',hv,r',nd',λb mb=>w0 b (sub b mb)⟩
  ·obtain⟨vm,fm,sm,rm,nm,wm⟩:=k1 m pm dm (nz z e);exact⟨vm,fm,sm,rm.upd nt (λmm=>z (hw.symm.trans (wm a mm).2.2)),nm,wm⟩
 ·have z:j≠m:=λz=>by subst z;have:=Yd e;cases this
  exact k2 m es b (nz z e) s
end
def tT(K:Frag)(B G0:Hp)(pt:Pat)(f:M D):TE:=λσ H Q=>∃G Z,EOk K B G0 G H σ Z/\match f Z with
 |.ok d Z'=>∀v fp G' H',EOk K B G0 G' H' σ Z'->Same G G'->NewT K B G' H' σ Z' pt v d fp->Q v H'
 |.bad=>False
def Sf(i:Nat)(pt:Pat)(f:M D):SM:=sB f λd Z=>if i<Z.length then .nx (Z.set i (some (.deep pt d)))else .bad
section
variable{X:Cx}{B G0:Hp}{KX:XW}{e o a b c:Uu}{pos:Pos}{es:List Uu}{st:Stmt}{sts:List Stmt}{pt:Pat}
theorem DW{i:Nat}{x:Str}{f:M D}{p2:Pos}(hN:X.N.Nodup)(hi:X.N[i]?=some x)(hx:Loc X.env.scope x)(he:PE X e (tT X.K B G0 pt f))(hs:swapsWith e (some (.Name x p2)) pos.line X.env=pure false:=by rfl)
  (hf:X.fn x=true∨X.env.scope.names.lookup x=some .local:=by first|exact .inl rfl|exact .inr rfl|assumption):PS X (.Assign [.Name x p2] e pos) (tS X.K B G0 KX (Sf i pt f)):=
 Zp (P5 hN hi hx he hs hf) λD σ H ⟨G,Z,k,a⟩=>by
  refine⟨G,Z,k,?_⟩;unfold Sf sB at a;cases z:f Z with
  |bad=>rw[z]at a;exact a.elim
  |ok ds Z1=>
   rw[z]at a;intro v fp G' H' k' s' n;dsimp only at a;split at a
   ·rename_i hl;exact a _ G' H' (k'.setDeep n hl) s'
   ·exact a.elim
end
def isT:Option HO->Bool
 |some (.tup _)=>true
 |some (.frz _ (.tup _))=>true
 |_=>false
theorem Eh{u:MO}:isT (some u.ho)=false:=by cases u<;>rfl
def Zs(fp:List Us)(G H:Hp):Hp:=λb=>if b∈fp∨isT (H b)=true then H b else G b
section
variable{K:Frag}{B G0 G H:Hp}{fp:List Us}
theorem AG(gh:Same G H):Same G (Zs fp G H):=λb o e=>by
 unfold Zs;split
 ·exact gh b o e
 ·exact e
theorem DV(gh:Same G H):Same (Zs fp G H) H:=λb o e=>by
 unfold Zs at e;split at e
 ·exact e
 ·exact gh b o e
theorem Mi{b:Us}(h:b∈fp∨isT (H b)=true):Zs fp G H b=H b:=by unfold Zs;rw[Qk h]
theorem Mh{b:Us}(h:b∉fp)(h2:isT (H b)=false):Zs fp G H b=G b:=by
 unfold Zs;rw[Qs];rintro(z|z)
 ·exact h z
 ·rw[h2]at z;cases z
theorem Ext.pubT{G' H':Hp}(ex:Ext G H G' H')(fr:∀a∈fp,H a=none):Ext G H (Zs fp G' H') H':=
 ⟨ex.h,ex.g.trans (AG ex.gh),DV ex.gh,λa u e n=>by rw[Mh (λm=>by rw[fr a m]at e;cases e) (by rw[ex.h a _ e];exact Eh)];exact ex.np a u e n⟩
def nl0:D->Bool
 |.tuple ds=>ds.all flat
 |d=>flat d
theorem Rep.nl{G' G2 H':Hp}{v:V}{d:D}(r:Rep K G' v d)(h:nl0 d=true)(gh:Same G' H'):Rep K (Zs fp G2 H') v d:=by
 cases r with
 |tup hs rr=>
  refine .tup ?_ (rr.flat h);rcases hs with (hs|⟨o,hs⟩)|hs
  ·have:=gh _ _ hs;exact .inl (.inl ((Mi (.inr (by rw[this];rfl))).trans this))
  ·have:=gh _ _ hs;exact .inl (.inr ⟨o,(Mi (.inr (by rw[this];rfl))).trans this⟩)
  ·exact .inr hs
 |non=>exact .non
 |bl b=>exact .bl b
 |int i=>exact .int i
 |str x=>exact .str x
 |lst _ _=>cases h
 |dic _=>cases h
 |exc _ _ _ _=>cases h
 |dct _ _ _ _ _=>cases h
 |dtt _ _ _ _=>cases h
theorem Reps.nl{G' G2 H':Hp}(gh:Same G' H'):∀{vs:List V}{ds:List D},Reps K G' vs ds->ds.all nl0=true->Reps K (Zs fp G2 H') vs ds
 |_,_,.nil,_=>.nil
 |_,_,.cons r t,h=>by rw[List.all_cons,Je]at h;exact .cons (r.nl h.1 gh) (Reps.nl gh t h.2)
end
def Wg(f:M (List D)):M (List D):=λZ=>match f (Yc Z)with
 |.ok ds _=>if ds.all nl0=true then .ok ds Z else .bad
 |.bad=>.bad
section
variable{Z Z1 Z2 Z':UP}{pt:Pat}
theorem DU{i:Nat}{f:M D}{d:D}(h1:f Z=.ok d Z1)(h2:i<Z1.length)(h3:Z1.set i (some (.deep pt d))=Z'):Sf i pt f Z=.nx Z':=by unfold Sf sB;rw[h1];dsimp only;rw[if_pos h2];subst h3;rfl
theorem BG{f:M (List D)}{ds:List D}(h:f (Yc Z)=.ok ds Z')(hf:ds.all nl0=true):Wg f Z=.ok ds Z:=by unfold Wg;rw[h];dsimp only;rw[if_pos hf]
end
theorem NewL.back{K:Frag}{B G0 G H G' H':Hp}{σ:St}{Z Z1:UP}{ad:Us}{vs:List V}{ds:List D}(k:EOk K B G0 G H σ Z)(k':EOk K H H G' H' σ Z1)(n:NewL K H G' H' σ Z1 ad vs ds)(hf:ds.all nl0=true) :
  EOk K B G0 (Zs [] G H') H' σ Z/\Same G (Zs [] G H')/\NewL K B (Zs [] G H') H' σ Z ad vs ds:=by
 have ex:Ext G H G H':=⟨k'.bh,.refl _,k.gh.trans k'.bh,λ_ _ _ n=>n⟩;have ex2:Ext G H (Zs [] G H') H':=ex.pubT (λa m=>by cases m);refine⟨k.ext ex2,ex2.g,⟨k.bh.free n.b,?_,n.h,n.r.nl k'.gh hf,λj es q w=>?_,λj pt d v fp q s r=>k.freshD k'.bh n.b q s r⟩⟩
 ·rw[Mh (by simp) (by rw[n.h];rfl)];exact k.gh.free n.b
 ·obtain⟨b,us,g1,g2,g3,g4,g5⟩:=k.own j es q;rw[g1]at w;cases w;rw[n.b]at g4;cases g4
section
variable{X:Cx}{B G0:Hp}{KX:XW}
theorem Ff{l:Bool}{y:Str}{j:Nat}{py:Pos}{spos:Pos}{tg elt iter:Uu}{ifs:List Uu}{gs:List Comprehension}{scope:Scope}{pos:Pos}{N2:List Str}{k:Nat}{f:M (List D)}{s:D->UP->Option UP}{t:M Bool}{rd:RdB}(hN:X.N.Nodup)(hj:X.N[j]?=some y)(hy:X.env.scope.names.lookup y=some .local)(hc:X.calm=true)
  (hi:∀B' G',PI X tg iter (iD X.K B' G' f)) (hblk:Yr X N2 scope (.ListComp elt (⟨tg,iter,ifs,0⟩::gs) scope pos) tg ifs s t rd) (hb:Sd X.env.scope scope X.N N2 k) (hs:∀x,UN iter X.env x=pure x:=by intro _;rfl)
  (hsw:swapsWith (.ListComp elt (⟨tg,iter,ifs,0⟩::gs) scope pos) (some (.Name y py)) spos.line X.env=pure true:=by rfl) :
  PS X (.Assign [.Name y py] (.ListComp elt (⟨tg,iter,ifs,0⟩::gs) scope pos) spos) (tS X.K B G0 KX (Za j (Wg (dCG l f k s t rd)))):=by
 intro pins s0 σ H Dn I ⟨G,Z,k0,a⟩;unfold Za sB Wg at a;cases z:dCG l f k s t rd (Yc Z)with
 |bad=>rw[z]at a;exact a.elim
 |ok es Z1=>
 rw[z]at a;dsimp only at a;by_cases hnl:es.all nl0=true
 case neg=>rw[Qs hnl]at a;exact a.elim
 rw[Qk hnl]at a;dsimp only at a;by_cases hl:j<Z.length
 ·rw[Qk hl]at a;obtain⟨ds,ZF,zf,zl,hfl⟩:=Ob z;rw[exec_Assign_Name_used _ _ _ _ hsw];refine Qf (Jq (Qf ?_));show Uw _ X.A (do let _ ←comprehension (.ListComp elt (⟨tg,iter,ifs,0⟩::gs) scope pos) scope X.env _ (newList []) false (eval iter X.env) (some (assign (.Name y py) X.env))) _ _ s0;refine Qf (QG (OF (use:=some (assign (.Name y py) X.env)) (Qc:=λ_ s'=>SP X pins Dn .next s') hc (hi H H) hblk hb hs I k0.lent zf zl hfl λC D vs G' H' s4 m I7 hm hC hL hz hcl hp k' s' n=>?_) (λ_ s' hq=>Qn (Qn hq)) λ_ _ e=>e);show Uw _ X.A (assign (.Name y py) X.env (.ref D)) _ _ s4;refine wpAny_assign_Name (Ni I7 hN hj (.inl hy) (v:=.ref D) rfl (λs5 I8 ⟨ad,sb,hx⟩=>?_) (.inr hy))
  have hCa:C≠ad:=by
   rcases hx with e|e
   ·rw[e];exact hL
   ·exact Ne.symm (hcl y ad e)
  refine⟨m,hm.sameBut sb hCa,λh' sb'=>⟨_,H',I8.turned (t':=s5.toks) (it:=C) (λb o hb e=>(sb'.2 b hb).trans e) hC hL (.inr hz) hcl hp,?_⟩⟩;obtain⟨k2,s2,n2⟩:=NewL.back k0 k' n hnl;exact a _ _ H' (k2.setOwn n2 hl) s2
 ·rw[Qs hl]at a;exact a.elim
theorem AF{F F':M (List D)}(h:∀Z es Z',F Z=.ok es Z'->F' Z=.ok es Z')(Z:UP)(es:List D)(Z':UP)(e:Wg F Z=.ok es Z'):Wg F' Z=.ok es Z':=by
 unfold Wg at e⊢;cases z:F (Yc Z)with
 |bad=>rw[z]at e;cases e
 |ok ds Z1=>rw[z]at e;rw[h _ _ _ z];exact e
theorem Fe{l:Bool}{y:Str}{j:Nat}{py:Pos}{spos:Pos}{tg elt iter:Uu}{ifs:List Uu}{gs:List Comprehension}{scope:Scope}{pos:Pos}{f:M (List D)}{s:D->UP->Option UP}{t:M Bool}{rd:RdB}{F:M (List D)}(SC:Scope)(N1 N2:List Str)(k:Nat)(le:∀Z es Z',F Z=.ok es Z'->dCG l f k s t rd Z=.ok es Z')(hN:X.N.Nodup)(hj:X.N[j]?=some y)(hy:X.env.scope.names.lookup y=some .local)(hc:X.calm=true)
  (hi:∀B' G',PI X tg iter (iD X.K B' G' f)) (hblk:Yr X N2 scope (.ListComp elt (⟨tg,iter,ifs,0⟩::gs) scope pos) tg ifs s t rd) (h1:X.env.scope=SC) (h2:X.N=N1) (hb:Vm Sc SC scope N1 N2 k=true) (hs:∀x,UN iter X.env x=pure x:=by intro _;rfl)
  (hsw:swapsWith (.ListComp elt (⟨tg,iter,ifs,0⟩::gs) scope pos) (some (.Name y py)) spos.line X.env=pure true:=by rfl) :
  PS X (.Assign [.Name y py] (.ListComp elt (⟨tg,iter,ifs,0⟩::gs) scope pos) spos) (tS X.K B G0 KX (Za j (Wg F))):=
 Zp (Ff hN hj hy hc hi hblk (by rw[h1,h2];exact Oa hb) hs hsw) λ_ _ _ q=>NL (AF le) q
end
def Rc(f:M D):M Bool:=Kc f λx=>match x with | .list ds=>UU (!ds.isEmpty)|_=>λ_=>.bad
def Wa:Nat:=10 ^ 60
section
variable{X:Cx}{B G0:Hp}{e:Uu}
theorem j6{α β:Type}{xs:List α}{ys:List β}(h:xs.length=ys.length):xs.isEmpty=ys.isEmpty:=by cases xs<;>cases ys<;>first|rfl|(simp at h)
theorem DT{f:M D}(h:PE X e (tD X.K B G0 f))(he:∀whole,isTrue e X.env whole=(do let v ←whole;standAt e.pos;holding [v] (truthy v)):=by intro _;rfl):PT X e (tBo X.K B G0 (Rc f)):=
 YE (Aj h he) λσ H Q q=>tM.one (R:=Rep X.K) q λv H2 G Z x k r a=>by
  cases x with
  |list ds=>obtain⟨l,vs,rfl,h1,r1⟩:=r.lst_inv;refine⟨!vs.isEmpty,.inl ⟨vs,k.gh.seq h1,rfl⟩,?_⟩;exact aft.now (v:=!vs.isEmpty) a k (by rw[j6 r1.length])
  |_=>exact a.elim
theorem Hq{f:M D}{Z Z1:UP}{ds:List D}(h1:f Z=.ok (.list ds) Z1):Rc f Z=.ok (!ds.isEmpty) Z1:=by unfold Rc;exact K5 h1 rfl
end
def Xn(kvs:List (D×D))(k:Key)(d:D):List (D×D):=if kvs.any (λp=>decide (XQ p.1=some k))then kvs.map (λp=>if XQ p.1=some k then(p.1,d)else p)else kvs++[(kD k,d)]
def RE(j:Nat)(g f:M D):SM:=sB f λd Z1=>match Z1[j]? with
 |some (some (.deep .dic _))=>sB g (λy Z2=>match XQ y,Z2[j]? with
  |some k,some (some (.deep .dic (.dict kvs)))=>if kvs.length<1000 then .nx (Z2.set j (some (.deep .dic (.dict (Xn kvs k d)))))else .bad
  |_,_=>.bad) Z1
 |_=>.bad
section
variable{K:Frag}{G:Hp}
theorem Mg{k:Key}:∀{ks:List Key}{vs:List V}{ds:List D},Reps K G vs ds->((ks.map kD).zip ds).any (λp=>decide (XQ p.1=some k))=(ks.zip vs).any λkv=>decide (kv.1=k)
 |[],_,_,_=>rfl
 |_::_,_,_,.nil=>rfl
 |k0::ks,_,_,.cons _ t=>by
  rw[Qq,QR,QR,Ug,Ug,Mg t,Pf]
  congr 1
  by_cases e:k0=k
  ·subst e;simp
  ·simp[e]
theorem M8{k:Key}{w:V}{d:D}(r:Rep K G w d):∀{ks:List Key}{vs:List V}{ds:List D},Reps K G vs ds->∃vs' ds',(ks.zip vs).map (λkv=>if kv.1=k then(kv.1,w)else kv)=ks.zip vs'/\((ks.map kD).zip ds).map (λp=>if XQ p.1=some k then(p.1,d)else p)=(ks.map kD).zip ds'/\ds'.length=ds.length/\Reps K G vs' ds'
 |[],vs,ds,h=>⟨vs,ds,rfl,rfl,rfl,h⟩
 |_::_,_,_,.nil=>⟨[],[],rfl,rfl,rfl,.nil⟩
 |k0::ks,_,_,.cons (v:=v0) (d:=d0) h t=>by
  obtain⟨vs',ds',e1,e2,e3,e4⟩:=M8 r (ks:=ks) t;by_cases e:k0=k
  ·refine⟨w::vs',d::ds',?_,?_,by rw[Qv,e3,Qv],.cons r e4⟩
   ·rw[QR,Qq,e1,Qk e,QR]
   ·rw[Qq,QR,Qq,e2,Qk (by rw[Pf,e]),QR]
  ·refine⟨v0::vs',d0::ds',?_,?_,by rw[Qv,e3,Qv],.cons h e4⟩
   ·rw[QR,Qq,e1,Qs e,QR]
   ·rw[Qq,QR,Qq,e2,Qs (by rw[Pf];exact λz=>e (QP z)),QR]
theorem Reps.snoc{w:V}{d:D}(r:Rep K G w d):∀{vs:List V}{ds:List D},Reps K G vs ds->Reps K G (vs++[w]) (ds++[d])
 |_,_,.nil=>.cons r .nil
 |_,_,.cons h t=>.cons h (Reps.snoc r t)
theorem DS{k:Key}{w:V}{d:D}(r:Rep K G w d){ks:List Key}{vs:List V}{ds:List D}(h:Reps K G vs ds)(hl:ks.length=ds.length):∃(ks':List Key)(vs':List V)(ds':List D),ZI (ks.zip vs) k w=ks'.zip vs'/\Xn ((ks.map kD).zip ds) k d=(ks'.map kD).zip ds'/\ks'.length=ds'.length/\Reps K G vs' ds':=by
 unfold ZI Xn;rw[Mg h];have hv:=h.length;split
 ·obtain⟨vs',ds',e1,e2,e3,e4⟩:=M8 r (k:=k) (ks:=ks) h;exact⟨ks,vs',ds',e1,e2,by rw[e3];exact hl,e4⟩
 ·refine⟨ks++[k],vs++[w],ds++[d],?_,?_,by rw[Qj,Qj,hl];rfl,h.snoc r⟩
  ·rw[List.zip_append (by omega)];rfl
  ·rw[QB,List.zip_append (by rw[Qb];omega)];rfl
end
section
variable{X:Cx}{B G0:Hp}{KX:XW}{e o i:Uu}{pos p2:Pos}
theorem Eg{j:Nat}{f g:M D}(hu:X.A.units+64<cLine)(he:PE X e (tD X.K B G0 f))(ho:PE X o (Zi j))(hi:PE X i (tD X.K B G0 g))(hs:swapsWith e (some (.Subscript o i p2)) pos.line X.env=pure false:=by rfl) :
  PS X (.Assign [.Subscript o i p2] e pos) (tS X.K B G0 KX (RE j g f)):=
 Zp (CS (by omega) ho hi he hs) λD σ H q=>tS.bnd (R:=Rep X.K) q λv H1 G1 Z1 d k r a=>by
  split at a
  ·rename_i d0 q0;obtain⟨ω,ks1⟩:=k.slots;obtain⟨v0,fp0,hv0,r0,_,_⟩:=ks1 j .dic d0 (by unfold Sg;rw[q0]);refine⟨v0,hv0,G1,Z1,k,?_⟩;unfold sB at a;cases z:g Z1 with
   |bad=>rw[z]at a;exact a.elim
   |ok y Z2=>
    rw[z]at a;dsimp only at a;intro kv G' H' k' s' r';split at a
    ·rename_i ky kvs hk q2;split at a
     ·rename_i hlt;obtain⟨ω2,ks2⟩:=k'.slots;obtain⟨v2,fp2,hv2,r2,nd2,w2⟩:=ks2 j .dic (.dict kvs) (by unfold Sg;rw[q2]);rw[hv0]at hv2;cases hv2;have ey:=La hk;subst ey;have ekv:=r'.key_inv;subst ekv;cases r2 with
      |@dic ad ks vs ds _ e hl h rr=>
       obtain⟨ks',vs',ds',e1,e2,e3,e4⟩:=DS (k:=ky) (r.mono s') rr hl;refine⟨ad,_,rfl,DPut.k h ?_,a σ G' _ (k'.mutD q2 hv0 (.dic e hl h rr) Qo (.dic (ks:=ks') (vs:=vs') (ds:=ds') (by rw[e];exact e2) e3 (by rw[Zf,e1]) e4) (PQ ad) λb m=>m) (s'.trans (.refl _))⟩;have:(ks.zip vs).length<=kvs.length:=by rw[e,JK,JK,Qb];have:=rr.length;omega
       exact Nat.lt_of_le_of_lt this (QE hlt (by decide))
     ·exact a.elim
    ·exact a.elim
  ·exact a.elim
theorem EOk.fillO{K:Frag}{B G0 G H:Hp}{σ:St}{Z:UP}{p:Us}{u:HO}(k:EOk K (upd B p (.dK [])) G0 G H σ Z)(hb:B p=none)(h0:G0 p=none):EOk K B G0 G (upd H p u) σ Z/\G p=none/\H p=some (.dK [])/\(∀(j:Nat) es,Z[j]?=some (some (.own es))->σ[j]?≠some (some (.ref p))) /\
  ∀(j:Nat) pt d v fp',Z[j]?=some (some (.deep pt d))->σ[j]?=some (some v)->RepO K G (upd H p u) pt v d fp'->p∉fp':=by
 have hG:G p=none:=k.np p (.k []) Zf h0;have hH:H p=some (.dK []):=k.bh p _ Zf;refine⟨⟨λb o q=>?_,λb o q=>?_,k.g0,λa w q n=>?_,k.len,k.pub,λi ds q=>?_,k.sep,k.dp.map (λ_ _ _ q=>⟨q,rfl⟩) (λ_ ds q=>⟨ds,q,rfl⟩) λi pt d v fp q s r w n=>?_⟩,hG,hH,λj es q s=>?_,λj pt d v fp' q s r=>?_⟩
 ·have z:b≠p:=Ym q hb;rw[Kz z];exact k.bh b o (by rw[Kz z];exact q)
 ·rw[Kz (Ym q hG)];exact k.gh b o q
 ·have z:a≠p:=Ym q hb;exact k.np a w (by rw[Kz z];exact q) n
 ·obtain⟨a,vs,h1,h2,h3,h4,h5⟩:=k.own i ds q;have z:a≠p:=λe=>by subst e;rw[Zf]at h2;cases h2
  exact⟨a,vs,h1,by rw[Kz z]at h2;exact h2,h3,by rw[Kz z];exact h4,h5⟩
 ·have zz:∀b∈fp,b≠p:=λb m e=>by subst e;have:=(w b m).1;rw[Zf]at this;cases this
  refine⟨r.upd (λ_ e=>by rw[hH]at e;cases e) (λm=>zz p m rfl),λb m=>?_⟩;obtain⟨w1,w2⟩:=w b m;rw[Kz (zz b m)]at w1;exact⟨w1,w2⟩
 ·obtain⟨a,vs,h1,h2,h3,h4,h5⟩:=k.own j es q;rw[h1]at s;cases s;rw[Zf]at h2;cases h2
 ·obtain⟨ω,k1,_⟩:=k.dp;obtain⟨v',fp,s',r',_,w⟩:=k1 j pt d q;rw[s]at s';cases s';have zz:p∉fp:=λm=>by have:=(w p m).1;rw[Zf]at this;cases this
  have e:=(r'.upd (o:=u) (λ_ e=>by rw[hH]at e;cases e) zz).uniq (.refl _) r;rw[←e];exact zz
theorem BF:PE X (.Dict [] [] pos) (tT X.K B G0 .dic (UU (.dict []))):=Kt AC λσ H Q ⟨G,Z,k,a⟩ p hp=>by
 obtain⟨f1,f2,f3,f4,f5⟩:=(k.under hp).fillO (u:=.dK []) (k.bh.free hp) (k.g0.free (k.gh.free hp));have e:upd (upd H p (.dK [])) p (.dK [])=upd H p (.dK []):=by funext b;unfold upd;split<;>rfl
 rw[e]at f1 f5;exact a (.ref p) [p] _ _ f1 (.refl _) ⟨.dic (ks:=[]) (vs:=[]) (ds:=[]) rfl rfl Zf .nil,PQ p,λb m=>by rw[Q4.mp m];exact⟨k.bh.free hp,f2⟩,λb m=>by rw[Q4.mp m];exact f4,λb m=>by rw[Q4.mp m];exact f5⟩
theorem Ef{j:Nat}{g f:M D}{Z Z1 Z2 Z':UP}{d y e0:D}{k:Key}{kvs:List (D×D)}(h1:f Z=.ok d Z1)(q1:Z1[j]?=some (some (.deep .dic e0)))(h2:g Z1=.ok y Z2)(hk:XQ y=some k)(q2:Z2[j]?=some (some (.deep .dic (.dict kvs))))(hl:kvs.length<1000)
  (h3:Z2.set j (some (.deep .dic (.dict (Xn kvs k d))))=Z'):RE j g f Z=.nx Z':=by
 unfold RE sB;rw[h1];dsimp only;rw[q1];dsimp only;rw[h2];dsimp only;rw[hk,q2];dsimp only;rw[Qk hl,h3]
def Y0(j:Nat)(g:M D):M D:=λZ=>match Z[j]? with
 |some (some (.deep .dic _))=>(match g Z with
  |.ok y Z2=>(match Z2[j]? with
   |some (some (.deep .dic (.dict kvs)))=>(match SL (.dict kvs) y with
    |some d=>.ok d Z2
    |none=>.bad)
   |_=>.bad)
  |.bad=>.bad)
 |_=>.bad
theorem DR{j:Nat}{g:M D}(hu:X.A.units+64<cLine)(ho:PE X o (Zi j))(hi:PE X i (tD X.K B G0 g))(hs:T5 i:=by intro _ _;rfl):PE X (.Subscript o i pos) (tD X.K B G0 (Y0 j g)):=
 Kt (CT (by omega) ho hi hs) λσ H Q ⟨G,Z,k,a⟩=>by
  unfold Y0 at a;split at a
  ·rename_i d0 q0;obtain⟨ω,ks1⟩:=k.slots;obtain⟨v0,fp0,hv0,r0,_,_⟩:=ks1 j .dic d0 (by unfold Sg;rw[q0]);refine⟨v0,hv0,G,Z,k,?_⟩;cases z:g Z with
   |bad=>rw[z]at a;exact a.elim
   |ok y Z2=>
    rw[z]at a;dsimp only at a;intro kv G' H' k' s' r';split at a
    ·rename_i kvs q2;split at a
     ·rename_i d e;obtain⟨ω2,ks2⟩:=k'.slots;obtain⟨v2,fp2,hv2,r2,nd2,w2⟩:=ks2 j .dic (.dict kvs) (by unfold Sg;rw[q2]);rw[hv0]at hv2;cases hv2;unfold SL at e;split at e
      ·rename_i kvs' ky hx hk;cases hx;have ey:=La hk;subst ey;have ekv:=r'.key_inv;subst ekv;cases r2 with
       |@dic ad ks vs ds _ e0 hl h rr=>subst e0;obtain⟨w,hw,rw'⟩:=M9 rr e;exact⟨ad,w,rfl,.inl ⟨_,ky,.inl h,rfl,hw.symm⟩,a w G' H' k' s' rw'⟩
      ·cases e
     ·exact a.elim
    ·exact a.elim
  ·exact a.elim
theorem Ou{j:Nat}{g:M D}{Z Z1:UP}{e0 y d:D}{kvs:List (D×D)}(q0:Z[j]?=some (some (.deep .dic e0)))(h:g Z=.ok y Z1)(q1:Z1[j]?=some (some (.deep .dic (.dict kvs))))(h2:SL (.dict kvs) y=some d):Y0 j g Z=.ok d Z1:=by unfold Y0;rw[q0];dsimp only;rw[h];dsimp only;rw[q1];dsimp only;rw[h2]
end
end DL
namespace L2
open PySem PySem.Spec PyProof.Rows PySem.Calls PyProof.V
end L2
namespace DL
open PySem PySem.Spec L2
open PyProof.Rows hiding St
def tgN:Uu->List Str
 |.Name x _=>[x]
 |.Tuple [.Name x _] _ _=>[x]
 |.Tuple [.Name x _,.Name y _] _ _=>[x,y]
 |.Tuple [.Name x _,.Name y _,.Name z _] _ _=>[x,y,z]
 |.Tuple [.Name x _,.Name y _,.Name z _,.Name u _] _ _=>[x,y,z,u]
 |_=>[]
def adN(vs:List Str):List Str->List Str
 |[]=>vs
 |x::r=>adN (if vs.elem x then vs else vs++[x]) r
def V4(vs:List Str):List Comprehension->List Str
 |[]=>vs
 |⟨tg,_,_,_⟩::r=>V4 (adN vs (tgN tg)) r
def dotN(x:Str):Str:=("." : Str)++x
def blN(N:List Str)(gs:List Comprehension):List Str:=N.map (λx=>if(V4 [] gs).elem x then dotN x else x)++V4 [] gs
def glN(sc:Scope):List Str:=sc.names.filterMap λy=>match y.2 with | .globalImplicit=>some y.1|_=>none
abbrev NmF(s:Stmt)(N:List Str):Prop:=FnNm (Z8 s) N (glN (Z8 s))
theorem mq{α:Type}{l:List α}{x:α}(n:Nat)(h:l[n]?=some x):x∈l:=Qt h
section
variable{sc:Scope}{N gl:List Str}{x:Str}
theorem gA(H:FnNm sc N gl)(h:gl.elem x=true):sc.names.lookup x=some .globalImplicit:=H.gl x (by simpa using h)
end
section
variable{X:Cx}{B G0:Hp}{KX:XW}{e e1 e2 o a b c i:Uu}{gl:List Str}{pos p2:Pos}{x:Str}{j:Nat}
theorem Fd(H:FnNm X.env.scope X.N gl)(hi:X.N[j]?=some x:=by rfl)(hf:X.fn x=true∨X.env.scope.names.lookup x=some .local:=by first|exact .inl rfl|exact .inr rfl|assumption):PG X (.Name x pos) (tG X.K B G0 (gN j)):=Wj (Wk H.nd hi (lq H j hi) hf)
theorem Ee{N':List Str}{scope:Scope}{cl:List (Str×Us)}{C:Us}{s₀:Uq}{H₀:Hp}{ex:List Us}(hN:N'.Nodup:=by decide +kernel)(hi:N'[j]?=some x:=by rfl)(hl:scope.names.lookup x=some .local:=by rfl):PG (X.blk N' scope cl C s₀ H₀ ex) (.Name x pos) (tG X.K B G0 (gN j)):=Wj (Wk hN hi (Oc hl) (.inr (P2 hl)))
theorem aSet{f:M D}(H:FnNm X.env.scope X.N gl)(he:PE X e (tD X.K B G0 f))(hi:X.N[j]?=some x:=by rfl)(hs:swapsWith e (some (.Name x p2)) pos.line X.env=pure false:=by rfl)
  (hf:X.fn x=true∨X.env.scope.names.lookup x=some .local:=by first|exact .inl rfl|exact .inr rfl|assumption):PS X (.Assign [.Name x p2] e pos) (tS X.K B G0 KX (U8 j f)):=FP H.nd hi (lq H j hi) he hs hf
theorem Nt{f:M (List D)}(H:FnNm X.env.scope X.N gl)(he:PE X e (tL X.K B G0 f))(hi:X.N[j]?=some x:=by rfl)(hs:swapsWith e (some (.Name x p2)) pos.line X.env=pure false:=by rfl)
  (hf:X.fn x=true∨X.env.scope.names.lookup x=some .local:=by first|exact .inl rfl|exact .inr rfl|assumption):PS X (.Assign [.Name x p2] e pos) (tS X.K B G0 KX (Za j f)):=MQ H.nd hi (lq H j hi) he hs hf
theorem Fc{f:M D}{pt:Pat}(H:FnNm X.env.scope X.N gl)(he:PE X e (tT X.K B G0 pt f))(hi:X.N[j]?=some x:=by rfl)(hs:swapsWith e (some (.Name x p2)) pos.line X.env=pure false:=by rfl)
  (hf:X.fn x=true∨X.env.scope.names.lookup x=some .local:=by first|exact .inl rfl|exact .inr rfl|assumption):PS X (.Assign [.Name x p2] e pos) (tS X.K B G0 KX (Sf j pt f)):=DW H.nd hi (lq H j hi) he hs hf
theorem aAug{op:Operator}{p:Int->Int->Option D}{f:M D}{pos':Pos}(H:FnNm X.env.scope X.N gl)(ho:IpD X op p)(he:PE X e (tD X.K B G0 f))(hi:X.N[j]?=some x:=by rfl)(hf:X.fn x=true∨X.env.scope.names.lookup x=some .local:=by first|exact .inl rfl|exact .inr rfl|assumption):PS X (.AugAssign (.Name x pos') op e pos) (tS X.K B G0 KX (Xm p j f)):=Fy H.nd hi (lq H j hi) ho he hf
theorem Fb{l:Bool}{tg elt iter:Uu}{ifs:List Uu}{gs:List Comprehension}{scope:Scope}{f:M (List D)}{s:D->UP->Option UP}{t:M Bool}{rd:RdB}{F:M (List D)}{k:Nat}{SC:Scope}{N1:List Str}(H:FnNm SC N1 gl)(le:∀Z es Z',F Z=.ok es Z'->dCG l f k s t rd Z=.ok es Z')(hc:X.calm=true)
  (hi:PI X tg iter (iD X.K B G0 f)) (hblk:Yr X (blN N1 (⟨tg,iter,ifs,0⟩::gs)) scope (.ListComp elt (⟨tg,iter,ifs,0⟩::gs) scope pos) tg ifs s t rd) (hb:Vm Sc SC scope N1 (blN N1 (⟨tg,iter,ifs,0⟩::gs)) k=true) (h1:X.env.scope=SC:=by rfl) (h2:X.N=N1:=by rfl) (hs:∀x,UN iter X.env x=pure x:=by intro _;rfl) :
  PE X (.ListComp elt (⟨tg,iter,ifs,0⟩::gs) scope pos) (tL X.K B G0 F):=Gw _ _ _ k le hc hi hblk h1 h2 hb hs
theorem Fa{l:Bool}{y:Str}{py spos:Pos}{tg elt iter:Uu}{ifs:List Uu}{gs:List Comprehension}{scope:Scope}{f:M (List D)}{s:D->UP->Option UP}{t:M Bool}{rd:RdB}{F:M (List D)}{k:Nat}{SC:Scope}{N1:List Str}(H:FnNm SC N1 gl)(le:∀Z es Z',F Z=.ok es Z'->dCG l f k s t rd Z=.ok es Z')(hc:X.calm=true)
  (hi:PI X tg iter (iD X.K B G0 f)) (hblk:Yr X (blN N1 (⟨tg,iter,ifs,0⟩::gs)) scope (.ListComp elt (⟨tg,iter,ifs,0⟩::gs) scope pos) tg ifs s t rd) (hb:Vm Sc SC scope N1 (blN N1 (⟨tg,iter,ifs,0⟩::gs)) k=true) (hj:N1[j]?=some y:=by rfl) (hy:SC.names.lookup y=some .local:=by rfl) (h1:X.env.scope=SC:=by rfl) (h2:X.N=N1:=by rfl) (hs:∀x,UN iter X.env x=pure x:=by intro _;rfl)
  (hsw:swapsWith (.ListComp elt (⟨tg,iter,ifs,0⟩::gs) scope pos) (some (.Name y py)) spos.line X.env=pure true:=by rfl) :
  PS X (.Assign [.Name y py] (.ListComp elt (⟨tg,iter,ifs,0⟩::gs) scope pos) spos) (tS X.K B G0 KX (Za j F)):=sD_1 _ _ _ k le (h2 ▸ H.nd) (h2 ▸ hj) (h1 ▸ hy) hc hi hblk h1 h2 hb hs hsw
end
end DL
namespace DL
open PySem PySem.Spec L2
open PyProof.Rows hiding St
open Builtin Builtin.Str
end DL
namespace DL
open PySem PySem.Spec L2
open PyProof.Rows hiding St
end DL
namespace DL
open PySem PySem.Spec L2
open PyProof.Rows hiding St
open PySem.SeqRoads2 PySem.SeqAt
end DL
namespace DL
open PySem PySem.Spec L2
open PyProof.Rows hiding St
end DL
namespace L2
open PySem PySem.Spec PyProof.Rows
end L2
namespace DL
open PySem PySem.Spec L2
open PyProof.Rows hiding St
end DL
namespace DL
open PySem PySem.Spec L2
open PyProof.Rows hiding St
open PySem.SeqRoads2 PySem.SeqAt
end DL
namespace DL
open PySem PySem.Spec L2
open PyProof.Rows hiding St
section
variable{X:Cx}{B G0:Hp}{KX:XW}{e e':Uu}{es es':List Uu}{st st':Stmt}{sts sts':List Stmt}{pos p2:Pos}{x:Str}{j:Nat}{gl:List Str}
theorem BE{g h:SM}(q:st::sts=sts')(h1:PS X st (tS X.K B G0 KX g))(h2:PSs X sts (tS X.K B G0 KX h)):PSs X sts' (tS X.K B G0 KX (UW g h)):=q ▸ Su h1 h2
theorem Ed{f:M (List D)}(q:Stmt.Assign [.Name x p2] e pos=st')(H:FnNm X.env.scope X.N gl)(he:PE X e (tL X.K B G0 f))(hi:X.N[j]?=some x:=by rfl)(hs:swapsWith e (some (.Name x p2)) pos.line X.env=pure false:=by rfl)
  (hf:X.fn x=true∨X.env.scope.names.lookup x=some .local:=by first|exact .inl rfl|exact .inr rfl|assumption):PS X st' (tS X.K B G0 KX (Za j f)):=q ▸ Nt H he hi hs hf
theorem BD{f:M (List D)}(q:Expr.List es pos=e')(h:PA X es (tDs X.K B G0 f)):PE X e' (tL X.K B G0 (Kc f λxs=>if xs.length<=1000000 then UU xs else λ_=>.bad)):=q ▸ MP h
theorem AE{f:M D}{g:M (List D)}(q:e::es=es')(ha:PE X e (tD X.K B G0 f))(hr:PA X es (tDs X.K B G0 g))(hs:Ux (e::es) X.env=(false,eval e X.env)::Ux es X.env:=by rfl):PA X es' (tDs X.K B G0 (US f g)):=q ▸ Xe ha hr hs
end
section
variable{X:Cx}{B G0:Hp}{KX:XW}{a b e e':Uu}{es es':List Uu}{st st':Stmt}{sts sts':List Stmt}{pos p2:Pos}{x:Str}{j:Nat}{gl:List Str}
theorem GZ{f:M D}(q:Stmt.Assign [.Name x p2] e pos=st')(H:FnNm X.env.scope X.N gl)(he:PE X e (tD X.K B G0 f))(hi:X.N[j]?=some x:=by rfl)(hs:swapsWith e (some (.Name x p2)) pos.line X.env=pure false:=by rfl)
  (hf:X.fn x=true∨X.env.scope.names.lookup x=some .local:=by first|exact .inl rfl|exact .inr rfl|assumption):PS X st' (tS X.K B G0 KX (U8 j f)):=q ▸ aSet H he hi hs hf
theorem BC{f:M (List D)}(q:Expr.List es pos=e')(h:PA X es (tDs X.K B G0 f)):PE X e' (tD X.K B G0 (Kr f)):=q ▸ Od h
theorem BB{x1}{f:M (List D)}(q:Expr.Tuple es x1 pos=e')(h:PA X es (tDs X.K B G0 f)):PE X e' (tD X.K B G0 (Kx f)):=q ▸ R5 h
theorem NG{op:Operator}{p:D->D->Option D}{f g:M D}(o:OpD X (binaryOp op) p)(q:Expr.BinOp a op b pos=e')(ha:PE X a (tD X.K B G0 f))(hb:PE X b (tD X.K B G0 g)):PE X e' (tD X.K B G0 (UV p f g)):=q ▸ Vg o ha hb
end
end DL
namespace W
open PySem PySem.Spec L2 DL
open PyProof.Rows hiding St
def top(i:Nat):Stmt:=PySem.Challenge.pw_wishdeal_k46_what_was_dealt_is_kept.main.body.getD i (.Pass ⟨0,0,0,0⟩)
abbrev GG(s:Stmt)(x:Str):Prop:=(Z8 s).names.lookup x=some NameKind.globalImplicit
abbrev VV(s:Stmt)(x:Str):Prop:=L2.Vis (Z8 s) x
abbrev LL(s:Stmt)(x:Str):Prop:=L2.Loc (Z8 s) x
theorem vk{s:Stmt}{x:Str}(h:(Z8 s).names.lookup x=some .local∨(Z8 s).names.lookup x=some .cell∨(Z8 s).names.lookup x=some .free):VV s x:=h
theorem lk{s:Stmt}{x:Str}(h:(Z8 s).names.lookup x=some .local∨(Z8 s).names.lookup x=some .cell):LL s x:=h
structure Txt(K:Frag)(mg:Str->Option Up):Prop where
 b_all:mg "all" = none
 b_bool:mg "bool" = none
 b_enumerate:mg "enumerate" = none
 b_int:mg "int" = none
 b_isinstance:mg "isinstance" = none
 b_len:mg "len" = none
 b_list:mg "list" = none
 b_max:mg "max" = none
 b_range:mg "range" = none
 b_set:mg "set" = none
 b_sorted:mg "sorted" = none
 b_str:mg "str" = none
 b_sum:mg "sum" = none
 b_tuple:mg "tuple" = none
 b_zip:mg "zip" = none
 c_MOST_ASKERS:∃t,mg "MOST_ASKERS" = some (Value.int 7 t)
 c_MOST_COPIES:∃t,mg "MOST_COPIES" = some (Value.int 7 t)
 c_MOST_RANKS:∃t,mg "MOST_RANKS" = some (Value.int 5 t)
 c_MOST_THINGS:∃t,mg "MOST_THINGS" = some (Value.int 6 t)
 c_ORDERS:∃ad o its n,mg "ORDERS" = some (.ref ad)/\K.lookup ad=some o/\o.cls=.type "tuple" /\ o.data=.seq its n/\its.size<=Uv/\Vals ((["firsts", "full", "lasts"]:List Str).map V.str) its.toList
abbrev Sbo:Stmt:=top 59
abbrev N_bo:List Str:=["_law_wishes_here"]
theorem Hbo:NmF Sbo N_bo:=KZ (by decide +kernel)
def Td:SM:=
 U3 (Zm Vy (US (U6 UB (ZG (K7 (U9 0 (UU (.int 1)))) 1 (gN 1) (UU true) (Zq 1))) (UQ)))
def Xx:List D->Option D:=Kb N_bo Td
abbrev Sbn:Stmt:=top 58
abbrev N_bn:List Str:=["_law_wishes_here", "_law_asker", "_law_thing", "_law_k", "_law_row"]
theorem Hbn:NmF Sbn N_bn:=KZ (by decide +kernel)
def MJ:SM:=
 sIf (Zl oIn 2 (UO 4))
 (U3 (UV U4 (UO 3) (UU (.int 1))))
 (sNx)
def Te:SM:=
 UW (Kw (YR (US (UV oIx (U9 0 (UU (.int 1))) (UO 1)) (UQ))) (gT 2 (gNC (gN 3) (gNC (gN 4) (gN0)))) MJ)
 (U3 (UU (.int 0)))
def Xy:List D->Option D:=Kb N_bn Te
abbrev Sbr:Stmt:=top 62
abbrev N_br:List Str:=["_law_wishes_here", "_law_dealing", "_law_counts_here", "_law_asker", "_law_thing"]
theorem Hbr:NmF Sbr N_br:=KZ (by decide +kernel)
def MI:SM:=
 sIf (U6 isNon (UO 4))
 (Vd (λi j=>some (.int (i+j))) 2 (ZX (UU (.int 1))) (UU (.int 1)))
 (Vd (λi j=>some (.int (i+j))) 2 (UV K3 (U0 3 Xy (US (UO 0) (US (UO 3) (US (UO 4) (UQ))))) (UU (.int 1))) (UU (.int 1)))
def Ta:SM:=
 UW (Za 2 (VD (Kr (US (UU (.int 0)) (UQ))) (UV U4 (U0 1 Xx (US (UO 0) (UQ))) (UU (.int 1)))))
 (UW (Kw (YR (US (UO 1) (UQ))) (gT 2 (gNC (gN 3) (gNC (gN 4) (gN0)))) MI)
 (U3 (UO 2)))
def Y6:List D->Option D:=Kb N_br Ta
abbrev Sbu:Stmt:=top 65
abbrev N_bu:List Str:=["_law_wishes_here", "_law_aim_here", "_law_dealing", "_law_order", "_law_old", "_law_turns", "_law_counts_here", "_law_kept", "_law_same", "_law_ranks", "_law_asker", "_law_rank_here"]
theorem Hbu:NmF Sbu N_bu:=KZ (by decide +kernel)
def Pe:SM:=
 UW (U8 11 (UU (.int 0)))
 (UW (sIf (U6 (λd=>!isNon d) (U9 2 (UO 10)))
 (U8 11 (UV K3 (UV U4 (U0 1 Xx (US (UO 0) (UQ))) (UU (.int 1))) (U0 3 Xy (US (UO 0) (US (UO 10) (US (U9 2 (UO 10)) (UQ)))))))
 (sNx))
 (ZT 9 (UO 11)))
def V7:SM:=
 UW (ZS (UO 1) (gT 3 (gNC (gN 3) (gNC (gN 4) (gNC (gN 5) (gN0))))))
 (UW (U8 6 (U0 2 Y6 (US (UO 0) (US (UO 2) (UQ)))))
 (UW (sIf (Zl oEq 3 (UU (.str "full")))
 (U8 6 (UV U4 (Kr (US (UV K3 (UU (.int 0)) (U9 6 (ZX (UU (.int 1))))) (UQ))) (UO 6)))
 (sNx))
 (UW (sIf (Zl oEq 3 (UU (.str "lasts")))
 (Za 6 (ZG (K7 (X3 (UO 6) (UU none) (UU none) (Kc (ZX (UU (.int 1))) λx=>Ke (Yz x)))) 1 (gN 12) (UU true) (UV K3 (UU (.int 0)) (UO 12))))
 (sNx))
 (UW (U8 7 (UU (.int 0)))
 (UW (sIf (U6 (λd=>!isNon d) (UO 4))
 (UW (Za 8 (ZG (X2 (US (UO 4) (US (UO 2) (UQ)))) 2 (gT 2 (gNC (gN 12) (gNC (gN 13) (gN0)))) (Zl oEq 12 (UO 13)) (UO 13)))
 (U8 7 (Zm Kg (US (U6 UB (ZG (K7 (UO 8)) 1 (gN 12) (U6 (λd=>!isNon d) (UO 12)) (UO 12))) (UQ)))))
 (sNx))
 (UW (Za 9 (Kc (UQ) λxs=>if xs.length<=1000000 then UU xs else λ_=>.bad))
 (UW (Kw (K7 (UO 5)) (gN 10) Pe)
 (U3 (UV U4 (UV U4 (UO 6) (Kr (US (UO 7) (UQ)))) (UO 9))))))))))
def Y5:List D->Option D:=Kb N_bu V7
abbrev Sbh:Stmt:=top 50
abbrev N_bh:List Str:=["askers", "worths", "prices", "asks", "asker", "thing", "worth"]
theorem Hbh:NmF Sbh N_bh:=KZ (by decide +kernel)
def MH:SM:=
 Vz 3 (UO 4) (Zm SO (US (U9 3 (UO 4)) (US (UV K3 (UO 6) (U9 2 (UO 5))) (UQ))))
def Tj:SM:=
 UW (Za 3 (VD (Kr (US (UU (.int 0)) (UQ))) (UO 0)))
 (UW (Kw (K7 (UO 1)) (gT 3 (gNC (gN 4) (gNC (gN 5) (gNC (gN 6) (gN0))))) MH)
 (U3 (UO 3)))
def WN:List D->Option D:=Kb N_bh Tj
abbrev Saw:Stmt:=top 39
abbrev N_aw:List Str:=["nothing", "got"]
theorem Haw:NmF Saw N_aw:=KZ (by decide +kernel)
def Tv:SM:=
 U3 (mIf (U6 isNon (UO 1)) (UO 0) (UO 1))
def X7:List D->Option D:=Kb N_aw Tv
abbrev Sax:Stmt:=top 40
abbrev T6:List Str:=["nothing", "worths", "dealing", "had", "asker", "thing", "worth", "told"]
theorem Hax:FnNm (Z8 Sax) T6 ["place_of", "enumerate", "len"]:=KZ (by decide +kernel)
def MG:SM:=
 sIf (UV oNe (U9 2 (UO 4)) (UO 5))
 (ZT 7 (Kx (US (U0 2 X7 (US (UO 0) (US (U9 2 (UO 4)) (UQ)))) (US (UO 5) (US (UV K3 (UO 6) (U9 3 (UO 4))) (US (UO 4) (UQ)))))))
 (sNx)
def MF:SM:=
 sIf (UV oEq (U9 2 (UO 4)) (UO 5))
 (Vz 3 (UO 4) (UO 6))
 (sNx)
def Tu:SM:=
 UW (Za 3 (VD (Kr (US (UU (.int 0)) (UQ))) (Zq 2)))
 (UW (Kw (K7 (UO 1)) (gT 3 (gNC (gN 4) (gNC (gN 5) (gNC (gN 6) (gN0))))) MF)
 (UW (Za 7 (Wg (ZG (YR (US (UO 2) (UQ))) 2 (gT 2 (gNC (gN 8) (gNC (gN 9) (gN0)))) (U6 (λd=>!isNon d) (UO 9)) (Kx (US (UO 9) (US (UO 0) (US (ZX (U9 3 (UO 8))) (US (UO 8) (UQ)))))))))
 (UW (Kw (K7 (UO 1)) (gT 3 (gNC (gN 4) (gNC (gN 5) (gNC (gN 6) (gN0))))) MG)
 (U3 (UO 7)))))
def WT:List D->Option D:=Kb T6 Tu
abbrev Saa:Stmt:=top 1
abbrev N_aa:List Str:=["thing"]
theorem Haa:NmF Saa N_aa:=KZ (by decide +kernel)
def T2:SM:=
 U3 (VA (U6 (λd=>.bool (KP d "int")) (UO 0)) (SR (U6 (λd=>.bool (KP d "bool")) (UO 0))))
def Vc:List D->Option D:=Kb N_aa T2
abbrev Sab:Stmt:=top 2
abbrev N_ab:List Str:=["thing", "many"]
theorem Hab:NmF Sab N_ab:=KZ (by decide +kernel)
def TZ:SM:=
 U3 (VA (U0 1 Vc (US (UO 0) (UQ))) (U6 UC (VL (oIB λi j=>decide (i<=j)) (oIB λi j=>decide (i<j)) (UU (.int 0)) (UO 0) (UO 1))))
def ZJ:List D->Option D:=Kb N_ab TZ
abbrev Sad:Stmt:=top 13
abbrev N_ad:List Str:=["thing", "things"]
theorem Had:NmF Sad N_ad:=KZ (by decide +kernel)
def TX:SM:=
 UW (sIf (mOr (K0 (Z9 (U6 (λd=>.bool (KP d "list")) (UO 0)))) (UV oEq (Zq 0) (UU (.int 0))))
 (U3 (UU (.bool false)))
 (sNx))
 (U3 (Zm YF (US (U6 UB (ZG (K7 (UO 0)) 1 (gN 2) (UU true) (U0 2 ZJ (US (UO 2) (US (UO 1) (UQ)))))) (UQ))))
def X9:List D->Option D:=Kb N_ad TX
abbrev Sae:Stmt:=top 14
abbrev N_ae:List Str:=["thing", "things", "wished"]
theorem Hae:NmF Sae N_ae:=KZ (by decide +kernel)
def TW:SM:=
 UW (sIf (mOr (K0 (Z9 (U6 (λd=>.bool (KP d "list")) (UO 0)))) (UV (oIB λi j=>decide (j<i)) (Zq 0) (UU (.int 5))))
 (U3 (UU (.bool false)))
 (sNx))
 (UW (sIf (K0 (Z9 (Zm YF (US (U6 UB (ZG (K7 (UO 0)) 1 (gN 3) (UU true) (U0 2 X9 (US (UO 3) (US (UO 1) (UQ)))))) (UQ)))))
 (U3 (UU (.bool false)))
 (sNx))
 (UW (Za 2 (S5 (K7 (UO 0)) 2 (gN 3) (UU true) (K7 (UO 3)) (gN 4) (UU true) (UO 4)))
 (U3 (U6 UC (UV oEq (Zm Wp (US (UO 2) (UQ))) (Zq 2))))))
def Va:List D->Option D:=Kb N_ae TW
abbrev Saf:Stmt:=top 15
abbrev N_af:List Str:=["lists", "things", "asker", "ranks"]
theorem Haf:NmF Saf N_af:=KZ (by decide +kernel)
def ME:SM:=
 sIf (K0 (Z9 (U0 2 Va (US (UO 3) (US (UO 1) (UQ))))))
 (Wh)
 (sNx)
def TV:SM:=
 UW (sIf (mOr (K0 (Z9 (U6 (λd=>.bool (KP d "list")) (UO 0)))) (K0 (VL (oIB λi j=>decide (i<=j)) (oIB λi j=>decide (i<=j)) (UU (.int 1)) (Zq 0) (UU (.int 7)))))
 (Wh)
 (sNx))
 (Kw (YR (US (UO 0) (UQ))) (gT 2 (gNC (gN 2) (gNC (gN 3) (gN0)))) ME)
def W9:List D->Option D:=Kb N_af TV
abbrev Sac:Stmt:=top 12
abbrev N_ac:List Str:=["copies", "number", "many"]
theorem Hac:NmF Sac N_ac:=KZ (by decide +kernel)
def MD:SM:=
 sIf (K0 (Z9 (U0 2 ZJ (US (UO 2) (US (UV U4 (UU (.int 7)) (UU (.int 1))) (UQ))))))
 (Wh)
 (sNx)
def TY:SM:=
 UW (sIf (mOr (K0 (Z9 (U6 (λd=>.bool (KP d "list")) (UO 0)))) (K0 (VL (oIB λi j=>decide (i<=j)) (oIB λi j=>decide (i<=j)) (UU (.int 1)) (Zq 0) (UU (.int 6)))))
 (Wh)
 (sNx))
 (Kw (YR (US (UO 0) (UQ))) (gT 2 (gNC (gN 1) (gNC (gN 2) (gN0)))) MD)
def Vb:List D->Option D:=Kb N_ac TY
abbrev Sag:Stmt:=top 16
abbrev N_ag:List Str:=["thing", "copies", "lists"]
theorem Hag:NmF Sag N_ag:=KZ (by decide +kernel)
def TU:SM:=
 UW (sIf (mOr (K0 (Z9 (U6 (λd=>.bool (KP d "tuple")) (UO 0)))) (UV oNe (Zq 0) (UU (.int 2))))
 (Wh)
 (sNx))
 (UW (ZS (UO 0) (gT 2 (gNC (gN 1) (gNC (gN 2) (gN0)))))
 (UW (XS (U0 1 Vb (US (UO 1) (UQ))))
 (XS (U0 2 W9 (US (UO 2) (US (Zq 1) (UQ)))))))
def Yt:List D->Option D:=Kb N_ag TU
abbrev Sak:Stmt:=top 21
abbrev N_ak:List Str:=["wishes", "dealing"]
theorem Hak:NmF Sak N_ak:=KZ (by decide +kernel)
def TM:SM:=
 UW (XS (U0 1 Yt (US (UO 0) (UQ))))
 (U3 (U6 UB (ZG (YR (US (U9 0 (UU (.int 0))) (UQ))) 2 (gT 2 (gNC (gN 2) (gNC (gN 3) (gN0)))) (UU true) (UV K3 (UO 3) (Ss (UO 1) (US (UO 2) (UQ)))))))
def W5:List D->Option D:=Kb N_ak TM
abbrev Say:Stmt:=top 41
abbrev N_ay:List Str:=["wishes", "dealing", "nothing", "left", "to_nothing"]
theorem Hay:NmF Say N_ay:=KZ (by decide +kernel)
def Tt:SM:=
 UW (U8 2 (Zm Kg (US (U9 0 (UU (.int 0))) (UQ))))
 (UW (U8 3 (U0 2 W5 (US (UO 0) (US (UO 1) (UQ)))))
 (UW (Za 4 (ZG (YR (US (UO 3) (UQ))) 2 (gT 2 (gNC (gN 5) (gNC (gN 6) (gN0)))) (Zl (oIB λi j=>decide (j<i)) 6 (UU (.int 0))) (Kx (US (UO 5) (US (UO 2) (US (UU (.int 0)) (US (UU .none) (UQ))))))))
 (U3 (UV U4 (UO 4) (U6 UB (ZG (Wf (US (UO 2) (UQ))) 1 (gN 5) (UU true) (Kx (US (UO 2) (US (UO 5) (US (UU (.int 0)) (US (UU .none) (UQ))))))))))))
def WS:List D->Option D:=Kb N_ay Tt
abbrev Saz:Stmt:=top 42
abbrev N_az:List Str:=["wishes", "worths", "dealing"]
theorem Haz:NmF Saz N_az:=KZ (by decide +kernel)
def Ts:SM:=
 U3 (UV U4 (U0 3 WT (US (Zm Kg (US (U9 0 (UU (.int 0))) (UQ))) (US (UO 1) (US (UO 2) (UQ))))) (U0 2 WS (US (UO 0) (US (UO 2) (UQ)))))
def Y9:List D->Option D:=Kb N_az Ts
abbrev Sba:Stmt:=top 43
abbrev N_ba:List Str:=["walks", "steps", "told", "step", "ahead", "behind", "gain", "asker", "gained", "walked"]
theorem Hba:NmF Sba N_ba:=KZ (by decide +kernel)
def MC:SM:=
 UW (ZS (UO 3) (gT 4 (gNC (gN 4) (gNC (gN 5) (gNC (gN 6) (gNC (gN 7) (gN0)))))))
 (UW (ZS (U9 0 (UO 4)) (gT 2 (gNC (gN 8) (gNC (gN 9) (gN0)))))
 (sIf (UV (oIB λi j=>decide (j<i)) (UV U4 (UO 8) (UO 6)) (UV oIx (U9 2 (UO 5)) (UU (.int 0))))
 (Vz 2 (UO 5) (Kx (US (UV U4 (UO 8) (UO 6)) (US (UV U4 (UO 9) (Kr (US (UO 3) (UQ)))) (UQ)))))
 (sNx)))
def Tr:SM:=
 UW (Za 2 (VJ 0))
 (UW (Kw (K7 (UO 1)) (gN 3) MC)
 (U3 (UO 2)))
def WR:List D->Option D:=Kb N_ba Tr
abbrev Sbb:Stmt:=top 44
abbrev N_bb:List Str:=["places", "steps", "told", "turn"]
theorem Hbb:NmF Sbb N_bb:=KZ (by decide +kernel)
def MB:SM:=
 U8 2 (U0 2 WR (US (UO 2) (US (UO 1) (UQ))))
def Tq:SM:=
 UW (U8 2 (UV Ku (Kr (US (Kx (US (UU (.int 0)) (US (Kr (UQ)) (UQ)))) (UQ))) (UO 0)))
 (UW (Kw (Wf (US (UO 0) (UQ))) (gN 3) MB)
 (U3 (UO 2)))
def Xz:List D->Option D:=Kb N_bb Tq
abbrev Sbg:Stmt:=top 49
abbrev N_bg:List Str:=["wishes", "worths", "dealing", "nothing", "walks"]
theorem Hbg:NmF Sbg N_bg:=KZ (by decide +kernel)
def Tk:SM:=
 UW (U8 3 (Zm Kg (US (U9 0 (UU (.int 0))) (UQ))))
 (UW (U8 4 (U0 2 Xz (US (UV U4 (UO 3) (UU (.int 1))) (US (U0 3 Y9 (US (UO 0) (US (UO 1) (US (UO 2) (UQ))))) (UQ)))))
 (U3 (U6 UB (ZG (K7 (ZW (UO 4) (UU none) (Kc (UO 3) λx=>Ke (Yz x)))) 2 (gT 2 (gNC (gN 5) (gNC (gN 6) (gN0)))) (UU true) (UO 5)))))
def WO:List D->Option D:=Kb N_bg Tk
abbrev Sbi:Stmt:=top 51
abbrev N_bi:List Str:=["wishes", "worths", "dealing", "prices"]
theorem Hbi:NmF Sbi N_bi:=KZ (by decide +kernel)
def Ti:SM:=
 UW (U8 3 (U0 3 WO (US (UO 0) (US (UO 1) (US (UO 2) (UQ))))))
 (U3 (Kx (US (UU (.int 1)) (US (U0 3 WN (US (Zm Kg (US (U9 0 (UU (.int 1))) (UQ))) (US (UO 1) (US (UO 3) (UQ))))) (US (UO 3) (UQ))))))
def WM:List D->Option D:=Kb N_bi Ti
abbrev Sbc:Stmt:=top 45
abbrev N_bc:List Str:=["walk", "end", "step", "begin"]
theorem Hbc:NmF Sbc N_bc:=KZ (by decide +kernel)
def MA:SM:=
 sIf (UV oEq (UV oIx (U9 0 (UO 3)) (UU (.int 0))) (U9 2 (UU (.int 1))))
 (U3 (ZW (UO 0) (Kc (UO 3) λx=>Ke (Yz x)) (Kc (UV U4 (UO 1) (UU (.int 1))) λx=>Ke (Yz x))))
 (sNx)
def Mz:SM:=
 Kw (Wf (US (UV U4 (UO 1) (UU (.int 1))) (UQ))) (gN 3) MA
def Tp:SM:=
 UW (Kw (YR (US (UO 0) (UQ))) (gT 2 (gNC (gN 1) (gNC (gN 2) (gN0)))) Mz)
 (U3 (Kr (UQ)))
def WQ:List D->Option D:=Kb N_bc Tp
abbrev Sbd:Stmt:=top 46
abbrev N_bd:List Str:=["nothing", "steps", "begin", "number", "step", "way", "ahead", "behind", "gain", "asker"]
theorem Hbd:NmF Sbd N_bd:=KZ (by decide +kernel)
def My:SM:=
 sIf (U6 (λd=>!isNon d) (UO 9))
 (ZT 5 (Kx (US (UO 9) (US (mIf (Zl oEq 7 (UO 0)) (UU .none) (UO 7)) (UQ)))))
 (sNx)
def Mx:SM:=
 sIf (UV oEq (U9 4 (UU (.int 0))) (UO 0))
 (U8 2 (UO 3))
 (sNx)
def To:SM:=
 UW (U8 2 (UU (.int 0)))
 (UW (Kw (YR (US (UO 1) (UQ))) (gT 2 (gNC (gN 3) (gNC (gN 4) (gN0)))) Mx)
 (UW (Za 5 (Kc (UQ) λxs=>if xs.length<=1000000 then UU xs else λ_=>.bad))
 (UW (Kw (K7 (UV U4 (ZW (UO 1) (Kc (UO 2) λx=>Ke (Yz x)) (UU none)) (ZW (UO 1) (UU none) (Kc (UO 2) λx=>Ke (Yz x))))) (gT 4 (gNC (gN 6) (gNC (gN 7) (gNC (gN 8) (gNC (gN 9) (gN0)))))) My)
 (U3 (UO 5)))))
def X6:List D->Option D:=Kb N_bd To
abbrev Sbe:Stmt:=top 47
abbrev N_be:List Str:=["wishes", "worths", "dealing", "nothing", "gained", "walk"]
theorem Hbe:NmF Sbe N_be:=KZ (by decide +kernel)
def Mw:SM:=
 sIf (UV oEq (Zq 5) (UV U4 (UO 3) (UU (.int 1))))
 (U3 (U0 2 X6 (US (UO 3) (US (U0 1 WQ (US (UO 5) (UQ))) (UQ)))))
 (sNx)
def Tn:SM:=
 UW (U8 3 (Zm Kg (US (U9 0 (UU (.int 0))) (UQ))))
 (UW (Kw (K7 (U0 2 Xz (US (UV U4 (UO 3) (UU (.int 1))) (US (U0 3 Y9 (US (UO 0) (US (UO 1) (US (UO 2) (UQ))))) (UQ))))) (gT 2 (gNC (gN 4) (gNC (gN 5) (gN0)))) Mw)
 (U3 (Kr (UQ))))
def X5:List D->Option D:=Kb N_be Tn
abbrev Sav:Stmt:=top 37
abbrev N_av:List Str:=["dealing", "way", "told", "asker", "taken"]
theorem Hav:NmF Sav N_av:=KZ (by decide +kernel)
def Mv:SM:=
 Vz 2 (UO 3) (UO 4)
def Tw:SM:=
 UW (Za 2 (VJ 0))
 (UW (Kw (K7 (UO 1)) (gT 2 (gNC (gN 3) (gNC (gN 4) (gN0)))) Mv)
 (U3 (UO 2)))
def WU:List D->Option D:=Kb N_av Tw
abbrev Sbf:Stmt:=top 48
abbrev N_bf:List Str:=["wishes", "worths", "dealing", "way"]
theorem Hbf:NmF Sbf N_bf:=KZ (by decide +kernel)
def Pd:SM:=
 UW (U8 2 (U0 2 WU (US (UO 2) (US (UO 3) (UQ)))))
 (U8 3 (U0 3 X5 (US (UO 0) (US (UO 1) (US (UO 2) (UQ))))))
def Tl:SM:=
 UW (U8 2 (UV Ku (Kr (US (UU .none) (UQ))) (Zm Kg (US (U9 0 (UU (.int 1))) (UQ)))))
 (UW (U8 3 (U0 3 X5 (US (UO 0) (US (UO 1) (US (UO 2) (UQ))))))
 (UW (Xh (Rc (UO 3)) Pd Wa)
 (U3 (UO 2))))
def WP:List D->Option D:=Kb N_bf Tl
abbrev Saj:Stmt:=top 19
abbrev N_aj:List Str:=["wishes"]
theorem Haj:NmF Saj N_aj:=KZ (by decide +kernel)
def TN:SM:=
 UW (XS (U0 1 Yt (US (UO 0) (UQ))))
 (U3 (Zm VE (US (U6 UB (SZ (YR (US (U9 0 (UU (.int 1))) (UQ))) 4 (gT 2 (gNC (gN 1) (gNC (gN 2) (gN0)))) (UU true) (K7 (UO 2)) (gN 3) (UU true) (K7 (UO 3)) (gN 4) (UU true) (Kx (US (UO 1) (US (UO 4) (UQ)))))) (UQ))))
def W6:List D->Option D:=Kb N_aj TN
abbrev Saq:Stmt:=top 31
abbrev N_aq:List Str:=["base", "times", "told", "step"]
theorem Haq:NmF Saq N_aq:=KZ (by decide +kernel)
def Mu:SM:=
 Xm Yq 2 (UO 0)
def TD:SM:=
 UW (U8 2 (UU (.int 1)))
 (UW (Kw (Wf (US (UO 1) (UQ))) (gN 3) Mu)
 (U3 (UO 2)))
def Zt:List D->Option D:=Kb N_aq TD
abbrev Sas:Stmt:=top 33
abbrev N_as:List Str:=["turns", "base", "asker", "rank", "behind"]
theorem Has:NmF Sas N_as:=KZ (by decide +kernel)
def TB:SM:=
 UW (sIf (Zl YZ 2 (UO 0))
 (U3 (UU (.int 0)))
 (sNx))
 (UW (U8 4 (UV K3 (UV K3 (Zq 0) (UU (.int 1))) (RN (UO 0) (US (UO 2) (UQ)))))
 (U3 (UV Ku (UV K3 (UO 1) (UO 3)) (U0 2 Zt (US (UO 1) (US (UO 4) (UQ)))))))
def WW:List D->Option D:=Kb N_as TB
abbrev Sar:Stmt:=top 32
abbrev N_ar:List Str:=["order", "base", "most", "rank"]
theorem Har:NmF Sar N_ar:=KZ (by decide +kernel)
def TC:SM:=
 UW (sIf (Zl oEq 0 (UU (.str "firsts")))
 (U3 (U0 2 Zt (US (UO 1) (US (UV K3 (UO 2) (UO 3)) (UQ)))))
 (sNx))
 (UW (sIf (Zl oEq 0 (UU (.str "full")))
 (U3 (UV U4 (U0 2 Zt (US (UO 1) (US (UO 2) (UQ)))) (U0 2 Zt (US (UO 1) (US (UV K3 (UO 2) (UO 3)) (UQ))))))
 (sNx))
 (U3 (UV K3 (U0 2 Zt (US (UO 1) (US (UO 2) (UQ)))) (U0 2 Zt (US (UO 1) (US (UV K3 (UO 3) (UU (.int 1))) (UQ)))))))
def WX:List D->Option D:=Kb N_ar TC
abbrev Sah:Stmt:=top 17
abbrev N_ah:List Str:=["ranks", "thing", "number", "rank"]
theorem Hah:NmF Sah N_ah:=KZ (by decide +kernel)
def Mt:SM:=
 sIf (Zl oIn 1 (UO 3))
 (U3 (UO 2))
 (sNx)
def TR:SM:=
 UW (Kw (RP (US (UO 0) (UQ))) (gT 2 (gNC (gN 2) (gNC (gN 3) (gN0)))) Mt)
 (U3 (UU (.int 0)))
def W8:List D->Option D:=Kb N_ah TR
abbrev Sat:Stmt:=top 34
abbrev N_at:List Str:=["wishes", "aim", "most", "asker", "thing", "order", "old", "turns", "lists", "rank", "base", "kept", "by_counts"]
theorem Hat:NmF Sat N_at:=KZ (by decide +kernel)
def Tz:SM:=
 UW (ZS (UO 1) (gT 3 (gNC (gN 5) (gNC (gN 6) (gNC (gN 7) (gN0))))))
 (UW (U8 8 (U9 0 (UU (.int 1))))
 (UW (U8 9 (U0 2 W8 (US (U9 8 (UO 3)) (US (UO 4) (UQ)))))
 (UW (U8 10 (UV U4 (Zq 8) (UU (.int 1))))
 (UW (U8 11 (mIf (ZB (U6 (λd=>!isNon d) (UO 6)) (UV oEq (U9 6 (UO 3)) (UO 4))) (UU (.int 1)) (UU (.int 0))))
 (UW (U8 12 (UV U4 (UV Ku (U0 4 WX (US (UO 5) (US (UO 10) (US (UO 2) (US (UO 9) (UQ)))))) (UO 10)) (UO 11)))
 (U3 (UV U4 (UV Ku (UO 12) (U0 2 Zt (US (UV U4 (UO 2) (UU (.int 1))) (US (Zq 7) (UQ))))) (U0 4 WW (US (UO 7) (US (UV U4 (UO 2) (UU (.int 1))) (US (UO 3) (US (UO 9) (UQ)))))))))))))
def X8:List D->Option D:=Kb N_at Tz
abbrev Sai:Stmt:=top 18
abbrev N_ai:List Str:=["wishes"]
theorem Hai:NmF Sai N_ai:=KZ (by decide +kernel)
def TQ:SM:=
 UW (XS (U0 1 Yt (US (UO 0) (UQ))))
 (U3 (Zm Vy (US (U6 UB (ZG (K7 (U9 0 (UU (.int 1)))) 1 (gN 1) (UU true) (Zq 1))) (UQ))))
def W7:List D->Option D:=Kb N_ai TQ
abbrev Sao:Stmt:=top 28
abbrev N_ao:List Str:=["thing", "askers"]
theorem Hao:NmF Sao N_ao:=KZ (by decide +kernel)
def TH:SM:=
 UW (sIf (mOr (K0 (Z9 (U6 (λd=>.bool (KP d "list")) (UO 0)))) (K0 (Z9 (Zm YF (US (U6 UB (ZG (K7 (UO 0)) 1 (gN 2) (UU true) (U0 2 ZJ (US (UO 2) (US (UO 1) (UQ)))))) (UQ))))))
 (U3 (UU (.bool false)))
 (sNx))
 (U3 (U6 UC (UV oEq (Zm Wp (US (UO 0) (UQ))) (Zq 0))))
def WZ:List D->Option D:=Kb N_ao TH
abbrev San:Stmt:=top 27
abbrev N_an:List Str:=["thing", "askers", "things"]
theorem Han:NmF San N_an:=KZ (by decide +kernel)
def TJ:SM:=
 UW (sIf (U6 isNon (UO 0))
 (U3 (UU (.bool true)))
 (sNx))
 (UW (sIf (mOr (K0 (Z9 (U6 (λd=>.bool (KP d "list")) (UO 0)))) (UV oNe (Zq 0) (UO 1)))
 (U3 (UU (.bool false)))
 (sNx))
 (U3 (Zm YF (US (U6 UB (ZG (K7 (UO 0)) 1 (gN 3) (UU true) (X1 (U6 (λd=>.bool (isNon d)) (UO 3)) (U0 2 ZJ (US (UO 3) (US (UO 2) (UQ))))))) (UQ)))))
def W0:List D->Option D:=Kb N_an TJ
abbrev Sal:Stmt:=top 24
abbrev N_al:List Str:=["thing"]
theorem Hal:NmF Sal N_al:=KZ (by decide +kernel)
def TL:SM:=
 U3 (VA (U6 (λd=>.bool (KP d "str")) (UO 0)) (U6 UC (Zl oIn 0 (UU (.tuple ((["firsts", "full", "lasts"]:List Str).map UD))))))
def W4:List D->Option D:=Kb N_al TL
abbrev Sam:Stmt:=top 25
abbrev N_am:List Str:=["thing"]
theorem Ham:NmF Sam N_am:=KZ (by decide +kernel)
def TK:SM:=
 sIf (K0 (Z9 (U0 1 W4 (US (UO 0) (UQ)))))
 (Wh)
 (sNx)
def W3:List D->Option D:=Kb N_am TK
abbrev Sap:Stmt:=top 29
abbrev N_ap:List Str:=["wishes", "thing", "copies", "lists", "order", "old", "turns"]
theorem Hap:NmF Sap N_ap:=KZ (by decide +kernel)
def TF:SM:=
 UW (XS (U0 1 Yt (US (UO 0) (UQ))))
 (UW (sIf (mOr (K0 (Z9 (U6 (λd=>.bool (KP d "tuple")) (UO 1)))) (UV oNe (Zq 1) (UU (.int 3))))
 (Wh)
 (sNx))
 (UW (ZS (UO 0) (gT 2 (gNC (gN 2) (gNC (gN 3) (gN0)))))
 (UW (ZS (UO 1) (gT 3 (gNC (gN 4) (gNC (gN 5) (gNC (gN 6) (gN0))))))
 (UW (XS (U0 1 W3 (US (UO 4) (UQ))))
 (UW (sIf (K0 (Z9 (U0 3 W0 (US (UO 5) (US (Zq 3) (US (Zq 2) (UQ)))))))
 (Wh)
 (sNx))
 (sIf (K0 (Z9 (U0 2 WZ (US (UO 6) (US (Zq 3) (UQ))))))
 (Wh)
 (sNx)))))))
def WY:List D->Option D:=Kb N_ap TF
abbrev Sau:Stmt:=top 35
abbrev N_au:List Str:=["wishes", "aim", "most"]
theorem Hau:NmF Sau N_au:=KZ (by decide +kernel)
def Tx:SM:=
 UW (XS (U0 2 WY (US (UO 0) (US (UO 1) (UQ)))))
 (UW (U8 2 (U0 1 W7 (US (UO 0) (UQ))))
 (U3 (U6 UB (ZG (K7 (U0 1 W6 (US (UO 0) (UQ)))) 2 (gT 2 (gNC (gN 3) (gNC (gN 4) (gN0)))) (UU true) (Kx (US (UO 3) (US (UO 4) (US (U0 5 X8 (US (UO 0) (US (UO 1) (US (UO 2) (US (UO 3) (US (UO 4) (UQ))))))) (UQ)))))))))
def WV:List D->Option D:=Kb N_au Tx
abbrev Sbj:Stmt:=top 53
abbrev N_bj:List Str:=["wishes", "aim", "worths", "dealing"]
theorem Hbj:NmF Sbj N_bj:=KZ (by decide +kernel)
def Th:SM:=
 UW (U8 2 (U0 2 WV (US (UO 0) (US (UO 1) (UQ)))))
 (UW (U8 3 (U0 2 WP (US (UO 0) (US (UO 2) (UQ)))))
 (U3 (Kx (US (UO 3) (US (U0 3 WM (US (UO 0) (US (UO 2) (US (UO 3) (UQ))))) (UQ))))))
def Ys:List D->Option D:=Kb N_bj Th
abbrev Sbv:Stmt:=top 66
abbrev N_bv:List Str:=["_law_wishes_here"]
theorem Hbv:NmF Sbv N_bv:=KZ (by decide +kernel)
def V6:SM:=
 U3 (UV Ku (Kr (US (UU .none) (UQ))) (Zm Kg (US (U9 0 (UU (.int 1))) (UQ))))
def WI:List D->Option D:=Kb N_bv V6
abbrev Sbs:Stmt:=top 63
abbrev N_bs:List Str:=["_law_thing"]
theorem Hbs:NmF Sbs N_bs:=KZ (by decide +kernel)
def V9:SM:=
 U3 (VA (U6 (λd=>.bool (KP d "int")) (UO 0)) (SR (U6 (λd=>.bool (KP d "bool")) (UO 0))))
def WJ:List D->Option D:=Kb N_bs V9
abbrev Sbp:Stmt:=top 60
abbrev N_bp:List Str:=["_law_wishes_here", "_law_asker"]
theorem Hbp:NmF Sbp N_bp:=KZ (by decide +kernel)
def Tc:SM:=
 U3 (Zm VE (US (Zm Sb (US (UV oIx (U9 0 (UU (.int 1))) (UO 1)) (US (Kr (UQ)) (UQ)))) (UQ)))
def WK:List D->Option D:=Kb N_bp Tc
abbrev Sbt:Stmt:=top 64
abbrev N_bt:List Str:=["_law_wishes_here", "_law_thing", "_law_asker", "_law_one"]
theorem Hbt:NmF Sbt N_bt:=KZ (by decide +kernel)
def Ms:SM:=
 UW (sIf (ZB (U6 (λd=>!isNon d) (UO 3)) (mOr (K0 (Z9 (U0 1 WJ (US (UO 3) (UQ))))) (Zl YZ 3 (U0 2 WK (US (UO 0) (US (UO 2) (UQ)))))))
 (U3 (UU (.bool false)))
 (sNx))
 (sIf (ZB (U6 (λd=>!isNon d) (UO 3)) (UV (oIB λi j=>decide (j<i)) (Ss (UO 1) (US (UO 3) (UQ))) (UV oIx (U9 0 (UU (.int 0))) (UO 3))))
 (U3 (UU (.bool false)))
 (sNx))
def V8:SM:=
 UW (sIf (mOr (K0 (Z9 (U6 (λd=>.bool (KP d "list")) (UO 1)))) (UV oNe (Zq 1) (Zm Kg (US (U9 0 (UU (.int 1))) (UQ)))))
 (U3 (UU (.bool false)))
 (sNx))
 (UW (Kw (YR (US (UO 1) (UQ))) (gT 2 (gNC (gN 2) (gNC (gN 3) (gN0)))) Ms)
 (U3 (UU (.bool true))))
def X4:List D->Option D:=Kb N_bt V8
abbrev Sbl:Stmt:=top 56
abbrev N_bl:List Str:=["_law_cell", "_law_salt", "_law_sizes", "_law_number", "_law_left", "_law_found", "_law_k", "_law_one"]
theorem Hbl:NmF Sbl N_bl:=KZ (by decide +kernel)
def Ot:SM:=
 sIf (ZB (Zl (oIB λi j=>decide (j<=i)) 3 (UV XY (UU (.int 10)) (UU (.int 18)))) (Zl (oIB λi j=>decide (j<i)) 4 (UU (.int 0))))
 (UW (ZT 5 (UV Yp (UO 4) (U9 2 (UO 6))))
 (U8 4 (UV X0 (UO 4) (U9 2 (UO 6)))))
 (UW (U8 7 (UV Yp (UV U4 (UV U4 (UV U4 (UO 3) (UV Ku (UU (.int 7919)) (UO 1))) (UV Ku (UV Ku (UU (.int 101)) (UO 6)) (UO 6))) (UO 6)) (UU (.int 2147483647))))
 (UW (U8 7 (UV Yp (UV Ku (UO 7) (UU (.int 48271))) (UU (.int 2147483647))))
 (UW (U8 7 (UV Yp (UV Ku (UV Yp (UV Ku (UO 7) (UO 7)) (UU (.int 2147483629))) (UU (.int 48271))) (UU (.int 2147483647))))
 (ZT 5 (UV Yp (UV X0 (UO 7) (UU (.int 16))) (U9 2 (UO 6)))))))
def Tg:SM:=
 UW (U8 3 (Zm SO (US (UO 0) (US (UV K3 (ZX (UU (.int 1))) (UO 0)) (UQ)))))
 (UW (U8 4 (UO 3))
 (UW (Za 5 (Kc (UQ) λxs=>if xs.length<=1000000 then UU xs else λ_=>.bad))
 (UW (Kw (Wf (US (Zq 2) (UQ))) (gN 6) Ot)
 (U3 (UO 5)))))
def Y7:List D->Option D:=Kb N_bl Tg
abbrev Sbq:Stmt:=top 61
abbrev N_bq:List Str:=["_law_wishes_here", "_law_cell", "_law_salt", "_law_askers", "_law_sizes", "_law_digits", "_law_old", "_law_turns", "_law_digit"]
theorem Hbq:NmF Sbq N_bq:=KZ (by decide +kernel)
def Pc:SM:=
 U8 8 (UV Yp (UV U4 (UO 8) (UU (.int 1))) (UO 3))
def Mr:SM:=
 UW (Xh (T9 oIn (UO 8) 7) Pc 1000)
 (ZT 7 (UO 8))
def Tb:SM:=
 UW (U8 3 (Zm Kg (US (U9 0 (UU (.int 1))) (UQ))))
 (UW (U8 4 (UV U4 (Kr (US (UU (.int 3)) (US (UU (.int 2)) (US (UV U4 (UO 3) (UU (.int 1))) (UQ))))) (UV Ku (Kr (US (UV U4 (Zm Kg (US (U9 0 (UU (.int 0))) (UQ))) (UU (.int 1))) (UQ))) (UO 3))))
 (UW (U8 5 (U0 3 Y7 (US (UO 1) (US (UO 2) (US (UV U4 (UO 4) (UV Ku (Kr (US (UO 3) (UQ))) (UO 3))) (UQ))))))
 (UW (U8 6 (UU .none))
 (UW (sIf (UV oEq (U9 5 (UU (.int 1))) (UU (.int 1)))
 (Za 6 (ZG (K7 (ZW (UO 5) (Kc (UU (.int 3)) λx=>Ke (Yz x)) (Kc (UV U4 (UU (.int 3)) (UO 3)) λx=>Ke (Yz x)))) 1 (gN 9) (UU true) (UV oIx (Kr (US (UU .none) (US (UV K3 (UO 9) (UU (.int 1))) (UQ)))) (Zm SS (US (U6 UC (Zl (oIB λi j=>decide (j<i)) 9 (UU (.int 0)))) (UQ))))))
 (sNx))
 (UW (Za 7 (Kc (UQ) λxs=>if xs.length<=1000000 then UU xs else λ_=>.bad))
 (UW (Kw (K7 (ZW (UO 5) (Kc (UV U4 (UU (.int 3)) (UO 3)) λx=>Ke (Yz x)) (Kc (UV U4 (UV U4 (UU (.int 3)) (UO 3)) (U9 5 (UU (.int 2)))) λx=>Ke (Yz x)))) (gN 8) Mr)
 (U3 (Kx (US (UV oIx (Kr (US (UU (.str "firsts")) (US (UU (.str "full")) (US (UU (.str "lasts")) (UQ))))) (U9 5 (UU (.int 0)))) (US (UO 6) (US (UO 7) (UQ))))))))))))
def Xw:List D->Option D:=Kb N_bq Tb
abbrev Sbk:Stmt:=top 55
abbrev N_bk:List Str:=["_law_script", "_law_k"]
theorem Hbk:NmF Sbk N_bk:=KZ (by decide +kernel)
def WB:SM:=
 UW (sIf (Zl (oIB λi j=>decide (i<j)) 1 (Zq 0))
 (U3 (U9 0 (UO 1)))
 (sNx))
 (U3 (UU (.int 0)))
def Y8:List D->Option D:=Kb N_bk WB
abbrev Sbm:Stmt:=top 57
abbrev N_bm:List Str:=["_law_script", "_law_at", "_law_most_things", "_law_most_askers", "_law_most_ranks", "_law_sizes", "_law_digits", "_law_copies", "_law_lists", "_law_asker", "_law_cell", "_law_places", "_law_ranks", "_law_rank_here", "_law_row"]
theorem Hbm:NmF Sbm N_bm:=KZ (by decide +kernel)
def Os:SM:=
 UW (Za 14 (ZG (Wf (US (Zq 7) (UQ))) 1 (gN 15) (UV oEq (U9 11 (UO 15)) (UO 13)) (UO 15)))
 (sIf (Zl oNe 14 (Kr (UQ)))
 (ZT 12 (UV oIx (Kr (US (UO 14) (US (X3 (UO 14) (UU none) (UU none) (Kc (ZX (UU (.int 1))) λx=>Ke (Yz x))) (UQ)))) (U9 11 (ZX (UU (.int 1))))))
 (sNx))
def Oq:SM:=
 UW (U8 10 (U0 2 Y8 (US (UO 0) (US (UV U4 (UV U4 (UO 1) (UU (.int 1))) (UO 9)) (UQ)))))
 (UW (U8 11 (U0 3 Y7 (US (UO 10) (US (UV U4 (UV U4 (UV Ku (UU (.int 11)) (UO 1)) (UV Ku (UU (.int 3)) (UO 9))) (UU (.int 1))) (US (UV U4 (UV Ku (Kr (US (UV U4 (UO 4) (UU (.int 1))) (UQ))) (UO 2)) (Kr (US (UU (.int 2)) (UQ)))) (UQ))))))
 (UW (Za 12 (Kc (UQ) λxs=>if xs.length<=1000000 then UU xs else λ_=>.bad))
 (UW (Kw (RD (US (UU (.int 1)) (US (UV U4 (UO 4) (UU (.int 1))) (UQ)))) (gN 13) Os)
 (ZT 8 (UO 12)))))
def Tf:SM:=
 UW (U8 5 (UV U4 (Kr (US (UO 2) (US (UO 3) (UQ)))) (UV Ku (Kr (US (UU (.int 11)) (UQ))) (UO 2))))
 (UW (U8 6 (U0 3 Y7 (US (U0 2 Y8 (US (UO 0) (US (UO 1) (UQ)))) (US (UO 1) (US (UO 5) (UQ))))))
 (UW (Za 7 (ZG (K7 (ZW (UO 6) (Kc (UU (.int 2)) λx=>Ke (Yz x)) (Kc (UV U4 (UU (.int 3)) (U9 6 (UU (.int 0)))) λx=>Ke (Yz x)))) 1 (gN 15) (UU true) (UV oIx (Kr (US (UU (.int 1)) (US (UU (.int 1)) (US (UU (.int 2)) (US (UU (.int 0)) (US (UU (.int 3)) (US (UU (.int 7)) (US (UU (.int 1)) (US (UU (.int 4)) (US (UU (.int 5)) (US (UU (.int 6)) (US (UU (.int 1)) (UQ))))))))))))) (UO 15))))
 (UW (Za 8 (Kc (UQ) λxs=>if xs.length<=1000000 then UU xs else λ_=>.bad))
 (UW (Kw (Wf (US (UV U4 (UU (.int 1)) (U9 6 (UU (.int 1)))) (UQ))) (gN 9) Oq)
 (U3 (Kx (US (UO 7) (US (UO 8) (UQ)))))))))
def WL:List D->Option D:=Kb N_bm Tf
abbrev Sbw:Stmt:=top 67
abbrev N_bw:List Str:=["_law_script", "_law_wishes_here", "_law_cells", "_law_aims", "_law_best", "_law_order", "_law_found", "_law_kept", "_law_old", "_law_turns", "_law_one", "_law_plain", "_law_two", "_law_three"]
theorem Hbw:NmF Sbw N_bw:=KZ (by decide +kernel)
def Mq:SM:=
 UW (U8 10 (UV oIx (U0 2 Ys (US (UO 1) (US (Kx (US (UO 5) (US (UO 8) (US (UO 9) (UQ))))) (UQ)))) (UU (.int 0))))
 (UW (sIf (K0 (Z9 (U0 2 X4 (US (UO 1) (US (UO 10) (UQ))))))
 (U3 (UU (.bool false)))
 (sNx))
 (UW (sIf (UV oNe (U0 2 Y6 (US (UO 1) (US (UO 10) (UQ)))) (U0 2 Y6 (US (UO 1) (US (Y0 4 (UO 5)) (UQ)))))
 (U3 (UU (.bool false)))
 (sNx))
 (UW (U8 11 (Kx (US (UO 5) (US (UU .none) (US (UO 9) (UQ))))))
 (UW (U8 12 (UV oIx (U0 2 Ys (US (UO 1) (US (Kx (US (UO 5) (US (U0 1 WI (US (UO 1) (UQ))) (US (UO 9) (UQ))))) (UQ)))) (UU (.int 0))))
 (UW (U8 13 (UV oIx (U0 2 Ys (US (UO 1) (US (UO 11) (UQ)))) (UU (.int 0))))
 (UW (sIf (UV oNe (U0 3 Y5 (US (UO 1) (US (UO 11) (US (UO 12) (UQ))))) (U0 3 Y5 (US (UO 1) (US (UO 11) (US (UO 13) (UQ))))))
 (U3 (UU (.bool false)))
 (sNx))
 (sIf (UV WA (U0 3 Y5 (US (UO 1) (US (UO 11) (US (UO 10) (UQ))))) (U0 3 Y5 (US (UO 1) (US (UO 11) (US (UO 13) (UQ))))))
 (U3 (UU (.bool false)))
 (sNx))))))))
def Mp:SM:=
 UW (U8 6 (UV oIx (U0 2 Ys (US (UO 1) (US (Kx (US (UO 5) (US (UU .none) (US (Kr (UQ)) (UQ))))) (UQ)))) (UU (.int 0))))
 (UW (sIf (K0 (Z9 (U0 2 X4 (US (UO 1) (US (UO 6) (UQ))))))
 (U3 (UU (.bool false)))
 (sNx))
 (UW (RE 4 (UO 5) (U6 UB (VJ 6)))
 (UW (U8 7 (UV oIx (U0 2 Ys (US (UO 1) (US (Kx (US (UO 5) (US (UO 6) (US (UV oIx (U9 3 (UU (.int 0))) (UU (.int 2))) (UQ))))) (UQ)))) (UU (.int 0))))
 (sIf (mOr (Zl oNe 7 (Y0 4 (UO 5))) (Zl oNe 6 (Y0 4 (UO 5))))
 (U3 (UU (.bool false)))
 (sNx)))))
def V5:SM:=
 UW (U8 1 (U0 5 WL (US (UO 0) (US (UU (.int 1)) (US (UU (.int 6)) (US (UU (.int 7)) (US (UU (.int 5)) (UQ))))))))
 (UW (U8 2 (UV U4 (Kr (US (U0 2 Y8 (US (UO 0) (US (UU (.int 0)) (UQ)))) (UQ))) (ZW (UO 0) (Kc (UU (.int 9)) λx=>Ke (Yz x)) (Kc (UU (.int 11)) λx=>Ke (Yz x)))))
 (UW (Za 3 (ZG (YR (US (UO 2) (UQ))) 2 (gT 2 (gNC (gN 14) (gNC (gN 15) (gN0)))) (UU true) (U0 3 Xw (US (UO 1) (US (UO 15) (US (UV U4 (UU (.int 5)) (UO 14)) (UQ)))))))
 (UW (Sf 4 .dic (UU (.dict [])))
 (UW (Kw (K7 (Kr (US (UU (.str "firsts")) (US (UU (.str "full")) (US (UU (.str "lasts")) (UQ)))))) (gN 5) Mp)
 (UW (Kw (K7 (UO 3)) (gT 3 (gNC (gN 5) (gNC (gN 8) (gNC (gN 9) (gN0))))) Mq)
 (U3 (UU (.bool true))))))))
def WH:List D->Option D:=Kb N_bw V5
set_option hygiene false in
local macro_rules | `(tactic| walk_at "g")=>`(tactic| first | exact gA nm rfl | exact FN rfl)
set_option hygiene false in
local macro_rules | `(tactic| walk_at "v")=>`(tactic| first | exact pq nm _ | exact pvb _)
set_option hygiene false in
local macro_rules | `(tactic| walk_at "b")=>`(tactic| first | ((with_reducible show OpB _ (compareOp CmpOp.Eq) _);first | exact B_eq hu) | ((with_reducible show OpB _ (compareOp CmpOp.NotEq) _);first | exact B_ne hu) | ((with_reducible show OpB _ (compareOp CmpOp.Lt) _);first | exact B_lt) | ((with_reducible show OpB _ (compareOp CmpOp.LtE) _);first | exact B_le) | ((with_reducible show OpB _ (compareOp CmpOp.Gt) _);first | exact B_gt | exact Fj hu) | ((with_reducible show OpB _ (compareOp CmpOp.GtE) _);first | exact B_ge) | ((with_reducible show OpB _ (compareOp CmpOp.In) _);first | exact B_in hu) | ((with_reducible show OpB _ (compareOp CmpOp.NotIn) _);first | exact Fq hu))
set_option hygiene false in
local macro_rules | `(tactic| walk_at "m")=>`(tactic| first | exact P4 _ | exact rfl)
set_option hygiene false in
local macro_rules | `(tactic| walk_at "k")=>`(tactic| first | exact Lj | exact qq | exact qp)
set_option hygiene false in
local macro_rules | `(tactic| walk_at "w")=>`(tactic| first | exact PassesOwn.never)
set_option hygiene false in
local macro_rules | `(tactic| walk_at "x")=>`(tactic| first | assumption | exact wants_cx)
set_option hygiene false in
local macro_rules | `(tactic| walk_at "c")=>`(tactic| first | exact T.c_MOST_ASKERS | exact T.c_MOST_COPIES | exact T.c_MOST_RANKS | exact T.c_MOST_THINGS | exact T.c_ORDERS)
set_option hygiene false in
local macro_rules | `(tactic| walk_at "ck")=>`(tactic| fail)
set_option hygiene false in
local macro_rules | `(tactic| walk_at "e")=>`(tactic| first | ((with_reducible show PE _ (Expr.Name _ _) _);first | exact Yb (pq nm _) | exact Yb (pvb _) | exact Ft (by walk_at "g") (by walk_at "c") | exact Fp (by walk_at "g") (by walk_at "c")) | ((with_reducible show PE _ (Expr.Constant _ _ _) _);first | exact NQ | exact CO | exact EV | exact CP) | ((with_reducible show PE _ (Expr.Subscript _ _ _) _);first | refine DR hu (by walk_at "v") ?_ (fun _ _=>rfl) | refine Sv (by walk_at "v") ?_ (fun _ _=>rfl) | refine qX ?_ ?_ ?_ | refine Cc ?_ ?_ ?_ ?_ | refine FS ?_ ?_ (fun _ _=>rfl)) | ((with_reducible show PE _ (Expr.BinOp _ Operator.Add _ _) _);first | refine Vg NC ?_ ?_) | ((with_reducible show PE _ (Expr.BinOp _ Operator.Sub _ _) _);first | refine Vg NB ?_ ?_) | ((with_reducible show PE _ (Expr.BinOp _ Operator.Mult _ _) _);first | refine Vg NA ?_ ?_) | ((with_reducible show PE _ (Expr.BinOp _ Operator.Mod _ _) _);first | refine Vg GD ?_ ?_) | ((with_reducible show PE _ (Expr.BinOp _ Operator.FloorDiv _ _) _);first | refine Vg GC ?_ ?_) | ((with_reducible show PE _ (Expr.BinOp _ Operator.Pow _ _) _);first | refine Vg GB ?_ ?_) | ((with_reducible show PE _ (Expr.Call (Expr.Name "len" _) _ _ _) _);first | refine Ll (by walk_at "g") T.b_len (by walk_at "v") | refine SJ Nq (by walk_at "g") T.b_len boot_len ?_ | refine qV rfl (by walk_at "g") T.b_len (by walk_at "g") T.b_set ?_) | ((with_reducible show PE _ (Expr.Call (Expr.Name "max" _) _ _ _) _);first | refine SJ (FR rfl) (by walk_at "g") T.b_max boot_max ?_ | refine SJ (FD rfl) (by walk_at "g") T.b_max boot_max ?_) | ((with_reducible show PE _ (Expr.Call (Expr.Name "sorted" _) _ _ _) _);first | refine SJ Fx (by walk_at "g") T.b_sorted PyProof.Rows.boot_sorted ?_) | ((with_reducible show PE _ (Expr.Call (Expr.Name "sum" _) _ _ _) _);first | refine SJ (FC rfl) (by walk_at "g") T.b_sum PyProof.Rows.boot_sum ?_) | ((with_reducible show PE _ (Expr.Call (Expr.Name "all" _) _ _ _) _);first | refine SJ (Fv rfl) (by walk_at "g") T.b_all PyProof.Rows.boot_all ?_) | ((with_reducible show PE _ (Expr.Call (Expr.Name "int" _) _ _ _) _);first | refine jC FE (by walk_at "g") T.b_int PyProof.Rows.boot_int ?_) | ((with_reducible show PE _ (Expr.Call (Expr.Name "isinstance" _) [_,Expr.Name "int" _] _ _) _);first | refine Rz (c := "int") (by decide) (by walk_at "g") T.b_isinstance (by walk_at "g") T.b_int (by decide +kernel) ?_ (by decide) (by decide)) | ((with_reducible show PE _ (Expr.Call (Expr.Name "isinstance" _) [_,Expr.Name "list" _] _ _) _);first | refine Rz (c := "list") (by decide) (by walk_at "g") T.b_isinstance (by walk_at "g") T.b_list (by decide +kernel) ?_ (by decide) (by decide)) | ((with_reducible show PE _ (Expr.Call (Expr.Name "isinstance" _) [_,Expr.Name "tuple" _] _ _) _);first | refine Rz (c := "tuple") (by decide) (by walk_at "g") T.b_isinstance (by walk_at "g") T.b_tuple (by decide +kernel) ?_ (by decide) (by decide)) | ((with_reducible show PE _ (Expr.Call (Expr.Name "isinstance" _) [_,Expr.Name "bool" _] _ _) _);first | refine Rz (c := "bool") (by decide) (by walk_at "g") T.b_isinstance (by walk_at "g") T.b_bool (by decide +kernel) ?_ (by decide) (by decide)) | ((with_reducible show PE _ (Expr.Call (Expr.Name "isinstance" _) [_,Expr.Name "str" _] _ _) _);first | refine Rz (c := "str") (by decide) (by walk_at "g") T.b_isinstance (by walk_at "g") T.b_str (by decide +kernel) ?_ (by decide) (by decide)) | ((with_reducible show PE _ (Expr.Call (Expr.Name _ _) _ _ _) _);first | refine pdf (by assumption) hr (by walk_at "g") ?_) | ((with_reducible show PE _ (Expr.Call _ _ _ _) _);first | refine qD hu ?_ ?_ | refine AQ ?_ ?_) | refine Od ?_ | refine R5 ?_ | ((with_reducible show PE _ (Expr.Compare _ _ _ _) _);first | refine Dx ?_ | refine Dm (by walk_at "b") (by walk_at "v") ?_ (by walk_at "m") | refine DI (by walk_at "b") ?_ ?_ (by walk_at "m") | refine A5 (by walk_at "b") (by walk_at "b") ?_ ?_ ?_) | refine Dp ?_ | refine MX ?_ | refine DA ?_ | refine DC ?_ ?_ | refine Df ?_ ?_ | refine DB ?_ | refine A4 ?_ ?_ ?_)
set_option hygiene false in
local macro_rules | `(tactic| walk_at "t")=>`(tactic| first | ((with_reducible show PT _ (Expr.Compare _ _ _ _) _);first | refine Dy ?_ | refine Lm ?_ | refine Do (by walk_at "b") (by walk_at "v") ?_ (by walk_at "m") | refine DY (by walk_at "b") ?_ (by walk_at "v") (by walk_at "m") | refine Oe (by walk_at "b") ?_ ?_ (by walk_at "m") | refine A6 (by walk_at "b") (by walk_at "b") ?_ ?_ ?_) | ((with_reducible show PT _ (Expr.BoolOp _ _ _) _);refine PW.pt ?_) | refine DE ?_ | refine DD ?_ | refine DT ?_)
set_option hygiene false in
local macro_rules | `(tactic| walk_at "l")=>`(tactic| first | refine Fb nm (by walk_at "k") rfl ?_ ?_ (by decide +kernel) | refine qi (by walk_at "g") T.b_list (by walk_at "v") | refine MP ?_ | refine Mj ?_ ?_)
set_option hygiene false in
local macro_rules | `(tactic| walk_at "i")=>`(tactic| first | refine A3 (by walk_at "g") T.b_range ?_ | refine A2 (by walk_at "g") T.b_range ?_ | refine MN (by walk_at "g") T.b_enumerate ?_ | refine C9 (by walk_at "g") T.b_enumerate ?_ | refine FG (by walk_at "g") T.b_zip ?_ | refine P1 ?_)
set_option hygiene false in
local macro_rules | `(tactic| walk_at "s")=>`(tactic| first | ((with_reducible show PS _ (Stmt.Assign [Expr.Name _ _] _ _) _);first | refine aSet nm ?_ | refine Fa nm (by walk_at "k") rfl ?_ ?_ (by decide +kernel) | refine Nt nm ?_ | refine Fc nm ?_) | ((with_reducible show PS _ (Stmt.Assign _ _ _) _);first | refine FQ ?_ ?_ | refine MV ?_ (by walk_at "v") ?_ | refine Eg hu ?_ (by walk_at "v") ?_) | refine Pz ?_ ?_ ?_ | refine NN ?_ | refine P3 (by walk_at "w") rfl ?_ ?_ ?_ | ((with_reducible show PS _ (Stmt.Expr _ _) _);first | refine NM (by walk_at "v") ?_ | refine Dt ?_) | refine D2 (by walk_at "v") ?_ D4 ?_ | refine aAug nm D3 ?_ | exact Bl | refine C4 _ (by walk_at "w") ?_ ?_)
set_option hygiene false in
local macro_rules | `(tactic| walk_at "d")=>`(tactic| (have hu:=hr.units;have hgd:=hr.gd;repeat' (first | ((with_reducible show PSs _ (Wr _) _);show PSs _ (_ :: _) _) | ((with_reducible show PSs _ (Stmt.Assign _ _ _ :: _ :: _) _);generalize hS:(_ :: _:List Stmt)=sts;refine BE hS ?_ ?_) | ((with_reducible show PS _ (Stmt.Assign [Expr.Name _ _] (Expr.List _ _) _) (tS _ _ _ _ (Za _ _)));generalize hS:Stmt.Assign _ _ _=st;refine Ed hS nm ?_) | ((with_reducible show PS _ (Stmt.Assign [Expr.Name _ _] (Expr.BinOp _ _ _ _) _) (tS _ _ _ _ (U8 _ _)));generalize hS:Stmt.Assign _ _ _=st;refine GZ hS nm ?_) | ((with_reducible show PE _ (Expr.List _ _) _);generalize hS:Expr.List _ _=e;first | refine BD hS ?_ | refine BC hS ?_) | ((with_reducible show PE _ (Expr.Tuple _ _ _) _);generalize hS:Expr.Tuple _ _ _=e;refine BB hS ?_) | ((with_reducible show PE _ (Expr.BinOp _ Operator.Add _ _) (tD _ _ _ _));generalize hS:Expr.BinOp _ _ _ _=e;refine NG NC hS ?_ ?_) | ((with_reducible show PE _ (Expr.BinOp _ Operator.Mult _ _) (tD _ _ _ _));generalize hS:Expr.BinOp _ _ _ _=e;refine NG NA hS ?_ ?_) | ((with_reducible show PA _ (_ :: _) (tDs _ _ _ _));generalize hS:(_ :: _:List Expr)=es;refine AE hS ?_ ?_) | ((with_reducible show PE _ _ (tD _ _ _ _));first | walk_at "e") | ((with_reducible show PA _ _ (tDs _ _ _ _));first | refine Xe ?_ ?_ | exact Sw) | ((with_reducible show PSs _ _ (tS _ _ _ _ _));first | refine Su ?_ ?_ | refine Sq ?_ | exact PY | exact sD_nevers) | ((with_reducible show PS _ _ _);walk_at "s") | ((with_reducible show PT _ _ _);walk_at "t") | ((with_reducible show PW _ _ _);first | refine DF ?_ ?_ | refine Dg ?_ ?_ | refine Az ?_ | refine DG ?_) | ((with_reducible show PE _ _ (tL _ _ _ _));walk_at "l") | ((with_reducible show PI _ _ _ _);walk_at "i") | ((with_reducible show PG _ _ _);first | exact Fd nm | exact Ee | refine RQ rfl ?_) | ((with_reducible show PGs _ _ _);first | exact RR | refine Wq ?_ ?_) | ((with_reducible show PO _ _ _);first | exact Ay | refine Ax ?_) | ((with_reducible show Yr _ _ _ _ _ _ _ _ _);refine fun cl C s0 H0 ex=>⟨fun B' G'=>?_,fun B' G'=>?_,?_⟩) | ((with_reducible show Y4 _ _ _);first | exact Dq | refine MW ?_) | ((with_reducible show SU _ _ _ _ _ _);first | refine L4 rfl rfl rfl fun B' G'=>?_ | refine qt rfl rfl rfl rfl (fun _=>rfl) (fun B' G'=>?_) (fun B' G'=>?_) (fun B' G'=>?_) ?_) | ((with_reducible show PE _ _ (tT _ _ _ _ _));first | refine peT_call (by assumption) hr (by walk_at "g") ?_ | exact peT_nil | exact BF | refine peT_disp ?_))))
section
variable{P:Ur}{w:World}{K:Frag}{mg:Str->Option Up}{base:Heap}{f:Us}{fd:Ut}(T:Txt K mg)
include T
theorem Kbo(F:Fun K "_law_longest" "_law_longest" Sbo f fd):FnOk P w K mg base CX0 1 f fd ["_law_wishes_here"] (spD K 1 Xx):=
 okD (k:=0) (g:=Td) F (fq Hbo 1) rfl λcdv A outer s H E B G0 hr=>
 have nm:=Hbo
 by walk_at "d"
theorem Kbn(F:Fun K "_law_rank" "_law_rank" Sbn f fd):FnOk P w K mg base CX0 1 f fd ["_law_wishes_here", "_law_asker", "_law_thing"] (spD K 3 Xy):=
 okD (k:=0) (g:=Te) F (fq Hbn 3) rfl λcdv A outer s H E B G0 hr=>
 have nm:=Hbn
 by walk_at "d"
theorem Kbr(d_bn:Def P w K mg base "_law_rank" 1 3 Xy)(d_bo:Def P w K mg base "_law_longest" 1 1 Xx)(F:Fun K "_law_counts" "_law_counts" Sbr f fd):FnOk P w K mg base CX0 2 f fd ["_law_wishes_here", "_law_dealing"] (spD K 2 Y6):=
 okD (k:=1) (g:=Ta) F (fq Hbr 2) rfl λcdv A outer s H E B G0 hr=>
 have nm:=Hbr
 by walk_at "d"
theorem Kbu(d_bo:Def P w K mg base "_law_longest" 1 1 Xx)(d_bn:Def P w K mg base "_law_rank" 1 3 Xy)(d_br:Def P w K mg base "_law_counts" 2 2 Y6)(F:Fun K "_law_key" "_law_key" Sbu f fd):FnOk P w K mg base CX0 3 f fd ["_law_wishes_here", "_law_aim_here", "_law_dealing"] (spD K 3 Y5):=
 okD (k:=2) (g:=V7) F (fq Hbu 3) rfl λcdv A outer s H E B G0 hr=>
 have nm:=Hbu
 by walk_at "d"
theorem Kbh(F:Fun K "asks_beyond" "asks_beyond" Sbh f fd):FnOk P w K mg base CX0 1 f fd ["askers", "worths", "prices"] (spD K 3 WN):=
 okD (k:=0) (g:=Tj) F (fq Hbh 3) rfl λcdv A outer s H E B G0 hr=>
 have nm:=Hbh
 by walk_at "d"
theorem Kaw(F:Fun K "place_of" "place_of" Saw f fd):FnOk P w K mg base CX0 1 f fd ["nothing", "got"] (spD K 2 X7):=
 okD (k:=0) (g:=Tv) F (fq Haw 2) rfl λcdv A outer s H E B G0 hr=>
 have nm:=Haw
 by walk_at "d"
theorem Kax(d_aw:Def P w K mg base "place_of" 1 2 X7)(F:Fun K "steps_of_askers" "steps_of_askers" Sax f fd):FnOk P w K mg base CX0 2 f fd ["nothing", "worths", "dealing"] (spD K 3 WT):=
 okD (k:=1) (g:=Tu) F (fq Hax 3) rfl λcdv A outer s H E B G0 hr=>
 have hu:=hr.units;have hgd:=hr.gd
 (Su (MQ (i:=3) (nq Hax) rfl (lq Hax 3) (Mj (Od (Xe NQ Sw)) (Ll (gq Hax 2) T.b_len (pq Hax 2))))
 (Su (P3 UI rfl (P1 (Yb (pq Hax 1))) (RQ rfl (Wq (Wj (Wk (i:=4) (nq Hax) rfl (lq Hax 4))) (Wq (Wj (Wk (i:=5) (nq Hax) rfl (lq Hax 5))) (Wq (Wj (Wk (i:=6) (nq Hax) rfl (lq Hax 6))) RR))))
 (Sq (Pz (Oe (B_eq hu) (Sv (pq Hax 2) (Yb (pq Hax 4)) (λ_ _=>rfl)) (Yb (pq Hax 5)) (P4 _))
 (Sq (MV (Yb (pq Hax 6)) (pq Hax 3) (Yb (pq Hax 4))))
 PY)))
 (Su (Fe (j:=7) (Z8 Sax) T6 ["nothing", "worths", "dealing", "had", ".asker", "thing", "worth", "told", "asker", "got"] 2 Lj (nq Hax) rfl rfl rfl (λB' G'=>(MN (gq Hax 1) T.b_enumerate (Xe (Yb (pq Hax 2)) Sw))) (λcl C s0 H0 ex=>⟨λB' G'=>(RQ rfl (Wq (Wj (Wk (i:=8) (show(["nothing", "worths", "dealing", "had", ".asker", "thing", "worth", "told", "asker", "got"]:List Str).Nodup by decide +kernel) rfl (Oc rfl) (.inr (P2 rfl)))) (Wq (Wj (Wk (i:=9) (show(["nothing", "worths", "dealing", "had", ".asker", "thing", "worth", "told", "asker", "got"]:List Str).Nodup by decide +kernel) rfl (Oc rfl) (.inr (P2 rfl)))) RR))),λB' G'=>(MW (Lm (Yb (pvb 9)))),(L4 rfl rfl rfl λB' G'=>(R5 (Xe (Yb (pvb 9)) (Xe (Yb (pvb 0)) (Xe (MX (Sv (pvb 3) (Yb (pvb 8)) (λ_ _=>rfl))) (Xe (Yb (pvb 8)) Sw))))))⟩) rfl rfl (by decide +kernel))
 (Su (P3 UI rfl (P1 (Yb (pq Hax 1))) (RQ rfl (Wq (Wj (Wk (i:=4) (nq Hax) rfl (lq Hax 4))) (Wq (Wj (Wk (i:=5) (nq Hax) rfl (lq Hax 5))) (Wq (Wj (Wk (i:=6) (nq Hax) rfl (lq Hax 6))) RR))))
 (Sq (Pz (Oe (B_ne hu) (Sv (pq Hax 2) (Yb (pq Hax 4)) (λ_ _=>rfl)) (Yb (pq Hax 5)) (P4 _))
 (Sq (NM (pq Hax 7) (R5 (Xe (pdf d_aw hr (gq Hax 0) (Xe (Yb (pq Hax 0)) (Xe (Sv (pq Hax 2) (Yb (pq Hax 4)) (λ_ _=>rfl)) Sw))) (Xe (Yb (pq Hax 5)) (Xe (Vg NB (Yb (pq Hax 6)) (Sv (pq Hax 3) (Yb (pq Hax 4)) (λ_ _=>rfl))) (Xe (Yb (pq Hax 4)) Sw)))))))
 PY)))
 (Sq (NN (Yb (pq Hax 7))))))))
theorem Kaa(F:Fun K "is_whole" "is_whole" Saa f fd):FnOk P w K mg base CX0 1 f fd ["thing"] (spD K 1 Vc):=
 okD (k:=0) (g:=T2) F (fq Haa 1) rfl λcdv A outer s H E B G0 hr=>
 have nm:=Haa
 by walk_at "d"
theorem Kab(d_aa:Def P w K mg base "is_whole" 1 1 Vc)(F:Fun K "is_number_below" "is_number_below" Sab f fd):FnOk P w K mg base CX0 2 f fd ["thing", "many"] (spD K 2 ZJ):=
 okD (k:=1) (g:=TZ) F (fq Hab 2) rfl λcdv A outer s H E B G0 hr=>
 have nm:=Hab
 by walk_at "d"
theorem Kad(d_ab:Def P w K mg base "is_number_below" 2 2 ZJ)(F:Fun K "is_rank" "is_rank" Sad f fd):FnOk P w K mg base CX0 3 f fd ["thing", "things"] (spD K 2 X9):=
 okD (k:=2) (g:=TX) F (fq Had 2) rfl λcdv A outer s H E B G0 hr=>
 have nm:=Had
 by walk_at "d"
theorem Kae(d_ad:Def P w K mg base "is_rank" 3 2 X9)(F:Fun K "is_asker_list" "is_asker_list" Sae f fd):FnOk P w K mg base CX0 4 f fd ["thing", "things"] (spD K 2 Va):=
 okD (k:=3) (g:=TW) F (fq Hae 2) rfl λcdv A outer s H E B G0 hr=>
 have nm:=Hae
 by walk_at "d"
theorem Kaf(d_ae:Def P w K mg base "is_asker_list" 4 2 Va)(F:Fun K "look_at_lists" "look_at_lists" Saf f fd):FnOk P w K mg base CX0 5 f fd ["lists", "things"] (spD K 2 W9):=
 okD (k:=4) (g:=TV) F (fq Haf 2) rfl λcdv A outer s H E B G0 hr=>
 have nm:=Haf
 by walk_at "d"
theorem Kac(d_ab:Def P w K mg base "is_number_below" 2 2 ZJ)(F:Fun K "look_at_copies" "look_at_copies" Sac f fd):FnOk P w K mg base CX0 3 f fd ["copies"] (spD K 1 Vb):=
 okD (k:=2) (g:=TY) F (fq Hac 1) rfl λcdv A outer s H E B G0 hr=>
 have nm:=Hac
 by walk_at "d"
theorem Kag(d_af:Def P w K mg base "look_at_lists" 5 2 W9)(d_ac:Def P w K mg base "look_at_copies" 3 1 Vb)(F:Fun K "look_at_wishes" "look_at_wishes" Sag f fd):FnOk P w K mg base CX0 6 f fd ["thing"] (spD K 1 Yt):=
 okD (k:=5) (g:=TU) F (fq Hag 1) rfl λcdv A outer s H E B G0 hr=>
 have nm:=Hag
 by walk_at "d"
theorem Kak(d_ag:Def P w K mg base "look_at_wishes" 6 1 Yt)(F:Fun K "copies_left" "copies_left" Sak f fd):FnOk P w K mg base CX0 7 f fd ["wishes", "dealing"] (spD K 2 W5):=
 okD (k:=6) (g:=TM) F (fq Hak 2) rfl λcdv A outer s H E B G0 hr=>
 have nm:=Hak
 by walk_at "d"
theorem Kay(d_ak:Def P w K mg base "copies_left" 7 2 W5)(F:Fun K "steps_of_copies" "steps_of_copies" Say f fd):FnOk P w K mg base CX0 8 f fd ["wishes", "dealing"] (spD K 2 WS):=
 okD (k:=7) (g:=Tt) F (fq Hay 2) rfl λcdv A outer s H E B G0 hr=>
 have nm:=Hay
 by walk_at "d"
theorem Kaz(d_ax:Def P w K mg base "steps_of_askers" 2 3 WT)(d_ay:Def P w K mg base "steps_of_copies" 8 2 WS)(F:Fun K "all_steps" "all_steps" Saz f fd):FnOk P w K mg base CX0 9 f fd ["wishes", "worths", "dealing"] (spD K 3 Y9):=
 okD (k:=8) (g:=Ts) F (fq Haz 3) rfl λcdv A outer s H E B G0 hr=>
 have nm:=Haz
 by walk_at "d"
theorem Kba(F:Fun K "longer_walks" "longer_walks" Sba f fd):FnOk P w K mg base CX0 1 f fd ["walks", "steps"] (spD K 2 WR):=
 okD (k:=0) (g:=Tr) F (fq Hba 2) rfl λcdv A outer s H E B G0 hr=>
 have nm:=Hba
 by walk_at "d"
theorem Kbb(d_ba:Def P w K mg base "longer_walks" 1 2 WR)(F:Fun K "widest_walks" "widest_walks" Sbb f fd):FnOk P w K mg base CX0 2 f fd ["places", "steps"] (spD K 2 Xz):=
 okD (k:=1) (g:=Tq) F (fq Hbb 2) rfl λcdv A outer s H E B G0 hr=>
 have nm:=Hbb
 by walk_at "d"
theorem Kbg(d_az:Def P w K mg base "all_steps" 9 3 Y9)(d_bb:Def P w K mg base "widest_walks" 2 2 Xz)(F:Fun K "prices_for" "prices_for" Sbg f fd):FnOk P w K mg base CX0 10 f fd ["wishes", "worths", "dealing"] (spD K 3 WO):=
 okD (k:=9) (g:=Tk) F (fq Hbg 3) rfl λcdv A outer s H E B G0 hr=>
 have nm:=Hbg
 by walk_at "d"
theorem Kbi(d_bh:Def P w K mg base "asks_beyond" 1 3 WN)(d_bg:Def P w K mg base "prices_for" 10 3 WO)(F:Fun K "paper_for" "paper_for" Sbi f fd):FnOk P w K mg base CX0 11 f fd ["wishes", "worths", "dealing"] (spD K 3 WM):=
 okD (k:=10) (g:=Ti) F (fq Hbi 3) rfl λcdv A outer s H E B G0 hr=>
 have nm:=Hbi
 by walk_at "d"
theorem Kbc(F:Fun K "round_within" "round_within" Sbc f fd):FnOk P w K mg base CX0 1 f fd ["walk"] (spD K 1 WQ):=
 okD (k:=0) (g:=Tp) F (fq Hbc 1) rfl λcdv A outer s H E B G0 hr=>
 have nm:=Hbc
 by walk_at "d"
theorem Kbd(F:Fun K "way_round" "way_round" Sbd f fd):FnOk P w K mg base CX0 1 f fd ["nothing", "steps"] (spD K 2 X6):=
 okD (k:=0) (g:=To) F (fq Hbd 2) rfl λcdv A outer s H E B G0 hr=>
 have nm:=Hbd
 by walk_at "d"
theorem Kbe(d_az:Def P w K mg base "all_steps" 9 3 Y9)(d_bb:Def P w K mg base "widest_walks" 2 2 Xz)(d_bc:Def P w K mg base "round_within" 1 1 WQ)(d_bd:Def P w K mg base "way_round" 1 2 X6)(F:Fun K "gaining_way" "gaining_way" Sbe f fd):FnOk P w K mg base CX0 10 f fd ["wishes", "worths", "dealing"] (spD K 3 X5):=
 okD (k:=9) (g:=Tn) F (fq Hbe 3) rfl λcdv A outer s H E B G0 hr=>
 have nm:=Hbe
 by walk_at "d"
theorem Kav(F:Fun K "behind_way" "behind_way" Sav f fd):FnOk P w K mg base CX0 1 f fd ["dealing", "way"] (spD K 2 WU):=
 okD (k:=0) (g:=Tw) F (fq Hav 2) rfl λcdv A outer s H E B G0 hr=>
 have nm:=Hav
 by walk_at "d"
theorem Kbf(d_be:Def P w K mg base "gaining_way" 10 3 X5)(d_av:Def P w K mg base "behind_way" 1 2 WU)(F:Fun K "best_by" "best_by" Sbf f fd):FnOk P w K mg base CX0 11 f fd ["wishes", "worths"] (spD K 2 WP):=
 okD (k:=10) (g:=Tl) F (fq Hbf 2) rfl λcdv A outer s H E B G0 hr=>
 have nm:=Hbf
 by walk_at "d"
theorem Kaj(d_ag:Def P w K mg base "look_at_wishes" 6 1 Yt)(F:Fun K "all_wishes" "all_wishes" Saj f fd):FnOk P w K mg base CX0 7 f fd ["wishes"] (spD K 1 W6):=
 okD (k:=6) (g:=TN) F (fq Haj 1) rfl λcdv A outer s H E B G0 hr=>
 have nm:=Haj
 by walk_at "d"
theorem Kaq(F:Fun K "power" "power" Saq f fd):FnOk P w K mg base CX0 1 f fd ["base", "times"] (spD K 2 Zt):=
 okD (k:=0) (g:=TD) F (fq Haq 2) rfl λcdv A outer s H E B G0 hr=>
 have nm:=Haq
 by walk_at "d"
theorem Kas(d_aq:Def P w K mg base "power" 1 2 Zt)(F:Fun K "worth_by_turns" "worth_by_turns" Sas f fd):FnOk P w K mg base CX0 2 f fd ["turns", "base", "asker", "rank"] (spD K 4 WW):=
 okD (k:=1) (g:=TB) F (fq Has 4) rfl λcdv A outer s H E B G0 hr=>
 have nm:=Has
 by walk_at "d"
theorem Kar(d_aq:Def P w K mg base "power" 1 2 Zt)(F:Fun K "worth_by_order" "worth_by_order" Sar f fd):FnOk P w K mg base CX0 2 f fd ["order", "base", "most", "rank"] (spD K 4 WX):=
 okD (k:=1) (g:=TC) F (fq Har 4) rfl λcdv A outer s H E B G0 hr=>
 have nm:=Har
 by walk_at "d"
theorem Kah(F:Fun K "rank_in" "rank_in" Sah f fd):FnOk P w K mg base CX0 1 f fd ["ranks", "thing"] (spD K 2 W8):=
 okD (k:=0) (g:=TR) F (fq Hah 2) rfl λcdv A outer s H E B G0 hr=>
 have nm:=Hah
 by walk_at "d"
theorem Kat(d_aq:Def P w K mg base "power" 1 2 Zt)(d_as:Def P w K mg base "worth_by_turns" 2 4 WW)(d_ar:Def P w K mg base "worth_by_order" 2 4 WX)(d_ah:Def P w K mg base "rank_in" 1 2 W8)(F:Fun K "worth_by_aim" "worth_by_aim" Sat f fd):FnOk P w K mg base CX0 3 f fd ["wishes", "aim", "most", "asker", "thing"] (spD K 5 X8):=
 okD (k:=2) (g:=Tz) F (fq Hat 5) rfl λcdv A outer s H E B G0 hr=>
 have nm:=Hat
 by walk_at "d"
theorem Kai(d_ag:Def P w K mg base "look_at_wishes" 6 1 Yt)(F:Fun K "longest" "longest" Sai f fd):FnOk P w K mg base CX0 7 f fd ["wishes"] (spD K 1 W7):=
 okD (k:=6) (g:=TQ) F (fq Hai 1) rfl λcdv A outer s H E B G0 hr=>
 have nm:=Hai
 by walk_at "d"
theorem Kao(d_ab:Def P w K mg base "is_number_below" 2 2 ZJ)(F:Fun K "is_turns" "is_turns" Sao f fd):FnOk P w K mg base CX0 3 f fd ["thing", "askers"] (spD K 2 WZ):=
 okD (k:=2) (g:=TH) F (fq Hao 2) rfl λcdv A outer s H E B G0 hr=>
 have nm:=Hao
 by walk_at "d"
theorem Kan(d_ab:Def P w K mg base "is_number_below" 2 2 ZJ)(F:Fun K "is_old" "is_old" San f fd):FnOk P w K mg base CX0 3 f fd ["thing", "askers", "things"] (spD K 3 W0):=
 okD (k:=2) (g:=TJ) F (fq Han 3) rfl λcdv A outer s H E B G0 hr=>
 have nm:=Han
 by walk_at "d"
theorem Kal(F:Fun K "is_order" "is_order" Sal f fd):FnOk P w K mg base CX0 1 f fd ["thing"] (spD K 1 W4):=
 okD (k:=0) (g:=TL) F (fq Hal 1) rfl λcdv A outer s H E B G0 hr=>
 have nm:=Hal
 by walk_at "d"
theorem Kam(d_al:Def P w K mg base "is_order" 1 1 W4)(F:Fun K "look_at_order" "look_at_order" Sam f fd):FnOk P w K mg base CX0 2 f fd ["thing"] (spD K 1 W3):=
 okD (k:=1) (g:=TK) F (fq Ham 1) rfl λcdv A outer s H E B G0 hr=>
 have nm:=Ham
 by walk_at "d"
theorem Kap(d_ao:Def P w K mg base "is_turns" 3 2 WZ)(d_an:Def P w K mg base "is_old" 3 3 W0)(d_am:Def P w K mg base "look_at_order" 2 1 W3)(d_ag:Def P w K mg base "look_at_wishes" 6 1 Yt)(F:Fun K "look_at_aim" "look_at_aim" Sap f fd):FnOk P w K mg base CX0 7 f fd ["wishes", "thing"] (spD K 2 WY):=
 okD (k:=6) (g:=TF) F (fq Hap 2) rfl λcdv A outer s H E B G0 hr=>
 have nm:=Hap
 by walk_at "d"
theorem Kau(d_aj:Def P w K mg base "all_wishes" 7 1 W6)(d_at:Def P w K mg base "worth_by_aim" 3 5 X8)(d_ai:Def P w K mg base "longest" 7 1 W7)(d_ap:Def P w K mg base "look_at_aim" 7 2 WY)(F:Fun K "all_worths" "all_worths" Sau f fd):FnOk P w K mg base CX0 8 f fd ["wishes", "aim"] (spD K 2 WV):=
 okD (k:=7) (g:=Tx) F (fq Hau 2) rfl λcdv A outer s H E B G0 hr=>
 have nm:=Hau
 by walk_at "d"
theorem Kbj(d_bi:Def P w K mg base "paper_for" 11 3 WM)(d_bf:Def P w K mg base "best_by" 11 2 WP)(d_au:Def P w K mg base "all_worths" 8 2 WV)(F:Fun K "best_dealing" "best_dealing" Sbj f fd):FnOk P w K mg base CX0 12 f fd ["wishes", "aim"] (spD K 2 Ys):=
 okD (k:=11) (g:=Th) F (fq Hbj 2) rfl λcdv A outer s H E B G0 hr=>
 have nm:=Hbj
 by walk_at "d"
theorem Kbv(F:Fun K "_law_none" "_law_none" Sbv f fd):FnOk P w K mg base CX0 1 f fd ["_law_wishes_here"] (spD K 1 WI):=
 okD (k:=0) (g:=V6) F (fq Hbv 1) rfl λcdv A outer s H E B G0 hr=>
 have nm:=Hbv
 by walk_at "d"
theorem Kbs(F:Fun K "_law_is_number" "_law_is_number" Sbs f fd):FnOk P w K mg base CX0 1 f fd ["_law_thing"] (spD K 1 WJ):=
 okD (k:=0) (g:=V9) F (fq Hbs 1) rfl λcdv A outer s H E B G0 hr=>
 have nm:=Hbs
 by walk_at "d"
theorem Kbp(F:Fun K "_law_wished" "_law_wished" Sbp f fd):FnOk P w K mg base CX0 1 f fd ["_law_wishes_here", "_law_asker"] (spD K 2 WK):=
 okD (k:=0) (g:=Tc) F (fq Hbp 2) rfl λcdv A outer s H E B G0 hr=>
 have nm:=Hbp
 by walk_at "d"
theorem Kbt(d_bs:Def P w K mg base "_law_is_number" 1 1 WJ)(d_bp:Def P w K mg base "_law_wished" 1 2 WK)(F:Fun K "_law_is_dealing" "_law_is_dealing" Sbt f fd):FnOk P w K mg base CX0 2 f fd ["_law_wishes_here", "_law_thing"] (spD K 2 X4):=
 okD (k:=1) (g:=V8) F (fq Hbt 2) rfl λcdv A outer s H E B G0 hr=>
 have nm:=Hbt
 by walk_at "d"
theorem Kbl(F:Fun K "_law_numbers" "_law_numbers" Sbl f fd):FnOk P w K mg base CX0 1 f fd ["_law_cell", "_law_salt", "_law_sizes"] (spD K 3 Y7):=
 okD (k:=0) (g:=Tg) F (fq Hbl 3) rfl λcdv A outer s H E B G0 hr=>
 have nm:=Hbl
 by walk_at "d"
theorem Kbq(d_bl:Def P w K mg base "_law_numbers" 1 3 Y7)(F:Fun K "_law_aim" "_law_aim" Sbq f fd):FnOk P w K mg base CX0 2 f fd ["_law_wishes_here", "_law_cell", "_law_salt"] (spD K 3 Xw):=
 okD (k:=1) (g:=Tb) F (fq Hbq 3) rfl λcdv A outer s H E B G0 hr=>
 have nm:=Hbq
 by walk_at "d"
theorem Kbk(F:Fun K "_law_cell_at" "_law_cell_at" Sbk f fd):FnOk P w K mg base CX0 1 f fd ["_law_script", "_law_k"] (spD K 2 Y8):=
 okD (k:=0) (g:=WB) F (fq Hbk 2) rfl λcdv A outer s H E B G0 hr=>
 have nm:=Hbk
 by walk_at "d"
theorem Kbm(d_bl:Def P w K mg base "_law_numbers" 1 3 Y7)(d_bk:Def P w K mg base "_law_cell_at" 1 2 Y8)(F:Fun K "_law_wishes" "_law_wishes" Sbm f fd):FnOk P w K mg base CX0 2 f fd ["_law_script", "_law_at", "_law_most_things", "_law_most_askers", "_law_most_ranks"] (spD K 5 WL):=
 okD (k:=1) (g:=Tf) F (fq Hbm 5) rfl λcdv A outer s H E B G0 hr=>
 have nm:=Hbm
 by walk_at "d"
theorem Kbw(d_bu:Def P w K mg base "_law_key" 3 3 Y5)(d_bj:Def P w K mg base "best_dealing" 12 2 Ys)(d_bv:Def P w K mg base "_law_none" 1 1 WI)(d_br:Def P w K mg base "_law_counts" 2 2 Y6)(d_bt:Def P w K mg base "_law_is_dealing" 2 2 X4)(d_bq:Def P w K mg base "_law_aim" 2 3 Xw)(d_bk:Def P w K mg base "_law_cell_at" 1 2 Y8)(d_bm:Def P w K mg base "_law_wishes" 2 5 WL)(F:Fun K "law" "law" Sbw f fd):FnOk P w K mg base CX0 13 f fd ["_law_script"] (spD K 1 WH):=
 okD (k:=12) (g:=V5) F (fq Hbw 1) rfl λcdv A outer s H E B G0 hr=>
 have nm:=Hbw
 by walk_at "d"
end
theorem KU:recsOf q0=S7 p0 ixL:=by show recsOf (PySem.W.view PySem.Challenge.pw_wishdeal_k46_what_was_dealt_is_kept XG)=S7 PySem.Challenge.pw_wishdeal_k46_what_was_dealt_is_kept ixL;rw[PySem.W.Fast.te3399658132070893891,PySem.W.Fast.te6007212441101073949];kernel_rfl
theorem YV:(["all", "bool", "enumerate", "int", "isinstance", "len", "list", "max", "range", "set", "sorted", "str", "sum", "tuple", "zip"]:List Str).all (RF q0 (PySem.W.looseW q0 []))=true:=by show List.all _ (RF (PySem.W.view PySem.Challenge.pw_wishdeal_k46_what_was_dealt_is_kept XG) (PySem.W.looseW (PySem.W.view PySem.Challenge.pw_wishdeal_k46_what_was_dealt_is_kept XG) []))=true;k_qdec
theorem kL:valOf q0 "MOST_ASKERS" = some (.int 7):=by show valOf (PySem.W.view PySem.Challenge.pw_wishdeal_k46_what_was_dealt_is_kept XG) _=_;rw[Jv,PySem.W.Fast.te6007212441101073949];kernel_rfl
theorem kK:valOf q0 "MOST_COPIES" = some (.int 7):=by show valOf (PySem.W.view PySem.Challenge.pw_wishdeal_k46_what_was_dealt_is_kept XG) _=_;rw[Jv,PySem.W.Fast.te6007212441101073949];kernel_rfl
theorem kC:valOf q0 "MOST_RANKS" = some (.int 5):=by show valOf (PySem.W.view PySem.Challenge.pw_wishdeal_k46_what_was_dealt_is_kept XG) _=_;rw[Jv,PySem.W.Fast.te6007212441101073949];kernel_rfl
theorem kJ:valOf q0 "MOST_THINGS" = some (.int 6):=by show valOf (PySem.W.view PySem.Challenge.pw_wishdeal_k46_what_was_dealt_is_kept XG) _=_;rw[Jv,PySem.W.Fast.te6007212441101073949];kernel_rfl
theorem AW:tupStrsOf q0 "ORDERS" = some (["firsts", "full", "lasts"]:List Str):=by show tupStrsOf (PySem.W.view PySem.Challenge.pw_wishdeal_k46_what_was_dealt_is_kept XG) _=_;rw[PySem.W.Fast.te14491516231548247274,PySem.W.Fast.te6007212441101073949];kernel_rfl
theorem Ec{l:PySem.W.OpenLaw}{w:World}{s0:Uq}{mg mb:Str->Option Up}{fa:Us}{h:Heap}{XP:(Str->Option Up)->Heap->Prop}(G:PySem.W.Ground q0 [] [] XP w s0 mg mb h)(hfa:mg "law" = some (.ref fa)) :
  ∃fd:Ut,(∀(s:Uq)(v:Up),BindsTo s fd ⟨[v],[]⟩ [("_law_script", v)])/\∀base:Heap,FnOk l.prog w (whole h) mg base CX0 13 fa fd ["_law_script"] (spD (whole h) 1 WH):=by
 have T:Txt (whole h) mg:=⟨YW G.T YV (mq 0 rfl),YW G.T YV (mq 1 rfl),YW G.T YV (mq 2 rfl),YW G.T YV (mq 3 rfl),YW G.T YV (mq 4 rfl),YW G.T YV (mq 5 rfl),YW G.T YV (mq 6 rfl),YW G.T YV (mq 7 rfl),YW G.T YV (mq 8 rfl),YW G.T YV (mq 9 rfl),YW G.T YV (mq 10 rfl),YW G.T YV (mq 11 rfl),YW G.T YV (mq 12 rfl),YW G.T YV (mq 13 rfl),YW G.T YV (mq 14 rfl),Pl G.T kL,Pl G.T kK,Pl G.T kC,Pl G.T kJ,AH G.B AW (by decide)⟩
 refine Fg G.T KU 67 "law" rfl rfl hfa (λ_ _ _ _ _ _ _=>rfl) λbase=>?_
 have d_bo:=K1 l.prog w base G.T KU 59 "_law_longest" rfl rfl (λF=>Kbo T  F) λ_ _ _ _ _ _ us hl=>bz1 (us:=us) hl λ_=>rfl
 have d_bn:=K1 l.prog w base G.T KU 58 "_law_rank" rfl rfl (λF=>Kbn T  F) λ_ _ _ _ _ _ us hl=>bz3 (us:=us) hl λ_ _ _=>rfl
 have d_br:=K1 l.prog w base G.T KU 62 "_law_counts" rfl rfl (λF=>Kbr T d_bn d_bo F) λ_ _ _ _ _ _ us hl=>bz2 (us:=us) hl λ_ _=>rfl
 have d_bu:=K1 l.prog w base G.T KU 65 "_law_key" rfl rfl (λF=>Kbu T d_bo d_bn d_br F) λ_ _ _ _ _ _ us hl=>bz3 (us:=us) hl λ_ _ _=>rfl
 have d_bh:=K1 l.prog w base G.T KU 50 "asks_beyond" rfl rfl (λF=>Kbh T  F) λ_ _ _ _ _ _ us hl=>bz3 (us:=us) hl λ_ _ _=>rfl
 have d_aw:=K1 l.prog w base G.T KU 39 "place_of" rfl rfl (λF=>Kaw T  F) λ_ _ _ _ _ _ us hl=>bz2 (us:=us) hl λ_ _=>rfl
 have d_ax:=K1 l.prog w base G.T KU 40 "steps_of_askers" rfl rfl (λF=>Kax T d_aw F) λ_ _ _ _ _ _ us hl=>bz3 (us:=us) hl λ_ _ _=>rfl
 have d_aa:=K1 l.prog w base G.T KU 1 "is_whole" rfl rfl (λF=>Kaa T  F) λ_ _ _ _ _ _ us hl=>bz1 (us:=us) hl λ_=>rfl
 have d_ab:=K1 l.prog w base G.T KU 2 "is_number_below" rfl rfl (λF=>Kab T d_aa F) λ_ _ _ _ _ _ us hl=>bz2 (us:=us) hl λ_ _=>rfl
 have d_ad:=K1 l.prog w base G.T KU 13 "is_rank" rfl rfl (λF=>Kad T d_ab F) λ_ _ _ _ _ _ us hl=>bz2 (us:=us) hl λ_ _=>rfl
 have d_ae:=K1 l.prog w base G.T KU 14 "is_asker_list" rfl rfl (λF=>Kae T d_ad F) λ_ _ _ _ _ _ us hl=>bz2 (us:=us) hl λ_ _=>rfl
 have d_af:=K1 l.prog w base G.T KU 15 "look_at_lists" rfl rfl (λF=>Kaf T d_ae F) λ_ _ _ _ _ _ us hl=>bz2 (us:=us) hl λ_ _=>rfl
 have d_ac:=K1 l.prog w base G.T KU 12 "look_at_copies" rfl rfl (λF=>Kac T d_ab F) λ_ _ _ _ _ _ us hl=>bz1 (us:=us) hl λ_=>rfl
 have d_ag:=K1 l.prog w base G.T KU 16 "look_at_wishes" rfl rfl (λF=>Kag T d_af d_ac F) λ_ _ _ _ _ _ us hl=>bz1 (us:=us) hl λ_=>rfl
 have d_ak:=K1 l.prog w base G.T KU 21 "copies_left" rfl rfl (λF=>Kak T d_ag F) λ_ _ _ _ _ _ us hl=>bz2 (us:=us) hl λ_ _=>rfl
 have d_ay:=K1 l.prog w base G.T KU 41 "steps_of_copies" rfl rfl (λF=>Kay T d_ak F) λ_ _ _ _ _ _ us hl=>bz2 (us:=us) hl λ_ _=>rfl
 have d_az:=K1 l.prog w base G.T KU 42 "all_steps" rfl rfl (λF=>Kaz T d_ax d_ay F) λ_ _ _ _ _ _ us hl=>bz3 (us:=us) hl λ_ _ _=>rfl
 have d_ba:=K1 l.prog w base G.T KU 43 "longer_walks" rfl rfl (λF=>Kba T  F) λ_ _ _ _ _ _ us hl=>bz2 (us:=us) hl λ_ _=>rfl
 have d_bb:=K1 l.prog w base G.T KU 44 "widest_walks" rfl rfl (λF=>Kbb T d_ba F) λ_ _ _ _ _ _ us hl=>bz2 (us:=us) hl λ_ _=>rfl
 have d_bg:=K1 l.prog w base G.T KU 49 "prices_for" rfl rfl (λF=>Kbg T d_az d_bb F) λ_ _ _ _ _ _ us hl=>bz3 (us:=us) hl λ_ _ _=>rfl
 have d_bi:=K1 l.prog w base G.T KU 51 "paper_for" rfl rfl (λF=>Kbi T d_bh d_bg F) λ_ _ _ _ _ _ us hl=>bz3 (us:=us) hl λ_ _ _=>rfl
 have d_bc:=K1 l.prog w base G.T KU 45 "round_within" rfl rfl (λF=>Kbc T  F) λ_ _ _ _ _ _ us hl=>bz1 (us:=us) hl λ_=>rfl
 have d_bd:=K1 l.prog w base G.T KU 46 "way_round" rfl rfl (λF=>Kbd T  F) λ_ _ _ _ _ _ us hl=>bz2 (us:=us) hl λ_ _=>rfl
 have d_be:=K1 l.prog w base G.T KU 47 "gaining_way" rfl rfl (λF=>Kbe T d_az d_bb d_bc d_bd F) λ_ _ _ _ _ _ us hl=>bz3 (us:=us) hl λ_ _ _=>rfl
 have d_av:=K1 l.prog w base G.T KU 37 "behind_way" rfl rfl (λF=>Kav T  F) λ_ _ _ _ _ _ us hl=>bz2 (us:=us) hl λ_ _=>rfl
 have d_bf:=K1 l.prog w base G.T KU 48 "best_by" rfl rfl (λF=>Kbf T d_be d_av F) λ_ _ _ _ _ _ us hl=>bz2 (us:=us) hl λ_ _=>rfl
 have d_aj:=K1 l.prog w base G.T KU 19 "all_wishes" rfl rfl (λF=>Kaj T d_ag F) λ_ _ _ _ _ _ us hl=>bz1 (us:=us) hl λ_=>rfl
 have d_aq:=K1 l.prog w base G.T KU 31 "power" rfl rfl (λF=>Kaq T  F) λ_ _ _ _ _ _ us hl=>bz2 (us:=us) hl λ_ _=>rfl
 have d_as:=K1 l.prog w base G.T KU 33 "worth_by_turns" rfl rfl (λF=>Kas T d_aq F) λ_ _ _ _ _ _ us hl=>bz4 (us:=us) hl λ_ _ _ _=>rfl
 have d_ar:=K1 l.prog w base G.T KU 32 "worth_by_order" rfl rfl (λF=>Kar T d_aq F) λ_ _ _ _ _ _ us hl=>bz4 (us:=us) hl λ_ _ _ _=>rfl
 have d_ah:=K1 l.prog w base G.T KU 17 "rank_in" rfl rfl (λF=>Kah T  F) λ_ _ _ _ _ _ us hl=>bz2 (us:=us) hl λ_ _=>rfl
 have d_at:=K1 l.prog w base G.T KU 34 "worth_by_aim" rfl rfl (λF=>Kat T d_aq d_as d_ar d_ah F) λ_ _ _ _ _ _ us hl=>bz5 (us:=us) hl λ_ _ _ _ _=>rfl
 have d_ai:=K1 l.prog w base G.T KU 18 "longest" rfl rfl (λF=>Kai T d_ag F) λ_ _ _ _ _ _ us hl=>bz1 (us:=us) hl λ_=>rfl
 have d_ao:=K1 l.prog w base G.T KU 28 "is_turns" rfl rfl (λF=>Kao T d_ab F) λ_ _ _ _ _ _ us hl=>bz2 (us:=us) hl λ_ _=>rfl
 have d_an:=K1 l.prog w base G.T KU 27 "is_old" rfl rfl (λF=>Kan T d_ab F) λ_ _ _ _ _ _ us hl=>bz3 (us:=us) hl λ_ _ _=>rfl
 have d_al:=K1 l.prog w base G.T KU 24 "is_order" rfl rfl (λF=>Kal T  F) λ_ _ _ _ _ _ us hl=>bz1 (us:=us) hl λ_=>rfl
 have d_am:=K1 l.prog w base G.T KU 25 "look_at_order" rfl rfl (λF=>Kam T d_al F) λ_ _ _ _ _ _ us hl=>bz1 (us:=us) hl λ_=>rfl
 have d_ap:=K1 l.prog w base G.T KU 29 "look_at_aim" rfl rfl (λF=>Kap T d_ao d_an d_am d_ag F) λ_ _ _ _ _ _ us hl=>bz2 (us:=us) hl λ_ _=>rfl
 have d_au:=K1 l.prog w base G.T KU 35 "all_worths" rfl rfl (λF=>Kau T d_aj d_at d_ai d_ap F) λ_ _ _ _ _ _ us hl=>bz2 (us:=us) hl λ_ _=>rfl
 have d_bj:=K1 l.prog w base G.T KU 53 "best_dealing" rfl rfl (λF=>Kbj T d_bi d_bf d_au F) λ_ _ _ _ _ _ us hl=>bz2 (us:=us) hl λ_ _=>rfl
 have d_bv:=K1 l.prog w base G.T KU 66 "_law_none" rfl rfl (λF=>Kbv T  F) λ_ _ _ _ _ _ us hl=>bz1 (us:=us) hl λ_=>rfl
 have d_bs:=K1 l.prog w base G.T KU 63 "_law_is_number" rfl rfl (λF=>Kbs T  F) λ_ _ _ _ _ _ us hl=>bz1 (us:=us) hl λ_=>rfl
 have d_bp:=K1 l.prog w base G.T KU 60 "_law_wished" rfl rfl (λF=>Kbp T  F) λ_ _ _ _ _ _ us hl=>bz2 (us:=us) hl λ_ _=>rfl
 have d_bt:=K1 l.prog w base G.T KU 64 "_law_is_dealing" rfl rfl (λF=>Kbt T d_bs d_bp F) λ_ _ _ _ _ _ us hl=>bz2 (us:=us) hl λ_ _=>rfl
 have d_bl:=K1 l.prog w base G.T KU 56 "_law_numbers" rfl rfl (λF=>Kbl T  F) λ_ _ _ _ _ _ us hl=>bz3 (us:=us) hl λ_ _ _=>rfl
 have d_bq:=K1 l.prog w base G.T KU 61 "_law_aim" rfl rfl (λF=>Kbq T d_bl F) λ_ _ _ _ _ _ us hl=>bz3 (us:=us) hl λ_ _ _=>rfl
 have d_bk:=K1 l.prog w base G.T KU 55 "_law_cell_at" rfl rfl (λF=>Kbk T  F) λ_ _ _ _ _ _ us hl=>bz2 (us:=us) hl λ_ _=>rfl
 have d_bm:=K1 l.prog w base G.T KU 57 "_law_wishes" rfl rfl (λF=>Kbm T d_bl d_bk F) λ_ _ _ _ _ _ us hl=>bz5 (us:=us) hl λ_ _ _ _ _=>rfl
 exact λ{_ _} F=>Kbw T d_bu d_bj d_bv d_br d_bt d_bq d_bk d_bm F
abbrev d_bw:DefRec:=⟨"law", Sx Sbw,Wr Sbw,Z8 Sbw,Fh Sbw⟩
theorem walk{YP:World->Heap->Prop}{XP:(Str->Option Up)->Heap->Prop}(hlaw:∀ns:List Int,ns.length<=63->WH [.list (ns.map int)]=some (.bool true)):PySem.W.WalkO q0 [] XP YP (PySem.Challenge.rw_wishdeal_k46_what_was_dealt_is_kept).row.toRowW d_bw [] (λf vs=>PySem.call f vs):=
 BH (n:=63) (k:=13) (x:= "_law_script") rfl (by decide) rfl ⟨rfl,by decide,by decide,rfl⟩ (λ_ _ _ _ _ _ G hm=>Ec G hm) hlaw
theorem Gd{sizes found:List Int}{z d:Int}(h:∀(j:Nat) d z,found[j]?=some d->sizes[j]?=some z->0<=d/\d<z)(hz:sizes[found.length]?=some z)(h0:0<=d/\d<z) :
  ∀(j:Nat) d' z',(found++[d])[j]?=some d'->sizes[j]?=some z'->0<=d'/\d'<z':=by
 intro j d' z' e1 e2;by_cases hj:j<found.length
 ·rw[Qy hj]at e1;exact h j d' z' e1 e2
 ·by_cases hj2:j=found.length
  ·subst hj2;rw[hz]at e2;cases e2;rw[Qw (Qx _),Nat.sub_self,List.getElem?_cons_zero]at e1;cases e1;exact h0
  ·rw[QC (by rw[Qj,Q9];omega)]at e1;cases e1
abbrev pb(d:D):Option Sl:=some (.pub d)
def inv(c s:Int)(sizes:List Int)(n:Int)(i:Nat)(Z:UP):Prop:=∃left found x6 x7,Z=[some (Sl.pub (.int c)),pb (.int s),pb (.list (sizes.map .int)),pb (.int n),pb (.int left),some (.own ((found:List Int).map .int)),x6,x7] /\
 found.length=i/\∀(j:Nat) d z,found[j]?=some d->sizes[j]?=some z->0<=d/\d<z
theorem AV{c s n:Int}{sizes:List Int}(hs:∀x∈sizes,0<x/\x<18446744073709551616)(hl:sizes.length<=1000){i:Nat}{d:D}{Z:UP}{Q:Out->Prop}(hi:(Yk 0 sizes.length)[i]?=some d)(h:inv c s sizes n i Z) :
  ∃Z2,gN 6 d Z=some Z2/\Ho Ot Z2 (Sa (inv c s sizes n (i+1)) Q):=by
 obtain⟨left,found,x6,x7,rfl,hf,hfd⟩:=h;obtain⟨rfl,hlt⟩:=SI hi;obtain⟨z,hz⟩:∃z,sizes[i]?=some z:=⟨sizes[i]'(by omega),Qd _⟩
 obtain⟨z1,z2⟩:=hs z (Qt hz);have hix:oIx (.list (sizes.map int)) (.int (0+(i:Int)))=some (.int z):=by rw[Uk];exact Zr (by rw[Qe,hz];rfl)
 generalize hk:(0:Int)+(i:Int)=k at hix⊢;have hk1:k<18446744073709551616:=by omega
 have hk2 : -18446744073709551616<k:=by omega
 have hlen:(found.map int).length<1000000:=by rw[Qb];omega
 have pw:XY (.int 10) (.int 18)=some (.int 1000000000000000000):=by rw[D6 (by decide)];rfl
 refine⟨_,UX (Qa rfl) rfl,?_⟩;unfold Ot;apply KF
 case h1=>exact FA (Z6 rfl (U7 UZ UZ pw) rfl) λ_=>Z6 rfl UZ rfl
 case h2=>intro _;refine Km (Wo rfl (U7 (UR rfl) (K8 rfl (UR rfl) hix) (VT (by omega))) rfl hlen rfl) ?_;refine ZM (KO (U7 (UR rfl) (K8 rfl (UR rfl) hix) (Mm (by omega) (by omega))) (Qa rfl) rfl) (Zg ?_);exact⟨_,found++[left % z],_,_,by rw[QB];rfl,by rw[Qj,hf];rfl,Gd hfd (by rw[hf];exact hz) ⟨Int.emod_nonneg _ (by omega),Int.emod_lt_of_pos _ z1⟩⟩
 case h3=>intro _;refine Km (KO (U7 (U7 (U7 (U7 (UR rfl) (U7 UZ (UR rfl) (Rw (by decide) (by decide))) Zh) (U7 (U7 UZ (UR rfl) (Rw (by decide) (by decide))) (UR rfl) (SG hk2 hk1)) Zh) (UR rfl) Zh) UZ (VT (by decide))) (Qa rfl) rfl) ?_;refine Km (KO (U7 (U7 (UR rfl) UZ (SG (by decide) (by decide))) UZ (VT (by decide))) (Qa rfl) rfl) ?_;refine Km (KO (U7 (U7 (U7 (U7 (UR rfl) (UR rfl) (SG (by omega) (by omega))) UZ (VT (by decide))) UZ (SG (by decide) (by decide))) UZ (VT (by decide))) (Qa rfl) rfl) ?_;refine ZM (Wo rfl (U7 (U7 (UR rfl) UZ (Mm (by decide) (by decide))) (K8 rfl (UR rfl) hix) (VT (by omega))) rfl hlen rfl) (Zg ?_);exact⟨_,found++[_ % z],_,_,by rw[QB];rfl,by rw[Qj,hf];rfl,Gd hfd (by rw[hf];exact hz) ⟨Int.emod_nonneg _ (by omega),Int.emod_lt_of_pos _ z1⟩⟩
theorem Nj(c s:Int){sizes:List Int}(hs:∀x∈sizes,0<x/\x<18446744073709551616)(hl:sizes.length<=1000) :
  ∃r,Y7 [.int c,.int s,.list (sizes.map int)]=some r/\∃ds:List Int,r=.list (ds.map .int)/\ds.length=sizes.length/\∀(j:Nat) d z,ds[j]?=some d->sizes[j]?=some z->0<=d/\d<z:=by
 refine Vl (Z:=[pb (.int c),pb (.int s),pb (.list (sizes.map int)),none,none,none,none,none]) rfl ?_;unfold Tg;refine Km (KO (ZN (UT (UR rfl) (UT (U7 (VG UZ) (UR rfl) YT) UY)) Ml) (Qa rfl) rfl) ?_;refine Km (KO (UR rfl) (Qa rfl) rfl) ?_;refine Km (Yn (VR UY (Qa rfl)) (Qa rfl) rfl) ?_;apply KI;apply ZO (ds:=Yk 0 sizes.length) (inv c s sizes (if -1-c > c then -1-c else c))
 case h1=>exact VU (UT (Z7 rfl (by rw[Zw,Qb])) UY) (VQ (by omega) (by omega))
 case h0=>exact⟨_,[],none,none,rfl,rfl,λj d z e=>by cases e⟩
 case hst=>exact λi d Z e h=>AV hs hl e h
 case hend=>rintro Z ⟨left,found,x6,x7,rfl,hf,hfd⟩;rw[Wv]at hf;exact KJ (KH (Yo rfl rfl) ⟨_,rfl,found,rfl,by omega,hfd⟩)
mutual
theorem OS:∀(d:PyData),d.canLay0=true->UH d d=true
 |.none,_=>rfl
 |.bool b,_=>by cases b<;>rfl
 |.int i,_=>by simp[UH]
 |.str s,_=>by simp[UH]
 |.list xs,h=>eqvAll_refl xs h
 |.tuple xs,h=>eqvAll_refl xs h
 |.dict _,h=>by cases h
theorem eqvAll_refl:∀(xs:List PyData),UF xs=true->PyData.eqvAll xs xs=true
 |[],_=>rfl
 |x::r,h=>by
  have h:(PyData.canLay0 x&&UF r)=true:=h;rw[Je]at h
  show(UH x x&&PyData.eqvAll r r)=true
  rw[OS x h.1,eqvAll_refl r h.2];rfl
end
theorem Rv:∀{xs:List D},(∀x∈xs,PyData.canLay0 x=true)->UF xs=true
 |[],_=>rfl
 |x::r,h=>by
  show(PyData.canLay0 x&&UF r)=true
  rw[h x Qo,Rv λy hy=>h y (Ql _ hy)];rfl
theorem Ru{n:Nat}:∀{xs:List D},(∀x∈xs,UG x<=n)->PyData.depthAll xs<=n
 |[],_=>by simp[PyData.depthAll]
 |x::r,h=>by have h1:=h x Qo;have h2:=Ru (n:=n) λy hy=>h y (Ql _ hy);simp only[PyData.depthAll];omega
def Zk(r:List Int):D:=.list (r.map int)
def KQ(rs:List (List Int)):D:=.list (rs.map Zk)
def Kf(cs:List Int)(ls:L3):D:=.tuple [.list (cs.map int),.list (ls.map KQ)]
structure Vu(n:Nat)(rs:List (List Int)):Prop where
 few:rs.length<=5
 some:∀r∈rs,r≠[]
 there:∀r∈rs,∀t∈r,0<=t/\t<n
 once:rs.flatten.Nodup
structure Good(cs:List Int)(ls:L3):Prop where
 c1:1<=cs.length
 c6:cs.length<=6
 c7:∀c∈cs,0<=c/\c<8
 l1:1<=ls.length
 l7:ls.length<=7
 rk:∀rs∈ls,Vu cs.length rs
theorem BA(r:List Int):(Zk r).canLay0=true:=Rv λx hx=>by obtain⟨y,_,rfl⟩:=Qu.mp hx;rfl
theorem Mo(i:Int):(int i).depth<=1:=by simp[UG]
theorem Pb{n:Nat}{xs:List D}(h:PyData.depthAll xs<=n):(UB xs).depth<=n+1:=by simp only[UG];omega
theorem Bz(r:List Int):(Zk r).depth<=2:=Pb (Ru λx hx=>by obtain⟨y,_,rfl⟩:=Qu.mp hx;exact Mo y)
theorem AU(i:Int):Vc [.int i]=some (.bool true):=by refine Zd (Z:=[pb (.int i)]) rfl ?_;unfold T2;exact KH (R3 (KS (UR rfl)) (λ_=>Mn (KS (UR rfl)))) rfl
theorem Pk{i m:Int}(h0:0<=i)(h1:i<m):ZJ [.int i,.int m]=some (.bool true):=by
 refine Zd (Z:=[pb (.int i),pb (.int m)]) rfl ?_;unfold TZ;have hb:(decide (0<=i)&&decide (i<m))=true:=by simp[h0,h1]
 refine KH (R3 (t:=true) (u:=true) (Kn (UT (UR rfl) UY) rfl (AU i)) (λ_=>?_)) rfl;rw[←hb];exact KS (OD UZ (UR rfl) rfl (λ_=>UR rfl) (λ_=>rfl))
theorem Pj{α:Type}(l:List α):YF [.list (l.map λ_=>.bool true)]=some (.bool true):=by
 have:(l.map λ_=>UC true)=(l.map λ_=>true).map UC:=by rw[Ja];rfl
 rw[this,D5]
 congr 2
 rw[List.all_map];induction l with
 |nil=>rfl
 |cons x r ih=>simpa using ih
theorem jt{r:List Int}{n:Int}(hne:r≠[])(hl:r.length<=1000)(h:∀t∈r,0<=t/\t<n):X9 [Zk r,.int n]=some (.bool true):=by
 refine Zd (Z:=[pb (Zk r),pb (.int n)]) rfl ?_;unfold TX;apply KI;have hlen:Kg [Zk r]=some (.int r.length):=by unfold Zk;rw[Zw,Qb]
 have hp:0<r.length:=Uf.mpr hne;apply KF
 case h1=>exact XU (Z1:=[pb (Zk r),pb (.int n)]) (Vt (UR rfl) rfl) (U7 (Z7 rfl hlen) UZ Wi)
 case h2=>
       intro hh;have:(r.length:Int)=0:=by simpa using hh
       omega
 case h3=>
  intro _;refine K2 (KJ ?_)
  have hc:Ze (gN 2) (UU true) (U0 2 ZJ (US (UO 2) (US (UO 1) (UQ)))) (r.map int) (Kq [pb (Zk r),pb (.int n)]++UA 1 none) []=some (r.map λ_=>.bool true):=by
   rw[Rn (λ_=>true) (λ_=>.bool true) (λZ=>∃x,Z=[pb (Zk r),pb (.int n),x])]
   ·rw[List.filter_eq_self.mpr (λ_ _=>rfl),JJ,Ja];rfl
   ·rintro d hm Z ⟨x,rfl⟩;obtain⟨t,ht,rfl⟩:=Qu.mp hm;exact⟨_,UX (Qa rfl) rfl,rfl,λ_=>Kn (UT (UR rfl) (UT (UR rfl) UY)) rfl (Pk (h t ht).1 (h t ht).2),_,rfl⟩
   ·exact⟨none,rfl⟩
   ·rw[Qb,QN];omega
  exact KH (ZN (UT (KS (YC (ZH (UR rfl) rfl) hc)) UY) (Pj r)) rfl
theorem Hn{a b c x3:Option Sl}(ha:XR a=a)(hb:XR b=b)(hc:XR c=c)(hx:XR x3=x3):∀(ds es:List D)(x4:Option Sl),es.length+ds.length<=1000000 ->
  ∃y,YL (gN 4) (UU true) (UO 4) ds [a,b,c,x3,x4] es=some (es++ds,[a,b,c,x3,y])
 |[],es,x4,_=>⟨x4,by rw[YL,Jj]⟩
 |d::r,es,x4,h=>by
  rw[Qv]at h;obtain⟨y,e⟩:=Hn ha hb hc hx r (es++[d]) (some (.pub d)) (by rw[Qj,Q9];omega);refine⟨y,?_⟩;rw[YL];have h1:gN 4 d [a,b,c,x3,x4]=some [a,b,c,x3,pb d]:=UX (Qa rfl) rfl;rw[h1];dsimp only[UU];rw[Qk rfl];have h2:UO 4 [a,b,c,x3,pb d]=.ok d [a,b,c,x3,pb d]:=UR rfl;rw[h2];dsimp only;rw[Qk (by omega)];have h3:Kq [a,b,c,x3,pb d]=[a,b,c,x3,pb d]:=by unfold Kq;simp only[Qq,JZ,ha,hb,hc,hx];rfl
  rw[h3,e,Jg];rfl
theorem HJ{a b:D}:∀(rs:List (List Int))(es:List D)(x3 x4:Option Sl),es.length+rs.flatten.length<=1000000 ->
  XV (gN 3) (UU true) (K7 (UO 3)) (gN 4) (UU true) (UO 4) (rs.map Zk) [pb a,pb b,none,x3,x4] es=some (es++rs.flatten.map int)
 |[],es,_,_,_=>by rw[List.map_nil,XV];simp
 |r::rs,es,x3,x4,h=>by rw[QL,Qj]at h;rw[Qq,XV];have h1:gN 3 (Zk r) [pb a,pb b,none,x3,x4]=some [pb a,pb b,none,pb (Zk r),x4]:=UX (Qa rfl) rfl;rw[h1];dsimp only[UU];rw[Qk rfl];have h2:K7 (UO 3) [pb a,pb b,none,pb (Zk r),x4]=.ok (r.map int) [pb a,pb b,none,pb (Zk r),x4]:=ZH (UR rfl) rfl;rw[h2];dsimp only;have h3:Kq [pb a,pb b,none,pb (Zk r),x4]=[pb a,pb b,none,pb (Zk r),XR x4]:=rfl;rw[h3];obtain⟨y,e⟩:=Hn (a:=some (.pub a)) (b:=some (.pub b)) (c:=none) (x3:=some (.pub (Zk r))) rfl rfl rfl rfl (r.map int) es (XR x4) (by rw[Qb];omega);rw[e];dsimp only;have ih:=HJ (a:=a) (b:=b) rs (es++r.map int) (some (.pub (Zk r))) y (by rw[Qj,Qb];omega);refine Eq.trans ih ?_;rw[QL,QB,Jg]
theorem Gc{ns:List Int}(h:ns.Nodup):VI ns=ns.length:=by
 unfold VI
 have:∀i,i<=ns.length->(PyProof.Rows.firstMet (λi=>ns.getD i 0) i).length=i:=by
  intro i;induction i with
  |zero=>intro _;rfl
  |succ i ih=>
   intro hi;rw[PyProof.Rows.firstMet_succ]
   have hany:(PyProof.Rows.firstMet (λi=>ns.getD i 0) i).any (· == ns.getD i 0)=false:=by
    rw[PyProof.Rows.firstMet_any,List.any_eq_false];intro x hx;obtain⟨j,hj,rfl⟩:=Qu.mp hx;have hj:=Q8.mp hj;intro e;have e:ns.getD j 0=ns.getD i 0:=by simpa using e
    have l1:j<ns.length:=by omega
    have l2:i<ns.length:=by omega
    simp only[List.getD,Qd l1,Qd l2,JW]at e;exact absurd ((List.getElem_inj h).mp e) (by omega)
   unfold PyProof.Rows.step_dedup;rw[hany];rw[Qs (by decide),Qj,ih (by omega)];rfl
 exact this ns.length (Qx _)
theorem j4{rs:List (List Int)}{n:Nat}(g:Vu n rs)(hn:n<=6)(hf:rs.flatten.length<=1000):Va [KQ rs,.int n]=some (.bool true):=by
 refine Zd (Z:=[pb (KQ rs),pb (.int n),none]) rfl ?_;unfold TW;have hlen:Kg [KQ rs]=some (.int rs.length):=by unfold KQ;rw[Zw,Qb]
 have h5:=g.few;have hrl:∀r∈rs,r.length<=1000:=λr hr=>QS (List.Sublist.length_le (List.sublist_flatten_of_mem hr)) hf;apply KI;apply KF
 case h1=>exact XU (Z1:=[pb (KQ rs),pb (.int n),none]) (Vt (UR rfl) rfl) (U7 (Z7 rfl hlen) UZ rfl)
 case h2=>
       intro hh;have:(5:Int)<(rs.length:Int):=by simpa using hh
       omega
 case h3=>
  intro _;refine K2 (KJ ?_)
  have hc:Ze (gN 3) (UU true) (U0 2 X9 (US (UO 3) (US (UO 1) (UQ)))) (rs.map Zk) (Kq [pb (KQ rs),pb (.int n),none]++UA 1 none) []=some (rs.map λ_=>.bool true):=by
   rw[Rn (λ_=>true) (λ_=>.bool true) (λZ=>∃x,Z=[pb (KQ rs),pb (.int n),none,x])]
   ·rw[List.filter_eq_self.mpr (λ_ _=>rfl),JJ,Ja];rfl
   ·rintro d hm Z ⟨x,rfl⟩;obtain⟨r,hr,rfl⟩:=Qu.mp hm;exact⟨_,UX (Qa rfl) rfl,rfl,λ_=>Kn (UT (UR rfl) (UT (UR rfl) UY)) rfl (jt (g.some r hr) (hrl r hr) (g.there r hr)),_,rfl⟩
   ·exact⟨none,rfl⟩
   ·rw[Qb,QN];omega
  apply KI;apply KF
  case h1=>exact Xf (XJ (ZN (UT (KS (YC (ZH (UR rfl) rfl) hc)) UY) (Pj rs)))
  case h2=>intro hh;cases hh
  case h3=>
   intro _;refine K2 (KJ ?_);have h2:S5 (K7 (UO 0)) 2 (gN 3) (UU true) (K7 (UO 3)) (gN 4) (UU true) (UO 4) [pb (KQ rs),pb (.int n),none]=.ok (rs.flatten.map int) [pb (KQ rs),pb (.int n),none]:=by unfold S5;have e1:K7 (UO 0) [pb (KQ rs),pb (.int n),none]=.ok (rs.map Zk) [pb (KQ rs),pb (.int n),none]:=ZH (UR rfl) rfl;rw[e1];dsimp only;have e2:=HJ (a:=KQ rs) (b:=.int n) rs [] none none (by rw[QN];omega);have e3:XV (gN 3) (UU true) (K7 (UO 3)) (gN 4) (UU true) (UO 4) (rs.map Zk) (Kq [pb (KQ rs),pb (.int n),none]++UA 2 none) []=some ([]++rs.flatten.map int):=e2;rw[e3];rfl
   refine Km (Yn h2 (Qa rfl) rfl) ?_;have hls:Wp [.list (rs.flatten.map int)]=some (.int rs.flatten.length):=by unfold Wp;dsimp only;rw[V0];dsimp only;rw[Qk (by omega),Gc g.once]
   refine KH (KS (U7 (ZN (UT (Yo rfl rfl) UY) hls) (Z7 rfl Zw) Wi)) ?_;rw[Qb];simp
theorem Xd{d:D}:∀{xs:List D}{k i:Nat},(Yj k xs)[i]?=some d->∃x,xs[i]?=some x/\d=.tuple [.int ((k+i:Nat):Int),x]
 |[],k,i,h=>by cases h
 |x::r,k,0,h=>by cases h;exact⟨x,rfl,rfl⟩
 |x::r,k,i+1,h=>by obtain⟨y,e,q⟩:=Xd (xs:=r) (k:=k+1) (i:=i) h;exact⟨y,e,by rw[q];congr 4;omega⟩
theorem SE:∀(n:Nat)(l:List Int),l.Nodup->(∀x∈l,0<=x/\x<n)->l.length<=n
 |0,[],_,_=>Qx _
 |0,x::r,_,h=>by have:=h x Qo;omega
 |n+1,l,hn,h=>by
  by_cases hm:(n:Int)∈l
  ·have:=SE n (l.erase (n:Int)) (hn.erase _) λx hx=>by
    have h1:=(List.Nodup.mem_erase_iff hn).mp hx;have h2:=h x h1.2;have h3:=h1.1;omega
   rw[List.length_erase_of_mem hm]at this;omega
  ·have:=SE n l hn λx hx=>by
    have h2:=h x hx;have h3:x≠(n:Int):=λe=>hm (e ▸ hx);omega
   omega
theorem M7{n:Nat}{rs:List (List Int)}(g:Vu n rs):rs.flatten.length<=n:=SE n _ g.once λx hx=>by obtain⟨r,hr,hxr⟩:=Ud.mp hx;exact g.there r hr x hxr
theorem AT{cs:List Int}(h1:1<=cs.length)(h6:cs.length<=6)(h:∀c∈cs,0<=c/\c<8):Vb [.list (cs.map int)]=some .none:=by
 refine SX (Z:=[pb (.list (cs.map int)),none,none]) rfl ?_;unfold TY;have hlen:Kg [.list (cs.map int)]=some (.int cs.length):=by rw[Zw,Qb]
 apply KI;apply KF
 case h1=>exact XU (Z1:=[pb (.list (cs.map int)),none,none]) (Vt (UR rfl) rfl) (Xf (OD UZ (Z7 rfl hlen) rfl (λ_=>UZ) (λ_=>rfl)))
 case h2=>
  intro hh;have a1:(1:Int)<=(cs.length:Int):=by omega
  have a2:(cs.length:Int)<=6:=by omega
  simp[a1,a2]at hh
 case h3=>
  intro _;refine K2 (KJ ?_);apply ZO (λ_ Z=>∃x1 x2,Z=[pb (.list (cs.map int)),x1,x2])
  case h1=>exact XN (UT (UR rfl) UY) XH
  case h0=>exact⟨_,_,rfl⟩
  case hst=>
   rintro i d Z hi ⟨x1,x2,rfl⟩;obtain⟨x,hx,rfl⟩:=Xd hi;obtain⟨c,hc,rfl⟩:=Qu.mp (Qt hx);refine⟨_,KB rfl (U5 (UX (Qa rfl) rfl) (U5 (UX (Qa rfl) rfl) KD)),?_⟩;unfold MD;apply KF
   case h1=>exact Xf (XJ (Kn (UT (UR rfl) (UT (U7 UZ UZ Zh) UY)) rfl (Pk (h c hc).1 (by have:=(h c hc).2;omega))))
   case h2=>intro hh;cases hh
   case h3=>exact λ_=>K2 (Zg ⟨_,_,rfl⟩)
  case hend=>exact λZ ⟨x1,x2,e⟩=>⟨_,rfl⟩
theorem By{ls:L3}{n:Nat}(hn:n<=6)(h1:1<=ls.length)(h7:ls.length<=7)(h:∀rs∈ls,Vu n rs):W9 [.list (ls.map KQ),.int n]=some .none:=by
 refine SX (Z:=[pb (.list (ls.map KQ)),pb (.int n),none,none]) rfl ?_;unfold TV;have hlen:Kg [.list (ls.map KQ)]=some (.int ls.length):=by rw[Zw,Qb]
 apply KI;apply KF
 case h1=>exact XU (Z1:=[pb (.list (ls.map KQ)),pb (.int n),none,none]) (Vt (UR rfl) rfl) (Xf (OD UZ (Z7 rfl hlen) rfl (λ_=>UZ) (λ_=>rfl)))
 case h2=>
  intro hh;have a1:(1:Int)<=(ls.length:Int):=by omega
  have a2:(ls.length:Int)<=7:=by omega
  simp[a1,a2]at hh
 case h3=>
  intro _;refine K2 (KJ ?_);apply ZO (λ_ Z=>∃x2 x3,Z=[pb (.list (ls.map KQ)),pb (.int n),x2,x3])
  case h1=>exact XN (UT (UR rfl) UY) XH
  case h0=>exact⟨_,_,rfl⟩
  case hst=>
   rintro i d Z hi ⟨x1,x2,rfl⟩;obtain⟨x,hx,rfl⟩:=Xd hi;obtain⟨rs,hrs,rfl⟩:=Qu.mp (Qt hx);refine⟨_,KB rfl (U5 (UX (Qa rfl) rfl) (U5 (UX (Qa rfl) rfl) KD)),?_⟩;unfold ME;have hfl:=M7 (h rs hrs);apply KF
   case h1=>exact Xf (XJ (Kn (UT (UR rfl) (UT (UR rfl) UY)) rfl (j4 (h rs hrs) hn (by omega))))
   case h2=>intro hh;cases hh
   case h3=>exact λ_=>K2 (Zg ⟨_,_,rfl⟩)
  case hend=>exact λZ ⟨x1,x2,e⟩=>⟨_,rfl⟩
theorem Pi{cs:List Int}{ls:L3}(g:Good cs ls):Yt [Kf cs ls]=some .none:=by
 refine SX (Z:=[pb (Kf cs ls),none,none]) rfl ?_;unfold TU;apply KI;apply KF
 case h1=>exact XU (Z1:=[pb (Kf cs ls),none,none]) (Vt (UR rfl) rfl) (U7 (Z7 rfl rfl) UZ RZ)
 case h2=>intro hh;cases hh
 case h3=>
  intro _;refine K2 (KJ ?_);have hlen:Kg [.list (cs.map int)]=some (.int (cs.length:Nat)):=by rw[Zw,Qb]
  refine Km (VF (UR rfl) (KB rfl (U5 (UX (Qa rfl) rfl) (U5 (UX (Qa rfl) rfl) KD)))) ?_;refine Km (Vo (Kn (UT (UR rfl) UY) rfl (AT g.c1 g.c6 g.c7))) ?_;exact ZM (Vo (Kn (UT (UR rfl) (UT (Z7 rfl hlen) UY)) rfl (By g.c6 g.l1 g.l7 g.rk))) ⟨_,rfl⟩
theorem LK:∀(xs ys:List Int),PyData.eqvAll (xs.map int) (ys.map int)=decide (xs=ys)
 |[],[]=>rfl
 |[],y::ys=>by simp[PyData.eqvAll]
 |x::xs,[]=>by simp[PyData.eqvAll]
 |x::xs,y::ys=>by
  have ih:=LK xs ys
  show(UH (.int x) (.int y)&&PyData.eqvAll (xs.map int) (ys.map int))=_
  rw[ih];have:UH (.int x) (.int y)=decide (x=y):=rfl;rw[this,JD];simp
theorem A1{xs:List Int}:oNe (.list (xs.map int)) (.list [])=some (!decide (xs=[])):=by
 unfold oNe;have h1:(UB (xs.map int)).canLay0=true:=BA xs;have h3:(UB (xs.map int)).depth<=60:=by have:=Bz xs;unfold Zk at this;omega
 rw[Qk ⟨h1,rfl,h3⟩]
 congr 2
 exact LK xs []
theorem DQ{xs:List D}{x:D}(h:xs.getLast?=some x):oIx (.list xs) (.int (-1))=some x:=by
 unfold oIx atI;have hl:xs≠[]:=by rintro rfl;cases h
 have hp:0<xs.length:=Uf.mpr hl;rw[List.getLast?_eq_getElem?]at h
 show(ixN xs.length (-1)).bind _=_
 unfold ixN;rw[Qs (by decide),Qk (by omega)];have e2:(-1+(xs.length:Int)).toNat=xs.length-1:=by omega
 simp only[Option.bind_some];rw[e2];exact h
theorem MM{xs:List Int}{k:Nat}(h:k<xs.length):oIx (.list (xs.map int)) (.int k)=some (.int (xs.getD k 0)):=by refine Zr ?_;rw[Qe,Qd h];simp[List.getD,List.getElem?_eq_getElem h]
theorem Nl(ns:List Int)(k:Nat)(hl:ns.length<=1000):∃v,Y8 [.list (ns.map int),.int k]=some (.int v):=by
 have hlen:Kg [.list (ns.map int)]=some (.int ns.length):=by rw[Zw,Qb]
 by_cases h:k<ns.length
 ·refine⟨ns.getD k 0,Zd (Z:=[pb (.list (ns.map int)),pb (.int k)]) rfl ?_⟩;unfold WB;apply KI;apply KF
  case h1=>exact Z6 rfl (Z7 rfl hlen) rfl
  case h2=>exact λ_=>KH (K8 rfl (UR rfl) (MM h)) (VP rfl)
  case h3=>
        intro hh;have:¬(k:Int)<(ns.length:Int):=by simpa using hh
        omega
 ·refine⟨0,Zd (Z:=[pb (.list (ns.map int)),pb (.int k)]) rfl ?_⟩;unfold WB;apply KI;apply KF
  case h1=>exact Z6 rfl (Z7 rfl hlen) rfl
  case h2=>
        intro hh;have:(k:Int)<(ns.length:Int):=by simpa using hh
        omega
  case h3=>exact λ_=>K2 (KJ (KH UZ rfl))
def sz6:List Int:=6::7::UA 6 11
def szP:List Int:=UA 6 6++[2]
theorem Eb:∀x∈sz6,0<x/\x<18446744073709551616:=by decide
theorem Ea:∀x∈szP,0<x/\x<18446744073709551616:=by decide
def tab:List Int:=[1,1,2,0,3,7,1,4,5,6,1]
theorem NF{z:Int}(h0:0<=z)(h1:z<11):oIx (.list (tab.map int)) (.int z)=some (.int (tab.getD z.toNat 0))/\0<=tab.getD z.toNat 0/\tab.getD z.toNat 0<8:=by
 have e:z=0∨z=1∨z=2∨z=3∨z=4∨z=5∨z=6∨z=7∨z=8∨z=9∨z=10:=by omega
 rcases e with rfl|rfl|rfl|rfl|rfl|rfl|rfl|rfl|rfl|rfl|rfl<;>exact⟨rfl,by decide,by decide⟩
structure Wn(n:Nat)(pl:List Int)(j:Nat)(rs:List (List Int)):Prop where
 few:rs.length<=j
 some:∀r∈rs,r≠[]
 there:∀r∈rs,∀t∈r,(0<=t/\t<n)/\pl.getD t.toNat 0<1+(j:Int)
 once:rs.flatten.Nodup
def Vi(n:Nat)(pl:List Int)(r:Int):List Int:=((Uz n).filter λk=>decide (pl.getD k 0=r)).map λk:Nat=>(k:Int)
theorem jZ(n:Nat)(pl:List Int)(r:Int):(Vi n pl r).Nodup:=by unfold Vi;refine List.Pairwise.map _ (λa b h e=>h (by omega)) ((List.nodup_range).filter _)
theorem Hm{n:Nat}{pl:List Int}{r t:Int}(h:t∈Vi n pl r):(0<=t/\t<n)/\pl.getD t.toNat 0=r:=by
 unfold Vi at h;obtain⟨k,hk,rfl⟩:=Qu.mp h;have hk:=Ul.mp hk;have h1:=Q8.mp hk.1;have h2:pl.getD k 0=r:=by simpa using hk.2
 exact⟨⟨by omega,by omega⟩,by rw[Qz];exact h2⟩
theorem Wn.add{n:Nat}{pl:List Int}{j:Nat}{rs:List (List Int)}{row:List Int}(g:Wn n pl j rs)(hne:row≠[])(hm:∀t∈row,t∈Vi n pl (1+(j:Int)))(hn:row.Nodup):Wn n pl (j+1) (rs++[row]) where
 few:=by rw[Qj,Q9];have:=g.few;omega
 some:=λr hr=>by
  rcases Q0.mp hr with z|z
  ·exact g.some r z
  ·rw[Q4.mp z];exact hne
 there:=λr hr t ht=>by
  rcases Q0.mp hr with z|z
  ·have:=g.there r z t ht;exact⟨this.1,by omega⟩
  ·rw[Q4.mp z]at ht;have:=Hm (hm t ht);exact⟨this.1,by omega⟩
 once:=by rw[List.flatten_append,List.flatten_singleton];refine List.nodup_append.mpr ⟨g.once,hn,λa ha b hb e=>?_⟩;subst e;obtain⟨r,hr,har⟩:=Ud.mp ha;have h1:=(g.there r hr a har).2;have h2:=(Hm (hm a hb)).2;omega
theorem Wn.next{n:Nat}{pl:List Int}{j:Nat}{rs:List (List Int)}(g:Wn n pl j rs):Wn n pl (j+1) rs:=
 ⟨by have:=g.few;omega,g.some,λr hr t ht=>⟨(g.there r hr t ht).1,by have:=(g.there r hr t ht).2;omega⟩,g.once⟩
theorem Wn.good{n:Nat}{pl:List Int}{rs:List (List Int)}(g:Wn n pl 5 rs):Vu n rs:=⟨g.few,g.some,λr hr t ht=>(g.there r hr t ht).1,g.once⟩
def V2(S dz sz:D)(at_ n:Nat)(cs pl:List Int)(ls:L3)(x9 x10:Option Sl)(j:Nat)(Z:UP):Prop:=∃(rs:List (List Int))(x13 x14:Option Sl),
 Z=[pb S,pb (.int at_),pb (.int 6),pb (.int 7),pb (.int 5),pb sz,pb dz,some (.own (cs.map int)),some (.own (ls.map KQ)),x9,x10,pb (.list (pl.map int)),some (.own (rs.map Zk)),x13,x14]/\Wn n pl j rs
theorem A0{S dz sz:D}{at_ n:Nat}{cs pl:List Int}{ls:L3}{v9 v10:D}{j:Nat}{d:D}{Z:UP}{Q:Out->Prop}(hcs:cs.length=n)(hn:n<=6)(hpl:pl.length=7)(hlast:pl.getD 6 0=0∨pl.getD 6 0=1)
  (hj:(Yk 1 (5+1))[j]?=some d) (h:V2 S dz sz at_ n cs pl ls (some (.pub v9)) (some (.pub v10)) j Z) :
  ∃Z2,gN 13 d Z=some Z2/\Ho Os Z2 (Sa (V2 S dz sz at_ n cs pl ls (some (.pub v9)) (some (.pub v10)) (j+1)) Q):=by
 obtain⟨rs,x13,x14,rfl,g⟩:=h;obtain⟨rfl,hlt⟩:=SI hj;have hj5:j<5:=by omega
 refine⟨_,UX (Qa rfl) rfl,?_⟩;unfold Os
 have hrd:Yk 0 ((n:Nat):Int)=(Uz n).map λk=>.int (k:Int):=by
  unfold Yk;have:((n:Int)-0).toNat=n:=by omega
  rw[this];apply JB;intro k _;rw[Uk]
 have hc:Ze (gN 15) (UV oEq (U9 11 (UO 15)) (UO 13)) (UO 15) (Yk 0 ((n:Nat):Int)) (Kq [pb S,pb (.int at_),pb (.int 6),pb (.int 7),pb (.int 5),pb sz,pb dz,some (.own (cs.map int)),some (.own (ls.map KQ)),pb v9,pb v10,pb (.list (pl.map int)),some (.own (rs.map Zk)),pb (.int (1+(j:Int))),x14]++UA 1 none) []=some ((Vi n pl (1+(j:Int))).map int):=by
  rw[hrd,Rn (λd=>match d with | .int k=>decide (pl.getD k.toNat 0=1+(j:Int))|_=>false) (λd=>d) (λZ=>∃x,Z=[pb S,pb (.int at_),pb (.int 6),pb (.int 7),pb (.int 5),pb sz,pb dz,none,none,pb v9,pb v10,pb (.list (pl.map int)),none,pb (.int (1+(j:Int))),XR x14,x])]
  ·rw[JJ,List.map_id',List.filter_map];unfold Vi;rw[Ja];rfl
  ·rintro d hm Z ⟨x,rfl⟩;obtain⟨k,hk,rfl⟩:=Qu.mp hm;have hk:=Q8.mp hk;refine⟨_,UX (Qa rfl) rfl,U7 (K8 rfl (UR rfl) (MM (by omega))) (UR rfl) Wi,λ_=>UR rfl,pb (.int k),?_⟩;unfold Kq;cases x14 with
   |none=>rfl
   |some sl=>cases sl<;>rfl
  ·exact⟨none,rfl⟩
  ·rw[Qb,Qr,QN];omega
 have hlen:(cs.map int).length=n:=by rw[Qb,hcs]
 refine Km (Yn (YC (VU (UT (D8 rfl) UY) (by rw[hlen];exact VQ (by omega) (by omega))) hc) (Qa rfl) rfl) ?_;generalize hrow:Vi n pl (1+(j:Int))=row;apply KF
 case h1=>exact C6 rfl (Zu UY (by decide)) rfl A1
 case h2=>
  intro hh;have hne:row≠[]:=by simpa using hh
  have hlx:oIx (.list (pl.map int)) (.int (-1))=some (.int (pl.getD 6 0)):=DQ (by rw[List.getLast?_eq_getElem?,Qb,hpl,Qe,Qd (show 7-1<pl.length by omega)];simp[List.getD,List.getElem?_eq_getElem (show 6<pl.length by omega)])
  obtain⟨row',hix,hrow'⟩:∃row':List Int,oIx (.list [.list (row.map int),.list (row.map int).reverse]) (.int (pl.getD 6 0))=some (Zk row')/\(row'=row∨row'=row.reverse):=by
   rcases hlast with e|e
   ·rw[e];exact⟨row,rfl,.inl rfl⟩
   ·rw[e];exact⟨row.reverse,by show some (UB (row.map int).reverse)=_;unfold Zk;rw[List.map_reverse],.inr rfl⟩
  have hrl:(rs.map Zk).length<1000000:=by rw[Qb];have:=g.few;omega
  refine ZM (Wo rfl (U7 (Zu (UT (Yo rfl rfl) (UT (NI (UR rfl) UZ UZ (YX (VG UZ))) UY)) (Qa rfl)) (K8 rfl (VG UZ) hlx) hix) rfl hrl rfl) ?_;refine Zg ⟨rs++[row'],pb (.int (1+(j:Int))),pb (.list (row.map int)),by rw[QB];rfl,g.add ?_ ?_ ?_⟩
  ·rcases hrow' with e|e<;>rw[e]
   ·exact hne
   ·exact λz=>hne (List.reverse_eq_nil_iff.mp z)
  ·intro t ht;rw[hrow];rcases hrow' with e|e<;>rw[e]at ht
   ·exact ht
   ·exact List.mem_reverse.mp ht
  ·have hnd:=jZ n pl (1+(j:Int));rw[hrow]at hnd;rcases hrow' with e|e<;>rw[e]
   ·exact hnd
   ·exact(List.reverse_perm row).nodup_iff.mpr hnd
 case h3=>exact λ_=>K2 (Zg ⟨rs,_,_,rfl,g.next⟩)
def V3(S dz sz:D)(at_ n:Nat)(cs:List Int)(i:Nat)(Z:UP):Prop:=∃(ls:L3)(x9 x10 x11 x12 x13 x14:Option Sl),
 Z=[pb S,pb (.int at_),pb (.int 6),pb (.int 7),pb (.int 5),pb sz,pb dz,some (.own (cs.map int)),some (.own (ls.map KQ)),x9,x10,x11,x12,x13,x14]/\ls.length=i/\∀rs∈ls,Vu n rs
theorem js{ns:List Int}{dz sz:D}{at_ n:Nat}{cs:List Int}{i:Nat}{m:Int}{d:D}{Z:UP}{Q:Out->Prop}(hns:ns.length<=1000)(hcs:cs.length=n)(hn:n<=6)(hm:m<=100)
  (hi:(Yk 0 m)[i]?=some d) (h:V3 (.list (ns.map int)) dz sz at_ n cs i Z) :
  ∃Z2,gN 9 d Z=some Z2/\Ho Oq Z2 (Sa (V3 (.list (ns.map int)) dz sz at_ n cs (i+1)) Q):=by
 obtain⟨ls,x9,x10,x11,x12,x13,x14,rfl,hl,hg⟩:=h;obtain⟨rfl,hlt⟩:=SI hi;refine⟨_,UX (Qa rfl) rfl,?_⟩;unfold Oq;obtain⟨v,hv⟩:=Nl ns (at_+1+i) hns;have ev:((at_:Int)+1+(0+(i:Int)))=((at_+1+i:Nat):Int):=by omega
 rw[←ev]at hv;refine Km (KO (Kn (UT (UR rfl) (UT (U7 (U7 (UR rfl) UZ Zh) (UR rfl) Zh) UY)) rfl hv) (Qa rfl) rfl) ?_;obtain⟨r,hF,pl,rfl,hpl,hpb⟩:=Nj v (11*(at_:Int)+3*(0+(i:Int))+1) (sizes:=szP) Ea (by decide);have hpl7:pl.length=7:=hpl;have hmul:Ku (.list [.int (5+1)]) (.int 6)=some (.list ((UA 6 6).map int)):=Rp (by decide);have hadd:U4 (.list ((UA 6 6).map int)) (.list [.int 2])=some (.list (szP.map int)):=XI (by decide);refine Km (KO (Kn (UT (UR rfl) (UT (U7 (U7 (U7 UZ (UR rfl) (Rw (by decide) (by decide))) (U7 UZ (UR rfl) (Rw (by decide) (by decide))) Zh) UZ Zh) (UT (U7 (U7 (Zu (UT (U7 (UR rfl) UZ Zh) UY) (Qa rfl)) (UR rfl) hmul) (Zu (UT UZ UY) (Qa rfl)) hadd) UY))) rfl hF) (Qa rfl) rfl) ?_;refine Km (Yn (VR UY (Qa rfl)) (Qa rfl) rfl) ?_
 have hlast:pl.getD 6 0=0∨pl.getD 6 0=1:=by
  have e:pl[6]?=some pl[6]:=Qd (by omega);have:=hpb 6 pl[6] 2 e rfl;have e2:pl.getD 6 0=pl[6]:=by simp[List.getD,e]
  rw[e2];omega
 apply KI;apply ZO (V2 (.list (ns.map int)) dz sz at_ n cs pl ls (some (.pub (.int (0+(i:Int))))) (some (.pub (.int v))))
 case h1=>exact D7 (UT UZ (UT (U7 (UR rfl) UZ Zh) UY)) (C7 (by decide) (by decide) (by decide) (by decide))
 case h0=>exact⟨[],x13,x14,rfl,⟨Qx _,λ_ h=>(by cases h),λ_ h=>(by cases h),List.nodup_nil⟩⟩
 case hst=>exact λj d Z e h=>A0 hcs hn hpl7 hlast e h
 case hend=>
  rintro Z ⟨rs,y13,y14,rfl,g⟩;refine KJ ?_;have hl5:(Yk 1 (5+1)).length=5:=rfl;rw[hl5]at g;have hll:(ls.map KQ).length<1000000:=by rw[Qb];omega
  refine ZM (Wo rfl (Yo rfl rfl) rfl hll rfl) ?_;refine Zg ⟨ls++[rs],pb (.int (0+(i:Int))),pb (.int v),pb (.list (pl.map int)),pb (.list (rs.map Zk)),y13,y14,by rw[QB];rfl,by rw[Qj,hl];rfl,λx hx=>?_⟩;rcases Q0.mp hx with z|z
  ·exact hg x z
  ·rw[Q4.mp z];exact g.good
theorem jY{ns:List Int}(hns:ns.length<=1000)(at_:Nat):∃r,WL [.list (ns.map int),.int at_,.int 6,.int 7,.int 5]=some r/\∃cs ls,r=Kf cs ls/\Good cs ls:=by
 obtain⟨v,hv⟩:=Nl ns at_ hns;obtain⟨r,hF,ds,rfl,hl,hd⟩:=Nj v at_ (sizes:=sz6) Eb (by decide);have hl8:ds.length=8:=hl
 have at':∀(j:Nat)(k z:Int),k=j->sz6[j]?=some z->∃d,oIx (.list (ds.map int)) (.int k)=some (.int d)/\ds[j]?=some d/\0<=d/\d<z:=λj k z hk hz=>by
  subst hk;have hj:j<ds.length:=by rw[hl];exact(Qg.mp hz).1
  have e:ds[j]?=some ds[j]:=Qd hj;obtain⟨p0,p1⟩:=hd j ds[j] z e hz;exact⟨ds[j],Zr (by rw[Qe,e];rfl),e,p0,p1⟩
 obtain⟨d0,x0,e0,p0,q0⟩:=at' 0 0 6 rfl rfl;obtain⟨d1,x1,e1,p1,q1⟩:=at' 1 1 7 rfl rfl;have hmul:Ku (.list [.int 11]) (.int 6)=some (.list ((UA 6 11).map int)):=Rp (by decide);have hadd:U4 (.list [.int 6,.int 7]) (.list ((UA 6 11).map int))=some (.list (sz6.map int)):=XI (by decide);obtain⟨n,hn⟩:∃n:Nat,1+d0=n:=⟨(1+d0).toNat,by omega⟩
 refine Vl (Z:=[pb (.list (ns.map int)),pb (.int at_),pb (.int 6),pb (.int 7),pb (.int 5),none,none,none,none,none,none,none,none,none,none]) rfl ?_;unfold Tf;refine Km (KO (U7 (Zu (UT (UR rfl) (UT (UR rfl) UY)) (Qa rfl)) (U7 (Zu (UT UZ UY) (Qa rfl)) (UR rfl) hmul) hadd) (Qa rfl) rfl) ?_;refine Km (KO (Kn (UT (Kn (UT (UR rfl) (UT (UR rfl) UY)) rfl hv) (UT (UR rfl) (UT (UR rfl) UY))) rfl hF) (Qa rfl) rfl) ?_
 have hcut:DL.cutD (ds.map int) (some 2) (some (3+d0))=((ds.drop 2).take n).map int:=by
  rw[Rj (by decide) (by omega) (by omega)];have:(3+d0).toNat-(2:Int).toNat=n:=by omega
  rw[this];rfl
 have hrowl:((ds.drop 2).take n).length=n:=by rw[QW,Jk,hl8];omega
 have each:∀z∈(ds.drop 2).take n,0<=z/\z<11:=λz hz=>by
  have hz:=List.mem_of_mem_take hz;obtain⟨k,hk,e⟩:=List.getElem_of_mem hz;rw[Jk,hl8]at hk;rw[List.getElem_drop]at e;have e2:ds[2+k]?=some z:=by rw[←e];exact Qd _
  refine hd (2+k) z 11 e2 ?_;have:k=0∨k=1∨k=2∨k=3∨k=4∨k=5:=by omega
  rcases this with rfl|rfl|rfl|rfl|rfl|rfl<;>rfl
 let cs:List Int:=((ds.drop 2).take n).map λz=>tab.getD z.toNat 0
 have hcl:cs.length=n:=by show(List.map _ _).length=n;rw[Qb,hrowl]
 have hc:∀xs:List (Option Sl),Kq xs=xs->xs.length=15->Ze (gN 15) (UU true) (UV oIx (Kr (US (UU (.int 1)) (US (UU (.int 1)) (US (UU (.int 2)) (US (UU (.int 0)) (US (UU (.int 3)) (US (UU (.int 7)) (US (UU (.int 1)) (US (UU (.int 4)) (US (UU (.int 5)) (US (UU (.int 6)) (US (UU (.int 1)) (UQ))))))))))))) (UO 15)) (((ds.drop 2).take n).map int) (Kq xs++UA 1 none) []=some (cs.map int):=by
  intro xs hx hxl;rw[hx,Rn (λ_=>true) (λd=>match d with | .int z=>.int (tab.getD z.toNat 0)|_=>.none) (λZ=>∃x,Z=xs++[x])]
  ·rw[List.filter_eq_self.mpr (λ_ _=>rfl),JJ,Ja];show _=some ((((ds.drop 2).take n).map λz=>tab.getD z.toNat 0).map int);rw[Ja];rfl
  ·rintro d hm Z ⟨x,rfl⟩;obtain⟨z,hz,rfl⟩:=Qu.mp hm;have ht:=NF (each z hz).1 (each z hz).2;have hset:(xs++[x]).set 15 (some (Sl.pub (.int z)))=xs++[pb (.int z)]:=by rw[List.set_append_right _ _ (by omega),hxl];rfl
   have hget:(xs++[some (Sl.pub (.int z))])[15]?=some (some (Sl.pub (.int z))):=by rw[Qw (by omega),hxl];rfl
   refine⟨_,UX (by rw[Qj,hxl];exact Qa rfl) hset,rfl,λ_=>?_,pb (.int z),?_⟩
   ·exact U7 (Zu (UT UZ (UT UZ (UT UZ (UT UZ (UT UZ (UT UZ (UT UZ (UT UZ (UT UZ (UT UZ (UT UZ UY))))))))))) (Qa rfl)) (UR hget) ht.1
   ·unfold Kq at hx⊢;rw[QB,hx];rfl
  ·exact⟨none,rfl⟩
  ·rw[Qb,hrowl,QN];omega
 refine Km (Yn (YC (ZH (Vk (UR rfl) (YX UZ) (YX (U7 UZ (K8 rfl UZ x0) Zh)) (by rw[Vs,hcut])) Yw) (hc _ rfl rfl)) (Qa rfl) rfl) ?_;refine Km (Yn (VR UY (Qa rfl)) (Qa rfl) rfl) ?_;apply KI;apply ZO (V3 (.list (ns.map int)) (.list (ds.map int)) (.list (sz6.map int)) at_ n cs)
 case h1=>exact VU (UT (U7 UZ (K8 rfl UZ x1) Zh) UY) (VQ (by omega) (by omega))
 case h0=>exact⟨[],_,_,_,_,_,_,rfl,rfl,λ_ h=>by cases h⟩
 case hst=>exact λi d Z e h=>js hns hcl (by omega) (by omega) e h
 case hend=>rintro Z ⟨ls,y9,y10,y11,y12,y13,y14,rfl,hll,hg⟩;rw[Wv]at hll;refine KJ (KH (YA (UT (Yo rfl rfl) (UT (Yo rfl rfl) UY)) (Qa rfl)) ⟨_,rfl,cs,ls,rfl,?_⟩);exact⟨by omega,by omega,λc hc=>by obtain⟨z,hz,rfl⟩:=Qu.mp hc;exact(NF (each z hz).1 (each z hz).2).2,by omega,by omega,λrs hrs=>by rw[hcl];exact hg rs hrs⟩
theorem ML{x:D}{m:Nat}(h:m<=1000):Ku (.list [x]) (.int m)=some (.list (UA m x)):=by
 rw[Rp ⟨by omega,by omega,by rw[Qz];show 1*m<=_;omega⟩,Qz]
 congr 2
 induction m with
 |zero=>rfl
 |succ m ih=>rw[QQ,QL,ih (by omega)];rfl
def KM(t:Int)(rs:List (List Int)):Nat:=if rs.findIdx (λr=>r.contains t)<rs.length then rs.findIdx (λr=>r.contains t)+1 else 0
theorem DP(a b:Int):UH (.int a) (.int b)=(a==b):=by simp[UH]
theorem Op(t:Int)(r:List Int):oIn (.int t) (Zk r)=some (r.contains t):=by
 have h1:UF (r.map int)=true:=by
  induction r with
  |nil=>rfl
  |cons x r ih=>rw[Qq];unfold UF;rw[ih];rfl
 unfold oIn Zk;dsimp only;rw[Qk ⟨rfl,h1,Jw _⟩]
 congr 1
 rw[List.any_map];clear h1;induction r with
 |nil=>rfl
 |cons x r ih=>
  rw[Ug,ih,List.contains_cons]
  congr 1
  show UH (.int x) (.int t)=(t==x);rw[DP];exact JD.2 ⟨λh=>beq_iff_eq.2 (beq_iff_eq.1 h).symm,λh=>beq_iff_eq.2 (beq_iff_eq.1 h).symm⟩
theorem Hl{t:Int}{rs:List (List Int)}{i:Nat}{r:List Int}(hr:rs[i]?=some r)(h:r.contains t=true)(hb:∀j r,j<i->rs[j]?=some r->r.contains t=false):KM t rs=1+i:=by obtain⟨hi,e⟩:=List.getElem?_eq_some_iff.1 hr;have hf:rs.findIdx (λr=>r.contains t)=i:=(List.findIdx_eq hi).2 ⟨by rw[e];exact h,λj hj=>hb j _ hj (Qd (Nat.lt_trans hj hi))⟩;unfold KM;rw[hf,Qk hi,Nat.add_comm]
theorem Hk{t:Int}{rs:List (List Int)}(hb:∀j r,j<rs.length->rs[j]?=some r->r.contains t=false):KM t rs=0:=by
 have hf:rs.findIdx (λr=>r.contains t)=rs.length:=List.findIdx_eq_length.2 λr hr=>by obtain⟨j,hj,e⟩:=List.mem_iff_getElem.1 hr;exact hb j r hj (by rw[Qd hj,e])
 unfold KM;rw[hf,Qs (Jt _)]
theorem jr(t:Int)(rs:List (List Int)):W8 [KQ rs,.int t]=some (.int (KM t rs:Nat)):=by
 refine Zd (Z:=[pb (KQ rs),pb (.int t),none,none]) rfl ?_;unfold TR;apply KI;apply ZO (λi Z=>(∃x2 x3,Z=[pb (KQ rs),pb (.int t),x2,x3])/\∀j r,j<i->rs[j]?=some r->r.contains t=false)
 case h1=>exact C5 (UT (UR rfl) UY) AS
 case h0=>exact⟨⟨_,_,rfl⟩,λj r h=>absurd h (J8 _)⟩
 case hst=>
  rintro i d Z hi ⟨⟨x2,x3,rfl⟩,hb⟩;obtain⟨x,hx,rfl⟩:=Xd hi;rw[Qe]at hx;cases hr:rs[i]? with
  |none=>rw[hr]at hx;cases hx
  |some r=>
   rw[hr]at hx;cases hx;refine⟨_,KB rfl (U5 (UX (Qa rfl) rfl) (U5 (UX (Qa rfl) rfl) KD)),?_⟩;unfold Mt;apply KF
   case h1=>exact Z6 rfl (UR rfl) (Op t r)
   case h2=>intro hh;refine KH (UR rfl) (Rk ?_);rw[Hl hr hh hb];exact⟨rfl⟩
   case h3=>
    intro hh;refine K2 (Zg ⟨⟨_,_,rfl⟩,λj r' hj hr'=>?_⟩);rcases Nat.lt_succ_iff_lt_or_eq.1 hj with h|rfl
    ·exact hb j r' h hr'
    ·rw[hr]at hr';cases hr';exact hh
 case hend=>rintro Z ⟨⟨x2,x3,rfl⟩,hb⟩;rw[YB,Qb]at hb;refine KJ ?_;rw[Hk hb];exact KH UZ rfl
def Kd:Option Int->D
 |none=>.none
 |some t=>.int t
def Ki(ws:LO):D:=.list (ws.map Kd)
structure Deal(cs:List Int)(ls:L3)(ws:LO):Prop where
 len:ws.length=ls.length
 wish:∀(i:Nat) t rs,ws[i]?=some (some t)->ls[i]?=some rs->t∈rs.flatten
 cop:∀(k:Nat) c,cs[k]?=some c->((ws.count (some (k:Int)):Nat):Int)<=c
theorem Ro{t:Int}{rs:List (List Int)}(h:t∈rs.flatten):KM t rs≠0:=by obtain⟨r,hr,ht⟩:=Ud.mp h;have:rs.findIdx (λr=>r.contains t)<rs.length:=List.findIdx_lt_length_of_exists ⟨r,hr,by simpa using ht⟩;unfold KM;rw[Qk this];omega
theorem Ps(ws:LO):UF (ws.map Kd)=true:=Rv λx hx=>by obtain⟨y,_,rfl⟩:=Qu.mp hx;cases y<;>rfl
theorem Oo(a b:Option Int):UH (Kd a) (Kd b)=decide (a=b):=by rw[JD];cases a<;>cases b<;>simp[Kd,UH]
theorem Ga{ws:LO}{k:Int}:Vp (Ki ws) (.int k)=some (.int (ws.count (some k):Nat)):=by
 unfold Ki Vp;dsimp only;rw[if_pos ⟨rfl,Ps ws,by simp[UG]⟩]
 congr 3
 induction ws with
 |nil=>rfl
 |cons w r ih=>
  rw[Qq,List.countP_cons,JE,ih]
  congr 1
  have:=Oo w (some k);have e:Kd (some k)=.int k:=rfl;rw[e]at this;rw[this];cases w with
  |none=>simp
  |some z=>simp
theorem AZ{cs:List Int}{ls:L3}{rs:List (List Int)}{i:Nat}(hi:ls[i]?=some rs)(hl:rs.flatten.length<64):WK [Kf cs ls,.int i]=some (.list ((YQ rs.flatten).map int)):=by
 refine Zd (Z:=[pb (Kf cs ls),pb (.int i)]) rfl ?_;unfold Tc;have i1:oIx (Kf cs ls) (.int 1)=some (.list (ls.map KQ)):=Zr (j:=1) rfl;have i2:oIx (.list (ls.map KQ)) (.int i)=some (KQ rs):=Zr (by rw[Qe,hi];rfl)
 have hs:Sb [KQ rs,.list []]=some (.list (rs.flatten.map int)):=by
  have e:KQ rs=.list ((rs.map λr=>r.map int).map UB):=by unfold KQ;rw[Ja];rfl
  have e2:(rs.map λr=>r.map int).flatten=rs.flatten.map int:=by rw[List.map_flatten]
  rw[e];unfold Sb;dsimp only;rw[qO];dsimp only;rw[e2,Qk (by rw[Qb];omega)]
 exact KH (ZN (UT (ZN (UT (U7 (K8 rfl UZ i1) (UR rfl) i2) (UT (Zu UY (Qa rfl)) UY)) hs) UY) (Ge hl)) rfl
theorem NE{os:LO}{k:Nat}(h:k<os.length):oIx (.list (os.map Kd)) (.int k)=some (Kd os[k]):=Zr (by rw[Qe,Qd h];rfl)
theorem Bx(ws:LO):(Ki ws).depth<=2:=Pb (Ru λx hx=>by obtain⟨y,_,rfl⟩:=Qu.mp hx;cases y<;>simp[Kd,UG])
theorem XM{s:D->UP->Option UP}{t:M Bool}{g:M D}(I:UP->Prop):∀(ds qs:List D)(Z:UP)(es:List D),qs.length=ds.length ->
  (∀(i:Nat) d e,ds[i]?=some d->qs[i]?=some e->∀Z,I Z->∃Z1,s d Z=some Z1/\t Z1=.ok true Z1/\g Z1=.ok e Z1/\I (Kq Z1))->I Z->es.length+ds.length<=1000000->Ze s t g ds Z es=some (es++qs)
 |[],[],Z,es,_,_,_,_=>by rw[Ze,Jj]
 |d::r,e::q,Z,es,hl,st,h0,hz=>by obtain⟨Z1,e1,e2,e3,h1⟩:=st 0 d e rfl rfl Z h0;rw[Qv]at hz;rw[Ze,e1];dsimp only;rw[e2];dsimp only;rw[Qk rfl,e3];dsimp only;rw[if_pos (by omega),XM I r q (Kq Z1) (es++[e]) (by simpa using hl) (λi d' e' x y=>st (i+1) d' e' (by simpa using x) (by simpa using y)) h1 (by rw[List.length_append,List.length_singleton];omega),List.append_assoc];rfl
def rg(rs:List (List Int)):Option Int->Int
 |none=>0
 |some t=>(KM t rs:Nat)
def U1(ls:L3)(ws:LO):List Int:=List.zipWith rg ls ws
def lng(ls:L3):Nat:=(most (ls.map λrs=>(rs.length:Int))).toNat
def Kh(L:Nat)(got:List Int):List Int:=(Uz L).map (λr:Nat=>((got.count (1+(r:Int)):Nat):Int))++[((got.count 0:Nat):Int)]
def Xa(cs:List Int)(ws:LO):List Int:=(Uz cs.length).map λk:Nat=>cs.getD k 0-((ws.count (some (k:Int)):Nat):Int)
theorem On{ls:L3}(h:1<=ls.length):most (ls.map λrs=>(rs.length:Int))=(lng ls:Nat):=by
 have hm:most (ls.map λrs=>(rs.length:Int))∈ls.map λrs=>(rs.length:Int):=Pt (by rw[Qb];omega)
 obtain⟨rs,_,e⟩:=Qu.mp hm;unfold lng;omega
theorem PX{ls:L3}{rs:List (List Int)}(h:rs∈ls):rs.length<=lng ls:=by have h1:((rs.length:Nat):Int)<=most (ls.map λrs=>(rs.length:Int)):=P8 (Qu.mpr ⟨rs,h,rfl⟩);have h2:=On (ls:=ls) (List.length_pos_of_mem h);omega
theorem RY{ls:L3}{n:Nat}(h1:1<=ls.length)(h:∀rs∈ls,rs.length<=n):lng ls<=n:=by
 have hm:most (ls.map λrs=>(rs.length:Int))∈ls.map λrs=>(rs.length:Int):=Pt (by rw[Qb];omega)
 obtain⟨rs,hr,e⟩:=Qu.mp hm;have:=h rs hr;unfold lng;omega
theorem Ph(t:Int)(rs:List (List Int)):KM t rs<=rs.length:=by
 unfold KM
 split<;>omega
section
variable{cs:List Int}{ls:L3}{ws:LO}
theorem VC:oIx (Kf cs ls) (.int 0)=some (.list (cs.map int)):=Zr (j:=0) rfl
theorem Wd:oIx (Kf cs ls) (.int 1)=some (.list (ls.map KQ)):=Zr (j:=1) rfl
theorem Nr{i:Nat}{rs:List (List Int)}(h:ls[i]?=some rs):oIx (.list (ls.map KQ)) (.int i)=some (KQ rs):=Zr (by rw[Qe,h];rfl)
theorem Hj(rs:List (List Int)):Kg [KQ rs]=some (.int rs.length):=by unfold KQ;rw[Zw,Qb]
theorem jq(g:Good cs ls):W7 [Kf cs ls]=some (.int (lng ls:Nat)):=by
 refine Zd (Z:=[pb (Kf cs ls)]) rfl ?_;unfold TQ;have hw:=Pi g
 have hc:Ze (gN 1) (UU true) (Zq 1) (ls.map KQ) (Kq [pb (Kf cs ls)]++UA 1 none) []=some ((ls.map λrs=>(rs.length:Int)).map int):=by
  refine XM (λZ=>∃x,Z=[pb (Kf cs ls),x]) _ _ _ _ (by rw[Qb,Qb,Qb]) ?_ ⟨none,rfl⟩ (by rw[Qb,QN];have:=g.l7;omega);rintro i d e hd he Z ⟨x,rfl⟩;rw[Qe]at hd;rw[Qe,Qe]at he;cases hl:ls[i]? with
  |none=>rw[hl]at hd;cases hd
  |some rs=>
  rw[hl]at hd he;cases hd;cases he;exact⟨_,UX (Qa rfl) rfl,rfl,Z7 rfl (Hj rs),_,rfl⟩
 refine Km (Vo (Kn (UT (UR rfl) UY) rfl hw)) ?_;refine KH (ZN (UT (KS (YC (ZH (K8 rfl UZ Wd) Yw) hc)) UY) (Li (by rw[Qb];have:=g.l1;omega))) ?_;rw[On g.l1]
theorem LJ{i:Nat}{rs:List (List Int)}{o:Option Int}(h1:ls[i]?=some rs)(h2:ws[i]?=some o):(U1 ls ws)[i]?=some (rg rs o):=by unfold U1;rw[List.getElem?_zipWith,h1,h2]
theorem kI(g:Good cs ls):W5 [Kf cs ls,Ki ws]=some (.list ((Xa cs ws).map int)):=by
 refine Zd (Z:=[pb (Kf cs ls),pb (Ki ws)]) rfl ?_;unfold TM;have hw:=Pi g
 have hc:Ze (gT 2 (gNC (gN 2) (gNC (gN 3) (gN0)))) (UU true) (UV K3 (UO 3) (Ss (UO 1) (US (UO 2) (UQ)))) (Yj 0 (cs.map int)) (Kq [pb (Kf cs ls),pb (Ki ws)]++UA 2 none) []=some ((Xa cs ws).map int):=by
  refine XM (λZ=>∃x y,Z=[pb (Kf cs ls),pb (Ki ws),x,y]) _ _ _ _ (by unfold Xa;rw[Qb,Qb,Qr,YB,Qb]) ?_ ⟨none,none,rfl⟩ (by rw[YB,Qb,QN];have:=g.c6;omega);rintro i d e hd he Z ⟨x,y,rfl⟩;obtain⟨z,hz,rfl⟩:=Xd hd;rw[Qe]at hz;cases hci:cs[i]? with
  |none=>rw[hci]at hz;cases hz
  |some c=>
  rw[hci]at hz;cases hz;have hil:i<cs.length:=(Qg.mp hci).1;unfold Xa at he;rw[Qe,Qe,Qd (by rw[Qr];exact hil),J0]at he;cases he;rw[Q3];have e:cs.getD i 0=c:=by simp[List.getD,hci]
  dsimp only;rw[e];exact⟨_,KB rfl (U5 (UX (Qa rfl) rfl) (U5 (UX (Qa rfl) rfl) KD)),rfl,U7 (UR rfl) (Lh (UR rfl) (UT (UR rfl) UY) Ga) YT,_,_,rfl⟩
 refine Km (Vo (Kn (UT (UR rfl) UY) rfl hw)) ?_;exact KH (KS (YC (XN (UT (K8 rfl UZ VC) UY) XH) hc)) rfl
end
def plc(L:Nat)(r:Int):Nat:=if r=0 then L else(r-1).toNat
def okR(L:Nat)(got:List Int):Prop:=∀r∈got,0<=r/\r<=L
theorem Bw{L:Nat}{got:List Int}(h:okR L got){p:Nat}(hp:p<L+1):(Kh L got)[p]?=some (((got.map (plc L)).count p:Nat):Int):=by
 unfold Kh
 have key:∀r∈got,(plc L r=p ↔ r=if p=L then 0 else 1+(p:Int)):=λr hr=>by
  have:=h r hr;unfold plc
  split<;>split<;>omega
 have cnt:(got.map (plc L)).count p=got.count (if p=L then 0 else 1+(p:Int)):=by rw[List.count,List.countP_map,List.count];apply List.countP_congr;intro r hr;have:=key r hr;simp only[Function.comp,beq_iff_eq];exact this
 by_cases hpl:p=L
 ·subst hpl;rw[Qw (by rw[Qb,Qr];exact Qx _),Qb,Qr,Nat.sub_self,cnt,Qk rfl];rfl
 ·rw[Qy (by rw[Qb,Qr];omega),Qe,Qd (by rw[Qr];omega),J0,cnt,Qs hpl];rfl
theorem Xk(L:Nat)(got:List Int):(Kh L got).length=L+1:=by unfold Kh;rw[Qj,Qb,Qr];rfl
def XE(xs:List Int)(p:Nat)(d:Int):List Int:=xs.set p (xs.getD p 0+d)
theorem OY{xs:List Int}{p:Nat}{d:Int}:(XE xs p d).length=xs.length:=by unfold XE;rw[Q5]
theorem Hi{xs:List Int}{p q:Nat}{d v:Int}(h:xs[q]?=some v):(XE xs p d)[q]?=some (if q=p then v+d else v):=by
 unfold XE;have hq:q<xs.length:=(Qg.mp h).1;by_cases e:q=p
 ·subst e;rw[QH hq,Qk rfl];simp[List.getD,h]
 ·rw[Qp (λz=>e z.symm),Qs e,h]
theorem HZ:∀(qs:List Nat)(n:Nat),(∀q∈qs,q<n)->((Uz n).map λp=>((qs.count p:Nat):Int)).sum=qs.length
 |[],n,_=>by
  have:((Uz n).map λp=>((([]:List Nat).count p:Nat):Int))=(Uz n).map λ_=>(0:Int):=by apply List.map_congr_left;intro p _;simp
  rw[this];clear this;induction n with
  |zero=>rfl
  |succ n ih=>rw[Ui,QB,JL,ih (λq hq=>by cases hq)];rfl
 |q::r,n,h=>by
  have ih:=HZ r n λx hx=>h x (Ql _ hx);have hq:=h q Qo
  have e:((Uz n).map λp=>(((q::r).count p:Nat):Int)).sum=((Uz n).map λp=>((r.count p:Nat):Int)).sum+((Uz n).map λp=>if q=p then(1:Int)else 0).sum:=by
   clear ih hq h;induction n with
   |zero=>rfl
   |succ n ih=>
    rw[Ui,QB,QB,QB,JL,JL,JL,ih];simp only[Qq,JZ,Jc,List.sum_nil,JE,beq_iff_eq]
    split<;>omega
  rw[e,ih]
  have one:∀m:Nat,((Uz m).map λp=>if q=p then(1:Int)else 0).sum=if q<m then 1 else 0:=by
   intro m;induction m with
   |zero=>simp
   |succ m ih=>
    rw[Ui,QB,JL,ih];simp only[Qq,JZ,Jc,List.sum_nil]
    split<;>split<;>split<;>omega
  rw[one n,Qk hq,Qv];omega
theorem Rb{ls:L3}{ws:LO}:okR (lng ls) (U1 ls ws):=λr hr=>by
 unfold U1 at hr;obtain⟨i,hi,e⟩:=List.mem_iff_getElem.mp hr;rw[List.getElem_zipWith]at e;rw[List.length_zipWith]at hi;have hm:ls[i]'(by omega)∈ls:=JM _;have h1:=PX hm;rw[←e];cases ws[i]'(by omega)with
 |none=>exact⟨QX _,by show(0:Int)<=_;omega⟩
 |some t=>have h2:=Ph t (ls[i]'(by omega));exact⟨by show(0:Int)<=((KM t _:Nat):Int);omega,by show((KM t _:Nat):Int)<=_;omega⟩
theorem MK{op:Int->Int->Option D}{j:Nat}{f g:M D}{Z Z1 Z2 Z':UP}{ds0 ds es:List D}{a b k:Int}{d:D}{n:Nat}(h0:Z[j]?=some (some (.own ds0)))(h1:g Z=.ok (.int k) Z1)(h2:Z1[j]?=some (some (.own ds)))(h3:atI ds k=some (.int a))(h4:f Z1=.ok (.int b) Z2)(h5:op a b=some d)
  (h6:Z2[j]?=some (some (.own es))) (h7:ixN es.length k=some n) (h8:Z2.set j (some (.own (es.set n d)))=Z'):Vd op j g f Z=.nx Z':=by
 unfold Vd;rw[OB h0];dsimp only;unfold sB;rw[h1];dsimp only;rw[OB h2];dsimp only[Option.bind_some];rw[h3];dsimp only;rw[h4];dsimp only;rw[h5,OB h6];dsimp only;rw[h7];dsimp only;rw[h8]
theorem DO{n p:Nat}(h:p<n):ixN n (p:Int)=some p:=by unfold ixN;rw[Qk (by omega),Qk (by omega),Qz]
theorem Cm{op:Int->Int->Option D}{j:Nat}{f g:M D}{Z Z':UP}{xs:List Int}{p:Nat}{d b:Int}(h0:Z[j]?=some (some (.own (xs.map int))))(h1:g Z=.ok (.int p) Z)(hp:p<xs.length)(h4:f Z=.ok (.int b) Z)(h5:∀a,op a b=some (.int (a+d)))
  (h8:Z.set j (some (.own ((XE xs p d).map int)))=Z'):Vd op j g f Z=.nx Z':=by
 refine MK (n:=p) h0 h1 h0 (a:=xs.getD p 0) (Zr ?_) h4 (h5 _) h0 (by rw[Qb];exact DO hp) ?_
 ·rw[List.getElem?_map,List.getElem?_eq_getElem hp];simp[List.getD,List.getElem?_eq_getElem hp]
 ·rw[←h8,Lg];rfl
theorem PV{a b:Option Int}:oEq (Kd a) (Kd b)=some (decide (a=b)):=by unfold oEq;rw[if_pos ⟨by cases a<;>rfl,by cases b<;>rfl,by cases a<;>simp[Kd,UG]⟩,Oo]
theorem F9{a b:Option Int}:oNe (Kd a) (Kd b)=some (!decide (a=b)):=by unfold oNe;rw[if_pos ⟨by cases a<;>rfl,by cases b<;>rfl,by cases a<;>simp[Kd,UG]⟩,Oo]
theorem F8{xs:List D}{a:Nat}(h:a<=xs.length):DL.cutD xs none (some (a:Int))=xs.take a:=by
 unfold DL.cutD HT.sIx;dsimp only;rw[Qs (by omega),Qz];have:min a xs.length=a:=by omega
 rw[this];simp
theorem Bv{xs:List D}{a:Nat}(h:a<=xs.length):DL.cutD xs (some (a:Int)) none=xs.drop a:=by
 unfold DL.cutD HT.sIx;dsimp only;rw[Qs (by omega),Qz];have:min a xs.length=a:=by omega
 rw[this,List.take_of_length_le (by rw[Jk];omega)]
theorem HY{s:D->UP->Option UP}{t:M Bool}{g:M D}(I:UP->Prop):∀(ds qs:List D)(Z:UP)(es:List D),qs.length=ds.length ->
  (∀(i:Nat) d e,ds[i]?=some d->qs[i]?=some e->∀Z,I Z->∃Z1,s d Z=some Z1/\t Z1=.ok true Z1/\g Z1=.ok e Z1/\I (Kq Z1))->I Z->es.length+ds.length<=1000000->∃Z',YL s t g ds Z es=some (es++qs,Z')/\I Z'
 |[],[],Z,es,_,_,h0,_=>⟨Z,by rw[YL,Jj],h0⟩
 |d::r,e::q,Z,es,hl,st,h0,hz=>by obtain⟨Z1,e1,e2,e3,h1⟩:=st 0 d e rfl rfl Z h0;rw[Qv]at hz;obtain⟨Z',e',h'⟩:=HY I r q (Kq Z1) (es++[e]) (by simpa using hl) (λi d' e' x y=>st (i+1) d' e' (by simpa using x) (by simpa using y)) h1 (by rw[List.length_append,List.length_singleton];omega);refine⟨Z',?_,h'⟩;rw[YL,e1];dsimp only;rw[e2];dsimp only;rw[Qk rfl,e3];dsimp only;rw[Qk (by omega),e',Jg];rfl
theorem Nb{s:D->UP->Option UP}{t:M Bool}{f:M (List D)}{Rd:List D->UP->List D->Option (List D×UP)}(I:UP->Prop):∀(ds:List D)(qs:List (List D))(Z:UP)(es:List D),qs.length=ds.length ->
  (∀(i:Nat) d q,ds[i]?=some d->qs[i]?=some q->∀Z es,I Z->es.length+q.length<=1000000->∃Z1 xs Z2 Z3,s d Z=some Z1/\t Z1=.ok true Z1/\f Z1=.ok xs Z2/\Rd xs (Kq Z2) es=some (es++q,Z3)/\I Z3)->I Z->es.length+qs.flatten.length<=1000000->∃Z',Xg s t f Rd ds Z es=some (es++qs.flatten,Z')/\I Z'
 |[],[],Z,es,_,_,h0,_=>⟨Z,by rw[Xg,List.flatten_nil,Jj],h0⟩
 |d::r,q::qr,Z,es,hl,st,h0,hz=>by rw[QL,Qj]at hz;obtain⟨Z1,xs,Z2,Z3,e1,e2,e3,e4,h1⟩:=st 0 d q rfl rfl Z es h0 (by omega);obtain⟨Z',e',h'⟩:=Nb I r qr Z3 (es++q) (by simpa using hl) (λi d' e' x y=>st (i+1) d' e' (by simpa using x) (by simpa using y)) h1 (by rw[List.length_append];omega);refine⟨Z',?_,h'⟩;rw[Xg,e1];dsimp only;rw[e2];dsimp only;rw[Qk rfl,e3];dsimp only;rw[e4];dsimp only;rw[e',QL,Jg]
def Wc(i:Nat)(rs:List (List Int)):LP:=rs.flatten.map λt=>((i:Int),t)
def ZU(k:Nat):L3->LP
 |[]=>[]
 |rs::ls=>Wc k rs++ZU (k+1) ls
def KL(k:Nat):L3->LP
 |[]=>[]
 |rs::ls=>(YQ rs.flatten).map (λt=>((k:Int),t))++KL (k+1) ls
theorem Rt:∀(ls:L3)(k:Nat),(KL k ls).Perm (ZU k ls)
 |[],_=>.nil
 |rs::ls,k=>((Vr rs.flatten).map _).append (Rt ls (k+1))
theorem OR:∀(ls:L3)(k:Nat),∀q∈KL k ls,(k:Int)<=q.1
 |[],_,q,h=>by cases h
 |rs::ls,k,q,h=>by
  rcases Q0.mp h with h|h
  ·obtain⟨t,_,rfl⟩:=Qu.mp h;exact QX _
  ·have:=OR ls (k+1) q h;omega
theorem Vw:∀{ls:L3}{k:Nat}{q:Int×Int},q∈KL k ls->∃i rs,ls[i]?=some rs/\q.1=((k+i:Nat):Int)/\q.2∈rs.flatten
 |[],_,q,h=>by cases h
 |rs::ls,k,q,h=>by
  rcases Q0.mp h with h|h
  ·obtain⟨t,ht,rfl⟩:=Qu.mp h;exact⟨0,rs,rfl,rfl,(Vr _).mem_iff.mp ht⟩
  ·obtain⟨i,rs',h1,h2,h3⟩:=Vw h;exact⟨i+1,rs',by simpa using h1,by rw[h2];congr 1;omega,h3⟩
theorem LI:∀{ls:L3}{k i:Nat}{rs:List (List Int)}{t:Int},ls[i]?=some rs->t∈rs.flatten->(((k+i:Nat):Int),t)∈KL k ls
 |rs::ls,k,0,rs',t,h,ht=>by cases h;exact Jf _ (Qu.mpr ⟨t,(Vr _).mem_iff.mpr ht,rfl⟩)
 |rs::ls,k,i+1,rs',t,h,ht=>by have:=LI (ls:=ls) (k:=k+1) (i:=i) (by simpa using h) ht;rw[show k+1+i=k+(i+1)by omega]at this;exact QJ _ this
theorem LH{n:Nat}(hn:n<=6):∀(ls:L3)(k:Nat),(∀rs∈ls,∀t∈rs.flatten,0<=t/\t<n)->(KL k ls).Pairwise λx y=>Kv x<=Kv y
 |[],_,_=>.nil
 |rs::ls,k,h=>by
  refine List.pairwise_append.mpr ⟨?_,LH hn ls (k+1) λrs' hr=>h rs' (Ql _ hr),λx hx y hy=>?_⟩
  ·rw[List.pairwise_map];refine(L0 rs.flatten).imp λ{a b} hab=>?_
   unfold Kv;dsimp only;omega
  ·obtain⟨t,ht,rfl⟩:=Qu.mp hx;have h1:=OR ls (k+1) y hy;have h2:=h rs Qo t ((Vr _).mem_iff.mp ht);obtain⟨i,rs',g1,g2,g3⟩:=Vw hy;have h3:=h rs' (Ql _ (Qt g1)) y.2 g3;unfold Kv;dsimp only;omega
theorem Vu.flat{n:Nat}{rs:List (List Int)}(g:Vu n rs):∀t∈rs.flatten,0<=t/\t<n:=λt ht=>by obtain⟨r,h1,h2⟩:=Ud.mp ht;exact g.there r h1 t h2
section
variable{cs:List Int}{ls:L3}
theorem LG(n:Nat):∀(ls:L3)(k:Nat),(∀rs∈ls,rs.flatten.length<=n)->(ZU k ls).length<=ls.length*n
 |[],_,_=>by simp[ZU]
 |rs::ls,k,h=>by
  have h1:=LG n ls (k+1) λr hr=>h r (Ql _ hr);have h2:=h rs Qo
  show(Wc k rs++ZU (k+1) ls).length<=_
  rw[Qj,Qv,Nat.succ_mul];unfold Wc;rw[Qb];omega
theorem jp(g:Good cs ls):Wl (ZU 0 ls)=KL 0 ls:=by
 have hf:∀rs∈ls,∀t∈rs.flatten,0<=t/\t<cs.length:=λrs hr=>(g.rk rs hr).flat
 have ok:∀q∈KL 0 ls,okP q:=λq hq=>by obtain⟨i,rs,h1,h2,h3⟩:=Vw hq;have:=hf rs (Qt h1) q.2 h3;have:=g.c6;exact⟨by omega,by omega⟩
 exact(OT ok ((Rt ls 0).trans (Gg _).symm) (LH g.c6 ls 0 hf) (LU _)).symm
theorem F7(g:Good cs ls):∀q∈ZU 0 ls,okP q:=λq hq=>by obtain⟨i,rs,h1,h2,h3⟩:=Vw ((Rt ls 0).mem_iff.mpr hq);have:=(g.rk rs (Qt h1)).flat q.2 h3;have:=g.c6;exact⟨by omega,by omega⟩
theorem Pa(g:Good cs ls):(ZU 0 ls).length<=42:=by
 have h:=LG 6 ls 0 λrs hr=>QS (M7 (g.rk rs hr)) g.c6
 have:=g.l7;omega
theorem Om:∀(ls:L3)(k:Nat),((ls.zipIdx k).map λp=>(Wc p.2 p.1).map KR).flatten=(ZU k ls).map KR
 |[],_=>rfl
 |rs::ls,k=>by rw[List.zipIdx_cons,Qq,QL,Om ls (k+1)];show _=(Wc k rs++ZU (k+1) ls).map KR;rw[QB]
theorem kB(g:Good cs ls):W6 [Kf cs ls]=some (.list ((KL 0 ls).map KR)):=by
 refine Zd (Z:=[pb (Kf cs ls)]) rfl ?_;unfold TN;refine Km (Vo (Kn (UT (UR rfl) UY) rfl (Pi g))) ?_
 have hc:∃Z',Xg (gT 2 (gNC (gN 1) (gNC (gN 2) (gN0)))) (UU true) (K7 (UO 2)) (Xg (gN 3) (UU true) (K7 (UO 3)) (YL (gN 4) (UU true) (Kx (US (UO 1) (US (UO 4) (UQ)))))) (Yj 0 (ls.map KQ)) (Kq [pb (Kf cs ls)]++UA 4 none) []=some ((ZU 0 ls).map KR,Z'):=by
  have key:=Nb (s:=gT 2 (gNC (gN 1) (gNC (gN 2) (gN0)))) (t:=UU true) (f:=K7 (UO 2)) (Rd:=Xg (gN 3) (UU true) (K7 (UO 3)) (YL (gN 4) (UU true) (Kx (US (UO 1) (US (UO 4) (UQ))))))
   (λZ=>∃x1 x2 x3 x4,Z=[pb (Kf cs ls),x1,x2,x3,x4]) (Yj 0 (ls.map KQ)) ((ls.zipIdx 0).map λp=>(Wc p.2 p.1).map KR) (Kq [pb (Kf cs ls)]++UA 4 none) [] (by rw[Qb,List.length_zipIdx,YB,Qb]) ?_ ⟨none,none,none,none,rfl⟩ (by rw[Om,Qb,QN];have:=Pa g;omega)
  ·obtain⟨Z',e,_⟩:=key;rw[Om,JJ]at e;exact⟨Z',e⟩
  rintro i d q hd hq Z es ⟨x1,x2,x3,x4,rfl⟩ hlen;obtain⟨z,hz,rfl⟩:=Xd hd;rw[Qe]at hz;rw[Qe,List.getElem?_zipIdx]at hq;cases hls:ls[i]? with
  |none=>rw[hls]at hz;cases hz
  |some rs=>
  rw[hls]at hz hq;cases hz;cases hq;rw[Q3]at *;dsimp only at hlen⊢
  have inner:=Nb (s:=gN 3) (t:=UU true) (f:=K7 (UO 3)) (Rd:=YL (gN 4) (UU true) (Kx (US (UO 1) (US (UO 4) (UQ)))))
   (λZ=>∃x3 x4,Z=[pb (Kf cs ls),pb (.int i),pb (KQ rs),x3,x4]) (rs.map Zk) (rs.map λr=>r.map λt=>KR ((i:Int),t)) (Kq [pb (Kf cs ls),pb (.int i),pb (KQ rs),x3,x4]) es (by rw[Qb,Qb]) ?_ ⟨XR x3,XR x4,rfl⟩ ?_
  ·obtain⟨Z3,e3,y3,y4,h3⟩:=inner;have ef:(rs.map λr=>r.map λt=>KR ((i:Int),t)).flatten=(Wc i rs).map KR:=by unfold Wc;rw[Ja,List.map_flatten];rfl
   rw[ef]at e3;exact⟨_,_,_,Z3,KB rfl (U5 (UX (Qa rfl) rfl) (U5 (UX (Qa rfl) rfl) KD)),rfl,ZH (UR rfl) rfl,e3,_,_,_,_,h3⟩
  ·rintro j d q hd hq Z es' ⟨y3,y4,rfl⟩ hlen';rw[Qe]at hd hq;cases hr:rs[j]? with
   |none=>rw[hr]at hd;cases hd
   |some r=>
   rw[hr]at hd hq;cases hd;cases hq
   obtain⟨Z3,e3,z4,h3⟩:=HY (s:=gN 4) (t:=UU true) (g:=Kx (US (UO 1) (US (UO 4) (UQ)))) (λZ=>∃x4,Z=[pb (Kf cs ls),pb (.int i),pb (KQ rs),pb (Zk r),x4]) (r.map int) (r.map λt=>KR ((i:Int),t)) (Kq [pb (Kf cs ls),pb (.int i),pb (KQ rs),pb (Zk r),y4]) es' (by rw[Qb,Qb]) (by
    rintro m d e hd he Z ⟨x4,rfl⟩;rw[Qe]at hd he;cases hm:r[m]? with
    |none=>rw[hm]at hd;cases hd
    |some t=>
    rw[hm]at hd he;cases hd;cases he;exact⟨_,UX (Qa rfl) rfl,rfl,YA (UT (UR rfl) (UT (UR rfl) UY)) (Qa rfl),_,rfl⟩) ⟨XR y4,rfl⟩ (by rw[Qb]at hlen'⊢;exact hlen')
   exact⟨_,_,_,Z3,UX (Qa rfl) rfl,rfl,ZH (UR rfl) rfl,e3,_,_,h3⟩
  ·have ef:(rs.map λr=>r.map λt=>KR ((i:Int),t)).flatten=(Wc i rs).map KR:=by
    unfold Wc;rw[Ja,List.map_flatten];rfl
   rw[ef];exact hlen
 obtain⟨Z',hc⟩:=hc;have hs:=AL (qs:=ZU 0 ls) (by have:=Pa g;omega) (F7 g);rw[jp g]at hs;exact KH (ZN (UT (KS (Bh (XN (UT (K8 rfl UZ Wd) UY) XH) hc)) UY) hs) rfl
end
def fnz:List Int->Int
 |[]=>0
 |x::r=>if x=0 then fnz r else x
inductive Ord where|firsts|full|lasts
def Ord.tx:Ord->Str
 |.firsts=> "firsts" | .full=> "full" | .lasts=> "lasts"
def Ord.isF:Ord->Bool
 |.firsts=>true|_=>false
def Ord.isU:Ord->Bool
 |.full=>true|_=>false
theorem F6(o:Ord):oEq (.str o.tx) (.str "firsts")=some o.isF:=by cases o<;>decide +kernel
theorem RX(o:Ord):oEq (.str o.tx) (.str "full")=some o.isU:=by cases o<;>decide +kernel
def Ks(xs ys:List Int):List Int:=(xs.zip ys).map λp=>p.1-p.2
def Wm(o:Ord)(xs ys:List Int):List Int:=match o with
 |.firsts=>Ks xs ys
 |.full=>((Ks xs ys).map λx=>-x).drop ((Ks xs ys).length-1)++Ks xs ys
 |.lasts=>((Ks xs ys).map λx=>-x).reverse
theorem kA(o:Ord):W4 [.str o.tx]=some (.bool true):=by
 refine Zd (Z:=[pb (.str o.tx)]) rfl ?_;unfold TL;have h:oIn (.str o.tx) (.tuple ((["firsts", "full", "lasts"]:List Str).map UD))=some true:=by cases o<;>decide +kernel
 exact KH (R3 (KS (k:=λd=>UC (KP d "str")) (UR rfl)) (λ_=>KS (Z6 rfl UZ h))) rfl
theorem AY(o:Ord):W3 [.str o.tx]=some .none:=by
 refine SX (Z:=[pb (.str o.tx)]) rfl ?_;unfold TK;apply KF
 case h1=>exact Xf (XJ (Kn (UT (UR rfl) UY) rfl (kA o)))
 case h2=>intro h;cases h
 case h3=>exact λ_=>K2 ⟨_,rfl⟩
def ZV:Option LO->D
 |none=>.none
 |some ws=>Ki ws
def KE(o:Ord)(old:Option LO)(ts:List Int):D:=.tuple [.str o.tx,ZV old,.list (ts.map int)]
structure Zv(n m:Nat)(old:Option LO)(ts:List Int):Prop where
 len:∀ws,old=some ws->ws.length=m
 old:∀ws t,old=some ws->some t∈ws->0<=t/\t<n
 once:ts.Nodup
 there:∀a∈ts,0<=a/\a<m
theorem Zv.few{n m:Nat}{old:Option LO}{ts:List Int}(g:Zv n m old ts):ts.length<=m:=SE m ts g.once g.there
theorem AX{n m:Nat}{old:Option LO}(h1:∀ws,old=some ws->ws.length=m)(h2:∀ws t,old=some ws->some t∈ws->0<=t/\t<n)(hm:m<=1000):W0 [ZV old,.int m,.int n]=some (.bool true):=by
 refine Zd (Z:=[pb (ZV old),pb (.int m),pb (.int n)]) rfl ?_;unfold TJ;apply KI;cases old with
 |none=>
  apply KF
  case h1=>exact KS (UR rfl)
  case h2=>exact λ_=>KH UZ (VP rfl)
  case h3=>intro hh;cases hh
 |some ws=>
  have hl:=h1 ws rfl;have hlen:Kg [Ki ws]=some (.int m):=by unfold Ki;rw[Zw,Qb,hl]
  apply KF
  case h1=>exact KS (UR rfl)
  case h2=>intro hh;cases hh
  case h3=>
   intro _;refine K2 (KJ ?_);apply KI;apply KF
   case h1=>exact XU (Z1:=[pb (Ki ws),pb (.int m),pb (.int n)]) (Vt (UR rfl) rfl) (U7 (Z7 rfl hlen) (UR rfl) RZ)
   case h2=>intro hh;simp at hh
   case h3=>
    intro _;refine K2 (KJ ?_)
    have hc:Ze (gN 3) (UU true) (X1 (U6 (λd=>.bool (isNon d)) (UO 3)) (U0 2 ZJ (US (UO 3) (US (UO 2) (UQ))))) (ws.map Kd) (Kq [pb (Ki ws),pb (.int m),pb (.int n)]++UA 1 none) []=some (ws.map λ_=>.bool true):=by
     refine XM (λZ=>∃x,Z=[pb (Ki ws),pb (.int m),pb (.int n),x]) _ _ _ _ (by simp only[Qb]) ?_ ⟨none,rfl⟩ (by rw[Qb,QN];omega);rintro i d e hd he Z ⟨x,rfl⟩;rw[Qe]at hd he;cases hw:ws[i]? with
     |none=>rw[hw]at hd;cases hd
     |some o=>
     rw[hw]at hd he;cases hd;cases he;refine⟨_,UX (Qa rfl) rfl,rfl,?_,_,rfl⟩;cases o with
     |none=>exact NK (t:=true) (u:=true) (KS (k:=λd=>UC (isNon d)) (x:=.none) (UR rfl)) (λh=>nomatch h)
     |some t=>have hb:=h2 ws t rfl (Qt hw);exact NK (t:=false) (u:=true) (KS (k:=λd=>UC (isNon d)) (x:=.int t) (UR rfl)) (λ_=>Kn (UT (UR rfl) (UT (UR rfl) UY)) rfl (Pk hb.1 hb.2))
    exact KH (ZN (UT (KS (YC (ZH (UR rfl) rfl) hc)) UY) (Pj ws)) rfl
theorem jX{m:Nat}{ts:List Int}(h1:ts.Nodup)(h2:∀a∈ts,0<=a/\a<m)(hm:m<=1000):WZ [.list (ts.map int),.int m]=some (.bool true):=by
 refine Zd (Z:=[pb (.list (ts.map int)),pb (.int m)]) rfl ?_;unfold TH;have hl:=SE m ts h1 h2;apply KI
 have hc:Ze (gN 2) (UU true) (U0 2 ZJ (US (UO 2) (US (UO 1) (UQ)))) (ts.map int) (Kq [pb (.list (ts.map int)),pb (.int m)]++UA 1 none) []=some (ts.map λ_=>.bool true):=by
  refine XM (λZ=>∃x,Z=[pb (.list (ts.map int)),pb (.int m),x]) _ _ _ _ (by simp only[Qb]) ?_ ⟨none,rfl⟩ (by rw[Qb,QN];omega);rintro i d e hd he Z ⟨x,rfl⟩;rw[Qe]at hd he;cases hw:ts[i]? with
  |none=>rw[hw]at hd;cases hd
  |some t=>
  rw[hw]at hd he;cases hd;cases he;have hb:=h2 t (Qt hw);exact⟨_,UX (Qa rfl) rfl,rfl,Kn (UT (UR rfl) (UT (UR rfl) UY)) rfl (Pk hb.1 hb.2),_,rfl⟩
 apply KF
 case h1=>exact XU (Z1:=[pb (.list (ts.map int)),pb (.int m)]) (Vt (UR rfl) rfl) (Xf (XJ (ZN (UT (KS (YC (ZH (UR rfl) Yw) hc)) UY) (Pj ts))))
 case h2=>intro hh;cases hh
 case h3=>
  intro _;refine K2 (KJ ?_);have hs:Wp [.list (ts.map int)]=some (.int ts.length):=by unfold Wp;dsimp only;rw[V0];dsimp only;rw[Qk (by omega),Gc h1]
  have hlen:Kg [.list (ts.map int)]=some (.int ts.length):=by rw[Zw,Qb]
  refine KH (KS (U7 (ZN (UT (UR rfl) UY) hs) (Z7 rfl hlen) Wi)) ?_;simp
section
variable{cs:List Int}{ls:L3}{o:Ord}{old:Option LO}{ts:List Int}
theorem F5(g:Good cs ls)(ga:Zv cs.length ls.length old ts):WY [Kf cs ls,KE o old ts]=some .none:=by
 refine SX (Z:=[pb (Kf cs ls),pb (KE o old ts),none,none,none,none,none]) rfl ?_;unfold TF;have l7:=g.l7;have c6:=g.c6;have hll:Kg [.list (ls.map KQ)]=some (.int ls.length):=by rw[Zw,Qb]
 have hlc:Kg [.list (cs.map int)]=some (.int cs.length):=by rw[Zw,Qb]
 refine Km (Vo (Kn (UT (UR rfl) UY) rfl (Pi g))) ?_;apply KI;apply KF
 case h1=>exact XU (Z1:=[pb (Kf cs ls),pb (KE o old ts),none,none,none,none,none]) (Vt (UR rfl) rfl) (U7 (Z7 rfl (show Kg [KE o old ts]=some (.int 3)from rfl)) UZ RZ)
 case h2=>intro hh;simp at hh
 case h3=>
  intro _;refine K2 (KJ ?_);refine Km (VF (UR rfl) (KB rfl (U5 (UX (Qa rfl) rfl) (U5 (UX (Qa rfl) rfl) KD)))) ?_;refine Km (VF (UR rfl) (KB rfl (U5 (UX (Qa rfl) rfl) (U5 (UX (Qa rfl) rfl) (U5 (UX (Qa rfl) rfl) KD))))) ?_;refine Km (Vo (Kn (UT (UR rfl) UY) rfl (AY o))) ?_;apply KI;apply KF
  case h1=>exact Xf (XJ (Kn (UT (UR rfl) (UT (Z7 rfl hll) (UT (Z7 rfl hlc) UY))) rfl (AX ga.len ga.old (by omega))))
  case h2=>intro hh;cases hh
  case h3=>
   intro _;refine K2 (KJ ?_);apply KF
   case h1=>exact Xf (XJ (Kn (UT (UR rfl) (UT (Z7 rfl hll) UY)) rfl (jX ga.once ga.there (by omega))))
   case h2=>intro hh;cases hh
   case h3=>exact λ_=>K2 ⟨_,rfl⟩
end
theorem R9{t:Int}{r:List Int}:oIn (.int t) (.list (r.map int))=some (r.contains t):=Op t r
theorem HD{c s w sz dg x6:Option Sl}{m:Nat}{T:List Int}(hm:0<m):∀(k fuel d:Nat),(∀j,j<k->(((d+j) % m:Nat):Int)∈T)->(((d+k) % m:Nat):Int)∉T->d<m->k<fuel ->
  Xh (T9 oIn (UO 8) 7) Pc fuel [w,c,s,pb (.int m),sz,dg,x6,some (.own (T.map int)),pb (.int d)]=.nx [w,c,s,pb (.int m),sz,dg,x6,some (.own (T.map int)),pb (.int (((d+k) % m:Nat):Int))]
 |0,fuel+1,d,_,hn,hd,_=>by
  have e0:(d+0) % m=d:=by rw[Ue];exact Nat.mod_eq_of_lt hd
  rw[e0]at hn⊢;have e:(T.contains (d:Int))=false:=by simpa using hn
  rw[Xh,Lb (r:=false) (UR rfl) rfl (by rw[R9,e])];rfl
 |k+1,fuel+1,d,hj,hn,hd,hf=>by
  have h0:=hj 0 (by omega);rw[Ue,Nat.mod_eq_of_lt hd]at h0;have e:(T.contains (d:Int))=true:=by simpa using h0
  rw[Xh,Lb (r:=true) (UR rfl) rfl (by rw[R9,e])];dsimp only;rw[Qk rfl]
  have hst:Pc [w,c,s,pb (.int m),sz,dg,x6,some (.own (T.map int)),pb (.int d)]=.nx [w,c,s,pb (.int m),sz,dg,x6,some (.own (T.map int)),pb (.int (((d+1) % m:Nat):Int))]:=by
   unfold Pc;refine KO (U7 (U7 (UR rfl) UZ Zh) (UR rfl) (VT (by omega))) (Qa rfl) ?_;have e1:((d+1:Nat):Int)=(d:Int)+1:=by omega
   have:((d:Int)+1) % (m:Int)=(((d+1) % m:Nat):Int):=by rw[Int.natCast_emod,e1]
   rw[this];rfl
  rw[hst];dsimp only;have e2:∀j,((d+1) % m+j) % m=(d+(j+1)) % m:=λj=>by rw[Nat.mod_add_mod];congr 1;omega
  have:=HD (c:=c) (s:=s) (w:=w) (sz:=sz) (dg:=dg) (x6:=x6) (T:=T) hm k fuel ((d+1) % m) (λj hjk=>by rw[e2];exact hj (j+1) (by omega)) (by rw[e2];exact hn) (Nat.mod_lt _ hm) (by omega);rw[e2]at this;exact this
theorem Hh:∀(a b:List Int),a.Nodup->(∀x∈a,x∈b)->a.length<=b.length
 |[],_,_,_=>Jw _
 |x::a,b,hn,h=>by
  have hx:=h x Qo;have hn':=Um.mp hn
  have:=Hh a (b.erase x) hn'.2 λy hy=>by
   have hne:y≠x:=λe=>hn'.1 (e ▸ hy)
   exact(List.mem_erase_of_ne hne).mpr (h y (Ql _ hy))
  rw[List.length_erase_of_mem hx]at this;have hp:=List.length_pos_of_mem hx;rw[Qv];omega
theorem jo{m:Nat}{T:List Int}(d:Nat)(hl:T.length<m)(hn:T.Nodup):∃k,k<m/\(∀j,j<k->(((d+j) % m:Nat):Int)∈T)/\(((d+k) % m:Nat):Int)∉T:=by
 have ex:∃k,k<m/\(((d+k) % m:Nat):Int)∉T:=by
  refine Classical.byContradiction λhno=>?_;have all:∀k,k<m->(((d+k) % m:Nat):Int)∈T:=λk hk=>Classical.byContradiction λz=>hno ⟨k,hk,z⟩
  have hsub:∀x:Nat,x<m->((x:Nat):Int)∈T:=λx hx=>by
   have h1:=all ((x+m-d % m) % m) (Nat.mod_lt _ (by omega));have e:(d+(x+m-d % m) % m) % m=x:=by have hdm:d % m<m:=Nat.mod_lt _ (by omega);rw[Nat.add_mod_mod,←Nat.mod_add_mod];rw[show d % m+(x+m-d % m)=x+m by omega,Nat.add_mod_right,Nat.mod_eq_of_lt hx]
   rw[e]at h1;exact h1
  have:=Hh ((Uz m).map λx:Nat=>(x:Int)) T (List.Pairwise.map _ (λa b h e=>h (by omega)) List.nodup_range) (λt ht=>by obtain⟨x,hx,rfl⟩:=Qu.mp ht;exact hsub x (Q8.mp hx));rw[Qb,Qr]at this;omega
 obtain⟨k,hk,hkn⟩:=ex;induction k using Nat.strongRecOn with
 |_ k ih=>
  by_cases h:∀j,j<k->(((d+j) % m:Nat):Int)∈T
  ·exact⟨k,hk,h,hkn⟩
  ·obtain⟨j,hj⟩:=Classical.not_forall.mp h;obtain⟨hj1,hj2⟩:=Classical.not_imp.mp hj;exact ih j hj1 (by omega) hj2
theorem N3{x:D}{m:Nat}(h:m<=1000):Ku (.list [x]) (.int m)=some (.list (UA m x)):=by
 rw[Rp ⟨by omega,by omega,by show 1*_<=_;omega⟩]
 congr 2
 rw[Qz];clear h;induction m with
 |zero=>rfl
 |succ n ih=>rw[QQ,QL,ih,QQ];rfl
def szA(n m:Nat):List Int:=[3,2,(m:Int)+1]++UA m ((n:Int)+1)++UA m (m:Int)
theorem Mb(n m:Nat):(szA n m).length=3+m+m:=by unfold szA;rw[Qj,Qj,QF,QF];rfl
theorem Ck{n m j:Nat}(h:j<m):(szA n m)[3+j]?=some ((n:Int)+1):=by
 unfold szA;rw[Qy (by rw[Qj,QF];show 3+j<3+m;omega),Qw (by show 3<=3+j;omega)]
 show(UA m ((n:Int)+1))[3+j-3]?=_
 rw[Nat.add_sub_cancel_left,QA,Qk h]
theorem Bu{n m j:Nat}(h:j<m):(szA n m)[3+m+j]?=some (m:Int):=by
 unfold szA;have e:([3,2,(m:Int)+1]++UA m ((n:Int)+1)).length=3+m:=by rw[Qj,QF];rfl
 rw[Qw (by rw[e];omega),e,Nat.add_sub_cancel_left,QA,Qk h]
section
variable{cs:List Int}{ls:L3}
def SK(d:Int):Option Int:=if 0<d then some (d-1)else none
theorem Bt(d:Int):oIx (.list [.none,.int (d-1)]) (.int (if decide (0<d)=true then 1 else 0))=some (Kd (SK d)):=by
 unfold SK;by_cases h:0<d
 ·rw[Q7 h,Qk rfl,Qk h];exact Zr (j:=1) rfl
 ·rw[QO h,Qs (by decide),Qs h];exact Zr (j:=0) rfl
theorem Bs(g:Good cs ls)(c s:Int):∃r,Xw [Kf cs ls,.int c,.int s]=some r/\∃o old ts,r=KE o old ts/\Zv cs.length ls.length old ts:=by
 refine Vl (Z:=[pb (Kf cs ls),pb (.int c),pb (.int s),none,none,none,none,none,none]) rfl ?_;unfold Tb;have l7:=g.l7;have l1:=g.l1;have c6:=g.c6;have c1:=g.c1;have hll:Kg [.list (ls.map KQ)]=some (.int ls.length):=by rw[Zw,Qb]
 have hlc:Kg [.list (cs.map int)]=some (.int cs.length):=by rw[Zw,Qb]
 generalize hm:ls.length=m at *;generalize hn:cs.length=n at *;refine Km (KO (ZN (UT (K8 rfl UZ Wd) UY) hll) (Qa rfl) rfl) ?_;have s1:U4 (.list [.int 3,.int 2,.int ((m:Int)+1)]) (.list (UA m (.int ((n:Int)+1))))=some (.list (([3,2,(m:Int)+1]++UA m ((n:Int)+1)).map int)):=by rw[XI (by rw[QF];show 3+m<=_;omega),QB,JO];rfl
 refine Km (KO (U7 (Zu (UT UZ (UT UZ (UT (U7 (UR rfl) UZ Zh) UY))) (Qa rfl)) (U7 (Zu (UT (U7 (ZN (UT (K8 rfl UZ VC) UY) hlc) UZ Zh) UY) (Qa rfl)) (UR rfl) (N3 (by omega))) s1) (Qa rfl) rfl) ?_;have s2:U4 (.list (([3,2,(m:Int)+1]++UA m ((n:Int)+1)).map int)) (.list (UA m (.int (m:Int))))=some (.list ((szA n m).map int)):=by rw[XI (by rw[Qb,Qj,QF,QF];show 3+m+m<=_;omega)];unfold szA;rw[QB (l₂:=UA m (m:Int)),JO (n:=m) (a:=(m:Int))]
 obtain⟨r,hF,dg,rfl,hdl,hdb⟩:=Nj c s (sizes:=szA n m) (λx hx=>by
  unfold szA at hx;rcases Q0.mp hx with hx|hx
  ·rcases Q0.mp hx with hx|hx
   ·have hx:x=3∨x=2∨x=(m:Int)+1:=by simpa using hx
    omega
   ·rw[(List.mem_replicate.mp hx).2];omega
  ·rw[(List.mem_replicate.mp hx).2];omega) (by rw[Mb];omega)
 rw[Mb]at hdl;refine Km (KO (Kn (UT (UR rfl) (UT (UR rfl) (UT (U7 (UR rfl) (U7 (Zu (UT (UR rfl) UY) (Qa rfl)) (UR rfl) (N3 (by omega))) s2) UY))) rfl hF) (Qa rfl) rfl) ?_;have get:∀j,j<3+m+m->∃d,dg[j]?=some d:=λj hj=>⟨dg[j]'(by omega),Qd _⟩
 obtain⟨d0,e0⟩:=get 0 (by omega);obtain⟨d1,e1⟩:=get 1 (by omega);obtain⟨d2,e2⟩:=get 2 (by omega);have b0:=hdb 0 d0 3 e0 rfl;have b1:=hdb 1 d1 2 e1 rfl;have b2:=hdb 2 d2 ((m:Int)+1) e2 rfl;have i0:oIx (.list (dg.map int)) (.int 0)=some (.int d0):=Zr (j:=0) (by rw[Qe,e0];rfl);have i1:oIx (.list (dg.map int)) (.int 1)=some (.int d1):=Zr (j:=1) (by rw[Qe,e1];rfl);have i2:oIx (.list (dg.map int)) (.int 2)=some (.int d2):=Zr (j:=2) (by rw[Qe,e2];rfl);refine Km (KO UZ (Qa rfl) rfl) ?_
 let ol:List Int:=(dg.drop 3).take m
 have oll:ol.length=m:=by show((dg.drop 3).take m).length=m;rw[QW,Jk];omega
 have olb:∀d∈ol,0<=d/\d<(n:Int)+1:=λd hd=>by
  obtain⟨j,hj,e⟩:=List.mem_iff_getElem.mp hd;have hjm:j<m:=by omega
  refine hdb (3+j) d _ ?_ (Ck hjm);have:ol[j]?=some d:=by rw[Qd hj,e]
  show dg[3+j]?=_;rw[←this];show _=((dg.drop 3).take m)[j]?;rw[List.getElem?_take,Qk hjm,List.getElem?_drop]
 have hcut:DL.cutD (dg.map int) (some 3) (some (3+(m:Int)))=ol.map int:=by
  rw[Rj (by decide) (by omega) (by omega)];have t1:(3:Int).toNat=3:=rfl;have t2:(3+(m:Int)).toNat-(3:Int).toNat=m:=by omega
  rw[t2,t1]
 have step:Ho (sIf (UV oEq (U9 5 (UU (.int 1))) (UU (.int 1))) (Za 6 (ZG (K7 (ZW (UO 5) (Kc (UU (.int 3)) λx=>Ke (Yz x)) (Kc (UV U4 (UU (.int 3)) (UO 3)) λx=>Ke (Yz x)))) 1 (gN 9) (UU true) (UV oIx (Kr (US (UU .none) (US (UV K3 (UO 9) (UU (.int 1))) (UQ)))) (Zm SS (US (U6 UC (Zl (oIB λi j=>decide (j<i)) 9 (UU (.int 0)))) (UQ)))))) (sNx))
   [pb (Kf cs ls),pb (.int c),pb (.int s),pb (.int m),pb (.list (([3,2,(m:Int)+1]++UA m ((n:Int)+1)).map int)),pb (.list (dg.map int)),some (.pub .none),none,none]
   (λr=>∃old x6,r=.nx [pb (Kf cs ls),pb (.int c),pb (.int s),pb (.int m),pb (.list (([3,2,(m:Int)+1]++UA m ((n:Int)+1)).map int)),pb (.list (dg.map int)),x6,none,none] /\
    (x6=some (.pub (ZV old)) ∨ ∃ws,old=some ws/\x6=some (.own (ws.map Kd)))/\(∀ws,old=some ws->ws.length=m)/\∀ws t,old=some ws->some t∈ws->0<=t/\t<n):=by
  have hc:∀a b:Option Sl,Ze (gN 9) (UU true) (UV oIx (Kr (US (UU .none) (US (UV K3 (UO 9) (UU (.int 1))) (UQ)))) (Zm SS (US (U6 UC (Zl (oIB λi j=>decide (j<i)) 9 (UU (.int 0)))) (UQ)))) (ol.map int) (Kq [pb (Kf cs ls),pb (.int c),pb (.int s),pb (.int m),pb (.list (([3,2,(m:Int)+1]++UA m ((n:Int)+1)).map int)),pb (.list (dg.map int)),some (.pub .none),none,none]++UA 1 none) []=some ((ol.map SK).map Kd):=λ_ _=>by
   refine XM (λZ=>∃x,Z=[pb (Kf cs ls),pb (.int c),pb (.int s),pb (.int m),pb (.list (([3,2,(m:Int)+1]++UA m ((n:Int)+1)).map int)),pb (.list (dg.map int)),some (.pub .none),none,none,x]) _ _ _ _ (by simp only[Qb]) ?_ ⟨none,rfl⟩ (by rw[Qb,QN];omega);rintro i d e hd he Z ⟨x,rfl⟩;rw[Qe]at hd;rw[Qe,Qe]at he;cases hw:ol[i]? with
   |none=>rw[hw]at hd;cases hd
   |some z=>
   rw[hw]at hd he;cases hd;cases he;exact⟨_,UX (Qa rfl) rfl,rfl,U7 (Zu (UT UZ (UT (U7 (UR rfl) UZ YT) UY)) (Qa rfl)) (ZN (UT (KS (Z6 rfl UZ rfl)) UY) rfl) (Bt z),_,rfl⟩
  apply KF
  case h1=>exact U7 (K8 rfl UZ i1) UZ Wi
  case h2=>
   intro _;refine ZM (Yn (YC (ZH (Vk (UR rfl) (YX UZ) (YX (U7 UZ (UR rfl) Zh)) (by rw[Vs,hcut])) Yw) (hc none none)) (Qa rfl) rfl) ?_;refine⟨some (ol.map SK),_,rfl,.inr ⟨_,rfl,rfl⟩,λws e=>?_,λws t e ht=>?_⟩
   ·cases e;rw[Qb];exact oll
   ·cases e;obtain⟨d,hd,e⟩:=Qu.mp ht;have:=olb d hd;unfold SK at e;split at e
    ·cases e;omega
    ·cases e
  case h3=>exact λ_=>K2 ⟨none,_,rfl,.inl rfl,(λws e=>by cases e),(λws t e=>by cases e)⟩
 refine KI (Mk step λr hr=>?_);obtain⟨old,x6,rfl,hx6,hol,hob⟩:=hr;refine KJ ?_;refine Km (Yn (VR UY (Qa rfl)) (Qa rfl) rfl) ?_;obtain⟨k2,rfl⟩:∃k:Nat,d2=k:=⟨d2.toNat,by omega⟩
 let tl:List Int:=(dg.drop (3+m)).take k2
 have tll:tl.length=k2:=by show((dg.drop (3+m)).take k2).length=k2;rw[QW,Jk];omega
 have tlb:∀j d,tl[j]?=some d->0<=d/\d<(m:Int):=λj d hj=>by
  have hjl:j<k2:=by have:=(Qg.mp hj).1;omega
  refine hdb (3+m+j) d _ ?_ (Bu (by omega));rw[←hj];show _=((dg.drop (3+m)).take k2)[j]?;rw[List.getElem?_take,Qk hjl,List.getElem?_drop]
 have hcut2:DL.cutD (dg.map int) (some (3+(m:Int))) (some (3+(m:Int)+(k2:Int)))=tl.map int:=by
  rw[Rj (by omega) (by omega) (by omega)];have t1:(3+(m:Int)).toNat=3+m:=by omega
  have t2:(3+(m:Int)+(k2:Int)).toNat-(3+(m:Int)).toNat=k2:=by omega
  rw[t2,t1]
 apply KI;apply ZO (λi Z=>∃(T:List Int)(x8:Option Sl),Z=[pb (Kf cs ls),pb (.int c),pb (.int s),pb (.int m),pb (.list (([3,2,(m:Int)+1]++UA m ((n:Int)+1)).map int)),pb (.list (dg.map int)),x6,some (.own (T.map int)),x8]/\T.length=i/\T.Nodup/\∀a∈T,0<=a/\a<(m:Int))
 case h1=>exact ZH (Vk (UR rfl) (YX (U7 UZ (UR rfl) Zh)) (YX (U7 (U7 UZ (UR rfl) Zh) (K8 rfl UZ i2) Zh)) (by rw[Vs,hcut2])) Yw
 case h0=>exact⟨[],_,rfl,rfl,List.nodup_nil,λ_ h=>by cases h⟩
 case hst=>
  rintro i d Z hi ⟨T,x8,rfl,hT,hTn,hTb⟩;rw[Qe]at hi;cases hw:tl[i]? with
  |none=>rw[hw]at hi;cases hi
  |some z=>
  rw[hw]at hi;cases hi;have hz:=tlb i z hw;have hil:i<k2:=by have:=(Qg.mp hw).1;omega
  obtain⟨zz,rfl⟩:∃k:Nat,z=k:=⟨z.toNat,by omega⟩
  refine⟨_,UX (Qa rfl) rfl,?_⟩;unfold Mr;obtain⟨k,hk,hk1,hk2⟩:=jo (m:=m) (T:=T) zz (by omega) hTn;refine Km (HD (by omega) k 1000 zz hk1 hk2 (by omega) (by omega)) ?_;refine ZM (Wo rfl (UR rfl) rfl (by rw[Qb];omega) rfl) ?_;refine Zg ⟨T++[(((zz+k) % m:Nat):Int)],_,by rw[QB (l₁:=T) (f:=int)];rfl,by rw[Qj,hT];rfl,?_,λa ha=>?_⟩
  ·refine List.nodup_append.mpr ⟨hTn,List.nodup_cons.mpr ⟨(by simp),List.nodup_nil⟩,λa ha b hb e=>?_⟩;rw[Q4.mp hb]at e;exact hk2 (e ▸ ha)
  ·rcases Q0.mp ha with h|h
   ·exact hTb a h
   ·rw[Q4.mp h];have:=Nat.mod_lt (zz+k) (show 0<m by omega);exact⟨by omega,by omega⟩
 case hend=>
  rintro Z ⟨T,x8,rfl,hT,hTn,hTb⟩;refine KJ ?_
  obtain⟨o,ho⟩:∃o:Ord,oIx (.list [.str "firsts", .str "full", .str "lasts"]) (.int d0)=some (.str o.tx):=by
   have:d0=0∨d0=1∨d0=2:=by omega
   rcases this with rfl|rfl|rfl
   ·exact⟨.firsts,Zr (j:=0) rfl⟩
   ·exact⟨.full,Zr (j:=1) rfl⟩
   ·exact⟨.lasts,Zr (j:=2) rfl⟩
  have ga:Zv n m old T:=⟨hol,hob,hTn,hTb⟩;rcases hx6 with rfl|⟨ws,rfl,rfl⟩
  ·exact KH (YA (UT (U7 (Zu (UT UZ (UT UZ (UT UZ UY))) (Qa rfl)) (K8 rfl UZ i0) ho) (UT (UR rfl) (UT (Yo rfl rfl) UY))) (Qa rfl)) ⟨_,rfl,o,_,T,rfl,ga⟩
  ·exact KH (YA (UT (U7 (Zu (UT UZ (UT UZ (UT UZ UY))) (Qa rfl)) (K8 rfl UZ i0) ho) (UT (Yo rfl rfl) (UT (Yo rfl rfl) UY))) (Qa rfl)) ⟨_,rfl,o,some ws,T,rfl,ga⟩
end
theorem Cj{op:Int->Int->Option D}{j:Nat}{f:M D}{Z Z1 Z':UP}{a b:Int}{d:D}(h0:Z[j]?=some (some (.pub (.int a))))(h1:f Z=.ok (.int b) Z1)(h2:op a b=some d)(h3:j<Z1.length)(h4:Z1.set j (some (.pub d))=Z'):Xm op j f Z=.nx Z':=by unfold Xm;rw[h0];dsimp only[sB];rw[h1];dsimp only;rw[h2];dsimp only;rw[Qk h3,h4]
theorem mulN{i j:Int}(h : -1000<j/\j<1000):Yq i j=some (.int (i*j)):=by unfold Yq;exact Qk (.inr ⟨by omega,by omega⟩)
theorem Ri{b n:Int}(hb : -1000<b/\b<1000)(hn : -1000<=n/\n<=1000):Zt [.int b,.int n]=some (.int (b ^ n.toNat)):=by
 refine Zd (Z:=[pb (.int b),pb (.int n),none,none]) rfl ?_;unfold TD;refine Km (KO UZ (Qa rfl) rfl) ?_;apply KI;apply ZO (λi Z=>∃x3,Z=[pb (.int b),pb (.int n),pb (.int (b ^ i)),x3])
 case h1=>exact VU (UT (UR rfl) UY) (VQ (by omega) (by omega))
 case h0=>exact⟨_,by rw[Int.pow_zero];rfl⟩
 case hst=>rintro i d Z hi ⟨x3,rfl⟩;refine⟨_,UX (Qa rfl) rfl,?_⟩;unfold Mu;refine ZM (Cj rfl (UR rfl) (mulN hb) (Qa rfl) rfl) ?_;exact Zg ⟨_,by rw[Int.pow_succ];rfl⟩
 case hend=>
  rintro Z ⟨x3,rfl⟩;refine KJ (KH (UR rfl) ?_);rw[Wv]
  congr 4
  omega
def ZA:Ord->Int->Int->Int->Int
 |.firsts,b,M,r=>b ^ (M-r).toNat
 |.full,b,M,r=>b ^ M.toNat+b ^ (M-r).toNat
 |.lasts,b,M,r=>b ^ M.toNat-b ^ (r-1).toNat
theorem jW(o:Ord){b M r:Int}(hb : -1000<b/\b<1000)(hM:0<=M/\M<=100)(hr:0<=r/\r<=100):WX [.str o.tx,.int b,.int M,.int r]=some (.int (ZA o b M r)):=by
 refine Zd (Z:=[pb (.str o.tx),pb (.int b),pb (.int M),pb (.int r)]) rfl ?_;unfold TC;have p1:Zt [.int b,.int (M-r)]=some (.int (b ^ (M-r).toNat)):=Ri hb ⟨by omega,by omega⟩;have p2:Zt [.int b,.int M]=some (.int (b ^ M.toNat)):=Ri hb ⟨by omega,by omega⟩;have p3:Zt [.int b,.int (r-1)]=some (.int (b ^ (r-1).toNat)):=Ri hb ⟨by omega,by omega⟩;apply KI;apply KF
 case h1=>exact Z6 rfl UZ (F6 o)
 case h2=>
  intro h;cases o with
  |firsts=>exact KH (Kn (UT (UR rfl) (UT (U7 (UR rfl) (UR rfl) YT) UY)) rfl p1) (VP rfl)
  |full=>cases h
  |lasts=>cases h
 case h3=>
  intro h;refine K2 (KJ ?_);apply KI;apply KF
  case h1=>exact Z6 rfl UZ (RX o)
  case h2=>
   intro h';cases o with
   |full=>exact KH (U7 (Kn (UT (UR rfl) (UT (UR rfl) UY)) rfl p2) (Kn (UT (UR rfl) (UT (U7 (UR rfl) (UR rfl) YT) UY)) rfl p1) Zh) (VP rfl)
   |firsts=>cases h
   |lasts=>cases h'
  case h3=>
   intro h';refine K2 (KJ ?_);cases o with
   |firsts=>cases h
   |full=>cases h'
   |lasts=>exact KH (U7 (Kn (UT (UR rfl) (UT (UR rfl) UY)) rfl p2) (Kn (UT (UR rfl) (UT (U7 (UR rfl) UZ YT) UY)) rfl p3) YT) rfl
def Vh(ts:List Int)(b i r:Int):Int:=if i∈ts then(b-r)*b ^ (ts.length-1-ts.idxOf i)else 0
theorem Go{n:Nat}:∀{xs:List D},(∀x∈xs,PyData.weight x<=n)->PyData.weightAll xs<=xs.length*(n+1)
 |[],_=>by simp[PyData.weightAll]
 |x::xs,h=>by have h1:=h x Qo;have h2:=Go (xs:=xs) λy hy=>h y (Ql _ hy);rw[PyData.weightAll,Qv,Nat.succ_mul];omega
theorem jn{i:Int}(h:0<=i/\i<1000):(int i).weight<=10:=by
 simp only[PyData.weight];split
 ·omega
 ·rename_i hne;have h0:i.natAbs≠0:=by intro e;exact hne (by simpa using e)
  have:=(Nat.log2_lt h0 (k:=10)).mpr (by omega);omega
theorem kj{ts:List Int}(h:∀a∈ts,0<=a/\a<1000)(hl:ts.length<=1000):PyData.layable0 (.list (ts.map int))=true:=by
 unfold PyData.layable0;have h1:(UB (ts.map int)).canLay0=true:=Rv λx hx=>by obtain⟨y,_,rfl⟩:=Qu.mp hx;rfl
 have h2:(UB (ts.map int)).depth<=64:=QS (Pb (n:=1) (Ru λx hx=>by obtain⟨y,_,rfl⟩:=Qu.mp hx;exact Mo y)) (by decide)
 have h3:(UB (ts.map int)).weight<=2 ^ 20:=by
  have:=Go (n:=10) (xs:=ts.map int) λx hx=>by obtain⟨y,hy,rfl⟩:=Qu.mp hx;exact jn (h y hy)
  rw[Qb]at this;simp only[PyData.weight];omega
 rw[h1,Q7 h2,Q7 h3];rfl
theorem Br{ts:List Int}{k:Int}(hb:∀a∈ts,0<=a/\a<1000)(hl:ts.length<=1000)(h:k∈ts):Sy (.list (ts.map int)) [.int k]=some (.int (ts.idxOf k:Nat)):=by unfold Sy;dsimp only;rw[V0];dsimp only;exact Qk ⟨kj hb hl,h⟩
theorem Bq{t:Int}{r:List Int}:YZ (.int t) (.list (r.map int))=some (!r.contains t):=by unfold YZ;rw[R9];rfl
theorem jV{ts:List Int}{b i r:Int}(hb : -1000<b/\b<1000)(hr : -1000<r/\r<1000)(hl:ts.length<=100)(ht:∀a∈ts,0<=a/\a<1000):WW [.list (ts.map int),.int b,.int i,.int r]=some (.int (Vh ts b i r)):=by
 refine Zd (Z:=[pb (.list (ts.map int)),pb (.int b),pb (.int i),pb (.int r),none]) rfl ?_;unfold TB Vh;apply KI;apply KF
 case h1=>exact Z6 rfl (UR rfl) Bq
 case h2=>
  intro h;have:¬i∈ts:=by simpa using h
  rw[Qs this];exact KH UZ (VP rfl)
 case h3=>
  intro h;have hm:i∈ts:=by simpa using h
  rw[Qk hm];refine K2 (KJ ?_);have hi:=List.idxOf_lt_length_of_mem hm;have hlen:Kg [.list (ts.map int)]=some (.int ts.length):=by rw[Zw,Qb]
  refine Km (KO (U7 (U7 (Z7 rfl hlen) UZ YT) (C0 (UR rfl) (UT (UR rfl) UY) (Br ht (by omega) hm)) YT) (Qa rfl) rfl) ?_;have hp:=Ri (b:=b) (n:=(ts.length:Int)-1-(ts.idxOf i:Nat)) hb ⟨by omega,by omega⟩;have e:((ts.length:Int)-1-(ts.idxOf i:Nat)).toNat=ts.length-1-ts.idxOf i:=by omega
  rw[e]at hp;exact KH (U7 (U7 (UR rfl) (UR rfl) YT) (Kn (UT (UR rfl) (UT (UR rfl) UY)) rfl hp) (Rw (by omega) (by omega))) rfl
def YO(old:Option LO)(i:Nat)(t:Int):Int:=match old with
 |none=>0
 |some ws=>if ws[i]?=some (some t)then 1 else 0
section
variable{cs:List Int}{ls:L3}{o:Ord}{old:Option LO}{ts:List Int}
def K9(ls:L3)(o:Ord)(old:Option LO)(ts:List Int)(i:Nat)(rs:List (List Int))(t:Int):Int:=
 (ZA o (ls.length+1) (lng ls) (KM t rs)*(ls.length+1)+YO old i t)*((lng ls:Int)+1) ^ ts.length+Vh ts (lng ls+1) i (KM t rs)
theorem Hg{b:Int}(h0:0<=b)(h:b<=8):∀{n k:Nat},n<=k->b ^ n<=8 ^ k:=λ{n k} hk=>by
 have e:b=((b.toNat:Nat):Int):=by omega
 rw[e];have h1:b.toNat ^ n<=8 ^ n:=Nat.pow_le_pow_left (by omega) n;have h2:8 ^ n<=8 ^ k:=Nat.pow_le_pow_right (by omega) hk;have h3:((b.toNat ^ n:Nat):Int)<=((8 ^ k:Nat):Int):=by omega
 rw[Int.natCast_pow,Int.natCast_pow]at h3;exact h3
theorem Ad(g:Good cs ls)(ga:Zv cs.length ls.length old ts){i:Nat}{rs:List (List Int)}(hi:ls[i]?=some rs)(t:Int):X8 [Kf cs ls,KE o old ts,.int (lng ls:Nat),.int i,.int t]=some (.int (K9 ls o old ts i rs t)):=by
 have l7:=g.l7;have l1:=g.l1;have hL:lng ls<=5:=RY l1 λrs h=>(g.rk rs h).few;have hrk:KM t rs<=5:=by have:=Ph t rs;have:=(g.rk rs (Qt hi)).few;omega
 have htl:=ga.few;have hlt:i<ls.length:=(Qg.mp hi).1;refine Zd (Z:=[pb (Kf cs ls),pb (KE o old ts),pb (.int (lng ls:Nat)),pb (.int i),pb (.int t),none,none,none,none,none,none,none,none]) rfl ?_;unfold Tz K9;refine Km (VF (UR rfl) (KB rfl (U5 (UX (Qa rfl) rfl) (U5 (UX (Qa rfl) rfl) (U5 (UX (Qa rfl) rfl) KD))))) ?_;refine Km (KO (K8 rfl UZ Wd) (Qa rfl) rfl) ?_;refine Km (KO (Kn (UT (K8 rfl (UR rfl) (Nr hi)) (UT (UR rfl) UY)) rfl (jr t rs)) (Qa rfl) rfl) ?_;have hll:Kg [.list (ls.map KQ)]=some (.int ls.length):=by rw[Zw,Qb]
 have htl':Kg [.list (ts.map int)]=some (.int ts.length):=by rw[Zw,Qb]
 refine Km (KO (U7 (Z7 rfl hll) UZ Zh) (Qa rfl) rfl) ?_
 have hk:∀Z:UP,Z[6]?=some (some (.pub (ZV old)))->Z[3]?=some (some (.pub (.int i)))->Z[4]?=some (some (.pub (.int t))) ->
   mIf (ZB (U6 (λd=>!isNon d) (UO 6)) (UV oEq (U9 6 (UO 3)) (UO 4))) (UU (int 1)) (UU (.int 0)) Z=.ok (.int (YO old i t)) Z:=λZ r6 r3 r4=>by
  cases old with
  |none=>exact PU (P7 (KS (UR r6))) UZ
  |some ws=>
   have hw:ws.length=ls.length:=ga.len ws rfl;have hwi:ws[i]?=some ws[i]:=Qd (by omega);have hx:oIx (.list (ws.map Kd)) (.int i)=some (Kd ws[i]):=NE (by omega)
   have ht:(ZB (U6 (λd=>!isNon d) (UO 6)) (UV oEq (U9 6 (UO 3)) (UO 4))) Z=.ok (decide (ws[i]=some t)) Z:=
    P6 (KS (UR r6)) (U7 (K8 r6 (UR r3) hx) (UR r4) (PV (b:=some t)))
   rw[Fo ht UZ UZ]
   congr 1
   unfold YO;dsimp only;rw[hwi];by_cases h:ws[i]=some t
   ·rw[Q7 h,Qk rfl,Qk (by rw[h])]
   ·rw[QO h,Qs (by decide),Qs (λe=>h (QP e))]
 refine Km (KO (hk _ rfl rfl rfl) (Qa rfl) rfl) ?_;have h1:=jW o (b:=(ls.length:Int)+1) (M:=(lng ls:Nat)) (r:=(KM t rs:Nat)) ⟨by omega,by omega⟩ ⟨by omega,by omega⟩ ⟨by omega,by omega⟩;have h2:=Ri (b:=(lng ls:Int)+1) (n:=(ts.length:Nat)) ⟨by omega,by omega⟩ ⟨by omega,by omega⟩;have h3:=jV (ts:=ts) (b:=(lng ls:Int)+1) (i:=i) (r:=(KM t rs:Nat)) ⟨by omega,by omega⟩ ⟨by omega,by omega⟩ (by omega) (λa ha=>by have:=ga.there a ha;omega);rw[Qz]at h2;refine Km (KO (U7 (U7 (Kn (UT (UR rfl) (UT (UR rfl) (UT (UR rfl) (UT (UR rfl) UY)))) rfl h1) (UR rfl) (SG (by omega) (by omega))) (UR rfl) Zh) (Qa rfl) rfl) ?_;have hp:((lng ls:Int)+1) ^ ts.length<=8 ^ 7:=Hg (by omega) (by omega) (by omega);have hp0:0<=((lng ls:Int)+1) ^ ts.length:=Int.pow_nonneg (by omega);exact KH (U7 (U7 (UR rfl) (Kn (UT (U7 (UR rfl) UZ Zh) (UT (Z7 rfl htl') UY)) rfl h2) (SG (by omega) (by omega))) (Kn (UT (UR rfl) (UT (U7 (UR rfl) UZ Zh) (UT (UR rfl) (UT (UR rfl) UY)))) rfl h3) Zh) rfl
end
theorem Rs{s:D->UP->Option UP}{t:M Bool}{g:M D}(I:UP->Prop):∀(ds:List D)(qs:List (Option D))(Z:UP)(es:List D),qs.length=ds.length ->
  (∀(i:Nat) d e,ds[i]?=some d->qs[i]?=some e->∀Z,I Z->∃Z1,s d Z=some Z1/\t Z1=.ok e.isSome Z1/\(∀x,e=some x->g Z1=.ok x Z1)/\I (Kq Z1))->I Z->es.length+ds.length<=1000000->Ze s t g ds Z es=some (es++qs.filterMap id)
 |[],[],Z,es,_,_,_,_=>by rw[Ze];simp
 |d::r,e::q,Z,es,hl,st,h0,hz=>by
  obtain⟨Z1,e1,e2,e3,h1⟩:=st 0 d e rfl rfl Z h0;rw[Qv]at hz;have ih:=λes' hz'=>Rs I r q (Kq Z1) es' (by simpa using hl) (λi d' e' x y=>st (i+1) d' e' (by simpa using x) (by simpa using y)) h1 hz'
  rw[Ze,e1];dsimp only;rw[e2];dsimp only;cases e with
  |none=>rw[if_neg (show ¬(none:Option D).isSome=true by simp),ih es (by omega)];rfl
  |some x=>rw[Qk (show(some x).isSome=true from rfl),e3 x rfl];dsimp only;rw[Qk (by omega),ih (es++[x]) (by rw[Qj,Q9];omega),Jg];rfl
def Ky(W:Nat->List (List Int)->Int->Int):Nat->L3->LO->LO
 |k,rs::ls,o::r=>(o.map (W k rs))::Ky W (k+1) ls r
 |_,_,_=>[]
def KG(l:LO):Int:=(l.filterMap id).sum
theorem VZ{o:Option Int}{l:LO}:KG (o::l)=o.getD 0+KG l:=by
 cases o with
 |none=>show KG l=0+KG l;omega
 |some x=>show(x::l.filterMap id).sum=_;rw[Jc];rfl
section
variable{cs:List Int}{ls:L3}{o:Ord}{old:Option LO}{ts:List Int}{ws:LO}
def Zn(ls:L3)(o:Ord)(old:Option LO)(ts:List Int)(a t:Int):Int:=K9 ls o old ts a.toNat (ls.getD a.toNat []) t
def Zj(V:Int->Int->Int)(q:Int×Int):D:=.tuple [.int q.1,.int q.2,.int (V q.1 q.2)]
theorem kz(g:Good cs ls)(ga:Zv cs.length ls.length old ts):WV [Kf cs ls,KE o old ts]=some (.list ((KL 0 ls).map (Zj (Zn ls o old ts)))):=by
 refine Zd (Z:=[pb (Kf cs ls),pb (KE o old ts),none]) rfl ?_;unfold Tx;refine Km (Vo (Kn (UT (UR rfl) (UT (UR rfl) UY)) rfl (F5 g ga))) ?_;refine Km (KO (Kn (UT (UR rfl) UY) rfl (jq g)) (Qa rfl) rfl) ?_;have few:(KL 0 ls).length<=42:=by rw[(Rt ls 0).length_eq];exact Pa g
 have hc:Ze (gT 2 (gNC (gN 3) (gNC (gN 4) (gN0)))) (UU true) (Kx (US (UO 3) (US (UO 4) (US (U0 5 X8 (US (UO 0) (US (UO 1) (US (UO 2) (US (UO 3) (US (UO 4) (UQ))))))) (UQ))))) ((KL 0 ls).map KR) (Kq [pb (Kf cs ls),pb (KE o old ts),pb (.int (lng ls:Nat))]++UA 2 none) []=some ((KL 0 ls).map (Zj (Zn ls o old ts))):=by
  refine XM (λZ=>∃x y,Z=[pb (Kf cs ls),pb (KE o old ts),pb (.int (lng ls:Nat)),x,y]) _ _ _ _ (by simp only[Qb]) ?_ ⟨none,none,rfl⟩ (by rw[Qb,QN];omega);rintro i d e hd he Z ⟨x,y,rfl⟩;rw[Qe]at hd he;cases hw:(KL 0 ls)[i]? with
  |none=>rw[hw]at hd;cases hd
  |some q=>
  rw[hw]at hd he;cases hd;cases he;obtain⟨a,t⟩:=q;obtain⟨j,rs,hj,ha,ht⟩:=Vw (Qt hw);have ha:a=(j:Int):=by rw[Q3]at ha;exact ha
  subst ha;have hv:Zn ls o old ts j t=K9 ls o old ts j rs t:=by unfold Zn;rw[Qz,Qh,hj];rfl
  refine⟨_,KB rfl (U5 (UX (Qa rfl) rfl) (U5 (UX (Qa rfl) rfl) KD)),rfl,?_,_,_,rfl⟩;unfold Zj;dsimp only;rw[hv];exact YA (UT (UR rfl) (UT (UR rfl) (UT (Kn (UT (UR rfl) (UT (UR rfl) (UT (UR rfl) (UT (UR rfl) (UT (UR rfl) UY))))) rfl (Ad g ga hj t)) UY))) (Qa rfl)
 exact KH (KS (YC (ZH (Kn (UT (UR rfl) UY) rfl (kB g)) Yw) hc)) rfl
end
theorem LF{n:Nat}:ixN (n+1) (-1)=some n:=by
 unfold ixN;rw[Qs (by omega),Qk (by omega)]
 congr 1
 omega
theorem Ci{op:Int->Int->Option D}{j:Nat}{f g:M D}{Z Z':UP}{xs:List Int}{p:Nat}{k d b:Int}(h0:Z[j]?=some (some (.own (xs.map int))))(h1:g Z=.ok (.int k) Z)(hk:ixN xs.length k=some p)(h4:f Z=.ok (.int b) Z)(h5:∀a,op a b=some (.int (a+d)))
  (h8:Z.set j (some (.own ((XE xs p d).map int)))=Z'):Vd op j g f Z=.nx Z':=by
 have hp:=(Og hk).2.1;refine MK (n:=p) h0 h1 h0 (a:=xs.getD p 0) ?_ h4 (h5 _) h0 (by rw[Qb];exact hk) ?_
 ·unfold atI;rw[Qb,hk]
  show(xs.map int)[p]?=_
  rw[List.getElem?_map,List.getElem?_eq_getElem hp];simp[List.getD,List.getElem?_eq_getElem hp]
 ·rw[←h8,Lg];rfl
section
variable{cs:List Int}{ls:L3}{ws:LO}
theorem Gu(g:Good cs ls):Xx [Kf cs ls]=some (.int (lng ls:Nat)):=by
 refine Zd (Z:=[pb (Kf cs ls)]) rfl ?_;unfold Td
 have hc:Ze (gN 1) (UU true) (Zq 1) (ls.map KQ) (Kq [pb (Kf cs ls)]++UA 1 none) []=some ((ls.map λrs=>(rs.length:Int)).map int):=by
  refine XM (λZ=>∃x,Z=[pb (Kf cs ls),x]) _ _ _ _ (by rw[Qb,Qb,Qb]) ?_ ⟨none,rfl⟩ (by rw[Qb,QN];have:=g.l7;omega);rintro i d e hd he Z ⟨x,rfl⟩;rw[Qe]at hd;rw[Qe,Qe]at he;cases hl:ls[i]? with
  |none=>rw[hl]at hd;cases hd
  |some rs=>
  rw[hl]at hd he;cases hd;cases he;exact⟨_,UX (Qa rfl) rfl,rfl,Z7 rfl (Hj rs),_,rfl⟩
 refine KH (ZN (UT (KS (YC (ZH (K8 rfl UZ Wd) Yw) hc)) UY) (Li (by rw[Qb];have:=g.l1;omega))) ?_;rw[On g.l1]
theorem HI{i:Nat}{rs:List (List Int)}(h:ls[i]?=some rs)(t:Int):Xy [Kf cs ls,.int i,.int t]=some (.int (KM t rs:Nat)):=by
 refine Zd (Z:=[pb (Kf cs ls),pb (.int i),pb (.int t),none,none]) rfl ?_;unfold Te;apply KI;apply ZO (λi' Z=>(∃x2 x3,Z=[pb (Kf cs ls),pb (.int i),pb (.int t),x2,x3])/\∀j r,j<i'->rs[j]?=some r->r.contains t=false)
 case h1=>exact XN (UT (U7 (K8 rfl UZ Wd) (UR rfl) (Nr h)) UY) XH
 case h0=>exact⟨⟨_,_,rfl⟩,λj r h=>absurd h (J8 _)⟩
 case hst=>
  rintro k d Z hi ⟨⟨x2,x3,rfl⟩,hb⟩;obtain⟨x,hx,rfl⟩:=Xd hi;rw[Qe]at hx;cases hr:rs[k]? with
  |none=>rw[hr]at hx;cases hx
  |some r=>
   rw[hr]at hx;cases hx;refine⟨_,KB rfl (U5 (UX (Qa rfl) rfl) (U5 (UX (Qa rfl) rfl) KD)),?_⟩;unfold MJ;apply KF
   case h1=>exact Z6 rfl (UR rfl) (Op t r)
   case h2=>
    intro hh;refine KH (U7 (UR rfl) UZ Zh) (Rk ?_);rw[Hl hr hh hb];refine⟨?_⟩
    congr 2
    omega
   case h3=>
    intro hh;refine K2 (Zg ⟨⟨_,_,rfl⟩,λj r' hj e=>?_⟩);rcases JT.mp hj with hj|rfl
    ·exact hb j r' hj e
    ·rw[hr]at e;cases e;exact hh
 case hend=>rintro Z ⟨⟨x2,x3,rfl⟩,hb⟩;refine KJ (KH UZ ?_);rw[Hk (λj r hj e=>hb j r (by rw[YB,Qb];exact hj) e)];rfl
def Kl(n:Nat)(qs:List Nat):List Int:=(Uz n).map λp=>((qs.count p:Nat):Int)
theorem YI(n:Nat)(qs:List Nat):(Kl n qs).length=n:=by unfold Kl;rw[Qb,Qr]
theorem VN{n p:Nat}{qs:List Nat}(h:p<n):(Kl n qs)[p]?=some ((qs.count p:Nat):Int):=by unfold Kl;rw[Qe,QZ h];rfl
theorem LD(n:Nat):Kl n []=UA n 0:=by unfold Kl;rw[List.eq_replicate_iff];exact⟨by rw[Qb,Qr],λb hb=>by obtain⟨p,_,rfl⟩:=Qu.mp hb;rfl⟩
theorem Hf{n p:Nat}{qs:List Nat}:XE (Kl n qs) p 1=Kl n (qs++[p]):=by
 apply Jr;intro k;by_cases hk:k<n
 ·rw[Hi (VN hk),VN hk,List.count_append]
  congr 1
  by_cases e:k=p
  ·rw[Qk e,e,List.count_singleton_self];omega
  ·rw[Qs e,List.count_singleton];have:(p==k)=false:=by rw[beq_eq_false_iff_ne];exact λz=>e z.symm
   rw[this];show _=(((_+0:Nat)):Int);omega
 ·rw[QC (by rw[OY,YI];omega),QC (by rw[YI];omega)]
theorem Ac{L:Nat}{got:List Int}(h:okR L got):Kl (L+1) (got.map (plc L))=Kh L got:=by
 apply Jr;intro k;by_cases hk:k<L+1
 ·rw[VN hk,Bw h hk]
 ·rw[QC (by rw[YI];omega),QC (by rw[Xk];omega)]
theorem OQ(hl:ws.length=ls.length):(U1 ls ws).length=ls.length:=by unfold U1;rw[List.length_zipWith];omega
theorem Nk(g:Good cs ls)(dl:Deal cs ls ws):Y6 [Kf cs ls,Ki ws]=some (.list ((Kh (lng ls) (U1 ls ws)).map int)):=by
 have hL:lng ls<=5:=RY g.l1 λrs h=>(g.rk rs h).few;have l7:=g.l7;refine Zd (Z:=[pb (Kf cs ls),pb (Ki ws),none,none,none]) rfl ?_;unfold Ta;have hadd:U4 (.int (lng ls:Nat)) (.int 1)=some (.int ((lng ls+1:Nat):Int)):=by rw[Zh];rfl
 refine Km (Yn (Ov (n:=lng ls+1) (Zu (UT UZ UY) (Qa rfl)) (U7 (Kn (UT (UR rfl) UY) rfl (Gu g)) UZ hadd) (by omega)) (Qa rfl) rfl) ?_;apply KI;apply ZO (λi Z=>∃x3 x4,Z=[pb (Kf cs ls),pb (Ki ws),some (.own ((Kl (lng ls+1) (((U1 ls ws).take i).map (plc (lng ls)))).map int)),x3,x4])
 case h1=>exact XN (UT (UR rfl) UY) XH
 case h0=>exact⟨_,_,by rw[JV,JZ,LD,JO];rfl⟩
 case hst=>
  rintro i d Z hi ⟨x3,x4,rfl⟩;obtain⟨z,hz,rfl⟩:=Xd hi;rw[Qe]at hz;cases hwi:ws[i]? with
  |none=>rw[hwi]at hz;cases hz
  |some o=>
  rw[hwi]at hz;cases hz;have hil:i<ls.length:=by have:=(Qg.mp hwi).1;have:=dl.len;omega
  have hls:ls[i]?=some ls[i]:=Qd hil;have hg:=LJ hls hwi;have hnext:(((U1 ls ws).take (i+1)).map (plc (lng ls)))=((U1 ls ws).take i).map (plc (lng ls))++[plc (lng ls) (rg ls[i] o)]:=by rw[JH,hg,QB];rfl
  rw[Q3];refine⟨_,KB rfl (U5 (UX (Qa rfl) rfl) (U5 (UX (Qa rfl) rfl) KD)),?_⟩;unfold MI;generalize ((U1 ls ws).take i).map (plc (lng ls))=qs at hnext⊢;cases o with
  |none=>
   apply KF
   case h1=>exact KS (k:=isNon) (x:=PyData.none) (UR rfl)
   case h3=>intro h;cases h
   case h2=>intro _;have e:plc (lng ls) (rg ls[i] none)=lng ls:=rfl;refine ZM (Ci (p:=lng ls) (k:=-1) rfl (VG UZ) (by rw[YI];exact LF) UZ (d:=1) (λa=>rfl) rfl) ?_;refine Zg ⟨some (.pub (.int i)),some (.pub .none),?_⟩;rw[hnext,e,←Hf];rfl
  |some t=>
   apply KF
   case h1=>exact KS (k:=isNon) (x:=int t) (UR rfl)
   case h2=>intro h;cases h
   case h3=>
    intro _;have hr:=Ro (dl.wish i t ls[i] hwi hls);have hle:=Ph t ls[i];have hlg:=PX (Qt hls);have e:plc (lng ls) (rg ls[i] (some t))=KM t ls[i]-1:=by show plc (lng ls) ((KM t ls[i]:Nat):Int)=_;unfold plc;rw[Qs (by omega)];omega
    have hsub:K3 (.int (KM t ls[i]:Nat)) (.int 1)=some (.int ((KM t ls[i]-1:Nat):Int)):=by rw[YT];congr 2;omega
    refine ZM (Cm (p:=KM t ls[i]-1) rfl (U7 (Kn (UT (UR rfl) (UT (UR rfl) (UT (UR rfl) UY))) rfl (HI hls t)) UZ hsub) (by rw[YI];omega) UZ (d:=1) (λa=>rfl) rfl) ?_;refine Zg ⟨some (.pub (.int i)),pb (.int t),?_⟩;rw[hnext,e,←Hf];rfl
 case hend=>rintro Z ⟨x3,x4,rfl⟩;refine KJ (KH (Yo rfl rfl) ?_);rw[YB,Qb,List.take_of_length_le (by rw[OQ dl.len];have:=dl.len;omega),Ac Rb]
end
section
variable{cs:List Int}{ls:L3}{ws us:LO}
theorem ix_c{t:Int}(h0:0<=t)(h:t<cs.length):oIx (.list (cs.map int)) (.int t)=some (.int (cs.getD t.toNat 0)):=by
 have e:t=((t.toNat:Nat):Int):=by omega
 rw[e];refine Zr ?_;rw[Qe,Qd (by omega),Qh,Qz,Qd (by omega)];rfl
theorem jm{t:Int}{fl:List Int}:YZ (.int t) (.list ((YQ fl).map int))=some (!fl.contains t):=by
 have e:(YQ fl).contains t=fl.contains t:=by rw[JD];simp only[List.contains_iff_mem];exact(Vr fl).mem_iff
 unfold YZ;rw[R9,e];rfl
theorem kx(i:Int):WJ [.int i]=some (.bool true):=by refine Zd (Z:=[pb (.int i)]) rfl ?_;unfold V9;exact KH (R3 (KS (k:=λd=>UC (KP d "int")) (UR rfl)) (λ_=>Mn (KS (k:=λd=>UC (KP d "bool")) (UR rfl)))) rfl
end
theorem PN(o:Ord):oEq (.str o.tx) (.str "lasts")=some (match o with | .lasts=>true|_=>false):=by cases o<;>decide +kernel
def ZL(c:List Int):Int:=c.getD (c.length-1) 0
def Zz:Ord->List Int->List Int
 |.firsts,c=>c
 |.full,c=>(0-ZL c)::c
 |.lasts,c=>c.reverse.map λx=>0-x
def KY(old:Option LO)(ws:LO):Nat:=match old with
 |none=>0
 |some os=>((os.zip ws).filter λp=>decide (p.1=p.2)&&p.2.isSome).length
def KW(ls:L3)(ws:LO)(a:Int):Int:=match ws.getD a.toNat none with
 |none=>0
 |some t=>(lng ls:Int)+1-(KM t (ls.getD a.toNat []):Nat)
theorem Bp{c:List Int}(h:c≠[]):oIx (.list (c.map int)) (.int (-1))=some (.int (ZL c)):=by
 have hl:0<c.length:=Uf.mpr h;show atI (c.map int) (-1)=_;obtain⟨n,hn⟩:∃n,c.length=n+1:=⟨c.length-1,by omega⟩
 unfold atI;rw[Qb,hn,LF]
 show(c.map int)[n]?=_
 unfold ZL;rw[Qe,hn,Nat.add_sub_cancel,Qh,Qd (by omega)];rfl
theorem Ab(os ws:LO):Yx (os.map Kd) (ws.map Kd)=(os.zip ws).map λp=>.tuple [Kd p.1,Kd p.2]:=by unfold Yx;rw[List.zip_map,Ja];rfl
theorem Ma{α β:Type}{l:List α}{p:α->Bool}{f:α->β}:(l.map λx=>if p x=true then some (f x)else none).filterMap id=(l.filter p).map f:=by
 induction l with
 |nil=>rfl
 |cons x r ih=>
  rw[Qq];by_cases h:p x=true
  ·rw[Qk h,List.filter_cons_of_pos h,Qq,←ih];rfl
  ·rw[Qs h,List.filter_cons_of_neg h,←ih];rfl
section
variable{cs:List Int}{ls:L3}{ws:LO}{o:Ord}{old:Option LO}{ts:List Int}
theorem Bo(g:Good cs ls):(Kh (lng ls) (U1 ls ws)).length<=6:=by have hL:lng ls<=5:=RY g.l1 λrs h=>(g.rk rs h).few;rw[Xk];omega
theorem He(g:Good cs ls)(dl:Deal cs ls ws)(ga:Zv cs.length ls.length old ts){K6:List Int}{k7:Int}{x6 x8 x10 x11:Option Sl}{x3 x4:Option Sl}(h6:x6=some (.pub (.list (K6.map int)))∨x6=some (.own (K6.map int)))(hK:K6.length<=100) :
  Ho (UW (Kw (K7 (UO 5)) (gN 10) Pe) (U3 (UV U4 (UV U4 (UO 6) (Kr (US (UO 7) (UQ)))) (UO 9))))
   [pb (Kf cs ls),pb (KE o old ts),pb (Ki ws),x3,x4,pb (.list (ts.map int)),x6,pb (.int k7),x8,some (.own []),x10,x11] (λr=>r=Out.rt (.list ((K6++[k7]++ts.map (KW ls ws)).map int))):=by
 have l7:=g.l7;have few:=ga.few;apply KI;apply ZO (λi Z=>∃y10 y11,Z=[pb (Kf cs ls),pb (KE o old ts),pb (Ki ws),x3,x4,pb (.list (ts.map int)),x6,pb (.int k7),x8,some (.own (((ts.take i).map (KW ls ws)).map int)),y10,y11])
 case h1=>exact ZH (UR rfl) Yw
 case h0=>exact⟨_,_,rfl⟩
 case hst=>
  rintro i d Z hi ⟨y10,y11,rfl⟩;rw[Qe]at hi;cases hti:ts[i]? with
  |none=>rw[hti]at hi;cases hi
  |some z=>
  rw[hti]at hi;cases hi;have hz:=ga.there z (Qt hti);obtain⟨a,rfl⟩:∃a:Nat,z=a:=⟨z.toNat,by omega⟩
  have hal:a<ls.length:=by omega
  have hls:ls[a]?=some ls[a]:=Qd hal;have hwl:a<ws.length:=by have:=dl.len;omega
  have hwa:ws[a]?=some ws[a]:=Qd hwl;have hix:oIx (Ki ws) (.int a)=some (Kd ws[a]):=NE hwl;have hwd:ws.getD a none=ws[a]:=by rw[Qh,hwa];rfl
  have hld:ls.getD a []=ls[a]:=by rw[Qh,hls];rfl
  have hnext:((ts.take (i+1)).map (KW ls ws))=(ts.take i).map (KW ls ws)++[KW ls ws a]:=by rw[JH,hti,QB];rfl
  have htl:(((ts.take i).map (KW ls ws)).map int).length<1000000:=by rw[Qb,Qb,QW];omega
  have htr:KW ls ws a=match ws[a]with|none=>0|some t=>(lng ls:Int)+1-(KM t ls[a]:Nat):=by unfold KW;rw[Qz,hwd,hld]
  refine⟨_,UX (Qa rfl) rfl,?_⟩;unfold Pe;refine Km (KO UZ (Qa rfl) rfl) ?_;rw[hnext,QB];generalize ((ts.take i).map (KW ls ws)).map int=T at htl⊢;generalize hwo:ws[a]=w at hix htr;cases w with
  |none=>
   apply KI;apply KF
   case h1=>exact KS (k:=λd=>!isNon d) (x:=PyData.none) (K8 rfl (UR rfl) hix)
   case h2=>intro h;cases h
   case h3=>intro _;refine K2 (KJ ?_);refine ZM (Wo rfl (UR rfl) rfl htl rfl) ?_;rw[htr];exact Zg ⟨_,_,rfl⟩
  |some t=>
   apply KI;apply KF
   case h1=>exact KS (k:=λd=>!isNon d) (x:=int t) (K8 rfl (UR rfl) hix)
   case h2=>intro _;refine ZM (KO (U7 (U7 (Kn (UT (UR rfl) UY) rfl (Gu g)) UZ Zh) (Kn (UT (UR rfl) (UT (UR rfl) (UT (K8 rfl (UR rfl) hix) UY))) rfl (HI hls t)) YT) (Qa rfl) rfl) ?_;refine KJ ?_;refine ZM (Wo rfl (UR rfl) rfl htl rfl) ?_;rw[htr];exact Zg ⟨_,_,rfl⟩
   case h3=>intro h;cases h
 case hend=>
  rintro Z ⟨y10,y11,rfl⟩;rw[Qb,JN];refine KJ ?_;have e1:U4 (.list (K6.map int)) (.list [.int k7])=some (.list ((K6++[k7]).map int)):=by rw[XI (by rw[Qb];show _+1<=_;omega),QB];rfl
  have e2:U4 (.list ((K6++[k7]).map int)) (.list ((ts.map (KW ls ws)).map int))=some (.list ((K6++[k7]++ts.map (KW ls ws)).map int)):=by rw[XI (by rw[Qb,Qb,Qb,Qj];show _+1+_<=_;omega),←QB]
  rcases h6 with rfl|rfl
  ·exact KH (U7 (U7 (UR rfl) (Zu (UT (UR rfl) UY) (Qa rfl)) e1) (Yo rfl rfl) e2) rfl
  ·exact KH (U7 (U7 (Yo rfl rfl) (Zu (UT (UR rfl) UY) (Qa rfl)) e1) (Yo rfl rfl) e2) rfl
theorem OP(g:Good cs ls)(dl:Deal cs ls ws)(ga:Zv cs.length ls.length old ts){K6:List Int}{x3 x6 x7 x8 x9 x10 x11:Option Sl}(h6:x6=some (.pub (.list (K6.map int)))∨x6=some (.own (K6.map int)))(hK:K6.length<=100) :
  Ho (UW (U8 7 (UU (.int 0)))
 (UW (sIf (U6 (λd=>!isNon d) (UO 4))
 (UW (Za 8 (ZG (X2 (US (UO 4) (US (UO 2) (UQ)))) 2 (gT 2 (gNC (gN 12) (gNC (gN 13) (gN0)))) (Zl oEq 12 (UO 13)) (UO 13)))
 (U8 7 (Zm Kg (US (U6 UB (ZG (K7 (UO 8)) 1 (gN 12) (U6 (λd=>!isNon d) (UO 12)) (UO 12))) (UQ)))))
 (sNx))
 (UW (Za 9 (Kc (UQ) λxs=>if xs.length<=1000000 then UU xs else λ_=>.bad))
 (UW (Kw (K7 (UO 5)) (gN 10) Pe)
 (U3 (UV U4 (UV U4 (UO 6) (Kr (US (UO 7) (UQ)))) (UO 9)))))))
   [pb (Kf cs ls),pb (KE o old ts),pb (Ki ws),x3,pb (ZV old),pb (.list (ts.map int)),x6,x7,x8,x9,x10,x11] (λr=>r=Out.rt (.list ((K6++[(KY old ws:Int)]++ts.map (KW ls ws)).map int))):=by
 have l7:=g.l7;have len:=dl.len;refine Km (KO UZ (Qa rfl) rfl) ?_;apply KI;cases old with
 |none=>
  apply KF
  case h1=>exact KS (k:=λd=>!isNon d) (x:=PyData.none) (UR rfl)
  case h2=>intro h;cases h
  case h3=>intro _;refine K2 (KJ ?_);refine Km (Yn (VR UY (Qa rfl)) (Qa rfl) rfl) ?_;exact He g dl ga h6 hK
 |some os=>
  have hos:os.length=ls.length:=ga.len os rfl;have hzl:(os.zip ws).length<=7:=by rw[JK];omega
  apply KF
  case h1=>exact KS (k:=λd=>!isNon d) (x:=Ki os) (UR rfl)
  case h3=>intro h;cases h
  case h2=>
   intro _
   let same:LO:=((os.zip ws).filter λp=>decide (p.1=p.2)).map λp=>p.2
   have hc:Ze (gT 2 (gNC (gN 12) (gNC (gN 13) (gN0)))) (Zl oEq 12 (UO 13)) (UO 13) (Yx (os.map Kd) (ws.map Kd)) (Kq [pb (Kf cs ls),pb (KE o (some os) ts),pb (Ki ws),x3,pb (ZV (some os)),pb (.list (ts.map int)),x6,pb (.int 0),x8,x9,x10,x11]++UA 2 none) []=some (same.map Kd):=by
    have hsm:same.map Kd=((os.zip ws).map λp=>if decide (p.1=p.2)=true then some (Kd p.2)else none).filterMap id:=by rw[Ma];show(List.map _ _).map Kd=_;rw[Ja];rfl
    rw[Ab,hsm];refine Rs (λZ=>∃y3 y6 y8 y9 y10 y11 x y,Z=[pb (Kf cs ls),pb (KE o (some os) ts),pb (Ki ws),y3,pb (ZV (some os)),pb (.list (ts.map int)),y6,pb (.int 0),y8,y9,y10,y11,x,y]) _ _ _ _ (by rw[Qb,Qb]) ?_ ⟨_,_,_,_,_,_,none,none,rfl⟩ (by rw[Qb,QN];omega);rintro i d e hd he Z ⟨y3,y6,y8,y9,y10,y11,x,y,rfl⟩;rw[Qe]at hd he;cases hq:(os.zip ws)[i]? with
    |none=>rw[hq]at hd;cases hd
    |some q=>
    rw[hq]at hd he;cases hd;cases he;refine⟨_,KB rfl (U5 (UX (Qa rfl) rfl) (U5 (UX (Qa rfl) rfl) KD)),?_,?_,_,_,_,_,_,_,_,_,rfl⟩
    ·have e:(if decide (q.1=q.2)=true then some (Kd q.2)else none).isSome=decide (q.1=q.2):=by
      by_cases h:q.1=q.2
      ·rw[Q7 h];rfl
      ·rw[QO h];rfl
     rw[e];exact Z6 rfl (UR rfl) PV
    ·intro v hv;dsimp only at hv;split at hv
     ·cases hv;exact UR rfl
     ·cases hv
   refine Km (Yn (YC (Fz (UT (UR rfl) (UT (UR rfl) UY)) rfl) hc) (Qa rfl) rfl) ?_;have hsl:same.length<=7:=by show(List.map _ _).length<=7;rw[Qb];exact QS (List.length_filter_le _ _) hzl
   have hc2:Ze (gN 12) (U6 (λd=>!isNon d) (UO 12)) (UO 12) (same.map Kd) (Kq [pb (Kf cs ls),pb (KE o (some os) ts),pb (Ki ws),x3,pb (ZV (some os)),pb (.list (ts.map int)),x6,pb (.int 0),pb (.list (same.map Kd)),x9,x10,x11]++UA 1 none) []=some ((same.filter Option.isSome).map Kd):=by
    rw[←Ma];refine Rs (λZ=>∃y3 y6 y8 y9 y10 y11 x,Z=[pb (Kf cs ls),pb (KE o (some os) ts),pb (Ki ws),y3,pb (ZV (some os)),pb (.list (ts.map int)),y6,pb (.int 0),y8,y9,y10,y11,x]) _ _ _ _ (by simp only[Qb]) ?_ ⟨_,_,_,_,_,_,none,rfl⟩ (by rw[Qb,QN];omega);rintro i d e hd he Z ⟨y3,y6,y8,y9,y10,y11,x,rfl⟩;rw[Qe]at hd he;cases hq:same[i]? with
    |none=>rw[hq]at hd;cases hd
    |some q=>
    rw[hq]at hd he;cases hd;cases he;refine⟨_,UX (Qa rfl) rfl,?_,?_,_,_,_,_,_,_,_,rfl⟩
    ·cases q with
     |none=>exact KS (k:=λd=>!isNon d) (x:=PyData.none) (UR rfl)
     |some t=>exact KS (k:=λd=>!isNon d) (x:=int t) (UR rfl)
    ·intro v hv;dsimp only at hv;split at hv
     ·cases hv;exact UR rfl
     ·cases hv
   have hln:Kg [.list ((same.filter Option.isSome).map Kd)]=some (.int (KY (some os) ws:Nat)):=by
    rw[Zw,Qb]
    congr 3
    show((List.map _ _).filter _).length=_
    unfold KY;dsimp only;rw[List.filter_map,Qb,List.filter_filter]
    congr 1
    apply List.filter_congr;intro p _
    show(p.2.isSome&&decide (p.1=p.2))=_
    rw[Bool.and_comm]
   refine ZM (KO (ZN (UT (KS (YC (ZH (Yo rfl rfl) Yw) hc2)) UY) hln) (Qa rfl) rfl) ?_;refine KJ ?_;refine Km (Yn (VR UY (Qa rfl)) (Qa rfl) rfl) ?_;exact He g dl ga h6 hK
theorem RW(g:Good cs ls)(dl:Deal cs ls ws)(ga:Zv cs.length ls.length old ts):Y5 [Kf cs ls,KE o old ts,Ki ws]=some (.list ((Zz o (Kh (lng ls) (U1 ls ws))++[(KY old ws:Int)]++ts.map (KW ls ws)).map int)):=by
 refine Zd (Z:=[pb (Kf cs ls),pb (KE o old ts),pb (Ki ws),none,none,none,none,none,none,none,none,none]) rfl ?_;unfold V7;have few:(Kh (lng ls) (U1 ls ws)).length<=6:=Bo g;have hne:Kh (lng ls) (U1 ls ws)≠[]:=λe=>by have:=Xk (lng ls) (U1 ls ws);rw[e]at this;cases this
 refine Km (VF (UR rfl) (KB rfl (U5 (UX (Qa rfl) rfl) (U5 (UX (Qa rfl) rfl) (U5 (UX (Qa rfl) rfl) KD))))) ?_;refine Km (KO (Kn (UT (UR rfl) (UT (UR rfl) UY)) rfl (Nk g dl)) (Qa rfl) rfl) ?_;generalize Kh (lng ls) (U1 ls ws)=c at few hne;cases o with
 |firsts=>
  apply KI;apply KF
  case h1=>exact Z6 rfl UZ (RX .firsts)
  case h2=>intro h;cases h
  case h3=>
   intro _;refine K2 (KJ ?_);apply KI;apply KF
   case h1=>exact Z6 rfl UZ (PN .firsts)
   case h2=>intro h;cases h
   case h3=>exact λ_=>K2 (KJ (OP g dl ga (K6:=c) (.inl rfl) (by omega)))
 |full=>
  apply KI;apply KF
  case h1=>exact Z6 rfl UZ (RX .full)
  case h3=>intro h;cases h
  case h2=>
   intro _;have e:U4 (.list [.int (0-ZL c)]) (.list (c.map int))=some (.list (((0-ZL c)::c).map int)):=by rw[XI (by rw[Qb];show 1+_<=_;omega)];rfl
   refine ZM (KO (U7 (Zu (UT (U7 UZ (K8 rfl (VG UZ) (Bp hne)) YT) UY) (Qa rfl)) (UR rfl) e) (Qa rfl) rfl) ?_;refine KJ ?_;apply KI;apply KF
   case h1=>exact Z6 rfl UZ (PN .full)
   case h2=>intro h;cases h
   case h3=>exact λ_=>K2 (KJ (OP g dl ga (K6:=(0-ZL c)::c) (.inl rfl) (by rw[Qv];omega)))
 |lasts=>
  apply KI;apply KF
  case h1=>exact Z6 rfl UZ (RX .lasts)
  case h2=>intro h;cases h
  case h3=>
   intro _;refine K2 (KJ ?_);apply KI;apply KF
   case h1=>exact Z6 rfl UZ (PN .lasts)
   case h3=>intro h;cases h
   case h2=>
    intro _
    have hc:∀x7 x8 x9 x10 x11:Option Sl,Ze (gN 12) (UU true) (UV K3 (UU (.int 0)) (UO 12)) (c.map int).reverse (Kq [pb (Kf cs ls),pb (KE .lasts old ts),pb (Ki ws),pb (.str Ord.lasts.tx),pb (ZV old),pb (.list (ts.map int)),pb (.list (c.map int)),none,none,none,none,none]++UA 1 none) []=some ((c.reverse.map λx=>0-x).map int):=λx7 x8 x9 x10 x11=>by
     rw[←List.map_reverse];refine XM (λZ=>∃x,Z=[pb (Kf cs ls),pb (KE .lasts old ts),pb (Ki ws),pb (.str Ord.lasts.tx),pb (ZV old),pb (.list (ts.map int)),pb (.list (c.map int)),none,none,none,none,none,x]) _ _ _ _ (by simp only[Qb]) ?_ ⟨none,rfl⟩ (by rw[Qb,QN,Jb];omega);rintro i d e hd he Z ⟨x,rfl⟩;rw[Qe]at hd;rw[Qe,Qe]at he;cases hq:c.reverse[i]? with
     |none=>rw[hq]at hd;cases hd
     |some q=>
     rw[hq]at hd he;cases hd;cases he;exact⟨_,UX (Qa rfl) rfl,rfl,U7 UZ (UR rfl) YT,_,rfl⟩
    refine ZM (Yn (YC (ZH (NI (UR rfl) UZ UZ (YX (VG UZ))) Yw) (hc none none none none none)) (Qa rfl) rfl) ?_;exact KJ (OP g dl ga (K6:=c.reverse.map λx=>0-x) (.inr rfl) (by rw[Qb,Jb];omega))
end
def btr:LP->Bool
 |[]=>false
 |(m,y)::r=>if m=y then btr r else decide (y=0) || (decide (0<m)&&decide (m<y))
def rgA(ls:L3)(ws:LO)(a:Int):Int:=(U1 ls ws).getD a.toNat 0
def WG(o:Ord)(c1 c2:List Int)(k1 k2:Int)(r1 r2:List Int):Bool:=if fnz (Wm o c1 c2)=0 then(if k1=k2 then btr (r1.zip r2)else decide (k2<k1))else decide (0<fnz (Wm o c1 c2))
theorem Ol(a b:List Int):fnz (a++b)=if fnz a=0 then fnz b else fnz a:=by
 induction a with
 |nil=>rfl
 |cons x r ih=>
  show(if x=0 then fnz (r++b)else x)=if(if x=0 then fnz r else x)=0 then fnz b else(if x=0 then fnz r else x)
  by_cases h:x=0
  ·rw[Qk h,Qk h,ih]
  ·rw[Qs h,Qs h,Qs h]
theorem N9:∀{xs ys:List Int},xs.length=ys.length->HT.ZD ys xs=decide (0<fnz (Ks xs ys))
 |[],[],_=>rfl
 |x::xs,y::ys,h=>by
  rw[HT.RA];show _=decide (0<if x-y=0 then fnz (Ks xs ys)else x-y);by_cases e:y=x
  ·rw[if_pos e,if_pos (by omega),N9 (by simpa using h)]
  ·rw[Qs e,Qs (by omega)];exact JD.2 (by rw[Q6,Q6];omega)
theorem Pg{a b c d:List Int}(h:a.length=c.length):Ks (a++b) (c++d)=Ks a c++Ks b d:=by unfold Ks;rw[List.zip_append h,QB]
theorem Rr{a b:List Int}(h:a.length=b.length):(Ks a b).length=a.length:=by unfold Ks;rw[Qb,JK];omega
theorem OX{a b:List Int}{i:Nat}{x y:Int}(h1:a[i]?=some x)(h2:b[i]?=some y):(Ks a b)[i]?=some (x-y):=by unfold Ks;rw[Qe,JQ.mpr (by exact(⟨h1,h2⟩:a[i]?=some (x,y).1/\b[i]?=some (x,y).2))];rfl
theorem OO{o:Ord}{a b:List Int}(h:a.length=b.length):(Zz o a).length=(Zz o b).length:=by
 cases o with
 |firsts=>exact h
 |full=>show(_::a).length=(_::b).length;rw[Qv,Qv,h]
 |lasts=>show(a.reverse.map _).length=(b.reverse.map _).length;rw[Qb,Qb,Jb,Jb,h]
theorem Hd{o:Ord}{a b:List Int}(h:a.length=b.length)(hne:a≠[]):Ks (Zz o a) (Zz o b)=Wm o a b:=by
 have hp:0<a.length:=Uf.mpr hne;cases o with
 |firsts=>rfl
 |full=>
  have hml:=Rr h;have hx:a[a.length-1]?=some (ZL a):=by unfold ZL;rw[Qh,Qd (by omega)];rfl
  have hy:b[a.length-1]?=some (ZL b):=by unfold ZL;rw[←h,Qh,Qd (by omega)];rfl
  have hm:=OX hx hy
  show(0-ZL a-(0-ZL b))::Ks a b=((Ks a b).map λx=>-x).drop ((Ks a b).length-1)++Ks a b
  have hd:((Ks a b).map λx=>-x).drop ((Ks a b).length-1)=[-(ZL a-ZL b)]:=by
   rw[hml];have hl:a.length-1<((Ks a b).map λx=>-x).length:=by rw[Qb,hml];omega
   rw[QU hl,List.drop_of_length_le (by rw[Qb,hml];omega)];have e:((Ks a b).map λx=>-x)[a.length-1]?=some (-(ZL a-ZL b)):=by rw[Qe,hm];rfl
   rw[Qd hl]at e;rw[QP e]
  rw[hd];show _ = -(ZL a-ZL b)::Ks a b
  congr 1
  omega
 |lasts=>
  show Ks (a.reverse.map λx=>0-x) (b.reverse.map λx=>0-x)=((Ks a b).map λx=>-x).reverse;apply Jr;intro i;have hml:=Rr h;by_cases hi:i<a.length
  ·obtain⟨x,hx⟩:∃x,a[a.length-1-i]?=some x:=⟨_,Qd (by omega)⟩
   obtain⟨y,hy⟩:∃y,b[a.length-1-i]?=some y:=⟨_,Qd (by omega)⟩
   have e1:(a.reverse.map λx=>0-x)[i]?=some (0-x):=by rw[Qe,J9 hi,hx];rfl
   have e2:(b.reverse.map λx=>0-x)[i]?=some (0-y):=by rw[Qe,J9 (by omega),←h,hy];rfl
   rw[OX e1 e2,J9 (by rw[Qb,hml];exact hi),Qb,hml,Qe,OX hx hy];show some (0-x-(0-y))=some (-(x-y))
   congr 1
   omega
  ·rw[QC (by rw[Rr (by rw[Qb,Qb,Jb,Jb,h]),Qb,Jb];omega),QC (by rw[Jb,Qb,hml];omega)]
def tf(L:Nat)(r:Int):Int:=if r=0 then 0 else(L:Int)+1-r
theorem OW{L:Nat}:∀{xs ys:List Int},(∀r∈xs,0<=r/\r<=L)->(∀r∈ys,0<=r/\r<=L)->decide (0<fnz (Ks (xs.map (tf L)) (ys.map (tf L))))=btr (xs.zip ys)
 |[],ys,_,_=>by cases ys<;>rfl
 |_::_,[],_,_=>rfl
 |x::xs,y::ys,hx,hy=>by
  have bx:=hx x Qo;have by':=hy y Qo;rw[QR,btr];show decide (0<if tf L x-tf L y=0 then fnz (Ks (xs.map (tf L)) (ys.map (tf L)))else tf L x-tf L y)=_;by_cases e:x=y
  ·rw[Qk e,Qk (by rw[e];omega),OW (λr h=>hx r (Ql _ h)) (λr h=>hy r (Ql _ h))]
  ·have hne:tf L x-tf L y≠0:=by unfold tf;split<;>split<;>omega
   rw[Qs e,Qs hne];apply JD.2;rw[Q6,Bool.or_eq_true,Je,Q6,Q6,Q6];unfold tf
   split<;>split<;>omega
section
variable{cs:List Int}{ls:L3}{ws us:LO}{o:Ord}{old:Option LO}{ts:List Int}
theorem Rh(g:Good cs ls)(dl:Deal cs ls ws)(ga:Zv cs.length ls.length old ts):ts.map (KW ls ws)=(ts.map (rgA ls ws)).map (tf (lng ls)):=by
 rw[Ja];apply JB;intro z hz;have h:=ga.there z hz;obtain⟨a,rfl⟩:∃a:Nat,z=a:=⟨z.toNat,by omega⟩
 have hal:a<ls.length:=by omega
 have hwl:a<ws.length:=by have:=dl.len;omega
 have hls:ls[a]?=some ls[a]:=Qd hal;have hwa:ws[a]?=some ws[a]:=Qd hwl;have hg:=LJ hls hwa;show KW ls ws a=tf (lng ls) (rgA ls ws a);unfold KW rgA;rw[Qz,Qh,Qh,Qh,hwa,hls,hg]
 show(match ws[a]with|none=>(0:Int)|some t=>(lng ls:Int)+1-(KM t ls[a]:Nat))=tf (lng ls) (rg ls[a] ws[a])
 have hp:=λt (e:ws[a]=some t)=>Ro (dl.wish a t ls[a] (by rw[hwa,e]) hls)
 generalize ws[a]=w at hp;cases w with
 |none=>rfl
 |some t=>have:=hp t rfl;show _=tf (lng ls) ((KM t ls[a]:Nat):Int);unfold tf;rw[Qs (by omega)]
theorem S6{z:Int}:0<=rgA ls ws z/\rgA ls ws z<=lng ls:=by
 unfold rgA;rw[Qh];cases h:(U1 ls ws)[z.toNat]? with
 |none=>exact⟨QX 0,by show(0:Int)<=_;omega⟩
 |some r=>exact Rb r (Qt h)
theorem BW(g:Good cs ls)(d1:Deal cs ls ws)(d2:Deal cs ls us)(ga:Zv cs.length ls.length old ts) :
  HT.ZD (Zz o (Kh (lng ls) (U1 ls us))++[(KY old us:Int)]++ts.map (KW ls us)) (Zz o (Kh (lng ls) (U1 ls ws))++[(KY old ws:Int)]++ts.map (KW ls ws)) =
   WG o (Kh (lng ls) (U1 ls ws)) (Kh (lng ls) (U1 ls us)) (KY old ws) (KY old us) (ts.map (rgA ls ws)) (ts.map (rgA ls us)):=by
 have hl:(Kh (lng ls) (U1 ls ws)).length=(Kh (lng ls) (U1 ls us)).length:=by rw[Xk,Xk]
 have hne:Kh (lng ls) (U1 ls ws)≠[]:=λe=>by have:=Xk (lng ls) (U1 ls ws);rw[e]at this;cases this
 have hol:=OO (o:=o) hl;rw[N9 (by simp only[Qj,Qb,hol];rfl),Pg (by rw[Qj,Qj,hol];rfl),Pg hol,Hd hl hne,Ol,Ol,Rh g d1 ga,Rh g d2 ga];have ht:=OW (L:=lng ls) (xs:=ts.map (rgA ls ws)) (ys:=ts.map (rgA ls us)) (λr h=>by obtain⟨z,_,rfl⟩:=Qu.mp h;exact S6) (λr h=>by obtain⟨z,_,rfl⟩:=Qu.mp h;exact S6);unfold WG;rw[←ht]
 have hk:fnz (Ks [(KY old ws:Int)] [(KY old us:Int)])=(KY old ws:Int)-KY old us:=by
  show(if(KY old ws:Int)-KY old us=0 then(0:Int)else(KY old ws:Int)-KY old us)=_
  split<;>omega
 rw[hk];by_cases h1:fnz (Wm o (Kh (lng ls) (U1 ls ws)) (Kh (lng ls) (U1 ls us)))=0
 ·rw[Qk h1,Qk h1];by_cases h2:(KY old ws:Int)=KY old us
  ·rw[Qk h2,Qk (by omega)]
  ·rw[Qs h2,Qs (by omega)];exact JD.2 (by rw[Q6,Q6];omega)
 ·rw[Qs h1,Qs h1,Qs h1]
end
def val(B:Int):List Int->Int
 |[]=>0
 |d::r=>d*B ^ r.length+val B r
theorem ON{B:Int}(h:0<B)(n:Nat):0<B ^ n:=Int.pow_pos h
theorem OV{B:Int}(hB:0<B):∀{l:List Int},(∀d∈l, -(B-1)<=d/\d<=B-1) -> -(B ^ l.length-1)<=val B l/\val B l<=B ^ l.length-1
 |[],_=>by simp[val]
 |d::r,h=>by
  have h1:=h d Qo;have h2:=OV hB (l:=r) λx hx=>h x (Ql _ hx);have hp:=ON hB r.length;rw[val,Qv,Int.pow_succ];generalize B ^ r.length=P at h2 hp;generalize val B r=v at h2;have u1:d*P<=(B-1)*P:=Jn h1.2 (by omega)
  have u2 : -(B-1)*P<=d*P:=Jn h1.1 (by omega);have e1:(B-1)*P=P*B-P:=by rw[Int.sub_mul,Int.one_mul,Int.mul_comm]
  have e2 : -(B-1)*P = -(P*B-P):=by rw[Int.neg_mul,e1]
  omega
theorem O6{X Y P:Int}(hP:0<P)(hY : -(P-1)<=Y/\Y<=P-1):(0<X*P+Y ↔ 0<X∨X=0/\0<Y)/\(X*P+Y=0 ↔ X=0/\Y=0):=by
 rcases Int.lt_trichotomy X 0 with h|h|h
 ·have:X*P <= -1*P:=Jn (by omega) (by omega)
  constructor<;>constructor<;>intro h'<;>omega
 ·subst h;rw[Int.zero_mul]
  constructor<;>constructor<;>intro h'<;>omega
 ·have:1*P<=X*P:=Jn (by omega) (by omega)
  constructor<;>constructor<;>intro h'<;>omega
theorem Oj{B:Int}(hB:0<B):∀{l:List Int},(∀d∈l, -(B-1)<=d/\d<=B-1)->(0<val B l ↔ 0<fnz l)/\(val B l=0 ↔ fnz l=0)
 |[],_=>by simp[val,fnz]
 |d::r,h=>by
  have hr:=λx hx=>h x (Ql d hx);have ih:=Oj hB (l:=r) hr;have tp:=O6 (X:=d) (ON hB r.length) (OV hB hr)
  show(0<d*B ^ r.length+val B r ↔ 0<if d=0 then fnz r else d)/\(d*B ^ r.length+val B r=0 ↔ (if d=0 then fnz r else d)=0)
  by_cases hd:d=0
  ·rw[Qk hd];constructor
   ·rw[tp.1,ih.1];omega
   ·rw[tp.2,ih.2];omega
  ·rw[Qs hd];constructor
   ·rw[tp.1];omega
   ·rw[tp.2];omega
theorem OM{B:Int}:∀{xs ys:List Int},xs.length=ys.length->val B (Ks xs ys)=val B xs-val B ys
 |[],[],_=>rfl
 |x::xs,y::ys,h=>by
  have hl:xs.length=ys.length:=by simpa using h
  show(x-y)*B ^ (Ks xs ys).length+val B (Ks xs ys)=_
  rw[OM hl,Rr hl,val,val,←hl,Int.sub_mul];omega
theorem Ch{B:Int}(l:List Int):val B (l.map λx=>-x) = -val B l:=by
 induction l with
 |nil=>rfl
 |cons d r ih=>rw[Qq,val,val,ih,Qb,Int.neg_mul];omega
theorem Hc{B:Int}:∀{xs:List Int}{p:Nat},p<xs.length->val B (XE xs p 1)=val B xs+B ^ (xs.length-1-p)
 |x::xs,0,_=>by
  show(x+1)*B ^ xs.length+val B xs=x*B ^ xs.length+val B xs+B ^ xs.length
  rw[Int.add_mul,Int.one_mul];omega
 |x::xs,p+1,h=>by
  have hp:p<xs.length:=by simpa using h
  have ih:=Hc (B:=B) hp;have e:XE (x::xs) (p+1) 1=x::XE xs p 1:=by unfold XE;rw[List.set_cons_succ];rfl
  rw[e,val,val,ih,OY];have e2:(x::xs).length-1-(p+1)=xs.length-1-p:=by rw[Qv];omega
  rw[e2];omega
theorem Aa{n p:Nat}{qs:List Nat}:XE (Kl n qs) p 1=Kl n (p::qs):=by
 apply Jr;intro k;by_cases hk:k<n
 ·rw[Hi (VN hk),VN hk,JE]
  congr 1
  by_cases e:k=p
  ·rw[if_pos e,e,if_pos (by simp)];omega
  ·have:¬(p==k)=true:=by rw[beq_iff_eq];exact λz=>e z.symm
   rw[Qs e,Qs this];omega
 ·rw[QC (by rw[OY,YI];omega),QC (by rw[YI];omega)]
theorem B9{B:Int}(n:Nat):val B (UA n 0)=0:=by
 induction n with
 |zero=>rfl
 |succ n ih=>rw[QQ,val,ih,Int.zero_mul];rfl
theorem OL{B:Int}{n:Nat}:∀{qs:List Nat},(∀p∈qs,p<n)->val B (Kl n qs)=(qs.map λp=>B ^ (n-1-p)).sum
 |[],_=>by rw[LD,B9];rfl
 |p::qs,h=>by have hp:=h p Qo;rw[←Aa,Hc (by rw[YI];exact hp),OL (λq hq=>h q (Ql _ hq)),YI,Qq,Jc];omega
theorem Cg{B:Int}{n:Nat}:∀{qs:List Nat},(∀p∈qs,p<n)->val B (Kl n qs).reverse=(qs.map λp=>B ^ p).sum:=λ{qs} h=>by
 have e:(Kl n qs).reverse=Kl n (qs.map λp=>n-1-p):=by
  apply Jr;intro k;by_cases hk:k<n
  ·rw[J9 (by rw[YI];exact hk),YI,VN (by omega),VN hk]
   congr 2
   rw[List.count,List.count,List.countP_map];apply List.countP_congr;intro p hp;have:=h p hp;simp only[Function.comp,beq_iff_eq];omega
  ·rw[QC (by rw[Jb,YI];omega),QC (by rw[YI];omega)]
 rw[e,OL (λp hp=>by obtain⟨q,hq,rfl⟩:=Qu.mp hp;have:=h q hq;omega),Ja]
 congr 1
 apply JB;intro p hp;have:=h p hp;show B ^ (n-1-(n-1-p))=B ^ p
 congr 1
 omega
def K4(o:Ord)(L:Nat)(qs:List Nat):List Int:=match o with
 |.firsts=>Kl L qs
 |.full=>(qs.length:Int)::Kl L qs
 |.lasts=>(qs.length:Int)::(Kl L qs).reverse.map λx=>-x
theorem N8{α:Type}(f g:α->Int)(l:List α):(l.map λx=>f x+g x).sum=(l.map f).sum+(l.map g).sum:=by
 induction l with
 |nil=>rfl
 |cons a r ih=>rw[Qq,Jc,ih,Qq,Jc,Qq,Jc];omega
theorem Cf{α:Type}(f g:α->Int)(l:List α):(l.map λx=>f x-g x).sum=(l.map f).sum-(l.map g).sum:=by
 induction l with
 |nil=>rfl
 |cons a r ih=>rw[Qq,Jc,ih,Qq,Jc,Qq,Jc];omega
theorem O5{α:Type}(c:Int)(l:List α):(l.map λ_=>c).sum=(l.length:Int)*c:=by
 induction l with
 |nil=>simp
 |cons a r ih=>rw[Qq,Jc,ih,Qv,Int.natCast_add,Int.add_mul];omega
theorem Ce(o:Ord){B:Int}{L:Nat}{sr:List Int}(h:∀r∈sr,1<=r/\r<=L):(sr.map (ZA o B L)).sum=val B (K4 o L (sr.map λr=>(r-1).toNat)):=by
 have hq:∀p∈sr.map (λr=>(r-1).toNat),p<L:=λp hp=>by obtain⟨r,hr,rfl⟩:=Qu.mp hp;have:=h r hr;omega
 have e1:(sr.map λr=>B ^ ((L:Int)-r).toNat).sum=val B (Kl L (sr.map λr=>(r-1).toNat)):=by
  rw[OL hq,Ja]
  congr 1
  apply JB;intro r hr;have:=h r hr;show B ^ _=B ^ (L-1-(r-1).toNat)
  congr 1
  omega
 have e2:(sr.map λr=>B ^ (r-1).toNat).sum=val B (Kl L (sr.map λr=>(r-1).toNat)).reverse:=by rw[Cg hq,Ja];rfl
 have e3:(sr.map λ_=>B ^ (L:Int).toNat).sum=((sr.map λr=>(r-1).toNat).length:Int)*B ^ L:=by rw[O5,Qb,Qz]
 cases o with
 |firsts=>exact e1
 |full=>
  show(sr.map λr=>B ^ (L:Int).toNat+B ^ ((L:Int)-r).toNat).sum=((sr.map λr=>(r-1).toNat).length:Int)*B ^ (Kl L (sr.map λr=>(r-1).toNat)).length+val B (Kl L (sr.map λr=>(r-1).toNat))
  rw[N8,e1,e3,YI]
 |lasts=>
  show(sr.map λr=>B ^ (L:Int).toNat-B ^ (r-1).toNat).sum=((sr.map λr=>(r-1).toNat).length:Int)*B ^ ((Kl L (sr.map λr=>(r-1).toNat)).reverse.map λx=>-x).length+val B ((Kl L (sr.map λr=>(r-1).toNat)).reverse.map λx=>-x)
  rw[Cf,e2,e3,Ch,Qb,Qb,Jb,YI];omega
def srv(got:List Int):List Int:=got.filter λr=>decide (r≠0)
def plQ(got:List Int):List Nat:=(srv got).map λr=>(r-1).toNat
theorem HC{L:Nat}{got:List Int}(h:okR L got):Kh L got=Kl L (plQ got)++[(got.length:Int)-(plQ got).length]:=by
 unfold Kh
 congr 1
 ·unfold Kl;apply JB;intro p _
  congr 1
  unfold plQ srv;rw[List.count,List.count,List.countP_map,List.countP_filter];apply List.countP_congr;intro r hr;have:=h r hr;simp only[Function.comp,beq_iff_eq,Je,Q6];omega
 ·congr 1
  unfold plQ srv;rw[Qb,List.count]
  have e:got.length=got.countP (λr=>decide (r≠0))+got.countP (λr=>r==0):=by
   rw[List.length_eq_countP_add_countP (p:=λr=>decide (r≠0))]
   congr 1
   apply List.countP_congr;intro r _;simp
  rw[List.countP_eq_length_filter]at e;omega
theorem HX:∀{a b:List Int},a.length=b.length->fnz (Ks a b)=0->a=b
 |[],[],_,_=>rfl
 |x::a,y::b,h,e=>by
  have e:(if x-y=0 then fnz (Ks a b)else x-y)=0:=e;by_cases hxy:x-y=0
  ·rw[Qk hxy]at e;rw[HX (by simpa using h) e,show x=y by omega]
  ·rw[Qs hxy]at e;exact absurd e hxy
theorem LC{n:Nat}{qs:List Nat}(h:∀p∈qs,p<n):(Kl n qs).sum=qs.length:=HZ qs n h
theorem N0{L:Nat}{got:List Int}(h:okR L got):∀p∈plQ got,p<L:=λp hp=>by
 obtain⟨r,hr,rfl⟩:=Qu.mp hp;obtain⟨hr,h0⟩:=Ul.mp hr;have:=h r hr;have:r≠0:=by simpa using h0
 omega
theorem BV{o:Ord}{L:Nat}{g1 g2:List Int}(h1:okR L g1)(h2:okR L g2)(hl:g1.length=g2.length):fnz (Wm o (Kh L g1) (Kh L g2))=fnz (Ks (K4 o L (plQ g1)) (K4 o L (plQ g2))):=by
 have hcl:(Kh L g1).length=(Kh L g2).length:=by rw[Xk,Xk]
 have hne:Kh L g1≠[]:=λe=>by have:=Xk L g1;rw[e]at this;cases this
 rw[←Hd hcl hne,HC h1,HC h2];have l1:=YI L (plQ g1);have l2:=YI L (plQ g2);have s1:=LC (N0 h1);have s2:=LC (N0 h2);generalize hc1:Kl L (plQ g1)=C1 at *;generalize hc2:Kl L (plQ g2)=C2 at *;have hC:C1.length=C2.length:=by rw[l1,l2]
 have last:∀(C:List Int)(z:Int),ZL (C++[z])=z:=λC z=>by
  unfold ZL;rw[Qj,Qh,Qw (by show C.length<=C.length+1-1;omega)]
  show([z][C.length+1-1-C.length]?).getD 0=z
  rw[show C.length+1-1-C.length=0 by omega];rfl
 have tail:fnz (Ks C1 C2++Ks [(g1.length:Int)-(plQ g1).length] [(g2.length:Int)-(plQ g2).length])=fnz (Ks C1 C2):=by
  rw[Ol];by_cases e:fnz (Ks C1 C2)=0
  ·have:=HX hC e;rw[Qk e,e]
   show(if(g1.length:Int)-(plQ g1).length-((g2.length:Int)-(plQ g2).length)=0 then(0:Int)else _)=0
   rw[Qk (by rw[this]at s1;omega)]
  ·rw[Qs e]
 cases o with
 |firsts=>show fnz (Ks (C1++_) (C2++_))=fnz (Ks (Kl L (plQ g1)) (Kl L (plQ g2)));rw[hc1,hc2,Pg hC,tail]
 |full=>
  show fnz (Ks ((0-ZL (C1++_))::(C1++_)) ((0-ZL (C2++_))::(C2++_)))=fnz (Ks (((plQ g1).length:Int)::Kl L (plQ g1)) (((plQ g2).length:Int)::Kl L (plQ g2)));rw[hc1,hc2,last,last]
  show(if(0-((g1.length:Int)-(plQ g1).length))-(0-((g2.length:Int)-(plQ g2).length))=0 then fnz (Ks (C1++_) (C2++_))else _)=(if((plQ g1).length:Int)-(plQ g2).length=0 then fnz (Ks C1 C2)else _)
  rw[Pg hC,tail];have e:(0-((g1.length:Int)-(plQ g1).length))-(0-((g2.length:Int)-(plQ g2).length))=((plQ g1).length:Int)-(plQ g2).length:=by omega
  rw[e]
  congr 1
 |lasts=>
  show fnz (Ks ((C1++[_]).reverse.map λx=>0-x) ((C2++[_]).reverse.map λx=>0-x))=fnz (Ks (((plQ g1).length:Int)::(Kl L (plQ g1)).reverse.map λx=>-x) (((plQ g2).length:Int)::(Kl L (plQ g2)).reverse.map λx=>-x));rw[hc1,hc2,List.reverse_append,List.reverse_append];have e0:(λx:Int=>0-x)=λx=>-x:=by funext x;omega
  rw[e0]
  show(if -((g1.length:Int)-(plQ g1).length) - -((g2.length:Int)-(plQ g2).length)=0 then fnz (Ks (C1.reverse.map λx=>-x) (C2.reverse.map λx=>-x))else _)=(if((plQ g1).length:Int)-(plQ g2).length=0 then fnz (Ks (C1.reverse.map λx=>-x) (C2.reverse.map λx=>-x))else _)
  have e : -((g1.length:Int)-(plQ g1).length) - -((g2.length:Int)-(plQ g2).length)=((plQ g1).length:Int)-(plQ g2).length:=by omega
  rw[e]
  congr 1
theorem OK{W W1 W2:Nat->List (List Int)->Int->Int}{c:Int}(h:∀i rs t,W i rs t=W1 i rs t*c+W2 i rs t):∀(ls:L3)(ws:LO)(k:Nat),KG (Ky W k ls ws)=KG (Ky W1 k ls ws)*c+KG (Ky W2 k ls ws)
 |[],_,_=>by simp[Ky,KG]
 |_::_,[],_=>by simp[Ky,KG]
 |rs::ls,o::ws,k=>by
  rw[Ky,Ky,Ky,VZ,VZ,VZ,OK h ls ws (k+1),Int.add_mul];cases o with
  |none=>show(0:Int)+_=0*c+_+(0+_);rw[Int.zero_mul];omega
  |some t=>show W k rs t+_=W1 k rs t*c+_+(W2 k rs t+_);rw[h];omega
theorem LB{f:Int->Int}:∀(ls:L3)(ws:LO)(k:Nat),(∀(i:Nat) t rs,ws[i]?=some (some t)->ls[i]?=some rs->KM t rs≠0)->KG (Ky (λ_ rs t=>f (KM t rs:Nat)) k ls ws)=((srv (U1 ls ws)).map f).sum
 |[],_,_,_=>by simp[Ky,KG,U1,srv]
 |_::_,[],_,_=>by simp[Ky,KG,U1,srv]
 |rs::ls,o::ws,k,h=>by
  have ih:=LB (f:=f) ls ws (k+1) λi t r h1 h2=>h (i+1) t r (by simpa using h1) (by simpa using h2)
  have e:U1 (rs::ls) (o::ws)=rg rs o::U1 ls ws:=rfl;rw[Ky,VZ,ih,e];cases o with
  |none=>
   have:srv (rg rs none::U1 ls ws)=srv (U1 ls ws):=rfl;rw[this]
   show(0:Int)+_=_
   omega
  |some t=>
   have h0:=h 0 t rs rfl rfl;have:srv (rg rs (some t)::U1 ls ws)=((KM t rs:Nat):Int)::srv (U1 ls ws):=by unfold srv;rw[List.filter_cons_of_pos (by show decide (((KM t rs:Nat):Int)≠0)=true;simpa using h0)];rfl
   rw[this,Qq,Jc];rfl
theorem Na{W:Nat->List (List Int)->Int->Int}{h:Nat->Int}:∀(ls:L3)(ws:LO)(k:Nat),ws.length=ls.length->(∀(i:Nat) rs o,ls[i]?=some rs->ws[i]?=some o->(o.map (W (k+i) rs)).getD 0=h (k+i))->KG (Ky W k ls ws)=((Uz ls.length).map λi=>h (k+i)).sum
 |[],[],_,_,_=>by simp[Ky,KG]
 |rs::ls,o::ws,k,hl,hh=>by
  have ih:=Na (h:=h) ls ws (k+1) (by simpa using hl) λi rs' o' h1 h2=>by have:=hh (i+1) rs' o' (by simpa using h1) (by simpa using h2);rw[show k+1+i=k+(i+1)by omega];exact this
  have h0:=hh 0 rs o rfl rfl;rw[Ky,VZ,ih,Qv,List.range_succ_eq_map,Qq,Jc,Ja];rw[Ue]at h0;rw[Ue,h0]
  congr 2
  apply JB;intro i _;show h (k+1+i)=h (k+(i+1));rw[show k+1+i=k+(i+1)by omega]
theorem N7{c:Int}{a:Nat}:∀n:Nat,((Uz n).map λi=>if i=a then c else 0).sum=if a<n then c else 0
 |0=>by simp
 |n+1=>by
  rw[Ui,QB,JL,N7 n];show _+((if n=a then c else 0)+0)=_;by_cases h:a<n
  ·rw[Qk h,Qs (by omega),Qk (by omega)];omega
  ·by_cases h2:n=a
   ·rw[Qs h,Qk h2,Qk (by omega)];omega
   ·rw[Qs h,Qs h2,Qs (by omega)];omega
theorem LA{b:Int}{g:Int->Int}{n:Nat}:∀{ts:List Int},ts.Nodup->(∀a∈ts,0<=a/\a<n)->((Uz n).map λi:Nat=>if(i:Int)∈ts then g i*b ^ (ts.length-1-ts.idxOf (i:Int))else 0).sum=val b (ts.map g)
 |[],_,_=>by
  have:(λi:Nat=>if(i:Int)∈([]:List Int)then g i*b ^ (([]:List Int).length-1-([]:List Int).idxOf (i:Int))else 0)=λ_=>(0:Int):=by funext i;rw[if_neg (by simp)]
  rw[this,O5];simp[val]
 |a::r,hn,hb=>by
  obtain⟨ha,hr⟩:=Um.mp hn;have h0:=hb a Qo;have ih:=LA (b:=b) (g:=g) (n:=n) hr λx hx=>hb x (Ql _ hx)
  have e:(λi:Nat=>if(i:Int)∈a::r then g i*b ^ ((a::r).length-1-(a::r).idxOf (i:Int))else 0) =
    λi:Nat=>(if i=a.toNat then g a*b ^ r.length else 0)+(if(i:Int)∈r then g i*b ^ (r.length-1-r.idxOf (i:Int))else 0):=by
   funext i;by_cases h:(i:Int)=a
   ·have hi:i=a.toNat:=by omega
    rw[Qk (by rw[h];exact Qo),Qk hi,Qs (by rw[h];exact ha),h,List.idxOf_cons_self,Qv];simp
   ·have hi:¬i=a.toNat:=by omega
    rw[Qs hi,Uk];by_cases h2:(i:Int)∈r
    ·have hb:(a==(i:Int))=false:=by simpa using Ne.symm h
     rw[Qk (Ql _ h2),Qk h2,List.idxOf_cons,hb,Qv];show g i*b ^ (r.length+1-1-(r.idxOf (i:Int)+1))=_
     congr 2
     omega
    ·rw[if_neg h2,if_neg (by simp[h,h2])]
  rw[e,N8,N7,Qk (by omega),ih,Qq,val,Qb]
section
variable{cs:List Int}{ls:L3}{ws us:LO}{o:Ord}{old:Option LO}{ts:List Int}
theorem B8(hl:ws.length=ls.length)(ga:Zv cs.length ls.length old ts):KG (Ky (λi rs t=>Vh ts (lng ls+1) i (KM t rs:Nat)) 0 ls ws)=val ((lng ls:Int)+1) (ts.map (KW ls ws)):=by
 rw[Na (h:=λi:Nat=>if(i:Int)∈ts then KW ls ws i*((lng ls:Int)+1) ^ (ts.length-1-ts.idxOf (i:Int))else 0) ls ws 0 hl,←LA ga.once ga.there]
 ·congr 2
  funext i;rw[Q3]
 ·intro i rs o' h1 h2;rw[Q3];have e:KW ls ws (i:Int)=(o'.map λt=>(lng ls:Int)+1-(KM t rs:Nat)).getD 0:=by unfold KW;rw[Qz,Qh,Qh,h1,h2];cases o'<;>rfl
  rw[e];cases o' with
  |none=>
   show(0:Int)=if(i:Int)∈ts then 0*_ else 0
   split
   ·rw[Int.zero_mul]
   ·rfl
  |some t=>rfl
theorem Hb{os:LO}:∀(ls:L3)(ws:LO)(k:Nat),ws.length=ls.length->KG (Ky (λi _ t=>if os[i]?=some (some t)then 1 else 0) k ls ws)=((((os.drop k).zip ws).filter λp=>decide (p.1=p.2)&&p.2.isSome).length:Nat)
 |[],[],k,_=>by simp[Ky,KG]
 |rs::ls,o::ws,k,hl=>by
  have ih:=Hb (os:=os) ls ws (k+1) (by simpa using hl);rw[Ky,VZ,ih];by_cases hk:k<os.length
  ·rw[QU hk,QR,Qd hk];cases o with
   |none=>rw[List.filter_cons_of_neg (by simp)];show(0:Int)+_=_;omega
   |some t=>
    show(if some os[k]=some (some t)then(1:Int)else 0)+_=_
    by_cases e:os[k]=some t
    ·rw[if_pos (by rw[e]),List.filter_cons_of_pos (by simp[e]),List.length_cons];omega
    ·rw[if_neg (by simpa using e),List.filter_cons_of_neg (by simp[e])];omega
  ·rw[J4 (by omega),J4 (by omega),List.zip_nil_left,List.zip_nil_left,QC (by omega)];cases o with
   |none=>rfl
   |some t=>rfl
theorem BU(hl:ws.length=ls.length):KG (Ky (λi _ t=>YO old i t) 0 ls ws)=(KY old ws:Int):=by
 cases old with
 |none=>
  rw[Na (h:=λ_=>0) ls ws 0 hl,O5]
  ·simp[KY]
  ·intro i rs o' _ _;cases o'<;>rfl
 |some os=>exact Hb ls ws 0 hl
theorem Ha(dl:Deal cs ls ws)(ga:Zv cs.length ls.length old ts):KG (Ky (K9 ls o old ts) 0 ls ws) =
  (val ((ls.length:Int)+1) (K4 o (lng ls) (plQ (U1 ls ws)))*((ls.length:Int)+1)+KY old ws)*((lng ls:Int)+1) ^ ts.length+val ((lng ls:Int)+1) (ts.map (KW ls ws)):=by
 rw[OK (W:=K9 ls o old ts) (W1:=λi rs t=>ZA o (ls.length+1) (lng ls) (KM t rs:Nat)*((ls.length:Int)+1)+YO old i t) (W2:=λi rs t=>Vh ts (lng ls+1) i (KM t rs:Nat)) (c:=((lng ls:Int)+1) ^ ts.length) (λ_ _ _=>rfl) ls ws 0,
  OK (W1:=λi rs t=>ZA o (ls.length+1) (lng ls) (KM t rs:Nat)) (W2:=λi _ t=>YO old i t) (c:=(ls.length:Int)+1) (λ_ _ _=>rfl) ls ws 0,B8 dl.len ga,BU dl.len,
  LB (f:=λr=>ZA o (ls.length+1) (lng ls) r) ls ws 0 (λi t rs h1 h2=>Ro (dl.wish i t rs h1 h2)),Ce o]
 ·rfl
 ·intro r hr;obtain⟨hr,h0⟩:=Ul.mp hr;have:=Rb (ls:=ls) (ws:=ws) r hr;have:r≠0:=by simpa using h0
  omega
end
theorem OJ{lo n:Int}{a b:List Int}(ha:∀x∈a,lo<=x/\x<=lo+n)(hb:∀x∈b,lo<=x/\x<=lo+n):∀d∈Ks a b, -n<=d/\d<=n:=λd hd=>by unfold Ks at hd;obtain⟨p,hp,rfl⟩:=Qu.mp hd;obtain⟨h1,h2⟩:=List.of_mem_zip (a:=p.1) (b:=p.2) hp;have:=ha _ h1;have:=hb _ h2;omega
theorem R8{n:Nat}{qs:List Nat}{m:Int}(h:(qs.length:Int)<=m):∀x∈Kl n qs,0<=x/\x<=0+m:=λx hx=>by unfold Kl at hx;obtain⟨p,_,rfl⟩:=Qu.mp hx;have:=List.count_le_length (a:=p) (l:=qs);omega
theorem BS(o:Ord)(L:Nat)(p q:List Nat):(K4 o L p).length=(K4 o L q).length:=by cases o<;>simp[K4,YI]
theorem Cd(o:Ord){L:Nat}{p q:List Nat}{m:Int}(hp:(p.length:Int)<=m)(hq:(q.length:Int)<=m):∀d∈Ks (K4 o L p) (K4 o L q), -m<=d/\d<=m:=by
 have hc:=OJ (R8 (n:=L) hp) (R8 (n:=L) hq);cases o with
 |firsts=>exact hc
 |full=>
  intro d hd;rcases QT.mp (show d∈((p.length:Int)-q.length)::Ks (Kl L p) (Kl L q)from hd)with rfl|h
  ·omega
  ·exact hc d h
 |lasts=>
  intro d hd;rcases QT.mp (show d∈((p.length:Int)-q.length)::Ks ((Kl L p).reverse.map λx=>-x) ((Kl L q).reverse.map λx=>-x)from hd)with rfl|h
  ·omega
  ·refine OJ (lo:=-m) (n:=m) (λx hx=>?_) (λx hx=>?_) d h
   ·obtain⟨y,hy,rfl⟩:=Qu.mp hx;have:=R8 (n:=L) hp y (List.mem_reverse.mp hy);omega
   ·obtain⟨y,hy,rfl⟩:=Qu.mp hx;have:=R8 (n:=L) hq y (List.mem_reverse.mp hy);omega
theorem BR{o:Ord}{a b:List Int}(h:Zz o a=Zz o b):a=b:=by
 cases o with
 |firsts=>exact h
 |full=>exact(List.cons.inj h).2
 |lasts=>have h:a.reverse.map (λx=>0-x)=b.reverse.map (λx=>0-x):=h;have:=(List.map_inj_right (λx y (e:(0:Int)-x=0-y)=>by omega)).mp h;exact List.reverse_inj.mp this
theorem jk{a a' k k' t t' B P:Int}:((a*B+k)*P+t)-((a'*B+k')*P+t')=((a-a')*B+(k-k'))*P+(t-t'):=by
 have e:(a-a')*B+(k-k')=(a*B+k)-(a'*B+k'):=by rw[Int.sub_mul];omega
 rw[e,Int.sub_mul (a*B+k)];omega
section
variable{cs:List Int}{ls:L3}{ws us:LO}{o:Ord}{old:Option LO}{ts:List Int}
theorem N6:((plQ (U1 ls ws)).length:Int)<=ls.length:=by
 have h1:(plQ (U1 ls ws)).length<=(U1 ls ws).length:=by unfold plQ srv;rw[Qb];exact List.length_filter_le _ _
 have h2:(U1 ls ws).length<=ls.length:=by unfold U1;rw[List.length_zipWith];omega
 omega
theorem L9(hl:ws.length=ls.length):(KY old ws:Int)<=ls.length:=by
 cases old with
 |none=>show((0:Nat):Int)<=_;omega
 |some os=>
  have h:=List.length_filter_le (λp:Option Int×Option Int=>decide (p.1=p.2)&&p.2.isSome) (os.zip ws);rw[JK]at h
  show((((os.zip ws).filter λp=>decide (p.1=p.2)&&p.2.isSome).length:Nat):Int)<=_
  omega
theorem Lz(g:Good cs ls)(dl:Deal cs ls ws)(ga:Zv cs.length ls.length old ts):∀x∈ts.map (KW ls ws),0<=x/\x<=0+(lng ls:Int):=λx hx=>by
 rw[Rh g dl ga]at hx;obtain⟨y,hy,rfl⟩:=Qu.mp hx;obtain⟨z,_,rfl⟩:=Qu.mp hy;have:=S6 (ls:=ls) (ws:=ws) (z:=z);unfold tf
 split<;>omega
theorem jj(g:Good cs ls)(d1:Deal cs ls ws)(d2:Deal cs ls us)(ga:Zv cs.length ls.length old ts){w1 w2:Int}(e1:w1=KG (Ky (K9 ls o old ts) 0 ls ws))(e2:w2=KG (Ky (K9 ls o old ts) 0 ls us)) :
  (w2<w1 ↔ 0<fnz (Wm o (Kh (lng ls) (U1 ls ws)) (Kh (lng ls) (U1 ls us)))∨fnz (Wm o (Kh (lng ls) (U1 ls ws)) (Kh (lng ls) (U1 ls us)))=0/\((KY old us:Int)<KY old ws∨(KY old ws:Int)=KY old us/\0<fnz (Ks (ts.map (KW ls ws)) (ts.map (KW ls us))))) /\
  (w1=w2 ↔ fnz (Wm o (Kh (lng ls) (U1 ls ws)) (Kh (lng ls) (U1 ls us)))=0/\(KY old ws:Int)=KY old us/\fnz (Ks (ts.map (KW ls ws)) (ts.map (KW ls us)))=0):=by
 have hgl:(U1 ls ws).length=(U1 ls us).length:=by rw[OQ d1.len,OQ d2.len]
 rw[BV (Rb (ls:=ls) (ws:=ws)) (Rb (ls:=ls) (ws:=us)) hgl];have hB:(0:Int)<(ls.length:Int)+1:=by omega
 have hM:(0:Int)<(lng ls:Int)+1:=by omega
 have bd1:=Cd o (L:=lng ls) (N6 (ls:=ls) (ws:=ws)) (N6 (ls:=ls) (ws:=us));have bd2:=OJ (Lz g d1 ga) (Lz g d2 ga);have k1:=L9 (old:=old) d1.len;have k2:=L9 (old:=old) d2.len;have hl1:=BS o (lng ls) (plQ (U1 ls ws)) (plQ (U1 ls us));have hl2:(ts.map (KW ls ws)).length=(ts.map (KW ls us)).length:=by rw[Qb,Qb]
 have v1:=OM (B:=(ls.length:Int)+1) hl1;have v2:=OM (B:=(lng ls:Int)+1) hl2;have ml:(Ks (ts.map (KW ls ws)) (ts.map (KW ls us))).length=ts.length:=by rw[Rr hl2,Qb]
 have f1:=Oj hB (l:=Ks (K4 o (lng ls) (plQ (U1 ls ws))) (K4 o (lng ls) (plQ (U1 ls us)))) (λd hd=>by have:=bd1 d hd;omega);have f2:=Oj hM (l:=Ks (ts.map (KW ls ws)) (ts.map (KW ls us))) (λd hd=>by have:=bd2 d hd;omega);have sm:=OV hM (l:=Ks (ts.map (KW ls ws)) (ts.map (KW ls us))) (λd hd=>by have:=bd2 d hd;omega);rw[ml]at sm;have tp1:=O6 (X:=val ((ls.length:Int)+1) (Ks (K4 o (lng ls) (plQ (U1 ls ws))) (K4 o (lng ls) (plQ (U1 ls us))))) (Y:=(KY old ws:Int)-KY old us) hB (by omega);have tp2:=O6 (X:=val ((ls.length:Int)+1) (Ks (K4 o (lng ls) (plQ (U1 ls ws))) (K4 o (lng ls) (plQ (U1 ls us))))*((ls.length:Int)+1)+((KY old ws:Int)-KY old us)) (ON hM ts.length) sm;have df:w1-w2=(val ((ls.length:Int)+1) (Ks (K4 o (lng ls) (plQ (U1 ls ws))) (K4 o (lng ls) (plQ (U1 ls us))))*((ls.length:Int)+1)+((KY old ws:Int)-KY old us))*((lng ls:Int)+1) ^ ts.length+val ((lng ls:Int)+1) (Ks (ts.map (KW ls ws)) (ts.map (KW ls us))):=by rw[e1,e2,Ha d1 ga,Ha d2 ga,v1,v2];exact jk
 rw[←df]at tp2;generalize val ((ls.length:Int)+1) (Ks (K4 o (lng ls) (plQ (U1 ls ws))) (K4 o (lng ls) (plQ (U1 ls us))))*((ls.length:Int)+1)+((KY old ws:Int)-KY old us)=X at tp1 tp2;generalize val ((ls.length:Int)+1) (Ks (K4 o (lng ls) (plQ (U1 ls ws))) (K4 o (lng ls) (plQ (U1 ls us))))=V at tp1 f1;generalize val ((lng ls:Int)+1) (Ks (ts.map (KW ls ws)) (ts.map (KW ls us)))=Y at tp2 f2;generalize fnz (Ks (K4 o (lng ls) (plQ (U1 ls ws))) (K4 o (lng ls) (plQ (U1 ls us))))=A at f1⊢;generalize fnz (Ks (ts.map (KW ls ws)) (ts.map (KW ls us)))=C at f2⊢;constructor
 ·constructor
  ·intro h;rcases tp2.1.mp (by omega)with h1|⟨h1,h2⟩
   ·rcases tp1.1.mp h1 with h3|⟨h3,h4⟩
    ·exact .inl (f1.1.mp h3)
    ·exact .inr ⟨f1.2.mp h3,.inl (by omega)⟩
   ·obtain⟨h3,h4⟩:=tp1.2.mp h1;exact .inr ⟨f1.2.mp h3,.inr ⟨by omega,f2.1.mp h2⟩⟩
  ·intro h
   have:0<w1-w2:=tp2.1.mpr (by
    rcases h with h|⟨h,h2|⟨h2,h3⟩⟩
    ·exact .inl (tp1.1.mpr (.inl (f1.1.mpr h)))
    ·exact .inl (tp1.1.mpr (.inr ⟨f1.2.mpr h,by omega⟩))
    ·exact .inr ⟨tp1.2.mpr ⟨f1.2.mpr h,by omega⟩,f2.1.mpr h3⟩)
   omega
 ·constructor
  ·intro h;obtain⟨h1,h2⟩:=tp2.2.mp (by omega);obtain⟨h3,h4⟩:=tp1.2.mp h1;exact⟨f1.2.mp h3,by omega,f2.2.mp h2⟩
  ·rintro⟨h1,h2,h3⟩;have:=tp2.2.mpr ⟨tp1.2.mpr ⟨f1.2.mpr h1,by omega⟩,f2.2.mpr h3⟩;omega
theorem B7(g:Good cs ls)(d1:Deal cs ls ws)(d2:Deal cs ls us)(ga:Zv cs.length ls.length old ts) :
  WG o (Kh (lng ls) (U1 ls ws)) (Kh (lng ls) (U1 ls us)) (KY old ws) (KY old us) (ts.map (rgA ls ws)) (ts.map (rgA ls us))=decide (KG (Ky (K9 ls o old ts) 0 ls us)<KG (Ky (K9 ls o old ts) 0 ls ws)):=by
 have ht:=OW (L:=lng ls) (xs:=ts.map (rgA ls ws)) (ys:=ts.map (rgA ls us)) (λr h=>by obtain⟨z,_,rfl⟩:=Qu.mp h;exact S6) (λr h=>by obtain⟨z,_,rfl⟩:=Qu.mp h;exact S6);rw[←Rh g d1 ga,←Rh g d2 ga]at ht;have hs:=(jj (o:=o) g d1 d2 ga rfl rfl).1;unfold WG;rw[←ht];apply JD.2;rw[Q6,hs];generalize fnz (Wm o (Kh (lng ls) (U1 ls ws)) (Kh (lng ls) (U1 ls us)))=A;generalize fnz (Ks (ts.map (KW ls ws)) (ts.map (KW ls us)))=C;by_cases h:A=0
 ·rw[Qk h];by_cases h2:(KY old ws:Int)=KY old us
  ·rw[Qk h2,Q6];omega
  ·rw[Qs h2,Q6];omega
 ·rw[Qs h,Q6];omega
end
theorem ji{α β:Type}{f:α->β}(hf:∀a b,f a=f b->a=b){l:List α}(h:l.Nodup):(l.map f).Nodup:=by unfold List.Nodup at h⊢;rw[List.pairwise_map];exact h.imp λhne e=>hne (hf _ _ e)
theorem HB:∀(ls:L3)(k:Nat),(∀rs∈ls,rs.flatten.Nodup)->(KL k ls).Nodup
 |[],_,_=>List.nodup_nil
 |rs::ls,k,h=>by
  show((YQ rs.flatten).map (λt=>((k:Int),t))++KL (k+1) ls).Nodup
  rw[List.nodup_append];refine⟨?_,HB ls (k+1) λr hr=>h r (Ql _ hr),λa ha b hb e=>?_⟩
  ·exact ji (λx y e=>(Prod.mk.inj e).2) ((Vr _).nodup_iff.mpr (h rs Qo))
  ·subst e;obtain⟨t,_,rfl⟩:=Qu.mp ha;have:=OR ls (k+1) _ hb;simp at this;omega
def papD(tm:Int)(as ps:List Int):D:=.tuple [.int tm,.list (as.map int),.list (ps.map int)]
def PD(ps cs:List Int):List Int:=(ps.zip cs).map λp=>p.1*p.2
def RV(cs as ps:List Int):Int:=as.sum+(PD ps cs).sum
theorem ET{cs:List Int}{ls:L3}(g:Good cs ls):∀q∈KL 0 ls,(0<=q.1/\q.1<ls.length)/\0<=q.2/\q.2<cs.length:=λq hq=>by obtain⟨i,rs,h1,h2,h3⟩:=Vw hq;have:=(g.rk rs (Qt h1)).flat q.2 h3;have:=(Qg.mp h1).1;omega
section
variable{cs:List Int}{ls:L3}{o:Ord}{old:Option LO}{ts:List Int}
theorem BQ(g:Good cs ls)(ga:Zv cs.length ls.length old ts){q:Int×Int}(hq:q∈KL 0 ls):0<=Zn ls o old ts q.1 q.2/\Zn ls o old ts q.1 q.2<18446744073709551616:=by
 obtain⟨i,rs,h1,h2,h3⟩:=Vw hq;have l7:=g.l7;have l1:=g.l1;have hL:lng ls<=5:=RY l1 λrs h=>(g.rk rs h).few;have hrl:=PX (Qt h1);have hr1:1<=KM q.2 rs:=by have:=Ro h3;omega
 have hr2:KM q.2 rs<=lng ls:=by have:=Ph q.2 rs;omega
 have htl:=ga.few
 have e:Zn ls o old ts q.1 q.2=K9 ls o old ts i rs q.2:=by
  unfold Zn;rw[h2,Q3,Qz]
  congr 1
  simp[List.getD,h1]
 rw[e];unfold K9;have pw:∀{b:Int}{n k:Nat},1<=b->b<=8->n<=k->1<=b ^ n/\b ^ n<=8 ^ k:=λ{b n k} h0 h8 hk=>⟨Int.pow_pos h0,Hg (by omega) h8 hk⟩
 have hb1:(1:Int)<=(ls.length:Int)+1:=by omega
 have hb8:(ls.length:Int)+1<=8:=by omega
 have hM1:(1:Int)<=(lng ls:Int)+1:=by omega
 have hM8:(lng ls:Int)+1<=8:=by omega
 have a1:=pw hb1 hb8 (n:=lng ls) (k:=5) hL;have a2:=pw hb1 hb8 (n:=((lng ls:Int)-(KM q.2 rs:Nat)).toNat) (k:=5) (by omega);have a3:=pw hb1 hb8 (n:=((KM q.2 rs:Nat)-1:Int).toNat) (k:=5) (by omega)
 have a4:((ls.length:Int)+1) ^ ((KM q.2 rs:Nat)-1:Int).toNat<=((ls.length:Int)+1) ^ lng ls:=by
  have:((KM q.2 rs:Nat)-1:Int).toNat<=lng ls:=by omega
  obtain⟨k,hk⟩:=Nat.exists_eq_add_of_le this;rw[hk,Int.pow_add];have:=(pw hb1 hb8 (n:=k) (k:=5) (by omega)).1;have hm:=Int.mul_le_mul_of_nonneg_left this (show 0<=((ls.length:Int)+1) ^ ((KM q.2 rs:Nat)-1:Int).toNat by omega);rw[Int.mul_one]at hm;exact hm
 have b1:0<=ZA o (ls.length+1) (lng ls) (KM q.2 rs)/\ZA o (ls.length+1) (lng ls) (KM q.2 rs)<=65536:=by
  cases o with
  |firsts=>show 0<=_ ^ _/\_ ^ _<=65536;omega
  |full=>show 0<=_ ^ ((lng ls:Int)).toNat+_ ^ _/\_ ^ ((lng ls:Int)).toNat+_ ^ _<=65536;rw[Qz];omega
  |lasts=>show 0<=_ ^ ((lng ls:Int)).toNat-_ ^ _/\_ ^ ((lng ls:Int)).toNat-_ ^ _<=65536;rw[Qz];omega
 have b2:0<=YO old i q.2/\YO old i q.2<=1:=by
  unfold YO;split
  ·omega
  ·split<;>omega
 have b3:=pw hM1 hM8 (n:=ts.length) (k:=7) (by omega)
 have b4:0<=Vh ts ((lng ls:Int)+1) i (KM q.2 rs)/\Vh ts ((lng ls:Int)+1) i (KM q.2 rs)<=8*8 ^ 7:=by
  unfold Vh;split
  ·have b5:=pw hM1 hM8 (n:=ts.length-1-ts.idxOf (i:Int)) (k:=7) (by omega);refine⟨Int.mul_nonneg (by omega) (by omega),?_⟩;exact Int.mul_le_mul (by omega) b5.2 (by omega) (by decide)
  ·exact⟨by omega,by decide⟩
 have c1:0<=ZA o (ls.length+1) (lng ls) (KM q.2 rs)*(ls.length+1)+YO old i q.2/\ZA o (ls.length+1) (lng ls) (KM q.2 rs)*(ls.length+1)+YO old i q.2<=600000:=by have d1:0<=ZA o (ls.length+1) (lng ls) (KM q.2 rs)*((ls.length:Int)+1):=Int.mul_nonneg b1.1 (by omega);have d2:ZA o (ls.length+1) (lng ls) (KM q.2 rs)*((ls.length:Int)+1)<=65536*8:=Int.mul_le_mul b1.2 hb8 (by omega) (by decide);omega
 have d3:0<=(ZA o (ls.length+1) (lng ls) (KM q.2 rs)*(ls.length+1)+YO old i q.2)*((lng ls:Int)+1) ^ ts.length:=Int.mul_nonneg c1.1 (by omega);have d4:(ZA o (ls.length+1) (lng ls) (KM q.2 rs)*(ls.length+1)+YO old i q.2)*((lng ls:Int)+1) ^ ts.length<=600000*8 ^ 7:=Int.mul_le_mul c1.2 b3.2 (by omega) (by decide);omega
end
structure OkP(n m:Nat)(V:Int->Int->Int)(qs:LP)(tm:Int)(as ps:List Int):Prop where
 t0:0<=tm
 la:as.length=m
 lp:ps.length=n
 aa:∀a∈as,0<=a
 pp:∀p∈ps,0<=p
 le:∀q∈qs,tm*V q.1 q.2<=as.getD q.1.toNat 0+ps.getD q.2.toNat 0
def pz(ps:List Int)(ws:LO):Int:=(ws.map λo=>match o with|some t=>ps.getD t.toNat 0|none=>0).sum
def Zb(n:Nat)(f:Nat->Int):Int:=((Uz n).map f).sum
theorem VY{n:Nat}{f:Nat->Int}:Zb (n+1) f=Zb n f+f n:=by unfold Zb;rw[Ui,QB,JL];simp
theorem Ly{f h:Nat->Int}:∀(n:Nat),Zb n (λk=>f k+h k)=Zb n f+Zb n h
 |0=>rfl
 |n+1=>by rw[VY,VY,VY,Ly n];omega
theorem R7{f h:Nat->Int}:∀(n:Nat),(∀k,k<n->f k<=h k)->Zb n f<=Zb n h
 |0,_=>QX _
 |n+1,e=>by
  have h1:=R7 n λk hk=>e k (by omega)
  have h2:=e n (by omega);rw[VY,VY];omega
theorem O4:∀(n:Nat)(f:Nat->Int),(∀k,k<n->f k=0)->Zb n f=0
 |0,_,_=>rfl
 |n+1,f,e=>by rw[VY,O4 n f λk hk=>e k (by omega),e n (by omega)];rfl
theorem Lx{p:Nat->Int}{j:Nat}:∀(n:Nat),j<n->Zb n (λk=>if k=j then p k else 0)=p j
 |n+1,h=>by
  rw[VY];by_cases e:n=j
  ·subst e;rw[Qk rfl,O4 n _ λk hk=>Qs (by omega)];omega
  ·rw[Qs e,Lx n (by omega)];omega
theorem O9{f h:Nat->Int}{n:Nat}(e:∀k,k<n->f k=h k):Zb n f=Zb n h:=J7 (R7 n λk hk=>by rw[e k hk];exact QX _) (R7 n λk hk=>by rw[e k hk];exact QX _)
theorem O3{ps:List Int}{n:Nat}:∀(ws:LO),(∀t,some t∈ws->0<=t/\t<n)->pz ps ws=Zb n λk=>((ws.count (some (k:Int)):Nat):Int)*ps.getD k 0
 |[],_=>by rw[O4 n _ λk _=>by simp];rfl
 |o::ws,h=>by
  have ih:=O3 (ps:=ps) ws λt ht=>h t (Ql _ ht)
  cases o with
  |none=>
   show((0:Int)::(ws.map λo=>match o with|some t=>ps.getD t.toNat 0|none=>0)).sum=_
   rw[Jc];unfold pz at ih;rw[ih,Uk];exact O9 λk _=>by rw[List.count_cons];simp
  |some t=>
   have ht:=h t Qo
   show(ps.getD t.toNat 0::(ws.map λo=>match o with|some t=>ps.getD t.toNat 0|none=>0)).sum=_
   rw[Jc];unfold pz at ih;rw[ih,←Lx (p:=λk=>ps.getD k 0) (j:=t.toNat) n (by omega),←Ly];refine O9 λk _=>?_;rw[JE]
   by_cases e:k=t.toNat
   ·subst e;have:(some t==some ((t.toNat:Nat):Int))=true:=by simp;omega
    rw[Qk rfl,Qk this,Int.natCast_add,Int.add_mul];omega
   ·have:¬(some t==some ((k:Nat):Int))=true:=by simp;omega
    rw[Qs e,Qs this,Uk,Ue]
theorem HA:∀(ps cs:List Int),ps.length=cs.length->(PD ps cs).sum=Zb cs.length λk=>cs.getD k 0*ps.getD k 0
 |ps,cs,h=>by
  unfold Zb PD
  congr 1
  apply Jr;intro i;rw[Qe,Qe];by_cases hi:i<cs.length
  ·rw[QZ hi];have h1:ps[i]?=some ps[i]:=Qd (by omega);have h2:cs[i]?=some cs[i]:=Qd hi;have hz:(ps.zip cs)[i]?=some (ps[i],cs[i]):=JQ.mpr ⟨h1,h2⟩;rw[hz];simp only[Option.map_some,Qh,h1,h2,JW,Int.mul_comm]
  ·rw[QC (l:=ps.zip cs) (by rw[JK];omega),QC (l:=Uz cs.length) (by rw[Qr];omega)];rfl
structure Stp where
 a:Nat
 b:Nat
 g:Int
 w:Option Nat
abbrev Tab:=List (Int×List Stp)
def ent(T:Tab)(p:Nat):Int×List Stp:=T.getD p (0,[])
def Yy(W T:Tab)(s:Stp):Tab:=if(ent T s.b).1<(ent W s.a).1+s.g then T.set s.b ((ent W s.a).1+s.g,(ent W s.a).2++[s])else T
def RU(W:Tab)(S:List Stp):Tab:=S.foldl (Yy W) W
def KN(n:Nat)(S:List Stp):Nat->Tab
 |0=>UA n (0,[])
 |t+1=>RU (KN n S t) S
theorem kr{T:Tab}{p:Nat}{x:Int×List Stp}(h:p<T.length):ent (T.set p x) p=x:=by unfold ent;rw[Qh,QH h];rfl
theorem O8{T:Tab}{p q:Nat}{x:Int×List Stp}(h:p≠q):ent (T.set p x) q=ent T q:=by unfold ent;rw[Qh,Qp h,←Qh]
theorem B6(W T:Tab)(s:Stp):(Yy W T s).length=T.length:=by
 unfold Yy;split
 ·rw[Q5]
 ·rfl
structure Sn(W T:Tab)(S:List Stp):Prop where
 len:T.length=W.length
 up:∀p,(ent W p).1<=(ent T p).1
 how:∀p,ent T p=ent W p ∨ ∃s∈S,s.b=p/\ent T p=((ent W s.a).1+s.g,(ent W s.a).2++[s])/\(ent W p).1<(ent T p).1
theorem kq{W T:Tab}{S:List Stp}{s:Stp}(hs:s∈S)(hb:s.b<W.length)(k:Sn W T S):Sn W (Yy W T s) S/\(∀p,(ent T p).1<=(ent (Yy W T s) p).1)/\(ent W s.a).1+s.g<=(ent (Yy W T s) s.b).1:=by
 have hbT:s.b<T.length:=by rw[k.len];exact hb
 unfold Yy;split
 ·rename_i h;have self:=kr (x:=((ent W s.a).1+s.g,(ent W s.a).2++[s])) hbT;refine⟨⟨by rw[Q5];exact k.len,λp=>?_,λp=>?_⟩,λp=>?_,by rw[self];exact QX _⟩
  ·by_cases z:s.b=p
   ·subst z;rw[self];have:=k.up s.b;show _<=(ent W s.a).1+s.g;omega
   ·rw[O8 z];exact k.up p
  ·by_cases z:s.b=p
   ·subst z;right;exact⟨s,hs,rfl,self,by rw[self];have:=k.up s.b;show _<(ent W s.a).1+s.g;omega⟩
   ·rw[O8 z];exact k.how p
  ·by_cases z:s.b=p
   ·subst z;rw[self];show _<=(ent W s.a).1+s.g;omega
   ·rw[O8 z];exact QX _
 ·rename_i h;exact⟨k,λp=>QX _,by omega⟩
theorem HW{W:Tab}{S:List Stp}(hS:∀s∈S,s.b<W.length):∀(R:List Stp)(T:Tab),(∀s∈R,s∈S)->Sn W T S->Sn W (R.foldl (Yy W) T) S/\(∀p,(ent T p).1<=(ent (R.foldl (Yy W) T) p).1)/\∀s∈R,(ent W s.a).1+s.g<=(ent (R.foldl (Yy W) T) s.b).1
 |[],T,_,k=>⟨k,λ_=>QX _,λs h=>by cases h⟩
 |s::R,T,hR,k=>by
  obtain⟨k1,u1,c1⟩:=kq (hR s Qo) (hS s (hR s Qo)) k;obtain⟨k2,u2,c2⟩:=HW hS R (Yy W T s) (λx hx=>hR x (Ql _ hx)) k1;refine⟨k2,λp=>JS (u1 p) (u2 p),λx hx=>?_⟩;rcases QT.mp hx with rfl|hx
  ·exact JS c1 (u2 x.b)
  ·exact c2 x hx
theorem Gj{W:Tab}{S:List Stp}(hS:∀s∈S,s.b<W.length):Sn W (RU W S) S/\∀s∈S,(ent W s.a).1+s.g<=(ent (RU W S) s.b).1:=by obtain⟨k,_,c⟩:=HW hS S W (λ_ h=>h) ⟨rfl,λ_=>QX _,λ_=>.inl rfl⟩;exact⟨k,c⟩
section
variable{n:Nat}{S:List Stp}(hS:∀s∈S,s.a<n/\s.b<n)
include hS
theorem SH:∀t,(KN n S t).length=n
 |0=>by unfold KN;rw[QF]
 |t+1=>by unfold KN;rw[(Gj (λs h=>by rw[SH t];exact(hS s h).2)).1.len,SH t]
theorem VW(t:Nat):Sn (KN n S t) (KN n S (t+1)) S/\∀s∈S,(ent (KN n S t) s.a).1+s.g<=(ent (KN n S (t+1)) s.b).1:=
 Gj (λs h=>by rw[SH hS t];exact(hS s h).2)
theorem Rg(p:Nat):ent (KN n S 0) p=(0,[]):=by
 unfold ent KN;rw[Qh,QA]
 split<;>rfl
theorem Pv:∀t,(∀p,(ent (KN n S t) p).2.length<=t)/\(∀p,0<t->ent (KN n S t) p≠ent (KN n S (t-1)) p->(ent (KN n S t) p).2.length=t)
 |0=>⟨λp=>by rw[Rg hS];exact Qx _,λp h=>absurd h (Jt _)⟩
 |t+1=>by
  obtain⟨h1,h2⟩:=Pv t;obtain⟨k,c⟩:=VW hS t
  have key:∀p,ent (KN n S (t+1)) p≠ent (KN n S t) p->(ent (KN n S (t+1)) p).2.length=t+1:=λp hne=>by
   rcases k.how p with e|⟨s,hs,hb,e,lt⟩
   ·exact absurd e hne
   ·rw[e,Qj,Q9]
    congr 1
    cases t with
    |zero=>rw[Rg hS];rfl
    |succ t=>
     refine h2 s.a (Uj t) λz=>?_
     obtain⟨k0,c0⟩:=VW hS t;have:=c0 s hs;rw[Nat.add_sub_cancel]at z;rw[e,z,←hb]at lt;exact absurd lt (by show ¬_<(ent (KN n S t) s.a).1+s.g;omega)
  refine⟨λp=>?_,λp _ hne=>key p (by rw[Nat.add_sub_cancel]at hne;exact hne)⟩;by_cases z:ent (KN n S (t+1)) p=ent (KN n S t) p
  ·rw[z];exact Nat.le_succ_of_le (h1 p)
  ·rw[key p z];exact Qx _
end
inductive Walk(S:List Stp):Nat->List Stp->Prop where
 |nil (p:Nat):Walk S p []
 |snoc {w:List Stp} {s:Stp} (hs:s∈S) (h:Walk S s.a w):Walk S s.b (w++[s])
def Kp(w:List Stp):Int:=(w.map Stp.g).sum
theorem Lw:Kp []=0:=rfl
theorem Ww(u v:List Stp):Kp (u++v)=Kp u+Kp v:=by unfold Kp;rw[QB,JL]
theorem SD(s:Stp):Kp [s]=s.g:=by unfold Kp;simp
section
variable{n:Nat}{S:List Stp}(hS:∀s∈S,s.a<n/\s.b<n)
include hS
theorem Rq:∀t p,Walk S p (ent (KN n S t) p).2/\Kp (ent (KN n S t) p).2=(ent (KN n S t) p).1
 |0,p=>by rw[Rg hS];exact⟨.nil p,rfl⟩
 |t+1,p=>by
  rcases(VW hS t).1.how p with e|⟨s,hs,hb,e,_⟩
  ·rw[e];exact Rq t p
  ·obtain⟨h1,h2⟩:=Rq t s.a;rw[e,←hb];exact⟨.snoc hs h1,by rw[Ww,SD,h2]⟩
theorem Hy{t u:Nat}(h:t<=u)(p:Nat):(ent (KN n S t) p).1<=(ent (KN n S u) p).1:=by
 induction h with
 |refl=>exact QX _
 |step _ ih=>exact JS ih ((VW hS _).1.up p)
theorem B5{p:Nat}{w:List Stp}(h:Walk S p w):∀(t:Nat),w.length<=t->Kp w<=(ent (KN n S t) p).1:=by
 induction h with
 |nil p=>intro t _;have:=Hy hS (Jw t) p;rw[Rg hS]at this;exact this
 |@snoc w s hs h ih=>
  intro t hl;rw[Qj,Q9]at hl;obtain⟨u,rfl⟩:∃u,t=u+1:=⟨t-1,by omega⟩
  have:=ih u (by omega);have:=(VW hS u).2 s hs;rw[Ww,SD];omega
theorem jh{t:Nat}(h0:0<t)(h:∀p,p<n->(ent (KN n S t) p).2.length≠t):∀s∈S,(ent (KN n S t) s.a).1+s.g<=(ent (KN n S t) s.b).1:=λs hs=>by
 obtain⟨u,rfl⟩:∃u,t=u+1:=⟨t-1,by omega⟩
 have e:ent (KN n S (u+1)) s.a=ent (KN n S u) s.a:=Classical.byContradiction λz=>h s.a (hS s hs).1 ((Pv hS (u+1)).2 s.a h0 z);rw[e]
 exact(VW hS u).2 s hs
end
inductive Path(S:List Stp):Nat->List Stp->Nat->Prop where
 |nil (p:Nat):Path S p [] p
 |cons {s:Stp} {w:List Stp} {p:Nat} (hs:s∈S) (h:Path S s.b w p):Path S s.a (s::w) p
section
variable{S:List Stp}
theorem Path.append{q m p:Nat}{u v:List Stp}(h1:Path S q u m)(h2:Path S m v p):Path S q (u++v) p:=by
 induction h1 with
 |nil p=>exact h2
 |cons hs h ih=>exact .cons hs (ih h2)
theorem Path.split{p:Nat}{v:List Stp}:∀{u:List Stp}{q:Nat},Path S q (u++v) p->∃m,Path S q u m/\Path S m v p
 |[],q,h=>⟨q,.nil q,h⟩
 |s::u,q,h=>by
  cases h with
  |cons hs h=>obtain⟨m,h1,h2⟩:=Path.split (u:=u) h;exact⟨m,.cons hs h1,h2⟩
theorem Path.mem{q p:Nat}{w:List Stp}(h:Path S q w p):∀s∈w,s∈S:=by
 induction h with
 |nil p=>intro s h;cases h
 |cons hs h ih=>
  intro s hm;rcases QT.mp hm with rfl|hm
  ·exact hs
  ·exact ih s hm
theorem Walk.path{p:Nat}{w:List Stp}(h:Walk S p w):∃q,Path S q w p:=by
 induction h with
 |nil p=>exact⟨p,.nil p⟩
 |snoc hs h ih=>obtain⟨q,hq⟩:=ih;exact⟨q,hq.append (.cons hs (.nil _))⟩
theorem Path.walk{p:Nat}:∀{w:List Stp}{q:Nat},Path S q w p->∀{u:List Stp},Walk S q u->Walk S p (u++w)
 |[],q,h,u,hu=>by cases h;rw[Jj];exact hu
 |s::w,q,h,u,hu=>by
  cases h with
  |cons hs h=>have:=Path.walk h (Walk.snoc hs hu);rw[Jg]at this;exact this
theorem Path.head{q p:Nat}{s:Stp}{w:List Stp}(h:Path S q (s::w) p):q=s.a:=by cases h;rfl
theorem Path.step{q p:Nat}{s:Stp}{w:List Stp}(h:Path S q (s::w) p):s∈S/\Path S s.b w p:=by cases h with|cons hs h=>exact⟨hs,h⟩
theorem Path.at{q p:Nat}{w:List Stp}(h:Path S q w p){i:Nat}{s:Stp}(hi:w[i]?=some s):Path S q (w.take i) s.a/\Path S q (w.take (i+1)) s.b/\Path S s.b (w.drop (i+1)) p:=by
 have hl:i<w.length:=(Qg.mp hi).1
 have e:w.drop i=s::w.drop (i+1):=by
  rw[QU hl]
  congr 1
  exact(Qg.mp hi).2
 have h':Path S q (w.take i++w.drop i) p:=by rw[Ua];exact h
 obtain⟨m,h1,h2⟩:=h'.split;rw[e]at h2;have hm:=h2.head;subst hm;obtain⟨hs,h3⟩:=h2.step;refine⟨h1,?_,h3⟩;rw[JH,hi];exact h1.append (.cons hs (.nil _))
theorem Path.next{q p:Nat}{w:List Stp}(h:Path S q w p){i:Nat}{s t:Stp}(hi:w[i]?=some s)(hj:w[i+1]?=some t):t.a=s.b:=by obtain⟨_,_,h3⟩:=h.at hi;have hl:i+1<w.length:=(Qg.mp hj).1;rw[QU hl]at h3;rw[←(Qg.mp hj).2];exact h3.head.symm
structure Oi(w:List Stp)(i j:Nat):Prop where
 ij:i<=j
 jl:j<w.length
 same:∀s t,w[i]?=some s->w[j]?=some t->s.a=t.b
 first:∀j'<j,∀i' ≤ j',∀s t,w[i']?=some s->w[j']?=some t->s.a≠t.b
def N5(w:List Stp):Prop:=∀j<w.length,∀i ≤ j,∀s t,w[i]?=some s->w[j]?=some t->s.a≠t.b
theorem BP{n:Nat}(hS:∀s∈S,s.a<n/\s.b<n){q p:Nat}{w:List Stp}(h:Path S q w p)(hl:n<=w.length)(h0:0<n):¬N5 w:=λhn=>by
 obtain⟨s0,w0,rfl⟩:∃s0 w0,w=s0::w0:=by
  cases w with
  |nil=>rw[QN]at hl;omega
  |cons a b=>exact⟨a,b,rfl⟩
 let P:List Nat:=s0.a::(s0::w0).map Stp.b
 have key:∀k l:Nat,k<l->∀x y:Nat,P[k]?=some x->P[l]?=some y->x≠y:=λk l hkl x y hx hy=>by
  obtain⟨l,rfl⟩:∃m,l=m+1:=⟨l-1,by omega⟩
  have hy:((s0::w0).map Stp.b)[l]?=some y:=hy;rw[Qe]at hy;cases ht:(s0::w0)[l]? with
  |none=>rw[ht]at hy;cases hy
  |some t=>
  rw[ht]at hy;cases hy;have hll:l<(s0::w0).length:=(Qg.mp ht).1;obtain⟨s,hs⟩:∃s,(s0::w0)[k]?=some s:=⟨_,Qd (by omega)⟩
  have hxs:x=s.a:=by
   cases k with
   |zero=>cases hs;cases hx;rfl
   |succ k=>
    have hx:((s0::w0).map Stp.b)[k]?=some x:=hx;rw[Qe]at hx;obtain⟨r,hr⟩:∃r,(s0::w0)[k]?=some r:=⟨_,Qd (by omega)⟩
    rw[hr]at hx;cases hx;exact(h.next hr hs).symm
  rw[hxs];exact hn l hll k (by omega) s t hs ht
 have nd:P.Nodup:=by rw[List.nodup_iff_pairwise_ne,List.pairwise_iff_getElem];intro k l hk hl2 hkl;exact key k l hkl _ _ (Qd hk) (Qd hl2)
 have bound:∀x∈P,x<n:=λx hx=>by
  rcases QT.mp hx with rfl|hx
  ·exact(hS s0 h.step.1).1
  ·obtain⟨s,hs,rfl⟩:=Qu.mp hx;exact(hS s (h.mem s hs)).2
 have le:P.length<=n:=by
  have:=List.Nodup.length_le_of_subset nd (l₂:=Uz n) λx hx=>Q8.mpr (bound x hx)
  rwa[Qr]at this
 have:P.length=(s0::w0).length+1:=by show((s0::w0).map Stp.b).length+1=_;rw[Qb]
 omega
theorem jg{n:Nat}(hS:∀s∈S,s.a<n/\s.b<n)(h0:0<n){p:Nat}(hw:(ent (KN n S n) p).2.length=n){i j:Nat}(r:Oi (ent (KN n S n) p).2 i j) :
  ∃x,Path S x (((ent (KN n S n) p).2.take (j+1)).drop i) x/\0<Kp (((ent (KN n S n) p).2.take (j+1)).drop i):=by
 obtain⟨hwk,hg⟩:=Rq hS n p;generalize hW:(ent (KN n S n) p).2=w at hw r hwk hg⊢;obtain⟨q,hp⟩:=hwk.path;have hij:=r.ij;have hjl:=r.jl;obtain⟨s,hs⟩:∃s,w[i]?=some s:=⟨_,Qd (by omega)⟩
 obtain⟨t,ht⟩:∃t,w[j]?=some t:=⟨_,Qd hjl⟩
 have hst:=r.same s t hs ht;obtain⟨a1,a2,a3⟩:=hp.at hs;obtain⟨b1,b2,b3⟩:=hp.at ht;have e1:w.take (j+1)=w.take i++(w.take (j+1)).drop i:=by have:=(Ua i (w.take (j+1))).symm;rw[List.take_take,Nat.min_eq_left (by omega)]at this;exact this
 rw[e1]at b2;obtain⟨m,c1,c2⟩:=b2.split
 have hm:m=s.a:=by
  have e2:(w.take (j+1)).drop i=s::(w.take (j+1)).drop (i+1):=by
   rw[QU (by rw[QW];omega)]
   congr 1
   rw[List.getElem_take];exact(Qg.mp hs).2
  rw[e2]at c2;exact c2.head
 subst hm;rw[←hst]at c2 b3;refine⟨s.a,c2,?_⟩;have hsh:Path S q (w.take i++w.drop (j+1)) p:=a1.append b3;have hshw:=hsh.walk (u:=[]) (.nil q);rw[JJ]at hshw;have hlen:(w.take i++w.drop (j+1)).length<=n-1:=by rw[Qj,QW,Jk];omega
 have most:=B5 hS hshw (n-1) hlen;have hgw:Kp w=Kp (w.take i)+Kp ((w.take (j+1)).drop i)+Kp (w.drop (j+1)):=by rw[←Ww,←e1,←Ww,Ua]
 rw[Ww]at most
 have lt:(ent (KN n S (n-1)) p).1<(ent (KN n S n) p).1:=by
  obtain⟨k,_⟩:=VW hS (n-1);rw[Nat.sub_add_cancel h0]at k;rcases k.how p with e|⟨_,_,_,_,lt⟩
  ·have:=(Pv hS (n-1)).1 p;rw[←e,hW,hw]at this;omega
  ·exact lt
 omega
theorem jU{q p:Nat}{w:List Stp}(h:Path S q w p){i j:Nat}(r:Oi w i j):(((w.take (j+1)).drop i).map Stp.a).Nodup:=by
 rw[List.nodup_iff_pairwise_ne,List.pairwise_iff_getElem];intro k l hk hl hkl;have hij:=r.ij;have hjl:=r.jl;simp only[Qb,Jk,QW]at hk hl;simp only[JX,List.getElem_drop,List.getElem_take];obtain⟨m,rfl⟩:∃m,l=m+1:=⟨l-1,by omega⟩
 have e1:w[i+m]?=some w[i+m]:=Qd (by omega);have e2:w[i+m+1]?=some w[i+(m+1)]:=Qd (by omega);have e3:w[i+k]?=some w[i+k]:=Qd (by omega);rw[h.next e1 e2];exact r.first (i+m) (by omega) (i+k) (by omega) _ _ e3 e1
end
def Kk(f:Int×Int->Int)(i:Nat):Option Int->Int
 |none=>0
 |some t=>f ((i:Int),t)
def plF(n:Nat):Option Int->Nat
 |none=>n
 |some t=>t.toNat
def YD(n b:Nat):Option Int:=if b=n then none else some (b:Int)
def Ko(f:Int×Int->Int)(k:Nat):LO->Int
 |[]=>0
 |o::r=>Kk f k o+Ko f (k+1) r
theorem Lv(f:Int×Int->Int){o':Option Int}:∀{d:LO}{k i:Nat}{o:Option Int},d[i]?=some o->Ko f k (d.set i o')=Ko f k d+Kk f (k+i) o'-Kk f (k+i) o
 |[],_,_,_,h=>by cases h
 |x::d,k,0,o,h=>by cases h;show Kk f k o'+Ko f (k+1) d=Kk f k x+Ko f (k+1) d+Kk f k o'-Kk f k x;omega
 |x::d,k,i+1,o,h=>by rw[List.set_cons_succ];unfold Ko;rw[Lv f (d:=d) (k:=k+1) (i:=i) (o:=o) (by simpa using h),show k+1+i=k+(i+1)by omega];omega
theorem Hx{o' x:Option Int}:∀{d:LO}{i:Nat}{o:Option Int},d[i]?=some o->(((d.set i o').count x:Nat):Int)=(d.count x:Nat)+(if o'=x then 1 else 0)-(if o=x then 1 else 0)
 |[],_,_,h=>by cases h
 |y::d,0,o,h=>by cases h;rw[List.set_cons_zero,JE,JE];by_cases h1:o'=x<;>by_cases h2:y=x<;>simp[h1,h2]<;>omega
 |y::d,i+1,o,h=>by have ih:=Hx (o':=o') (x:=x) (d:=d) (i:=i) (o:=o) (by simpa using h);rw[List.set_cons_succ,JE,JE];omega
structure ZZ(cs:List Int)(qs:LP)(m:Nat)(ws:LO):Prop where
 len:ws.length=m
 wish:∀(i:Nat) t,ws[i]?=some (some t)->((i:Int),t)∈qs
 cop:∀(k:Nat) c,cs[k]?=some c->((ws.count (some (k:Int)):Nat):Int)<=c
structure Yu(n m:Nat)(qs:LP):Prop where
 nd:qs.Nodup
 lo:∀q∈qs,0<=q.1/\q.1<m/\0<=q.2/\q.2<n
inductive IsSt(cs:List Int)(f:Int×Int->Int)(qs:LP)(ws:LO):Stp->Prop where
 |mv {i:Nat} {o o':Option Int} (h:ws[i]?=some o) (hne:o'≠o) (hq:∀t,o'=some t->((i:Int),t)∈qs):IsSt cs f qs ws ⟨plF cs.length o,plF cs.length o',Kk f i o'-Kk f i o,some i⟩
 |left {t:Nat} {c:Int} (h:cs[t]?=some c) (hl:((ws.count (some (t:Int)):Nat):Int)<c):IsSt cs f qs ws ⟨t,cs.length,0,none⟩
 |give {t:Nat} (h:t<cs.length):IsSt cs f qs ws ⟨cs.length,t,0,none⟩
def app(n:Nat)(d:LO)(s:Stp):LO:=match s.w with
 |some i=>d.set i (YD n s.b)
 |none=>d
def nIn(t:Nat)(R:List Stp):Nat:=(R.filter λs=>s.w.isSome&&s.b==t).length
def Xq(t:Nat)(R:List Stp):Nat:=(R.filter λs=>s.w.isSome&&s.a==t).length
section
variable{cs:List Int}{f:Int×Int->Int}{qs:LP}{m:Nat}{ws:LO}
theorem GY(hp:Yu cs.length m qs){i:Nat}{o:Option Int}(h:∀t,o=some t->((i:Int),t)∈qs):YD cs.length (plF cs.length o)=o:=by
 cases o with
 |none=>unfold YD plF;rw[Qk rfl]
 |some t=>
  have:=hp.lo _ (h t rfl)
  show(if t.toNat=cs.length then none else some ((t.toNat:Nat):Int))=some t
  rw[Qs (by omega)]
  congr 1
  omega
theorem RT(hp:Yu cs.length m qs){i:Nat}{o:Option Int}{t:Nat}(ht:t<cs.length)(h:∀t,o=some t->((i:Int),t)∈qs):plF cs.length o=t ↔ o=some (t:Int):=by
 cases o with
 |none=>exact⟨λe=>by have e:cs.length=t:=e;omega,λe=>by cases e⟩
 |some u=>
  have:=hp.lo _ (h u rfl);show u.toNat=t ↔ _;constructor
  ·intro e;congr 1;omega
  ·intro e;cases e;omega
theorem Pr(hp:Yu cs.length m qs)(hd:ZZ cs qs m ws):∀(R:List Stp)(d:LO),(∀s∈R,IsSt cs f qs ws s)->(R.map Stp.a).Nodup->(∀s∈R,∀i,s.w=some i->d[i]?=ws[i]?)->d.length=ws.length->(∀(i:Nat) t,d[i]?=some (some t)->((i:Int),t)∈qs) ->
  Ko f 0 (R.foldl (app cs.length) d)=Ko f 0 d+Kp R/\(R.foldl (app cs.length) d).length=ws.length/\(∀(i:Nat) t,(R.foldl (app cs.length) d)[i]?=some (some t)->((i:Int),t)∈qs) /\
  ∀t,t<cs.length->(((R.foldl (app cs.length) d).count (some (t:Int)):Nat):Int)=(d.count (some (t:Int)):Nat)+(nIn t R:Nat)-(Xq t R:Nat)
 |[],d,_,_,_,hl,hq=>⟨by show _=_+Kp [];rw[Lw];show Ko f 0 d=_;omega,hl,hq,λt _=>by show((d.count _:Nat):Int)=_+((0:Nat):Int)-((0:Nat):Int);omega⟩
 |s::R,d,hR,hn,ha,hl,hq=>by
  rw[Qq,List.nodup_cons]at hn;have hgc:Kp (s::R)=s.g+Kp R:=by show Kp ([s]++R)=_;rw[Ww,SD]
  rw[J6,hgc];cases hR s Qo with
  |@mv i o o' h hne hq'=>
   have hdi:d[i]?=some o:=(ha _ Qo i rfl).trans h;have ho:∀t,o=some t->((i:Int),t)∈qs:=λt e=>hd.wish i t (by rw[h,e])
   have hil:i<d.length:=(Qg.mp hdi).1;have eapp:app cs.length d ⟨plF cs.length o,plF cs.length o',Kk f i o'-Kk f i o,some i⟩=d.set i o':=by show d.set i (YD cs.length (plF cs.length o'))=_;rw[GY hp hq']
   rw[eapp]
   obtain⟨k1,k2,k3,k4⟩:=Pr hp hd R (d.set i o') (λs hs=>hR s (Ql _ hs)) hn.2 (λs hs j hj=>by
    have hji:i≠j:=λz=>by
     subst z;cases hR s (Ql _ hs)with
     |@mv i2 o2 o2' h2 _ _=>cases hj;rw[h]at h2;cases h2;exact hn.1 (Qu.mpr ⟨_,hs,rfl⟩)
     |left _ _=>cases hj
     |give _=>cases hj
    rw[Qp hji];exact ha s (Ql _ hs) j hj) (by rw[Q5];exact hl) (λj t e=>by
    by_cases z:i=j
    ·subst z;rw[QH hil]at e;cases e;exact hq' t rfl
    ·rw[Qp z]at e;exact hq j t e)
   refine⟨?_,k2,k3,λt ht=>?_⟩
   ·rw[k1,Lv f hdi,Q3];show _=Ko f 0 d+((Kk f i o'-Kk f i o)+Kp R);omega
   ·rw[k4 t ht,Hx hdi]
    have e1:(if o'=some (t:Int)then(1:Int)else 0)=if plF cs.length o'=t then 1 else 0:=by
     by_cases z:o'=some (t:Int)
     ·rw[Qk z,Qk ((RT hp ht hq').mpr z)]
     ·rw[Qs z,Qs (λy=>z ((RT hp ht hq').mp y))]
    have e2:(if o=some (t:Int)then(1:Int)else 0)=if plF cs.length o=t then 1 else 0:=by
     by_cases z:o=some (t:Int)
     ·rw[Qk z,Qk ((RT hp ht ho).mpr z)]
     ·rw[Qs z,Qs (λy=>z ((RT hp ht ho).mp y))]
    have e3:∀(x:Nat),((nIn t (⟨plF cs.length o,plF cs.length o',Kk f i o'-Kk f i o,some i⟩::R):Nat):Int)=(if plF cs.length o'=t then 1 else 0)+(nIn t R:Nat):=λx=>by
     unfold nIn;rw[Jo];by_cases z:plF cs.length o'=t
     ·rw[if_pos z,if_pos (by simp[z]),List.length_cons];omega
     ·rw[if_neg z,if_neg (by simp[z])];omega
    have e4:∀(x:Nat),((Xq t (⟨plF cs.length o,plF cs.length o',Kk f i o'-Kk f i o,some i⟩::R):Nat):Int)=(if plF cs.length o=t then 1 else 0)+(Xq t R:Nat):=λx=>by
     unfold Xq;rw[Jo];by_cases z:plF cs.length o=t
     ·rw[if_pos z,if_pos (by simp[z]),List.length_cons];omega
     ·rw[if_neg z,if_neg (by simp[z])];omega
    rw[e1,e2,e3 0,e4 0];omega
  |left _ _=>obtain⟨k1,k2,k3,k4⟩:=Pr hp hd R d (λs hs=>hR s (Ql _ hs)) hn.2 (λs hs=>ha s (Ql _ hs)) hl hq;refine⟨?_,k2,k3,k4⟩;show Ko f 0 (R.foldl _ d)=Ko f 0 d+(0+Kp R);rw[k1];omega
  |give _=>obtain⟨k1,k2,k3,k4⟩:=Pr hp hd R d (λs hs=>hR s (Ql _ hs)) hn.2 (λs hs=>ha s (Ql _ hs)) hl hq;refine⟨?_,k2,k3,k4⟩;show Ko f 0 (R.foldl _ d)=Ko f 0 d+(0+Kp R);rw[k1];omega
theorem NZ(t:Nat):∀R:List Stp,nIn t R<=(R.map Stp.b).count t
 |[]=>Qx _
 |s::R=>by
  have ih:=NZ t R;unfold nIn at ih⊢;rw[Jo,Qq,JE];split
  ·rename_i h;rw[Je]at h;rw[Qv,Qk h.2];omega
  ·omega
theorem BO(hp:Yu cs.length m qs)(hd:ZZ cs qs m ws){R:List Stp}(hR:∀s∈R,IsSt cs f qs ws s)(hn:(R.map Stp.a).Nodup)(hb:(R.map Stp.b).Perm (R.map Stp.a)):ZZ cs qs m (R.foldl (app cs.length) ws)/\Ko f 0 (R.foldl (app cs.length) ws)=Ko f 0 ws+Kp R:=by
 obtain⟨k1,k2,k3,k4⟩:=Pr hp hd R ws hR hn (λs hs i e=>rfl) rfl hd.wish;refine⟨⟨by rw[k2];exact hd.len,k3,λt c hc=>?_⟩,k1⟩;have ht:t<cs.length:=(Qg.mp hc).1;rw[k4 t ht];have h0:=hd.cop t c hc;have h1:(R.map Stp.a).count t<=1:=List.nodup_iff_count.mp hn t;have h2:=NZ t R;rw[hb.count_eq]at h2;by_cases z:nIn t R=0
 ·omega
 ·have hin:nIn t R=1:=by omega
  have hmem:t∈R.map Stp.a:=List.count_pos_iff.mp (by omega);obtain⟨s,hs,hst⟩:=Qu.mp hmem;cases hR s hs with
  |@mv i o o' h hne hq'=>
   have:1<=Xq t R:=by unfold Xq;exact List.length_pos_iff.mpr (List.ne_nil_of_mem (List.mem_filter.mpr ⟨hs,by simpa using hst⟩))
   omega
  |@left u c' h hl=>have hst:u=t:=hst;subst hst;rw[h]at hc;cases hc;omega
  |@give u h=>have hst:cs.length=t:=hst;omega
end
theorem ES{S:List Stp}{q p:Nat}{w:List Stp}(h:Path S q w p):w.map Stp.a++[p]=q::w.map Stp.b:=by
 induction h with
 |nil p=>rfl
 |cons hs h ih=>rw[Qq,Qq,List.cons_append,ih]
theorem jf{S:List Stp}{x:Nat}{w:List Stp}(h:Path S x w x):(w.map Stp.b).Perm (w.map Stp.a):=by have e:=ES h;have p1:(w.map Stp.a++[x]).Perm (x::w.map Stp.a):=List.perm_append_comm;rw[e]at p1;exact List.Perm.cons_inv p1
def ZK(f:Int×Int->Int)(V:Nat->Int)(qs:LP)(i:Int):Int:=qs.foldl (λa q=>if q.1=i then max a (f q-V q.2.toNat)else a) 0
theorem Pu(f:Int×Int->Int)(V:Nat->Int)(i:Int):∀(qs:LP)(a:Int),a<=qs.foldl (λa q=>if q.1=i then max a (f q-V q.2.toNat)else a) a /\
  (∀q∈qs,q.1=i->f q-V q.2.toNat<=qs.foldl (λa q=>if q.1=i then max a (f q-V q.2.toNat)else a) a) /\
  ∀B,a<=B->(∀q∈qs,q.1=i->f q-V q.2.toNat<=B)->qs.foldl (λa q=>if q.1=i then max a (f q-V q.2.toNat)else a) a<=B
 |[],a=>⟨QX _,(λq h=>by cases h),λB h _=>h⟩
 |q::qs,a=>by
  rw[J6];obtain⟨h1,h2,h3⟩:=Pu f V i qs (if q.1=i then max a (f q-V q.2.toNat)else a);have hb:a<=(if q.1=i then max a (f q-V q.2.toNat)else a):=by split<;>omega
  refine⟨JS hb h1,λp hp e=>?_,λB ha hB=>h3 B ?_ λp hp=>hB p (Ql _ hp)⟩
  ·rcases QT.mp hp with rfl|hp
   ·rw[Qk e]at h1⊢;omega
   ·exact h2 p hp e
  ·have:=hB q Qo;split
   ·rename_i e;have:=this e;omega
   ·exact ha
theorem Hw{f:Int×Int->Int}{ps:List Int}:∀(ws:LO)(k:Nat)(A:Nat->Int),(∀(j:Nat) o,ws[j]?=some o->A (k+j)=Kk f (k+j) o-(match o with|some t=>ps.getD t.toNat 0|none=>0))->((List.range' k ws.length).map A).sum=Ko f k ws-pz ps ws
 |[],k,A,_=>by show(0:Int)=0-0;omega
 |o::ws,k,A,h=>by
  rw[Qv,List.range'_succ,Qq,Jc,Hw ws (k+1) A λj o' e=>by have:=h (j+1) o' (by simpa using e);rw[show k+1+j=k+(j+1)by omega];exact this];have h0:=h 0 o rfl;rw[Ue]at h0;rw[h0];cases o with
  |none=>show Kk f k none-0+(Ko f (k+1) ws-pz ps ws)=Kk f k none+Ko f (k+1) ws-(0+pz ps ws);omega
  |some t=>show Kk f k (some t)-ps.getD t.toNat 0+(Ko f (k+1) ws-pz ps ws)=Kk f k (some t)+Ko f (k+1) ws-(ps.getD t.toNat 0+pz ps ws);omega
section
variable{cs:List Int}{f:Int×Int->Int}{qs:LP}{m:Nat}{ws:LO}{S:List Stp}
theorem IsSt.lt(hp:Yu cs.length m qs)(hd:ZZ cs qs m ws){s:Stp}(h:IsSt cs f qs ws s):s.a<cs.length+1/\s.b<cs.length+1:=by
 have key:∀{i:Nat}{o:Option Int},(∀t,o=some t->((i:Int),t)∈qs)->plF cs.length o<cs.length+1:=λ{i o} h=>by
  cases o with
  |none=>exact Uc _
  |some t=>have:=hp.lo _ (h t rfl);show t.toNat<_;omega
 cases h with
 |mv h hne hq=>exact⟨key λt e=>hd.wish _ t (by rw[h,e]),key hq⟩
 |left h hl=>have:=(Qg.mp h).1;exact⟨Ub this,Uc _⟩
 |give h=>exact⟨Uc _,Ub h⟩
theorem BN{V:Nat->Int}(still:∀s∈S,V s.a+s.g<=V s.b){q p:Nat}{w:List Stp}(h:Path S q w p):V q+Kp w<=V p:=by
 induction h with
 |nil p=>rw[Lw];omega
 |@cons s w p hs h ih=>
  have:=still s hs;have e:Kp (s::w)=s.g+Kp w:=by show Kp ([s]++w)=_;rw[Ww,SD]
  omega
theorem BM(hp:Yu cs.length m qs)(hd:ZZ cs qs m ws)(hin:∀s∈S,IsSt cs f qs ws s)(hall:∀s,IsSt cs f qs ws s->s∈S){V:Nat->Int}(hV:∀p,V p=(ent (KN (cs.length+1) S (cs.length+1)) p).1)
  (still:∀p,p<cs.length+1->(ent (KN (cs.length+1) S (cs.length+1)) p).2.length≠cs.length+1) :
  OkP cs.length m (λa b=>f (a,b)) qs 1 ((Uz m).map λi:Nat=>ZK f V qs (i:Int)) ((Uz cs.length).map V)/\RV cs ((Uz m).map λi:Nat=>ZK f V qs (i:Int)) ((Uz cs.length).map V)=Ko f 0 ws:=by
 have hS:∀s∈S,s.a<cs.length+1/\s.b<cs.length+1:=λs hs=>(hin s hs).lt hp hd;have st:∀s∈S,V s.a+s.g<=V s.b:=λs hs=>by rw[hV,hV];exact jh hS (Uj _) still s hs
 have v0:∀p,0<=V p:=λp=>by have:=Hy hS (Jw (cs.length+1)) p;rw[Rg hS]at this;rw[hV];exact this
 have vn:V cs.length=0:=by
  obtain⟨hw,hg⟩:=Rq hS (cs.length+1) cs.length;obtain⟨q,hq⟩:=hw.path;have h1:=BN st hq;rw[hg,←hV]at h1;have h2:=v0 q;by_cases z:q=cs.length
  ·rw[z]at h1 h2;omega
  ·have hql:q<cs.length:=by
    cases hw2:(ent (KN (cs.length+1) S (cs.length+1)) cs.length).2 with
    |nil=>rw[hw2]at hq;cases hq;exact absurd rfl z
    |cons s w=>rw[hw2]at hq;have:=(hS s hq.step.1).1;rw[←hq.head]at this;omega
   have h3:=st _ (hall _ (.give hql));have h3:V cs.length+0<=V q:=h3;have:=v0 cs.length;omega
 have psD:∀k,k<cs.length->((Uz cs.length).map V).getD k 0=V k:=λk hk=>by rw[Qh,Qe,QZ hk];rfl
 have ask:∀(i:Nat) o,ws[i]?=some o->ZK f V qs (i:Int)=Kk f i o-(match o with|some t=>((Uz cs.length).map V).getD t.toNat 0|none=>0):=λi o h=>by
  obtain⟨a1,a2,a3⟩:=Pu f V (i:Int) qs 0;cases o with
  |none=>
   have:ZK f V qs (i:Int)<=0:=a3 0 (QX _) λq hq e=>by have h1:=st _ (hall _ (.mv (f:=f) h (o':=some q.2) (by intro z;cases z) λt et=>by cases et;rw[←e];exact hq));have h1:V cs.length+(f ((i:Int),q.2)-0)<=V q.2.toNat:=h1;rw[←e]at h1;have:f (q.1,q.2)=f q:=rfl;omega
   show ZK f V qs (i:Int)=0-0;have:0<=ZK f V qs (i:Int):=a1;omega
  |some t=>
   have hq:=hd.wish i t h;have hb:=hp.lo _ hq;have hup:=st _ (hall _ (.mv (f:=f) h (o':=none) (by intro z;cases z) λt et=>by cases et));have hup:V t.toNat+(0-f ((i:Int),t))<=V cs.length:=hup;show ZK f V qs (i:Int)=f ((i:Int),t)-((Uz cs.length).map V).getD t.toNat 0;rw[psD t.toNat (by omega)];have lo:f ((i:Int),t)-V t.toNat<=ZK f V qs (i:Int):=a2 _ hq rfl
   have hi:ZK f V qs (i:Int)<=f ((i:Int),t)-V t.toNat:=a3 _ (by omega) λq hq e=>by
    by_cases z:q.2=t
    ·have:q=((i:Int),t):=by rw[←e,←z]
     rw[this];exact QX _
    ·have h1:=st _ (hall _ (.mv (f:=f) h (o':=some q.2) (by intro y;cases y;exact z rfl) λt et=>by cases et;rw[←e];exact hq));have h1:V t.toNat+(f ((i:Int),q.2)-f ((i:Int),t))<=V q.2.toNat:=h1;have:f (((i:Int)),q.2)=f q:=by rw[←e]
     omega
   omega
 refine⟨⟨by decide,by rw[Qb,Qr],by rw[Qb,Qr],λa ha=>?_,λp hp'=>?_,λq hq=>?_⟩,?_⟩
 ·obtain⟨i,_,rfl⟩:=Qu.mp ha;exact(Pu f V (i:Int) qs 0).1
 ·obtain⟨i,_,rfl⟩:=Qu.mp hp';exact v0 i
 ·have hb:=hp.lo q hq;rw[psD q.2.toNat (by omega),Qh,Qe,QZ (by omega)];have h2:=(Pu f V q.1 qs 0).2.1 q hq rfl;show 1*f q<=ZK f V qs ((q.1.toNat:Nat):Int)+V q.2.toNat;have e:((q.1.toNat:Nat):Int)=q.1:=by omega
  rw[e];have h2:f q-V q.2.toNat<=ZK f V qs q.1:=h2;omega
 ·unfold RV;rw[List.range_eq_range' (n:=m),←hd.len,Hw (f:=f) (ps:=(Uz cs.length).map V) ws 0 (λi:Nat=>ZK f V qs (i:Int)) λj o e=>by rw[Q3];exact ask j o e];have hth:∀t,some t∈ws->0<=t/\t<cs.length:=λt ht=>by obtain⟨i,hi⟩:=List.mem_iff_getElem?.mp ht;have:=hp.lo _ (hd.wish i t hi);exact⟨this.2.2.1,this.2.2.2⟩
  rw[O3 ws hth,HA _ _ (by rw[Qb,Qr])]
  have e:Zb cs.length (λk=>cs.getD k 0*((Uz cs.length).map V).getD k 0)=Zb cs.length λk=>((ws.count (some (k:Int)):Nat):Int)*((Uz cs.length).map V).getD k 0:=O9 λk hk=>by
   rw[psD k hk];have hc:cs[k]?=some (cs.getD k 0):=by rw[Qh,Qd hk];rfl
   have hle:=hd.cop k _ hc;by_cases z:((ws.count (some (k:Int)):Nat):Int)=cs.getD k 0
   ·rw[z]
   ·have h1:=st _ (hall _ (.left (f:=f) (qs:=qs) hc (by omega)));have h1:V k+0<=V cs.length:=h1;have:=v0 k;have hz:V k=0:=by omega
    rw[hz,Int.mul_zero,Int.mul_zero]
  rw[e];omega
end
def Y2:Option Nat->D
 |some i=>.int i
 |none=>.none
def Ka(s:Stp):D:=.tuple [.int s.a,.int s.b,.int s.g,Y2 s.w]
def ZY(x:Int×List Stp):D:=.tuple [.int x.1,.list (x.2.map Ka)]
def U2(V:Int->Int->Int)(q:Int×Int):Int:=V q.1 q.2
def Zo(n:Nat)(f:Int×Int->Int)(ws:LO):List Stp:=(Uz ws.length).filterMap λi=>match ws.getD i none with
 |none=>none
 |some t=>some ⟨t.toNat,n, -(Kk f i (some t)),some i⟩
def Zc(n:Nat)(f:Int×Int->Int)(qs:LP)(ws:LO):List Stp:=qs.filterMap λq=>if ws.getD q.1.toNat none≠some q.2 then some ⟨plF n (ws.getD q.1.toNat none),q.2.toNat,f q-Kk f q.1.toNat (ws.getD q.1.toNat none),some q.1.toNat⟩else none
def Yg(cs:List Int)(ws:LO):List Stp:=(Uz cs.length).filterMap λt=>if 0<cs.getD t 0-((ws.count (some (t:Int)):Nat):Int)then some ⟨t,cs.length,0,none⟩else none
def Ye(n:Nat):List Stp:=(Uz n).map λt=>⟨n,t,0,none⟩
def YJ(cs:List Int)(f:Int×Int->Int)(qs:LP)(ws:LO):List Stp:=Zo cs.length f ws++Zc cs.length f qs ws++(Yg cs ws++Ye cs.length)
theorem B4{m j:Nat}{h h':Nat->Int}(hj:j<m)(e:∀i,i≠j->h' i=h i):(((Uz m).map h).map int).set j (.int (h' j))=((Uz m).map h').map int:=by
 apply Jr;intro i;by_cases z:j=i
 ·subst z;rw[QH (by rw[Qb,Qb,Qr];exact hj),Qe,Qe,QZ hj];rfl
 ·rw[Qp z,Qe,Qe,Qe,Qe];by_cases hi:i<m
  ·rw[QZ hi];show some (int (h i))=some (int (h' i));rw[e i λy=>z y.symm]
  ·rw[QC (by rw[Qr];omega)];rfl
theorem Lu{m:Nat}{h:Nat->Int}{j:Nat}(hj:j<m):oIx (.list (((Uz m).map h).map int)) (.int (j:Int))=some (.int (h j)):=Zr (by rw[Qe,Qe,QZ hj];rfl)
section
variable{cs:List Int}{ls:L3}{ws:LO}{V:Int->Int->Int}{qs:LP}
theorem ke{n:Nat}{o:Option Int}(h:∀t,o=some t->0<=t):X7 [.int n,Kd o]=some (.int (plF n o)):=by
 refine Zd (Z:=[pb (.int n),pb (Kd o)]) rfl ?_;unfold Tv;cases o with
 |none=>exact KH (NJ (KS (k:=isNon) (x:=PyData.none) (UR rfl)) (UR rfl)) rfl
 |some t=>refine KH (PU (KS (k:=isNon) (x:=int t) (UR rfl)) (UR rfl)) ?_;have:=h t rfl;show Out.rt (.int t)=Out.rt (.int ((t.toNat:Nat):Int));rw[show((t.toNat:Nat):Int)=t by omega]
def Yi(V:Int->Int->Int)(ws:LO)(qs:LP)(i:Nat):Int:=match ws.getD i none with
 |none=>0
 |some t=>if((i:Int),t)∈qs then V i t else 0
theorem Oy{k:Int}(h0:0<=k)(h1:k<ws.length):oIx (Ki ws) (.int k)=some (Kd (ws.getD k.toNat none)):=by
 obtain⟨j,rfl⟩:∃j:Nat,k=j:=⟨k.toNat,by omega⟩
 refine Zr ?_;rw[Qe,Qz,Qh,Qd (by omega)];rfl
theorem Lr{i:Nat}{o:Option Int}(h:ws[i]?=some o):ws.getD i none=o:=by rw[Qh,h];rfl
theorem B3(hp:Yu cs.length ws.length qs)(hd:ZZ cs qs ws.length ws)(hm:ws.length<=1000)(hq1:qs.length<=1000):WT [.int (cs.length:Nat),.list (qs.map (Zj V)),Ki ws]=some (.list ((Zo cs.length (U2 V) ws++Zc cs.length (U2 V) qs ws).map Ka)):=by
 refine Zd (Z:=[pb (.int (cs.length:Nat)),pb (.list (qs.map (Zj V))),pb (Ki ws),none,none,none,none,none]) rfl ?_;unfold Tu;have hlen:Kg [Ki ws]=some (.int ws.length):=by show Kg [.list (ws.map Kd)]=_;rw[Zw,Qb]
 have pos:∀i t,ws.getD i none=some t->i<ws.length/\((i:Int),t)∈qs:=λi t e=>by
  by_cases hi:i<ws.length
  ·rw[Qh,Qd hi]at e;exact⟨hi,hd.wish i t (by rw[Qd hi];exact congrArg some e)⟩
  ·rw[Qh,QC (by omega)]at e;cases e
 refine Km (Yn (Ov (n:=ws.length) (Zu (UT UZ UY) (Qa rfl)) (Z7 rfl hlen) hm) (Qa rfl) rfl) ?_;apply KI;apply ZO (λk Z=>∃x4 x5 x6,Z=[pb (.int (cs.length:Nat)),pb (.list (qs.map (Zj V))),pb (Ki ws),some (.own (((Uz ws.length).map (Yi V ws (qs.take k))).map int)),x4,x5,x6,none])
 case h1=>exact ZH (UR rfl) Yw
 case h0=>
  refine⟨none,none,none,?_⟩
  have e:((Uz ws.length).map (Yi V ws (qs.take 0))).map int=UA ws.length (.int 0):=by
   rw[List.eq_replicate_iff];refine⟨by rw[Qb,Qb,Qr],λb hb=>?_⟩;obtain⟨x,hx,rfl⟩:=Qu.mp hb;obtain⟨i,_,rfl⟩:=Qu.mp hx;unfold Yi;split
   ·rfl
   ·rw[if_neg (by rw[List.take_zero];simp)]
  rw[e];rfl
 case hst=>
  rintro k d Z hk ⟨x4,x5,x6,rfl⟩;rw[Qe]at hk;cases hq:qs[k]? with
  |none=>rw[hq]at hk;cases hk
  |some q=>
  rw[hq]at hk;cases hk;have hb:=hp.lo q (Qt hq);refine⟨_,KB rfl (U5 (UX (Qa rfl) rfl) (U5 (UX (Qa rfl) rfl) (U5 (UX (Qa rfl) rfl) KD))),?_⟩;unfold MF;have hta:qs.take (k+1)=qs.take k++[q]:=by rw[JH,hq];rfl
  apply KF
  case h1=>exact U7 (K8 rfl (UR rfl) (Oy hb.1 hb.2.1)) (UR rfl) (PV (b:=some q.2))
  case h2=>
   intro hh;have hh:ws.getD q.1.toNat none=some q.2:=Qa hh;refine ZM (R1 (UR rfl) rfl (UR rfl) rfl ⟨hb.1,by rw[Qb,Qb,Qr];exact hb.2.1⟩ rfl) (Zg ⟨some (.pub (.int q.1)),pb (.int q.2),pb (.int (V q.1 q.2)),?_⟩)
   have e:=B4 (m:=ws.length) (j:=q.1.toNat) (h:=Yi V ws (qs.take k)) (h':=Yi V ws (qs.take (k+1))) (by omega) λi hne=>by
    unfold Yi;cases ws.getD i none with
    |none=>rfl
    |some t=>
     dsimp only;rw[hta];by_cases z:((i:Int),t)∈qs.take k
     ·rw[Qk z,Qk (Jf _ z)]
     ·rw[Qs z,Qs];intro y;rcases Q0.mp y with y|y
      ·exact z y
      ·have:=Q4.mp y;rw[←this]at hne;exact hne (by show i=((i:Int)).toNat;rw[Qz])
   have ev:Yi V ws (qs.take (k+1)) q.1.toNat=V q.1 q.2:=by
    unfold Yi;rw[hh];have ei:((q.1.toNat:Nat):Int)=q.1:=by omega
    dsimp only;rw[ei,if_pos (by rw[hta];exact List.mem_append_right _ (by simp))]
   rw[ev]at e;rw[←e];rfl
  case h3=>
   intro hh;have hh:¬ws.getD q.1.toNat none=some q.2:=Jh hh;refine K2 (Zg ⟨some (.pub (.int q.1)),pb (.int q.2),pb (.int (V q.1 q.2)),?_⟩)
   have e:(Uz ws.length).map (Yi V ws (qs.take (k+1)))=(Uz ws.length).map (Yi V ws (qs.take k)):=JB λi _=>by
    unfold Yi;cases hw:ws.getD i none with
    |none=>rfl
    |some t=>
     dsimp only;rw[hta];by_cases z:((i:Int),t)∈qs.take k
     ·rw[Qk z,Qk (Jf _ z)]
     ·rw[Qs z,Qs];intro y;rcases Q0.mp y with y|y
      ·exact z y
      ·have y:=Q4.mp y;rw[←y]at hh;exact hh (by show ws.getD ((i:Int)).toNat none=some t;rw[Qz];exact hw)
   rw[e];rfl
 case hend=>
  rintro Z ⟨x4,x5,x6,rfl⟩;refine KJ ?_;have hth:qs.take (qs.map (Zj V)).length=qs:=by rw[Qb,JN]
  rw[hth]
  have hadE:∀i,Yi V ws qs i=Kk (U2 V) i (ws.getD i none):=λi=>by
   unfold Yi;cases hw:ws.getD i none with
   |none=>rfl
   |some t=>exact Qk (pos i t hw).2
  have hc:∀y4 y5 y6 y7:Option Sl,Ze (gT 2 (gNC (gN 8) (gNC (gN 9) (gN0)))) (U6 (λd=>!isNon d) (UO 9)) (Kx (US (UO 9) (US (UO 0) (US (ZX (U9 3 (UO 8))) (US (UO 8) (UQ)))))) (Yj 0 (ws.map Kd)) ([pb (.int (cs.length:Nat)),pb (.list (qs.map (Zj V))),pb (Ki ws),pb (.list (((Uz ws.length).map (Yi V ws qs)).map int)),y4,y5,y6,y7]++UA 2 none) []=some ((Zo cs.length (U2 V) ws).map Ka):=by
   intro y4 y5 y6 y7
   have em:(Zo cs.length (U2 V) ws).map Ka=((Uz ws.length).map λi=>(match ws.getD i none with|none=>none|some t=>some (Ka ⟨t.toNat,cs.length, -(Kk (U2 V) i (some t)),some i⟩):Option D)).filterMap id:=by
    unfold Zo;rw[List.map_filterMap,List.filterMap_map]
    congr 1
    funext i;dsimp only[Function.comp,id];cases ws.getD i none<;>rfl
   rw[em];refine Rs (λZ=>∃z4 z5 z6 z7 x y,Z=[pb (.int (cs.length:Nat)),pb (.list (qs.map (Zj V))),pb (Ki ws),pb (.list (((Uz ws.length).map (Yi V ws qs)).map int)),z4,z5,z6,z7,x,y]) _ _ _ _ (by rw[Qb,Qr,YB,Qb]) ?_ ⟨y4,y5,y6,y7,none,none,rfl⟩ (by rw[YB,Qb,QN];omega);rintro i d e hdd he Z ⟨z4,z5,z6,z7,x,y,rfl⟩;obtain⟨z,hz,rfl⟩:=Xd hdd;rw[Qe]at hz;cases hw:ws[i]? with
   |none=>rw[hw]at hz;cases hz
   |some o=>
   rw[hw]at hz;cases hz;have hil:i<ws.length:=(Qg.mp hw).1;have hg:=Lr hw;rw[Qe,QZ hil]at he;have he:some (match ws.getD i none with|none=>none|some t=>some (Ka ⟨t.toNat,cs.length, -(Kk (U2 V) i (some t)),some i⟩):Option D)=some e:=he;rw[hg]at he;cases he;rw[Q3];refine⟨_,KB rfl (U5 (UX (Qa rfl) rfl) (U5 (UX (Qa rfl) rfl) KD)),?_,?_,_,_,_,_,_,_,rfl⟩
   ·cases o with
    |none=>exact KS (k:=λd=>!isNon d) (x:=PyData.none) (UR rfl)
    |some t=>exact KS (k:=λd=>!isNon d) (x:=int t) (UR rfl)
   ·intro v hv;cases o with
    |none=>cases hv
    |some t=>
     cases hv;have hb:=hp.lo _ (pos i t hg).2;have et:((t.toNat:Nat):Int)=t:=by have:=hb.2.2.1;omega
     show _=Res.ok (PyData.tuple [.int ((t.toNat:Nat):Int),.int ((cs.length:Nat):Int),.int (-(Kk (U2 V) i (some t))),.int (i:Nat)]) _;rw[et,show Kk (U2 V) i (some t)=Yi V ws qs i by rw[hadE,hg]];exact YA (UT (UR rfl) (UT (UR rfl) (UT (VG (K8 rfl (UR rfl) (Lu hil))) (UT (UR rfl) UY)))) (Qa rfl)
  have nlS:∀S:List Stp,(S.map Ka).all nl0=true:=λS=>Jx.mpr λd hd=>by obtain⟨s,_,rfl⟩:=Qu.mp hd;obtain⟨a,b,g,w⟩:=s;cases w<;>rfl
  have hcl:∀x4 x5 x6:Option Sl,Wg (ZG (YR (US (UO 2) (UQ))) 2 (gT 2 (gNC (gN 8) (gNC (gN 9) (gN0)))) (U6 (λd=>!isNon d) (UO 9)) (Kx (US (UO 9) (US (UO 0) (US (ZX (U9 3 (UO 8))) (US (UO 8) (UQ))))))) [pb (.int (cs.length:Nat)),pb (.list (qs.map (Zj V))),pb (Ki ws),some (.own (((Uz ws.length).map (Yi V ws qs)).map int)),x4,x5,x6,none]=.ok ((Zo cs.length (U2 V) ws).map Ka) [pb (.int (cs.length:Nat)),pb (.list (qs.map (Zj V))),pb (Ki ws),some (.own (((Uz ws.length).map (Yi V ws qs)).map int)),x4,x5,x6,none]:=λx4 x5 x6=>
   BG (Z':=Yc [pb (.int (cs.length:Nat)),pb (.list (qs.map (Zj V))),pb (Ki ws),some (.own (((Uz ws.length).map (Yi V ws qs)).map int)),x4,x5,x6,none]) (YC (XN (UT (UR rfl) UY) XH) (hc _ _ _ _)) (nlS _)
  refine Km (Yn (hcl _ _ _) (Qa rfl) rfl) ?_;apply KI;apply ZO (λk Z=>∃x4 x5 x6,Z=[pb (.int (cs.length:Nat)),pb (.list (qs.map (Zj V))),pb (Ki ws),some (.own (((Uz ws.length).map (Yi V ws qs)).map int)),x4,x5,x6,some (.own ((Zo cs.length (U2 V) ws++Zc cs.length (U2 V) (qs.take k) ws).map Ka))])
  case h1=>exact ZH (UR rfl) Yw
  case h0=>exact⟨_,_,_,by rw[JV];show _=[_,_,_,_,_,_,_,some (Sl.own ((Zo cs.length (U2 V) ws++[]).map Ka))];rw[Jj];rfl⟩
  case hst=>
   rintro k d Z hk ⟨x4,x5,x6,rfl⟩;rw[Qe]at hk;cases hq:qs[k]? with
   |none=>rw[hq]at hk;cases hk
   |some q=>
   rw[hq]at hk;cases hk;have hb:=hp.lo q (Qt hq);have hta:qs.take (k+1)=qs.take k++[q]:=by rw[JH,hq];rfl
   have hkl:k<qs.length:=(Qg.mp hq).1
   have hsz:((Zo cs.length (U2 V) ws++Zc cs.length (U2 V) (qs.take k) ws).map Ka).length<1000000:=by
    rw[Qb,Qj];have h1:(Zo cs.length (U2 V) ws).length<=ws.length:=by unfold Zo;have:=Jl (λi=>match ws.getD i none with|none=>none|some t=>some (⟨t.toNat,cs.length, -(Kk (U2 V) i (some t)),some i⟩:Stp)) (Uz ws.length);rw[Qr]at this;exact this
    have h2:(Zc cs.length (U2 V) (qs.take k) ws).length<=qs.length:=by unfold Zc;refine QS (Jl _ _) ?_;rw[QW];omega
    omega
   refine⟨_,KB rfl (U5 (UX (Qa rfl) rfl) (U5 (UX (Qa rfl) rfl) (U5 (UX (Qa rfl) rfl) KD))),?_⟩;unfold MG;have e2:∀r:List Stp,Zc cs.length (U2 V) [q] ws=r->Zc cs.length (U2 V) (qs.take (k+1)) ws=Zc cs.length (U2 V) (qs.take k) ws++r:=λr hr=>by rw[hta];unfold Zc at hr⊢;rw[List.filterMap_append,hr]
   apply KF
   case h1=>exact U7 (K8 rfl (UR rfl) (Oy hb.1 hb.2.1)) (UR rfl) (F9 (b:=some q.2))
   case h2=>
    intro hh;have hh:¬ws.getD q.1.toNat none=some q.2:=by simpa using hh
    have hpl:X7 [.int (cs.length:Nat),Kd (ws.getD q.1.toNat none)]=some (.int (plF cs.length (ws.getD q.1.toNat none))):=ke λt e=>by have:=hp.lo _ (pos _ t e).2;exact this.2.2.1
    refine ZM (Wo rfl (YA (UT (Kn (UT (UR rfl) (UT (K8 rfl (UR rfl) (Oy hb.1 hb.2.1)) UY)) rfl hpl) (UT (UR rfl) (UT (U7 (UR rfl) (RO rfl (UR rfl) rfl (show oIx _ (.int q.1)=some (.int (Yi V ws qs q.1.toNat))from by have:=Lu (m:=ws.length) (h:=Yi V ws qs) (j:=q.1.toNat) (by omega);rw[show((q.1.toNat:Nat):Int)=q.1 by omega]at this;exact this)) YT) (UT (UR rfl) UY)))) (Qa rfl)) rfl hsz rfl) (Zg ⟨some (.pub (.int q.1)),pb (.int q.2),pb (.int (V q.1 q.2)),?_⟩);have er:Zc cs.length (U2 V) [q] ws=[⟨plF cs.length (ws.getD q.1.toNat none),q.2.toNat,U2 V q-Kk (U2 V) q.1.toNat (ws.getD q.1.toNat none),some q.1.toNat⟩]:=by unfold Zc;rw[Jz,Qk hh];rfl
    rw[e2 _ er,←Jg,QB (l₂:=[_])];show _=[_,_,_,_,_,_,_,some (Sl.own (_++[PyData.tuple [_,.int ((q.2.toNat:Nat):Int),.int (U2 V q-Kk (U2 V) q.1.toNat (ws.getD q.1.toNat none)),.int ((q.1.toNat:Nat):Int)]]))];rw[show((q.2.toNat:Nat):Int)=q.2 by omega,show((q.1.toNat:Nat):Int)=q.1 by omega,←hadE];rfl
   case h3=>
    intro hh;have hh:ws.getD q.1.toNat none=some q.2:=by simpa using hh
    refine K2 (Zg ⟨some (.pub (.int q.1)),pb (.int q.2),pb (.int (V q.1 q.2)),?_⟩);have er:Zc cs.length (U2 V) [q] ws=[]:=by unfold Zc;rw[List.filterMap_cons,if_neg (by rw[hh];simp)];rfl
    rw[e2 _ er,Jj];rfl
  case hend=>rintro Z ⟨x4,x5,x6,rfl⟩;rw[hth];exact KJ (KH (Yo rfl rfl) rfl)
end
section
variable{cs:List Int}{ls:L3}{ws:LO}{V:Int->Int->Int}{qs:LP}
theorem B2(g:Good cs ls)(hm:ws.length=ls.length):WS [Kf cs ls,Ki ws]=some (.list ((Yg cs ws++Ye cs.length).map Ka)):=by
 refine Zd (Z:=[pb (Kf cs ls),pb (Ki ws),none,none,none]) rfl ?_;unfold Tt;have c6:=g.c6;have hlc:Kg [.list (cs.map int)]=some (.int cs.length):=by rw[Zw,Qb]
 refine Km (KO (ZN (UT (K8 rfl UZ VC) UY) hlc) (Qa rfl) rfl) ?_;refine Km (KO (Kn (UT (UR rfl) (UT (UR rfl) UY)) rfl (kI g)) (Qa rfl) rfl) ?_;have hll:(Xa cs ws).length=cs.length:=by unfold Xa;rw[Qb,Qr]
 have hc:Ze (gT 2 (gNC (gN 5) (gNC (gN 6) (gN0)))) (Zl (oIB λi j=>decide (j<i)) 6 (UU (.int 0))) (Kx (US (UO 5) (US (UO 2) (US (UU (.int 0)) (US (UU .none) (UQ)))))) (Yj 0 ((Xa cs ws).map int)) (Kq [pb (Kf cs ls),pb (Ki ws),pb (.int cs.length),pb (.list ((Xa cs ws).map int)),none]++UA 2 none) []=some ((Yg cs ws).map Ka):=by
  have em:(Yg cs ws).map Ka=((Uz cs.length).map λt=>(if 0<cs.getD t 0-((ws.count (some (t:Int)):Nat):Int)then some (Ka ⟨t,cs.length,0,none⟩)else none:Option D)).filterMap id:=by
   unfold Yg;rw[List.map_filterMap,List.filterMap_map]
   congr 1
   funext i;dsimp only[Function.comp,id]
   split<;>rfl
  rw[em];refine Rs (λZ=>∃x y,Z=[pb (Kf cs ls),pb (Ki ws),pb (.int cs.length),pb (.list ((Xa cs ws).map int)),none,x,y]) _ _ _ _ (by rw[Qb,Qr,YB,Qb,hll]) ?_ ⟨none,none,rfl⟩ (by rw[YB,Qb,hll,QN];omega);rintro i d e hd he Z ⟨x,y,rfl⟩;obtain⟨z,hz,rfl⟩:=Xd hd;rw[Qe]at hz
  have hil:i<cs.length:=by
   rw[←hll];cases hw:(Xa cs ws)[i]? with
   |none=>rw[hw]at hz;cases hz
   |some v=>exact(Qg.mp hw).1
  have hlv:(Xa cs ws)[i]?=some (cs.getD i 0-((ws.count (some (i:Int)):Nat):Int)):=by unfold Xa;rw[Qe,QZ hil];rfl
  rw[hlv]at hz;cases hz;rw[Qe,QZ hil]at he;cases he;rw[Q3];refine⟨_,KB rfl (U5 (UX (Qa rfl) rfl) (U5 (UX (Qa rfl) rfl) KD)),?_,?_,_,_,rfl⟩
  ·have e:(if 0<cs.getD i 0-((ws.count (some (i:Int)):Nat):Int)then some (Ka ⟨i,cs.length,0,none⟩)else none:Option D).isSome=decide (0<cs.getD i 0-((ws.count (some (i:Int)):Nat):Int)):=by
    by_cases h:0<cs.getD i 0-((ws.count (some (i:Int)):Nat):Int)
    ·rw[Qk h,Q7 h];rfl
    ·rw[Qs h,QO h];rfl
   rw[e];exact Z6 rfl UZ rfl
  ·intro v hv;dsimp only at hv;split at hv
   ·cases hv;exact YA (UT (UR rfl) (UT (UR rfl) (UT UZ (UT UZ UY)))) (Qa rfl)
   ·cases hv
 refine Km (Yn (YC (XN (UT (UR rfl) UY) XH) hc) (Qa rfl) rfl) ?_;have hrl:(Yk 0 (cs.length:Int)).length=cs.length:=by rw[Wv];omega
 have hc2:∀x4:Option Sl,Ze (gN 5) (UU true) (Kx (US (UO 2) (US (UO 5) (US (UU (.int 0)) (US (UU .none) (UQ)))))) (Yk 0 (cs.length:Int)) (Kq [pb (Kf cs ls),pb (Ki ws),pb (.int cs.length),pb (.list ((Xa cs ws).map int)),x4]++UA 1 none) []=some ((Ye cs.length).map Ka):=λx4=>by refine XM (λZ=>∃z x,Z=[pb (Kf cs ls),pb (Ki ws),pb (.int cs.length),pb (.list ((Xa cs ws).map int)),z,x]) _ _ _ _ (by unfold Ye;rw[Qb,Qb,Qr,hrl]) ?_ ⟨_,none,rfl⟩ (by rw[hrl,QN];omega);rintro i d e hd he Z ⟨z,x,rfl⟩;obtain⟨rfl,hlt⟩:=SI hd;unfold Ye at he;rw[Qe,Qe,QZ (by omega)]at he;cases he;rw[Uk];exact⟨_,UX (Qa rfl) rfl,rfl,YA (UT (UR rfl) (UT (UR rfl) (UT UZ (UT UZ UY)))) (Qa rfl),_,_,rfl⟩
 have h1:(Yg cs ws).length<=cs.length:=by unfold Yg;have:=Jl (λt=>if 0<cs.getD t 0-((ws.count (some (t:Int)):Nat):Int)then some (⟨t,cs.length,0,none⟩:Stp)else none) (Uz cs.length);rw[Qr]at this;exact this
 have h2:(Ye cs.length).length=cs.length:=by unfold Ye;rw[Qb,Qr]
 refine KH (U7 (Yo rfl rfl) (KS (YC (VU (UT (UR rfl) UY) (VQ (by omega) (by omega))) (hc2 _))) (XI (by rw[Qb,Qb];omega))) ?_;rw[QB]
theorem Gn(g:Good cs ls)(hm:ws.length=ls.length)(hp:Yu cs.length ws.length qs)(hd:ZZ cs qs ws.length ws)(hq1:qs.length<=1000):Y9 [Kf cs ls,.list (qs.map (Zj V)),Ki ws]=some (.list ((YJ cs (U2 V) qs ws).map Ka)):=by
 refine Zd (Z:=[pb (Kf cs ls),pb (.list (qs.map (Zj V))),pb (Ki ws)]) rfl ?_;unfold Ts;have c6:=g.c6;have l7:=g.l7;have hlc:Kg [.list (cs.map int)]=some (.int (cs.length:Nat)):=by rw[Zw,Qb]
 have h1:(Zo cs.length (U2 V) ws).length<=ws.length:=by unfold Zo;have:=Jl (λi=>match ws.getD i none with|none=>none|some t=>some (⟨t.toNat,cs.length, -(Kk (U2 V) i (some t)),some i⟩:Stp)) (Uz ws.length);rw[Qr]at this;exact this
 have h2:(Zc cs.length (U2 V) qs ws).length<=qs.length:=by unfold Zc;exact Jl _ _
 have h3:(Yg cs ws).length<=cs.length:=by unfold Yg;have:=Jl (λt=>if 0<cs.getD t 0-((ws.count (some (t:Int)):Nat):Int)then some (⟨t,cs.length,0,none⟩:Stp)else none) (Uz cs.length);rw[Qr]at this;exact this
 have h4:(Ye cs.length).length=cs.length:=by unfold Ye;rw[Qb,Qr]
 refine KH (U7 (Kn (UT (ZN (UT (K8 rfl UZ VC) UY) hlc) (UT (UR rfl) (UT (UR rfl) UY))) rfl (B3 hp hd (by omega) hq1)) (Kn (UT (UR rfl) (UT (UR rfl) UY)) rfl (B2 g hm)) (XI (by rw[Qb,Qb,Qj,Qj];omega))) ?_;unfold YJ;rw[QB (l₁:=Zo cs.length (U2 V) ws++Zc cs.length (U2 V) qs ws)]
theorem Pq{m:Nat}{f:Int×Int->Int}(hp:Yu cs.length m qs)(hd:ZZ cs qs m ws):∀s∈YJ cs f qs ws,IsSt cs f qs ws s:=λs hs=>by
 have gt:∀{i:Nat}{o:Option Int},i<ws.length->ws.getD i none=o->ws[i]?=some o:=λ{i o} hi e=>by rw[Qh,Qd hi]at e;rw[Qd hi];exact congrArg some e
 unfold YJ at hs;rcases Q0.mp hs with hs|hs
 ·rcases Q0.mp hs with hs|hs
  ·unfold Zo at hs;obtain⟨i,hi,e⟩:=Jm.mp hs;have hi:=Q8.mp hi;cases hw:ws.getD i none with
   |none=>rw[hw]at e;cases e
   |some t=>
    rw[hw]at e;have e:=QP e;subst e;have:=IsSt.mv (cs:=cs) (f:=f) (qs:=qs) (gt hi hw) (o':=none) (by intro z;cases z) (λt e=>by cases e);have e2:Kk f i none-Kk f i (some t) = -(Kk f i (some t)):=by show 0-_=_;omega
    rw[e2]at this;exact this
  ·unfold Zc at hs;obtain⟨q,hq,e⟩:=Jm.mp hs;have hb:=hp.lo q hq;split at e
   ·rename_i hne;have e:=QP e;subst e;have hi:q.1.toNat<ws.length:=by rw[hd.len];omega
    have ei:((q.1.toNat:Nat):Int)=q.1:=by omega
    have:=IsSt.mv (cs:=cs) (f:=f) (qs:=qs) (gt hi rfl) (o':=some q.2) (λz=>hne z.symm) (λt e=>by cases e;rw[ei];exact hq);have e2:Kk f q.1.toNat (some q.2)=f q:=by show f (((q.1.toNat:Nat):Int),q.2)=_;rw[ei]
    rw[e2]at this;exact this
   ·cases e
 ·rcases Q0.mp hs with hs|hs
  ·unfold Yg at hs;obtain⟨t,ht,e⟩:=Jm.mp hs;have ht:=Q8.mp ht;split at e
   ·rename_i hl;have e:=QP e;subst e;exact .left (c:=cs.getD t 0) (by rw[Qh,Qd ht];rfl) (by omega)
   ·cases e
  ·unfold Ye at hs;obtain⟨t,ht,rfl⟩:=Qu.mp hs;exact .give (Q8.mp ht)
theorem B0{m:Nat}{f:Int×Int->Int}(hp:Yu cs.length m qs)(hd:ZZ cs qs m ws):∀s,IsSt cs f qs ws s->s∈YJ cs f qs ws:=λs hs=>by
 unfold YJ;cases hs with
 |@mv i o o' h hne hq=>
  have hi:i<ws.length:=(Qg.mp h).1;have hg:=Lr h;refine Jf _ ?_;cases o' with
  |none=>
   refine Jf _ ?_;cases o with
   |none=>exact absurd rfl hne
   |some t=>unfold Zo;refine Jm.mpr ⟨i,Q8.mpr hi,?_⟩;rw[hg];show some (⟨t.toNat,cs.length, -(Kk f i (some t)),some i⟩:Stp)=some ⟨t.toNat,cs.length,0-Kk f i (some t),some i⟩;rw[show(0:Int)-Kk f i (some t) = -(Kk f i (some t))by omega]
  |some t=>refine QJ _ ?_;have hqt:=hq t rfl;have hb:=hp.lo _ hqt;unfold Zc;refine Jm.mpr ⟨((i:Int),t),hqt,?_⟩;dsimp only;rw[Qz,hg,Qk (λz=>hne z.symm)];rfl
 |@left t c h hl=>
  refine QJ _ (Jf _ ?_);have ht:t<cs.length:=(Qg.mp h).1;unfold Yg;refine Jm.mpr ⟨t,Q8.mpr ht,?_⟩;have e:cs.getD t 0=c:=by rw[Qh,h];rfl
  rw[e,Qk (by omega)]
 |@give t h=>refine QJ _ (QJ _ ?_);unfold Ye;exact Qu.mpr ⟨t,Q8.mpr h,rfl⟩
end
theorem N4{W:Tab}{p:Nat}(h:p<W.length):oIx (.list (W.map ZY)) (.int (p:Int))=some (ZY (ent W p)):=by refine Zr ?_;unfold ent;rw[Qe,Qh,Qd h];rfl
theorem BZ{W:Tab}{S:List Stp}(hS:∀s∈S,s.a<W.length/\s.b<W.length)(hW:∀p,(ent W p).2.length<=1000)(hl:W.length<=1000):WR [.list (W.map ZY),.list (S.map Ka)]=some (.list ((RU W S).map ZY)):=by
 refine Zd (Z:=[pb (.list (W.map ZY)),pb (.list (S.map Ka)),none,none,none,none,none,none,none,none]) rfl ?_;unfold Tr;refine Km (Yn (OC rfl (show Ve [.list (W.map ZY)]=some (W.map ZY)from rfl)) (Qa rfl) rfl) ?_;apply KI;apply ZO (λk Z=>∃x3 x4 x5 x6 x7 x8 x9,Z=[pb (.list (W.map ZY)),pb (.list (S.map Ka)),some (.own (((S.take k).foldl (Yy W) W).map ZY)),x3,x4,x5,x6,x7,x8,x9])
 case h1=>exact ZH (UR rfl) Yw
 case h0=>exact⟨_,_,_,_,_,_,_,rfl⟩
 case hst=>
  rintro k d Z hk ⟨x3,x4,x5,x6,x7,x8,x9,rfl⟩;rw[Qe]at hk;cases hq:S[k]? with
  |none=>rw[hq]at hk;cases hk
  |some s=>
  rw[hq]at hk;cases hk;have hs:=hS s (Qt hq);have hta:S.take (k+1)=S.take k++[s]:=by rw[JH,hq];rfl
  have hfl:(S.take (k+1)).foldl (Yy W) W=Yy W ((S.take k).foldl (Yy W) W) s:=by rw[hta,List.foldl_append];rfl
  have hTl:∀(R:List Stp)(T:Tab),(R.foldl (Yy W) T).length=T.length:=λR=>by
   induction R with
   |nil=>intro T;rfl
   |cons x R ih=>intro T;rw[J6,ih,B6]
  generalize hT:(S.take k).foldl (Yy W) W=T at hfl⊢;have hTlen:T.length=W.length:=by rw[←hT,hTl]
  refine⟨_,UX (Qa rfl) rfl,?_⟩;unfold MC;refine Km (VF (UR rfl) (KB rfl (U5 (UX (Qa rfl) rfl) (U5 (UX (Qa rfl) rfl) (U5 (UX (Qa rfl) rfl) (U5 (UX (Qa rfl) rfl) KD)))))) ?_;refine Km (VF (K8 rfl (UR rfl) (N4 hs.1)) (KB rfl (U5 (UX (Qa rfl) rfl) (U5 (UX (Qa rfl) rfl) KD)))) ?_;have i0:oIx (ZY (ent T s.b)) (.int 0)=some (.int (ent T s.b).1):=Zr (j:=0) rfl;apply KF
  case h1=>exact U7 (U7 (UR rfl) (UR rfl) Zh) (U7 (RO rfl (UR rfl) rfl (N4 (by rw[hTlen];exact hs.2))) UZ i0) rfl
  case h2=>
   intro hh;have hh:(ent T s.b).1<(ent W s.a).1+s.g:=Qa hh;have hadd:U4 (.list ((ent W s.a).2.map Ka)) (.list [Ka s])=some (.list (((ent W s.a).2++[s]).map Ka)):=by rw[XI (by rw[Qb];have:=hW s.a;show _+1<=_;omega),QB];rfl
   refine ZM (R1 (YA (UT (U7 (UR rfl) (UR rfl) Zh) (UT (U7 (UR rfl) (Zu (UT (UR rfl) UY) (Qa rfl)) hadd) UY)) (Qa rfl)) rfl (UR rfl) rfl ⟨Int.natCast_nonneg _,by rw[Qb,hTlen];have:=hs.2;omega⟩ rfl) (Zg ⟨some (.pub (Ka s)),pb (.int s.a),pb (.int s.b),pb (.int s.g),pb (Y2 s.w),pb (.int (ent W s.a).1),pb (.list ((ent W s.a).2.map Ka)),?_⟩);rw[hfl];unfold Yy;rw[Qk hh,List.map_set];show [_,_,some (Sl.own ((T.map ZY).set ((s.b:Int)).toNat _)),_,_,_,_,_,_,_]=_;rw[Qz];rfl
  case h3=>intro hh;have hh:¬(ent T s.b).1<(ent W s.a).1+s.g:=Jh hh;refine K2 (Zg ⟨some (.pub (Ka s)),pb (.int s.a),pb (.int s.b),pb (.int s.g),pb (Y2 s.w),pb (.int (ent W s.a).1),pb (.list ((ent W s.a).2.map Ka)),?_⟩);rw[hfl];unfold Yy;rw[Qs hh];rfl
 case hend=>rintro Z ⟨x3,x4,x5,x6,x7,x8,x9,rfl⟩;refine KJ (KH (Yo rfl rfl) ?_);rw[Qb,JN];rfl
theorem Hv{n:Nat}{S:List Stp}(hS:∀s∈S,s.a<n/\s.b<n)(hn:n<=100):Xz [.int (n:Nat),.list (S.map Ka)]=some (.list ((KN n S n).map ZY)):=by
 refine Zd (Z:=[pb (.int (n:Nat)),pb (.list (S.map Ka)),none,none]) rfl ?_;unfold Tq;have hmul:Ku (.list [.tuple [.int 0,.list []]]) (.int (n:Nat))=some (.list ((KN n S 0).map ZY)):=by rw[ML (by omega)];unfold KN;rw[JO];rfl
 refine Km (KO (U7 (Zu (UT (YA (UT UZ (UT (Zu UY (Qa rfl)) UY)) (Qa rfl)) UY) (Qa rfl)) (UR rfl) hmul) (Qa rfl) rfl) ?_;apply KI;apply ZO (λk Z=>k<=n/\∃x3,Z=[pb (.int (n:Nat)),pb (.list (S.map Ka)),pb (.list ((KN n S k).map ZY)),x3])
 case h1=>exact VU (UT (UR rfl) UY) (VQ (by omega) (by omega))
 case h0=>exact⟨Jw _,_,rfl⟩
 case hst=>rintro k d Z hk ⟨_,x3,rfl⟩;obtain⟨rfl,hlt⟩:=SI hk;refine⟨_,UX (Qa rfl) rfl,?_⟩;unfold MB;have hl:=SH hS k;have hlo:=BZ (W:=KN n S k) (S:=S) (by rw[hl];exact hS) (λp=>QS ((Pv hS k).1 p) (by omega)) (by rw[hl];omega);exact ZM (KO (Kn (UT (UR rfl) (UT (UR rfl) UY)) rfl hlo) (Qa rfl) rfl) (Zg ⟨by omega,_,rfl⟩)
 case hend=>rintro Z ⟨_,x3,rfl⟩;refine KJ (KH (UR rfl) ?_);rw[Wv,show((n:Int)-0).toNat=n by omega]
theorem F4{xs:List D}{i j:Nat}(hij:i<=j)(hj:j<=xs.length):DL.cutD xs (some (i:Int)) (some (j:Int))=(xs.take j).drop i:=by unfold DL.cutD HT.sIx;dsimp only;rw[Qs (by omega),Qs (by omega),Qz,Qz,Nat.min_eq_left hj,Nat.min_eq_left (show i<=xs.length by omega),List.drop_take]
theorem kN{w:List Stp}(hl:w.length<=1000):∃d,WQ [.list (w.map Ka)]=some d/\∃r,d=.list (r.map Ka)/\((N5 w/\r=[]) ∨ ∃i j,Oi w i j/\r=(w.take (j+1)).drop i):=by
 refine Vl (Z:=[pb (.list (w.map Ka)),none,none,none]) rfl ?_;unfold Tp;apply KI;apply ZO (λk Z=>(∃x1 x2 x3,Z=[pb (.list (w.map Ka)),x1,x2,x3])/\∀j'<k,∀i' ≤ j',∀s t,w[i']?=some s->w[j']?=some t->s.a≠t.b)
 case h1=>exact XN (UT (UR rfl) UY) XH
 case h0=>exact⟨⟨_,_,_,rfl⟩,λj' h=>absurd h (J8 _)⟩
 case hst=>
  rintro k d Z hk ⟨⟨x1,x2,x3,rfl⟩,hb⟩;obtain⟨z,hz,rfl⟩:=Xd hk;rw[Qe]at hz;cases ht:w[k]? with
  |none=>rw[ht]at hz;cases hz
  |some t=>
  rw[ht]at hz;cases hz;have hkl:k<w.length:=(Qg.mp ht).1;rw[Q3];refine⟨_,KB rfl (U5 (UX (Qa rfl) rfl) (U5 (UX (Qa rfl) rfl) KD)),?_⟩;unfold Mz;apply ZO (λl Z=>(∃x3,Z=[pb (.list (w.map Ka)),pb (.int (k:Nat)),pb (Ka t),x3])/\∀i'<l,∀s,w[i']?=some s->s.a≠t.b)
  case h1=>exact VU (UT (U7 (UR rfl) UZ Zh) UY) (VQ (by omega) (by omega))
  case h0=>exact⟨⟨_,rfl⟩,λi' h=>absurd h (J8 _)⟩
  case hst=>
   rintro l d Z hl2 ⟨⟨x3,rfl⟩,hc⟩;obtain⟨rfl,hlt⟩:=SI hl2;have hlk:l<=k:=by omega
   obtain⟨s,hs⟩:∃s,w[l]?=some s:=⟨_,Qd (by omega)⟩
   refine⟨_,UX (Qa rfl) rfl,?_⟩;have zl:(0:Int)+(l:Int)=l:=by omega
   rw[zl];unfold MA;have il:oIx (.list (w.map Ka)) (.int (l:Int))=some (Ka s):=Zr (by rw[Qe,hs];rfl);have i0:oIx (Ka s) (.int 0)=some (.int s.a):=Zr (j:=0) rfl;have i1:oIx (Ka t) (.int 1)=some (.int t.b):=Zr (j:=1) rfl;apply KF
   case h1=>exact U7 (U7 (K8 rfl (UR rfl) il) UZ i0) (K8 rfl UZ i1) Wi
   case h2=>
    intro hh;have hh:(s.a:Int)=(t.b:Int):=Qa hh;have hcut:YM (.list (w.map Ka)) (some (l:Int)) (some ((k:Int)+1))=some (.list (((w.take (k+1)).drop l).map Ka)):=by rw[Vs,show((k:Int)+1)=((k+1:Nat):Int)by omega,F4 (by omega) (by rw[Qb];omega),List.map_drop,List.map_take]
    refine KH (Vk (UR rfl) (YX (UR rfl)) (YX (U7 (UR rfl) UZ Zh)) hcut) (Rk (Rk (VP ⟨_,rfl,_,rfl,.inr ⟨l,k,⟨hlk,hkl,λs' t' e1 e2=>?_,hb⟩,rfl⟩⟩)));rw[hs]at e1;rw[ht]at e2;cases e1;cases e2;omega
   case h3=>
    intro hh;have hh:¬(s.a:Int)=(t.b:Int):=Jh hh;refine K2 (Zg ⟨⟨_,rfl⟩,λi' hi' s' e=>?_⟩);rcases JT.mp hi' with hi'|rfl
    ·exact hc i' hi' s' e
    ·rw[hs]at e;cases e;omega
  case hend=>
   rintro Z ⟨⟨x3,rfl⟩,hc⟩;refine Zg ⟨⟨_,_,_,rfl⟩,λj' hj' i' hi' s' t' e1 e2=>?_⟩;rcases JT.mp hj' with hj'|rfl
   ·exact hb j' hj' i' hi' s' t' e1 e2
   ·rw[ht]at e2;cases e2;exact hc i' (by rw[Wv];omega) s' e1
 case hend=>rintro Z ⟨⟨x1,x2,x3,rfl⟩,hb⟩;refine KJ (KH (Zu UY (Qa rfl)) ⟨_,rfl,[],rfl,.inl ⟨λj hj=>hb j (by rw[YB,Qb];exact hj),rfl⟩⟩)
def Xi(n:Nat)(s:Stp):Option (Nat×Option Int):=s.w.map λi=>(i,YD n s.b)
def ZR(p:Nat×Option Int):D:=.tuple [.int (p.1:Nat),Kd p.2]
def rot(b:Nat)(r:List Stp):List Stp:=r.drop b++r.take b
theorem Lq(b:Nat)(r:List Stp):(rot b r).Perm r:=by unfold rot;have:=List.perm_append_comm (l₁:=r.drop b) (l₂:=r.take b);rw[Ua]at this;exact this
theorem ko{n:Nat}{r:List Stp}(hl:r.length<=1000):∃b,b<=r.length/\((∃s,r[b]?=some s/\s.a=n)∨(b=0/\∀s∈r,s.a≠n))/\X6 [.int (n:Nat),.list (r.map Ka)]=some (.list (((rot b r).filterMap (Xi n)).map ZR)):=by
 have key:∃d,X6 [.int (n:Nat),.list (r.map Ka)]=some d/\∃b,b<=r.length/\((∃s,r[b]?=some s/\s.a=n)∨(b=0/\∀s∈r,s.a≠n))/\d=.list (((rot b r).filterMap (Xi n)).map ZR):=by
  refine Vl (Z:=[pb (.int (n:Nat)),pb (.list (r.map Ka)),none,none,none,none,none,none,none,none]) rfl ?_;unfold To;refine Km (KO UZ (Qa rfl) rfl) ?_;apply KI;apply ZO (λk Z=>∃(b:Nat)(x3 x4:Option Sl),Z=[pb (.int (n:Nat)),pb (.list (r.map Ka)),pb (.int (b:Nat)),x3,x4,none,none,none,none,none]/\b<=r.length/\((∃s,r[b]?=some s/\s.a=n)∨(b=0/\∀s∈r.take k,s.a≠n)))
  case h1=>exact XN (UT (UR rfl) UY) XH
  case h0=>exact⟨0,_,_,rfl,Jw _,.inr ⟨rfl,λs h=>by rw[JV]at h;cases h⟩⟩
  case hst=>
   rintro k d Z hk ⟨b,x3,x4,rfl,hbl,hb⟩;obtain⟨z,hz,rfl⟩:=Xd hk;rw[Qe]at hz;cases ht:r[k]? with
   |none=>rw[ht]at hz;cases hz
   |some t=>
   rw[ht]at hz;cases hz;have hkl:k<r.length:=(Qg.mp ht).1;rw[Q3];refine⟨_,KB rfl (U5 (UX (Qa rfl) rfl) (U5 (UX (Qa rfl) rfl) KD)),?_⟩;unfold Mx;have i0:oIx (Ka t) (.int 0)=some (.int t.a):=Zr (j:=0) rfl;apply KF
   case h1=>exact U7 (K8 rfl UZ i0) (UR rfl) Wi
   case h2=>intro hh;have hh:(t.a:Int)=(n:Int):=Qa hh;exact ZM (KO (UR rfl) (Qa rfl) rfl) (Zg ⟨k,_,_,rfl,by omega,.inl ⟨t,ht,by omega⟩⟩)
   case h3=>
    intro hh;have hh:¬(t.a:Int)=(n:Int):=Jh hh;refine K2 (Zg ⟨b,_,_,rfl,hbl,?_⟩);rcases hb with hb|⟨hb,hc⟩
    ·exact .inl hb
    ·refine .inr ⟨hb,λs hs=>?_⟩;rw[JH,ht]at hs;rcases Q0.mp hs with hs|hs
     ·exact hc s hs
     ·rw[Q4.mp hs];omega
  case hend=>
   rintro Z ⟨b,x3,x4,rfl,hbl,hb⟩;refine KJ ?_;have hb':(∃s,r[b]?=some s/\s.a=n)∨(b=0/\∀s∈r,s.a≠n):=by rw[YB,Qb,JN]at hb;exact hb
   refine Km (Yn (VR UY (Qa rfl)) (Qa rfl) rfl) ?_;have c1:YM (.list (r.map Ka)) (some (b:Int)) none=some (.list ((r.drop b).map Ka)):=by rw[Vs,Bv (by rw[Qb];exact hbl),List.map_drop]
   have c2:YM (.list (r.map Ka)) none (some (b:Int))=some (.list ((r.take b).map Ka)):=by rw[Vs,F8 (by rw[Qb];exact hbl),List.map_take]
   have c3:U4 (.list ((r.drop b).map Ka)) (.list ((r.take b).map Ka))=some (.list ((rot b r).map Ka)):=by rw[XI (by rw[Qb,Qb,Jk,QW];omega)];unfold rot;rw[QB]
   apply KI;apply ZO (λk Z=>∃x6 x7 x8 x9,Z=[pb (.int (n:Nat)),pb (.list (r.map Ka)),pb (.int (b:Nat)),x3,x4,some (.own ((((rot b r).take k).filterMap (Xi n)).map ZR)),x6,x7,x8,x9])
   case h1=>exact ZH (U7 (Vk (UR rfl) (YX (UR rfl)) UZ c1) (Vk (UR rfl) UZ (YX (UR rfl)) c2) c3) Yw
   case h0=>exact⟨_,_,_,_,rfl⟩
   case hst=>
    rintro k d Z hk ⟨x6,x7,x8,x9,rfl⟩;rw[Qe]at hk;cases hq:(rot b r)[k]? with
    |none=>rw[hq]at hk;cases hk
    |some s=>
    rw[hq]at hk;cases hk;have hkl:k<(rot b r).length:=(Qg.mp hq).1;have hrl:(rot b r).length=r.length:=(Lq b r).length_eq;have hta:(rot b r).take (k+1)=(rot b r).take k++[s]:=by rw[JH,hq];rfl
    refine⟨_,KB rfl (U5 (UX (Qa rfl) rfl) (U5 (UX (Qa rfl) rfl) (U5 (UX (Qa rfl) rfl) (U5 (UX (Qa rfl) rfl) KD)))),?_⟩;unfold My;have hsz:((((rot b r).take k).filterMap (Xi n)).map ZR).length<1000000:=by rw[Qb];have:=Jl (Xi n) ((rot b r).take k);rw[QW]at this;omega
    cases hw:s.w with
    |none=>
     apply KF
     case h1=>exact KS (k:=λd=>!isNon d) (x:=Y2 none) (UR rfl)
     case h2=>intro hh;cases hh
     case h3=>
      intro _;refine K2 (Zg ⟨some (.pub (.int s.a)),pb (.int s.b),pb (.int s.g),pb (Y2 none),?_⟩);rw[hta,List.filterMap_append];have:[s].filterMap (Xi n)=[]:=by unfold Xi;rw[Jz,hw];rfl
      rw[this,Jj];rfl
    |some i=>
     apply KF
     case h1=>exact KS (k:=λd=>!isNon d) (x:=Y2 (some i)) (UR rfl)
     case h3=>intro hh;cases hh
     case h2=>
      intro _
      have htest:∀Z:UP,Z[7]?=some (some (.pub (.int (s.b:Int))))->Z[0]?=some (some (.pub (.int (n:Int))))->mIf (Zl oEq 7 (UO 0)) (UU .none) (UO 7) Z=.ok (Kd (YD n s.b)) Z:=λZ h7 h0=>by
       unfold YD;by_cases z:s.b=n
       ·rw[Qk z];exact NJ (Z6 h7 (UR h0) (by rw[Wi,Q7 (by rw[z])])) UZ
       ·rw[Qs z];exact PU (Z6 h7 (UR h0) (by rw[Wi,QO (by omega)])) (UR h7)
      refine ZM (Wo rfl (YA (UT (UR rfl) (UT (htest _ rfl rfl) UY)) (Qa rfl)) rfl hsz rfl) (Zg ⟨some (.pub (.int s.a)),pb (.int s.b),pb (.int s.g),pb (Y2 (some i)),?_⟩);rw[hta,List.filterMap_append];have:[s].filterMap (Xi n)=[(i,YD n s.b)]:=by unfold Xi;rw[Jz,hw];rfl
      rw[this,QB];rfl
   case hend=>rintro Z ⟨x6,x7,x8,x9,rfl⟩;refine KJ (KH (Yo rfl rfl) ⟨_,rfl,b,hbl,hb',?_⟩);rw[Qb,JN]
 obtain⟨d,e,b,h1,h2,rfl⟩:=key;exact⟨b,h1,h2,e⟩
theorem O2(n:Nat):∀(R:List Stp)(d:LO),(R.filterMap (Xi n)).foldl (λd p=>d.set p.1 p.2) d=R.foldl (app n) d
 |[],d=>rfl
 |s::R,d=>by
  rw[J6,Jz];unfold Xi app;cases s.w with
  |none=>exact O2 n R d
  |some i=>exact O2 n R (d.set i (YD n s.b))
theorem BY{ws:LO}{tk:List (Nat×Option Int)}(h:∀p∈tk,p.1<ws.length):WU [Ki ws,.list (tk.map ZR)]=some (Ki (tk.foldl (λd p=>d.set p.1 p.2) ws)):=by
 refine Zd (Z:=[pb (Ki ws),pb (.list (tk.map ZR)),none,none,none]) rfl ?_;unfold Tw;refine Km (Yn (OC rfl (show Ve [Ki ws]=some (ws.map Kd)from rfl)) (Qa rfl) rfl) ?_
 have hlen:∀(R:List (Nat×Option Int))(d:LO),(R.foldl (λd p=>d.set p.1 p.2) d).length=d.length:=λR=>by
  induction R with
  |nil=>intro d;rfl
  |cons p R ih=>intro d;rw[J6,ih,Q5]
 apply KI;apply ZO (λk Z=>∃x3 x4,Z=[pb (Ki ws),pb (.list (tk.map ZR)),some (.own (((tk.take k).foldl (λd p=>d.set p.1 p.2) ws).map Kd)),x3,x4])
 case h1=>exact ZH (UR rfl) Yw
 case h0=>exact⟨_,_,rfl⟩
 case hst=>
  rintro k d Z hk ⟨x3,x4,rfl⟩;rw[Qe]at hk;cases hq:tk[k]? with
  |none=>rw[hq]at hk;cases hk
  |some p=>
  rw[hq]at hk;cases hk;have hpl:=h p (Qt hq);have hta:tk.take (k+1)=tk.take k++[p]:=by rw[JH,hq];rfl
  refine⟨_,KB rfl (U5 (UX (Qa rfl) rfl) (U5 (UX (Qa rfl) rfl) KD)),?_⟩;unfold Mv;refine ZM (R1 (UR rfl) rfl (UR rfl) rfl ⟨Int.natCast_nonneg _,by rw[Qb,hlen];omega⟩ rfl) (Zg ⟨some (.pub (.int (p.1:Nat))),pb (Kd p.2),?_⟩);rw[hta,List.foldl_append];show [_,_,some (Sl.own ((((tk.take k).foldl (λd p=>d.set p.1 p.2) ws).map Kd).set ((p.1:Int)).toNat (Kd p.2))),_,_]=[_,_,some (Sl.own ((((tk.take k).foldl (λd p=>d.set p.1 p.2) ws).set p.1 p.2).map Kd)),_,_];rw[Qz,List.map_set]
 case hend=>rintro Z ⟨x3,x4,rfl⟩;refine KJ (KH (Yo rfl rfl) ?_);rw[Qb,JN];rfl
def Sm(cs:List Int)(f:Int×Int->Int)(qs:LP)(ws:LO):Prop:=∀p,p<cs.length+1->(ent (KN (cs.length+1) (YJ cs f qs ws) (cs.length+1)) p).2.length≠cs.length+1
structure RB(cs:List Int)(f:Int×Int->Int)(qs:LP)(ws:LO)(r:List Stp)(b:Nat):Prop where
 rnd:∃x,Path (YJ cs f qs ws) x r x
 nd:(r.map Stp.a).Nodup
 pos:0<Kp r
 bl:b<=r.length
 bat:(∃s,r[b]?=some s/\s.a=cs.length)∨(b=0/\∀s∈r,s.a≠cs.length)
def ZP(n b:Nat)(r:List Stp):List (Nat×Option Int):=(rot b r).filterMap (Xi n)
theorem Sz(s:Stp)(R:List Stp):Kp (s::R)=s.g+Kp R:=by show Kp ([s]++R)=_;rw[Ww,SD]
theorem BX{u v:List Stp}(h:u.Perm v):Kp u=Kp v:=by
 induction h with
 |nil=>rfl
 |cons x _ ih=>rw[Sz,Sz,ih]
 |swap x y l=>rw[Sz,Sz,Sz,Sz];omega
 |trans _ _ ih1 ih2=>rw[ih1,ih2]
theorem Aw{R:List Stp}(h:∀s∈R,s.g=0):Kp R=0:=by
 induction R with
 |nil=>rfl
 |cons s R ih=>
  have e:Kp (s::R)=s.g+Kp R:=by show Kp ([s]++R)=_;rw[Ww,SD]
  rw[e,h s Qo,ih λx hx=>h x (Ql _ hx)];rfl
section
variable{cs:List Int}{ls:L3}{ws:LO}{V:Int->Int->Int}{qs:LP}{f:Int×Int->Int}{m:Nat}
theorem RB.does(hp:Yu cs.length m qs)(hd:ZZ cs qs m ws){r:List Stp}{b:Nat}(h:RB cs f qs ws r b):ZZ cs qs m ((ZP cs.length b r).foldl (λd p=>d.set p.1 p.2) ws)/\Ko f 0 ((ZP cs.length b r).foldl (λd p=>d.set p.1 p.2) ws)=Ko f 0 ws+Kp r/\ZP cs.length b r≠[]/\∀p∈ZP cs.length b r,p.1<ws.length:=by
 obtain⟨x,hx⟩:=h.rnd;have hin:∀s∈r,IsSt cs f qs ws s:=λs hs=>Pq hp hd s (hx.mem s hs);have pr:=Lq b r;have hinR:∀s∈rot b r,IsSt cs f qs ws s:=λs hs=>hin s (pr.mem_iff.mp hs);have ndR:((rot b r).map Stp.a).Nodup:=(pr.map Stp.a).nodup_iff.mpr h.nd;have pbR:((rot b r).map Stp.b).Perm ((rot b r).map Stp.a):=((pr.map Stp.b).trans (jf hx)).trans (pr.map Stp.a).symm
 obtain⟨h1,h2⟩:=BO hp hd hinR ndR pbR;unfold ZP;rw[O2];refine⟨h1,by rw[h2,BX pr],λz=>?_,λp hpm=>?_⟩
 ·have:Kp r=0:=Aw λs hs=>by
   have hw:Xi cs.length s=none:=by have:=List.filterMap_eq_nil_iff.mp z s (pr.mem_iff.mpr hs);exact this
   cases hin s hs with
   |mv _ _ _=>cases hw
   |left _ _=>rfl
   |give _=>rfl
  have:=h.pos;omega
 ·obtain⟨s,hs,e⟩:=Jm.mp hpm;cases hinR s hs with
  |@mv i o o' hw _ _=>cases e;exact(Qg.mp hw).1
  |left _ _=>cases e
  |give _=>cases e
theorem Hz(g:Good cs ls)(hm:ws.length=ls.length)(hp:Yu cs.length ws.length qs)(hd:ZZ cs qs ws.length ws)(hq1:qs.length<=500):∃d,X5 [Kf cs ls,.list (qs.map (Zj V)),Ki ws]=some d/\((d=.list []/\Sm cs (U2 V) qs ws) ∨ ∃r b,d=.list ((ZP cs.length b r).map ZR)/\RB cs (U2 V) qs ws r b):=by
 refine Vl (Z:=[pb (Kf cs ls),pb (.list (qs.map (Zj V))),pb (Ki ws),none,none,none]) rfl ?_;unfold Tn;have c6:=g.c6;have l7:=g.l7;have hlc:Kg [.list (cs.map int)]=some (.int cs.length):=by rw[Zw,Qb]
 have hS:∀s∈YJ cs (U2 V) qs ws,s.a<cs.length+1/\s.b<cs.length+1:=λs hs=>(Pq hp hd s hs).lt hp hd;have hwd:=Hv hS (by omega)
 have hsteps:=Gn (V:=V) g hm hp hd (by omega);refine Km (KO (ZN (UT (K8 rfl UZ VC) UY) hlc) (Qa rfl) rfl) ?_;have hadd:U4 (.int (cs.length:Int)) (.int 1)=some (.int ((cs.length+1:Nat):Int)):=by rw[Zh];rfl
 apply KI;apply ZO (λk Z=>(∃x4 x5,Z=[pb (Kf cs ls),pb (.list (qs.map (Zj V))),pb (Ki ws),pb (.int cs.length),x4,x5])/\∀p<k,(ent (KN (cs.length+1) (YJ cs (U2 V) qs ws) (cs.length+1)) p).2.length≠cs.length+1)
 case h1=>exact ZH (Kn (UT (U7 (UR rfl) UZ hadd) (UT (Kn (UT (UR rfl) (UT (UR rfl) (UT (UR rfl) UY))) rfl hsteps) UY)) rfl hwd) Yw
 case h0=>exact⟨⟨_,_,rfl⟩,λp h=>absurd h (J8 _)⟩
 case hst=>
  rintro k d Z hk ⟨⟨x4,x5,rfl⟩,hb⟩;rw[Qe]at hk;cases hq:(KN (cs.length+1) (YJ cs (U2 V) qs ws) (cs.length+1))[k]? with
  |none=>rw[hq]at hk;cases hk
  |some e=>
  rw[hq]at hk;cases hk;have he:ent (KN (cs.length+1) (YJ cs (U2 V) qs ws) (cs.length+1)) k=e:=by unfold ent;rw[Qh,hq];rfl
  refine⟨_,KB rfl (U5 (UX (Qa rfl) rfl) (U5 (UX (Qa rfl) rfl) KD)),?_⟩;unfold Mw;have hlw:Kg [.list (e.2.map Ka)]=some (.int e.2.length):=by rw[Zw,Qb]
  apply KF
  case h1=>exact U7 (Z7 rfl hlw) (U7 (UR rfl) UZ hadd) Wi
  case h2=>
   intro hh;have hh:((e.2.length:Nat):Int)=((cs.length+1:Nat):Int):=Qa hh;have hlen:e.2.length=cs.length+1:=by omega
   obtain⟨d,hrw,r,rfl,hr⟩:=kN (w:=e.2) (by omega);have hwk:=Rq hS (cs.length+1) k;rw[he]at hwk;obtain⟨q,hpath⟩:=hwk.1.path;rcases hr with ⟨hno,rfl⟩|⟨i,j,hra,rfl⟩
   ·exact absurd hno (BP hS hpath (by omega) (Uj _))
   ·have hlr:((e.2.take (j+1)).drop i).length<=1000:=by rw[Jk,QW];omega
    obtain⟨b,hbl,hbat,hway⟩:=ko (n:=cs.length) hlr;have hrg:=jg hS (Uj _) (p:=k) (by rw[he];exact hlen) (by rw[he];exact hra);rw[he]at hrg;obtain⟨x,hx,hgp⟩:=hrg;exact KH (Kn (UT (UR rfl) (UT (Kn (UT (UR rfl) UY) rfl hrw) UY)) rfl hway) (Rk (VP ⟨_,rfl,.inr ⟨_,b,rfl,⟨⟨x,hx⟩,jU hpath hra,hgp,hbl,hbat⟩⟩⟩))
  case h3=>
   intro hh;have hh:¬((e.2.length:Nat):Int)=((cs.length+1:Nat):Int):=Jh hh;refine K2 (Zg ⟨⟨_,_,rfl⟩,λp hpk=>?_⟩);rcases JT.mp hpk with hpk|rfl
   ·exact hb p hpk
   ·rw[he];omega
 case hend=>rintro Z ⟨⟨x4,x5,rfl⟩,hb⟩;refine KJ (KH (Zu UY (Qa rfl)) ⟨_,rfl,.inl ⟨rfl,λp hpn=>hb p ?_⟩⟩);rw[Qb,SH hS];exact hpn
theorem Mf{M:Int}(hM0:0<=M)(hM:∀q∈qs,f q<=M):∀(ws:LO)(k:Nat),(∀(i:Nat) t,ws[i]?=some (some t)->(((k+i:Nat):Int),t)∈qs)->Ko f k ws<=ws.length*M
 |[],k,_=>by show(0:Int)<=((0:Nat):Int)*M;rw[show(((0:Nat)):Int)=0 from rfl,Int.zero_mul];exact QX _
 |o::ws,k,h=>by
  have ih:=Mf hM0 hM ws (k+1) λi t e=>by have:=h (i+1) t (by simpa using e);rw[show k+1+i=k+(i+1)by omega];exact this
  have h0:Kk f k o<=M:=by
   cases o with
   |none=>exact hM0
   |some t=>exact hM _ (by have:=h 0 t rfl;rw[Ue]at this;exact this)
  rw[Qv];show Kk f k o+Ko f (k+1) ws<=_;rw[show(((ws.length+1:Nat)):Int)=(ws.length:Int)+1 by omega,Int.add_mul,Int.one_mul];omega
theorem Hu(g:Good cs ls)(hm:m=ls.length)(hp:Yu cs.length m qs)(hq1:qs.length<=500){M:Int}(hM0:0<=M)(hM:∀q∈qs,U2 V q<=M):∀(N:Nat)(ws:LO)(d:D),ZZ cs qs m ws->((d=.list []/\Sm cs (U2 V) qs ws) ∨ ∃r b,d=.list ((ZP cs.length b r).map ZR)/\RB cs (U2 V) qs ws r b) ->
  (m*M-Ko (U2 V) 0 ws<N)->∃ws',ZZ cs qs m ws'/\Sm cs (U2 V) qs ws'/\Xh (Rc (UO 3)) Pd N [pb (Kf cs ls),pb (.list (qs.map (Zj V))),pb (Ki ws),pb d]=.nx [pb (Kf cs ls),pb (.list (qs.map (Zj V))),pb (Ki ws'),pb (.list [])]
 |0,ws,d,hd,_,hN=>by have:=Mf hM0 hM ws 0 (λi t e=>by rw[Q3];exact hd.wish i t e);rw[hd.len]at this;exact absurd hN (by omega)
 |N+1,ws,d,hd,hg,hN=>by
  rcases hg with ⟨rfl,hst⟩|⟨r,b,rfl,hgr⟩
  ·refine⟨ws,hd,hst,?_⟩;unfold Xh;rw[Hq (ds:=[]) (UR rfl)];rfl
  ·obtain⟨h1,h2,h3,h4⟩:=hgr.does hp hd;generalize hws':(ZP cs.length b r).foldl (λd p=>d.set p.1 p.2) ws=ws' at h1 h2;have hbe:=BY h4;rw[hws']at hbe;obtain⟨d',hgw,hg'⟩:=Hz (V:=V) (ws:=ws') g (by rw[h1.len,hm]) (by rw[h1.len];exact hp) (by rw[h1.len];exact h1) hq1;obtain⟨ws2,k1,k2,k3⟩:=Hu g hm hp hq1 hM0 hM N ws' d' h1 hg' (by have:=hgr.pos;omega);refine⟨ws2,k1,k2,?_⟩;unfold Xh;rw[Hq (ds:=(ZP cs.length b r).map ZR) (UR rfl)]
   have hne:(!((ZP cs.length b r).map ZR).isEmpty)=true:=by
    cases hw:ZP cs.length b r with
    |nil=>exact absurd hw h3
    |cons _ _=>rfl
   dsimp only;rw[Qk hne];have hb:Ho Pd [pb (Kf cs ls),pb (.list (qs.map (Zj V))),pb (Ki ws),pb (.list ((ZP cs.length b r).map ZR))] (λo=>o=.nx [pb (Kf cs ls),pb (.list (qs.map (Zj V))),pb (Ki ws'),pb d']):=by unfold Pd;refine Km (KO (Kn (UT (UR rfl) (UT (UR rfl) UY)) rfl hbe) (Qa rfl) rfl) ?_;exact ZM (KO (Kn (UT (UR rfl) (UT (UR rfl) (UT (UR rfl) UY))) rfl hgw) (Qa rfl) rfl) rfl
   rw[hb.out];exact k3
theorem je(g:Good cs ls)(hp:Yu cs.length ls.length qs)(hq1:qs.length<=500){M:Int}(hM0:0<=M)(hM:∀q∈qs,U2 V q<=M)(hF:ls.length*M<10 ^ 60):∃d,WP [Kf cs ls,.list (qs.map (Zj V))]=some d/\∃ws,d=Ki ws/\ZZ cs qs ls.length ws/\Sm cs (U2 V) qs ws:=by
 refine Vl (Z:=[pb (Kf cs ls),pb (.list (qs.map (Zj V))),none,none]) rfl ?_;unfold Tl;have l7:=g.l7;have hll:Kg [.list (ls.map KQ)]=some (.int (ls.length:Nat)):=by rw[Zw,Qb]
 let ws0:LO:=UA ls.length none
 have hmul:Ku (.list [.none]) (.int (ls.length:Nat))=some (Ki ws0):=by rw[ML (by omega)];show _=some (UB ((UA ls.length none).map Kd));rw[JO];rfl
 have hd0:ZZ cs qs ls.length ws0:=⟨by show(UA _ _).length=_;rw[QF],(λi t h=>by
  have h:(UA ls.length (none:Option Int))[i]?=some (some t):=h;rw[QA]at h;split at h
  ·cases h
  ·cases h),λk c e=>by
  have h0:ws0.count (some (k:Int))=0:=List.count_eq_zero.mpr λh=>by cases (List.mem_replicate.mp h).2
  rw[h0];have:=g.c7 c (Qt e)
  show(0:Int)<=c
  omega⟩
 refine Km (KO (U7 (Zu (UT UZ UY) (Qa rfl)) (ZN (UT (K8 rfl UZ Wd) UY) hll) hmul) (Qa rfl) rfl) ?_;obtain⟨d',hgw,hg'⟩:=Hz (V:=V) (ws:=ws0) g hd0.len (by rw[hd0.len];exact hp) (by rw[hd0.len];exact hd0) hq1;refine Km (KO (Kn (UT (UR rfl) (UT (UR rfl) (UT (UR rfl) UY))) rfl hgw) (Qa rfl) rfl) ?_
 have h0:∀(n k:Nat),Ko (U2 V) k (UA n none)=0:=λn=>by
  induction n with
  |zero=>intro k;rfl
  |succ n ih=>intro k;rw[QQ];show 0+Ko (U2 V) (k+1) (UA n none)=0;rw[ih];rfl
 have hfu:ls.length*M-Ko (U2 V) 0 ws0<(Wa:Nat):=by
  have e:Ko (U2 V) 0 ws0=0:=h0 _ _;have e2:((Wa:Nat):Int)=10 ^ 60:=by unfold Wa;rfl
  rw[e,e2];omega
 obtain⟨ws',k1,k2,k3⟩:=Hu g rfl hp hq1 hM0 hM Wa ws0 d' hd0 hg' hfu;refine Km k3 ?_;exact KH (UR rfl) ⟨_,rfl,ws',rfl,k1,k2⟩
end
section
variable{cs:List Int}{ls:L3}{as ps:List Int}
theorem ER(g:Good cs ls):(KL 0 ls).length<=42:=by rw[(Rt ls 0).length_eq];exact Pa g
end
theorem Lp{f:Int×Int->Int}{ps:List Int}:∀(ws:LO)(as:List Int)(k:Nat),as.length=ws.length->(∀a∈as,0<=a)->(∀(i:Nat) t,ws[i]?=some (some t)->f (((k+i:Nat):Int),t)<=as.getD i 0+ps.getD t.toNat 0)->Ko f k ws<=as.sum+pz ps ws
 |[],[],k,_,_,_=>by show(0:Int)<=0+0;omega
 |o::ws,a::as,k,hl,ha,h=>by
  have ih:=Lp (f:=f) (ps:=ps) ws as (k+1) (by simpa using hl) (λx hx=>ha x (List.mem_cons_of_mem _ hx)) λi t e=>by have:=h (i+1) t (by simpa using e);rw[show k+1+i=k+(i+1)by omega];simpa using this
  have h0:=ha a Qo;rw[Jc];cases o with
  |none=>show 0+Ko f (k+1) ws<=a+as.sum+(0+pz ps ws);omega
  |some t=>
   have h1:=h 0 t rfl;have h1:f ((k:Int),t)<=a+ps.getD t.toNat 0:=by simpa using h1
   show f ((k:Int),t)+Ko f (k+1) ws<=a+as.sum+(ps.getD t.toNat 0+pz ps ws);omega
 |[],_::_,_,hl,_,_=>by cases hl
 |_::_,[],_,hl,_,_=>by cases hl
section
variable{cs:List Int}{ls:L3}{ws:LO}{qs:LP}{f:Int×Int->Int}{m:Nat}{as ps:List Int}
theorem Av(hp:Yu cs.length m qs)(hd:ZZ cs qs m ws)(ok:OkP cs.length m (λa b=>f (a,b)) qs 1 as ps):Ko f 0 ws<=RV cs as ps:=by
 have h1:=Lp (f:=f) (ps:=ps) ws as 0 (by rw[ok.la,hd.len]) ok.aa λi t e=>by have:=ok.le _ (hd.wish i t e);rw[Q3];have e1:((i:Int)).toNat=i:=Qz i;rw[Int.one_mul]at this;dsimp only at this;rw[e1]at this;exact this
 have hth:∀t,some t∈ws->0<=t/\t<cs.length:=λt ht=>by obtain⟨i,hi⟩:=List.mem_iff_getElem?.mp ht;have:=hp.lo _ (hd.wish i t hi);exact⟨this.2.2.1,this.2.2.2⟩
 rw[O3 ws hth]at h1;unfold RV;rw[HA _ _ ok.lp]
 have h2:Zb cs.length (λk=>((ws.count (some (k:Int)):Nat):Int)*ps.getD k 0)<=Zb cs.length λk=>cs.getD k 0*ps.getD k 0:=R7 _ λk hk=>by
  have hc:cs[k]?=some (cs.getD k 0):=by rw[Qh,Qd hk];rfl
  have hk2:0<=ps.getD k 0:=by rw[Qh,Qd (by rw[ok.lp];exact hk)];exact ok.pp _ (JM _)
  exact Jn (hd.cop k _ hc) hk2
 omega
theorem jd(hp:Yu cs.length m qs)(hd:ZZ cs qs m ws)(st:Sm cs f qs ws){us:LO}(hu:ZZ cs qs m us):Ko f 0 us<=Ko f 0 ws:=by obtain⟨ok,e⟩:=BM hp hd (Pq hp hd) (B0 hp hd) (V:=λp=>(ent (KN (cs.length+1) (YJ cs f qs ws) (cs.length+1)) p).1) (λ_=>rfl) st;have:=Av hp hu ok;rw[e]at this;exact this
end
section
variable{cs:List Int}{ls:L3}{ws:LO}{qs:LP}{V:Int->Int->Int}
def prW(cs:List Int)(f:Int×Int->Int)(qs:LP)(ws:LO)(p:Nat):Int:=(ent (KN (cs.length+1) (YJ cs f qs ws) (cs.length+1)) p).1
theorem Au(g:Good cs ls)(hp:Yu cs.length ls.length qs)(hd:ZZ cs qs ls.length ws)(hq1:qs.length<=500):WO [Kf cs ls,.list (qs.map (Zj V)),Ki ws]=some (.list (((Uz cs.length).map (prW cs (U2 V) qs ws)).map int)):=by
 refine Zd (Z:=[pb (Kf cs ls),pb (.list (qs.map (Zj V))),pb (Ki ws),none,none]) rfl ?_;unfold Tk;have c6:=g.c6;have hS:∀s∈YJ cs (U2 V) qs ws,s.a<cs.length+1/\s.b<cs.length+1:=λs hs=>(Pq hp hd s hs).lt hp hd;have hlc:Kg [.list (cs.map int)]=some (.int cs.length):=by rw[Zw,Qb]
 have has:Y9 [Kf cs ls,.list (qs.map (Zj V)),Ki ws]=some (.list ((YJ cs (U2 V) qs ws).map Ka)):=Gn g hd.len (by rw[hd.len];exact hp) (by rw[hd.len];exact hd) (by omega);have hwd:=Hv hS (by omega);generalize hT:KN (cs.length+1) (YJ cs (U2 V) qs ws) (cs.length+1)=T at hwd;have hTl:T.length=cs.length+1:=by rw[←hT];exact SH hS _
 refine Km (KO (ZN (UT (K8 rfl UZ VC) UY) hlc) (Qa rfl) rfl) ?_;refine Km (KO (Kn (UT (U7 (UR rfl) UZ Zh) (UT (Kn (UT (UR rfl) (UT (UR rfl) (UT (UR rfl) UY))) rfl has) UY)) rfl hwd) (Qa rfl) rfl) ?_
 have hcd:DL.cutD (T.map ZY) none (some (cs.length:Int))=(T.take cs.length).map ZY:=by
  have h2:HT.sIx (T.map ZY).length (T.map ZY).length (some (cs.length:Int))=cs.length:=by rw[Qb,hTl];unfold HT.sIx;simp;omega
  unfold DL.cutD;rw[h2,show HT.sIx (T.map ZY).length 0 none=0 from rfl,List.drop_zero,Nat.sub_zero,List.map_take]
 have hcut:YM (.list (T.map ZY)) none (some (cs.length:Int))=some (.list ((T.take cs.length).map ZY)):=by rw[Vs,hcd]
 have hc:Ze (gT 2 (gNC (gN 5) (gNC (gN 6) (gN0)))) (UU true) (UO 5) ((T.take cs.length).map ZY) (Kq [pb (Kf cs ls),pb (.list (qs.map (Zj V))),pb (Ki ws),pb (.int cs.length),pb (.list (T.map ZY))]++UA 2 none) []=some ([]++((Uz cs.length).map (prW cs (U2 V) qs ws)).map int):=by
  refine XM (λZ=>∃x y,Z=[pb (Kf cs ls),pb (.list (qs.map (Zj V))),pb (Ki ws),pb (.int cs.length),pb (.list (T.map ZY)),x,y]) _ _ _ _ ?_ ?_ ⟨none,none,rfl⟩ ?_
  ·rw[Qb,Qb,Qb,QW,Qr];omega
  ·rintro i d e hd' he Z ⟨x,y,rfl⟩;rw[Qe,Qe]at he;have hil:i<cs.length:=by have:=(Qg.mp hd').1;rw[Qb,QW]at this;omega
   rw[QZ hil]at he;cases he;rw[Qe,List.getElem?_take_of_lt hil,Qd (by omega)]at hd';cases hd';have hv:prW cs (U2 V) qs ws i=T[i].1:=by unfold prW ent;rw[hT,Qh,Qd (by omega)];rfl
   rw[hv];exact⟨_,KB rfl (U5 (UX (Qa rfl) rfl) (U5 (UX (Qa rfl) rfl) KD)),rfl,UR rfl,_,_,rfl⟩
  ·rw[QN,Qb,QW];omega
 exact KH (KS (YC (ZH (Vk (UR rfl) UZ (YX (UR rfl)) hcut) Yw) hc)) rfl
theorem EQ{n m:Nat}(hp:Yu n m qs)(hm:m<=1000)(P:Nat->Int):WN [.int (m:Nat),.list (qs.map (Zj V)),.list (((Uz n).map P).map int)]=some (.list (((Uz m).map λi:Nat=>ZK (U2 V) P qs (i:Int)).map int)):=by
 refine Zd (Z:=[pb (.int (m:Nat)),pb (.list (qs.map (Zj V))),pb (.list (((Uz n).map P).map int)),none,none,none,none]) rfl ?_;unfold Tj;refine Km (Yn (Ov (n:=m) (Zu (UT UZ UY) (Qa rfl)) (UR rfl) hm) (Qa rfl) rfl) ?_;apply KI;apply ZO (λk Z=>∃x4 x5 x6,Z=[pb (.int (m:Nat)),pb (.list (qs.map (Zj V))),pb (.list (((Uz n).map P).map int)),some (.own (((Uz m).map λi:Nat=>ZK (U2 V) P (qs.take k) (i:Int)).map int)),x4,x5,x6])
 case h1=>exact ZH (UR rfl) Yw
 case h0=>
  refine⟨none,none,none,?_⟩
  have e:(UA m (int 0))=((Uz m).map λi:Nat=>ZK (U2 V) P (qs.take 0) (i:Int)).map int:=by
   rw[Ja];apply List.ext_getElem
   ·rw[QF,Qb,Qr]
   ·intro i h1 h2;rw[List.getElem_replicate,JX];rfl
  rw[←e];rfl
 case hst=>
  rintro k d Z hk ⟨x4,x5,x6,rfl⟩;rw[Qe]at hk;cases hq:qs[k]? with
  |none=>rw[hq]at hk;cases hk
  |some q=>
  rw[hq]at hk;cases hk;have hb:=hp.lo q (Qt hq);obtain⟨⟨a,ha⟩,⟨t,ht⟩⟩:(∃a:Nat,q.1=a)/\∃t:Nat,q.2=t:=⟨⟨q.1.toNat,by omega⟩,⟨q.2.toNat,by omega⟩⟩
  have ham:a<m:=by omega
  have htn:t<n:=by omega
  refine⟨_,KB rfl (U5 (UX (Qa rfl) rfl) (U5 (UX (Qa rfl) rfl) (U5 (UX (Qa rfl) rfl) KD))),?_⟩;unfold MH;have h1:oIx (.list (((Uz m).map λi:Nat=>ZK (U2 V) P (qs.take k) (i:Int)).map int)) (.int q.1)=some (.int (ZK (U2 V) P (qs.take k) (a:Int))):=by rw[ha];exact Zr (by rw[Qe,Qe,QZ ham];rfl)
  have h2:oIx (.list (((Uz n).map P).map int)) (.int q.2)=some (.int (P t)):=by rw[ht];exact Zr (by rw[Qe,Qe,QZ htn];rfl)
  refine ZM (R1 (ZN (UT (RO rfl (UR rfl) rfl h1) (UT (U7 (UR rfl) (K8 rfl (UR rfl) h2) YT) UY)) Ml) rfl (UR rfl) rfl ⟨hb.1,by rw[Qb,Qb,Qr];exact hb.2.1⟩ rfl) (Zg ⟨some (.pub (.int q.1)),pb (.int q.2),pb (.int (V q.1 q.2)),?_⟩);have e:∀i:Nat,ZK (U2 V) P (qs.take (k+1)) (i:Int)=if q.1=(i:Int)then max (ZK (U2 V) P (qs.take k) (i:Int)) (U2 V q-P q.2.toNat)else ZK (U2 V) P (qs.take k) (i:Int):=λi=>by unfold ZK;rw[List.take_add_one,hq,List.foldl_append];rfl
  have e2:((((Uz m).map λi:Nat=>ZK (U2 V) P (qs.take k) (i:Int)).map int).set q.1.toNat (.int (if V q.1 q.2-P t > ZK (U2 V) P (qs.take k) (a:Int)then V q.1 q.2-P t else ZK (U2 V) P (qs.take k) (a:Int))))=((Uz m).map λi:Nat=>ZK (U2 V) P (qs.take (k+1)) (i:Int)).map int:=by
   apply List.ext_getElem
   ·rw[Q5,Qb,Qb,Qb,Qb]
   ·intro i h1 h2;have hi:i<m:=by rw[Qb,Qb,Qr]at h2;exact h2
    rw[List.getElem_set,JX,JX,JX,JX,J0,e];by_cases hia:a=i
    ·subst hia;rw[Qk (by omega),Qk ha,show q.2.toNat=t by omega]
     congr 1
     show _=max _ (V q.1 q.2-P t)
     split<;>omega
    ·rw[Qs (by omega),Qs (by omega)]
  rw[←e2];rfl
 case hend=>rintro Z ⟨x4,x5,x6,rfl⟩;refine KJ (KH (Yo rfl rfl) ?_);rw[Qb,JN]
abbrev askL(m:Nat)(f:Int×Int->Int)(P:Nat->Int)(qs:LP):List Int:=(Uz m).map λi:Nat=>ZK f P qs (i:Int)
theorem kn(g:Good cs ls)(hp:Yu cs.length ls.length qs)(hd:ZZ cs qs ls.length ws)(hq1:qs.length<=500):WM [Kf cs ls,.list (qs.map (Zj V)),Ki ws]=some (papD 1 (askL ls.length (U2 V) (prW cs (U2 V) qs ws) qs) ((Uz cs.length).map (prW cs (U2 V) qs ws))):=by
 refine Zd (Z:=[pb (Kf cs ls),pb (.list (qs.map (Zj V))),pb (Ki ws),none]) rfl ?_;unfold Ti;have l7:=g.l7;have hll:Kg [.list (ls.map KQ)]=some (.int ls.length):=by rw[Zw,Qb]
 refine Km (KO (Kn (UT (UR rfl) (UT (UR rfl) (UT (UR rfl) UY))) rfl (Au g hp hd hq1)) (Qa rfl) rfl) ?_;exact KH (YA (UT UZ (UT (Kn (UT (ZN (UT (K8 rfl UZ Wd) UY) hll) (UT (UR rfl) (UT (UR rfl) UY))) rfl (EQ hp (by omega) _)) (UT (UR rfl) UY))) (Qa rfl)) rfl
theorem O7(g:Good cs ls):Yu cs.length ls.length (KL 0 ls) where
 nd:=HB ls 0 λrs hr=>(g.rk rs hr).once
 lo:=λq hq=>by have:=ET g q hq;exact⟨this.1.1,this.1.2,this.2.1,this.2.2⟩
theorem kM{o:Ord}{old:Option LO}{ts:List Int}(g:Good cs ls)(ga:Zv cs.length ls.length old ts):∃ws,Ys [Kf cs ls,KE o old ts]=some (.tuple [Ki ws,papD 1 (askL ls.length (U2 (Zn ls o old ts)) (prW cs (U2 (Zn ls o old ts)) (KL 0 ls) ws) (KL 0 ls)) ((Uz cs.length).map (prW cs (U2 (Zn ls o old ts)) (KL 0 ls) ws))])/\ZZ cs (KL 0 ls) ls.length ws/\Sm cs (U2 (Zn ls o old ts)) (KL 0 ls) ws:=by have hq:=ER g;have l7:=g.l7;obtain⟨d,hb,ws,rfl,hd,hst⟩:=je (V:=Zn ls o old ts) g (O7 g) (by omega) (M:=18446744073709551616) (by decide) (λq hq=>Int.le_of_lt (BQ g ga hq).2) (by omega);refine⟨ws,?_,hd,hst⟩;refine Zd (Z:=[pb (Kf cs ls),pb (KE o old ts),none,none]) rfl ?_;unfold Th;refine Km (KO (Kn (UT (UR rfl) (UT (UR rfl) UY)) rfl (kz g ga)) (Qa rfl) rfl) ?_;refine Km (KO (Kn (UT (UR rfl) (UT (UR rfl) UY)) rfl hb) (Qa rfl) rfl) ?_;exact KH (YA (UT (UR rfl) (UT (Kn (UT (UR rfl) (UT (UR rfl) (UT (UR rfl) UY))) rfl (kn g (O7 g) hd (by omega))) UY)) (Qa rfl)) rfl
end
section
variable{cs:List Int}{ls:L3}{ws:LO}{o:Ord}{old:Option LO}{ts:List Int}
theorem Gv(g:Good cs ls)(dl:Deal cs ls ws):X4 [Kf cs ls,Ki ws]=some (.bool true):=by
 refine Zd (Z:=[pb (Kf cs ls),pb (Ki ws),none,none]) rfl ?_;unfold V8;have l7:=g.l7;have hl:=dl.len;have hll:Kg [.list (ls.map KQ)]=some (.int ls.length):=by rw[Zw,Qb]
 have hul:Kg [Ki ws]=some (.int ws.length):=by unfold Ki;rw[Zw,Qb]
 have hne:oNe (.int ws.length) (.int ls.length)=some false:=by rw[RZ,hl];simp
 apply KI;apply KF
 case h1=>exact XU (Xf (XJ (KS (k:=λd=>UC (KP d "list")) (x:=Ki ws) (UR rfl)))) (U7 (Z7 rfl hul) (ZN (UT (K8 rfl UZ Wd) UY) hll) hne)
 case h2=>intro h;cases h
 case h3=>
  intro _;refine K2 (KJ ?_);apply KI;apply ZO (λi Z=>∃x2 x3,Z=[pb (Kf cs ls),pb (Ki ws),x2,x3])
  case h1=>exact XN (UT (UR rfl) UY) XH
  case h0=>exact⟨_,_,rfl⟩
  case hst=>
   rintro i d Z hi ⟨x2,x3,rfl⟩;obtain⟨z,hz,rfl⟩:=Xd hi;rw[Qe]at hz;cases hwi:ws[i]? with
   |none=>rw[hwi]at hz;cases hz
   |some o=>
   rw[hwi]at hz;cases hz;have hil:i<ls.length:=by have:=(Qg.mp hwi).1;omega
   have hls:ls[i]?=some ls[i]:=Qd hil;rw[Q3];refine⟨_,KB rfl (U5 (UX (Qa rfl) rfl) (U5 (UX (Qa rfl) rfl) KD)),?_⟩;unfold Ms;cases o with
   |none=>
    apply KI;apply KF
    case h1=>exact P7 (KS (k:=λd=>!isNon d) (x:=PyData.none) (UR rfl))
    case h2=>intro h;cases h
    case h3=>
     intro _;refine K2 (KJ ?_);apply KF
     case h1=>exact P7 (KS (k:=λd=>!isNon d) (x:=PyData.none) (UR rfl))
     case h2=>intro h;cases h
     case h3=>exact λ_=>K2 (Zg ⟨_,_,rfl⟩)
   |some t=>
    have htm:=dl.wish i t _ hwi hls;have gr:=g.rk ls[i] (Qt hls);have ht:=gr.flat t htm;have hfl:(ls[i]).flatten.length<64:=by have:=SE cs.length _ gr.once gr.flat;have:=g.c6;omega
    apply KI;apply KF
    case h1=>exact P6 (KS (k:=λd=>!isNon d) (x:=int t) (UR rfl)) (XU (Xf (XJ (Kn (UT (UR rfl) UY) rfl (kx t)))) (Z6 rfl (Kn (UT (UR rfl) (UT (UR rfl) UY)) rfl (AZ hls hfl)) jm))
    case h2=>intro h;simp[htm]at h
    case h3=>
     intro _;refine K2 (KJ ?_);apply KF
     case h1=>exact P6 (KS (k:=λd=>!isNon d) (x:=int t) (UR rfl)) (U7 (Lh (UR rfl) (UT (UR rfl) UY) Ga) (U7 (K8 rfl UZ VC) (UR rfl) (ix_c ht.1 ht.2)) rfl)
     case h2=>
      intro h;have h:=Qa h;obtain⟨k,rfl⟩:∃k:Nat,t=k:=⟨t.toNat,by omega⟩
      have hc:=dl.cop k (cs.getD k 0) (by rw[Qh,Qd (show k<cs.length by omega)];rfl);rw[Qz]at h;omega
     case h3=>exact λ_=>K2 (Zg ⟨_,_,rfl⟩)
  case hend=>rintro Z ⟨x2,x3,rfl⟩;exact KJ (KH UZ rfl)
theorem At(h:ZZ cs (KL 0 ls) ls.length ws):Deal cs ls ws where
 len:=h.len
 wish:=λi t rs hw hrs=>by
  obtain⟨i',rs',h1,h2,h3⟩:=Vw (h.wish i t hw);have h2:(i:Int)=((0+i':Nat):Int):=h2;have hii:i=i':=by omega
  subst hii;rw[hrs]at h1;cases h1;exact h3
 cop:=h.cop
theorem Ox(ls:L3):∀(ws:LO)(l2:L3)(k:Nat),(∀(j:Nat) rs,l2[j]?=some rs->ls.getD (k+j) []=rs)->ws.length=l2.length->Ko (U2 (Zn ls o old ts)) k ws=KG (Ky (K9 ls o old ts) k l2 ws)
 |[],[],_,_,_=>rfl
 |[],_::_,_,_,h=>by cases h
 |_::_,[],_,_,h=>by cases h
 |x::ws,rs::l2,k,hj,hl=>by
  have ih:=Ox ls ws l2 (k+1) (λj r h=>by rw[show k+1+j=k+(j+1)by omega];exact hj (j+1) r h) (by simpa using hl);show Kk _ k x+Ko _ (k+1) ws=KG (x.map (K9 ls o old ts k rs)::Ky _ (k+1) l2 ws);rw[VZ,ih]
  congr 1
  cases x with
  |none=>rfl
  |some t=>show Zn ls o old ts (k:Int) t=K9 ls o old ts k rs t;unfold Zn;rw[Qz,show ls.getD k []=rs from hj 0 rs rfl]
end
section
variable{cs:List Int}{ls:L3}{o:Ord}{old:Option LO}{ts:List Int}{ws:LO}
theorem Cr(du:Deal cs ls ws):ZZ cs (KL 0 ls) ls.length ws:=⟨du.len,λi t h=>by
 have hil:i<ls.length:=by have:=(Qg.mp h).1;have:=du.len;omega
 have hrs:ls[i]?=some ls[i]:=Qd hil;have:=LI (k:=0) hrs (du.wish i t _ h hrs);rwa[Q3]at this,du.cop⟩
end
theorem PP:∀(xs ys:List Int),xs.length=ys.length->HT.ZD xs ys=false->HT.ZD ys xs=false->xs=ys
 |[],[],_,_,_=>rfl
 |[],_::_,h,_,_=>by cases h
 |_::_,[],h,_,_=>by cases h
 |x::xs,y::ys,h,h1,h2=>by
  unfold HT.ZD at h1 h2
  have e:x=y:=by
   rcases Int.lt_trichotomy x y with z|z|z
   ·rw[Qs (by omega),Q7 z]at h1;cases h1
   ·exact z
   ·rw[Qs (by omega),Q7 z]at h2;cases h2
  subst e;simp at h1 h2;rw[PP xs ys (by simpa using h) h1 h2]
theorem Ow:∀{xs ys r s:List Int},xs.length=ys.length->HT.ZD (xs++r) (ys++s)=false->HT.ZD xs ys=false/\(xs=ys->HT.ZD r s=false)
 |[],[],r,s,_,h=>⟨rfl,λ_=>h⟩
 |[],_::_,_,_,h,_=>by cases h
 |_::_,[],_,_,h,_=>by cases h
 |x::xs,y::ys,r,s,hl,h=>by
  have h:HT.ZD (x::(xs++r)) (y::(ys++s))=false:=h;rw[HT.RA]at h;rw[HT.RA];by_cases e:x=y
  ·rw[Qk e]at h;rw[Qk e];obtain⟨h1,h2⟩:=Ow (xs:=xs) (ys:=ys) (by simpa using hl) h;exact⟨h1,λq=>h2 (List.cons.inj q).2⟩
  ·rw[Qs e]at h;rw[Qs e];exact⟨h,λq=>absurd (List.cons.inj q).1 e⟩
def nSm(ws:LO):Nat:=(ws.filter Option.isSome).length
def Wb(F K:LO):Nat:=((F.zip K).filter λp=>decide (p.1=p.2)&&p.2.isSome).length
theorem O1:∀F:LO,Wb F F=nSm F
 |[]=>rfl
 |none::F=>O1 F
 |some a::F=>by have:=O1 F;unfold Wb nSm at this⊢;rw[List.zip_cons_cons,List.filter_cons_of_pos (by simp),List.filter_cons_of_pos (by rfl),List.length_cons,List.length_cons,this]
theorem Me:∀(F K:LO),Wb F K<=nSm F/\Wb F K<=nSm K
 |[],K=>⟨Jw _,Jw _⟩
 |f::F,[]=>⟨Jw _,Jw _⟩
 |f::F,k::K=>by
  obtain⟨h1,h2⟩:=Me F K;unfold Wb nSm at h1 h2⊢;rw[QR,Jo,Jo,Jo];cases f with
  |none=>
   cases k with
   |none=>simp;omega
   |some b=>simp;omega
  |some a=>
   cases k with
   |none=>simp;omega
   |some b=>
    by_cases e:a=b
    ·simp[e];omega
    ·simp[e];omega
theorem Md:∀(F K:LO),F.length=K.length->nSm F<=Wb F K->nSm K<=Wb F K->F=K
 |[],[],_,_,_=>rfl
 |[],_::_,h,_,_=>by cases h
 |_::_,[],h,_,_=>by cases h
 |f::F,k::K,hl,h1,h2=>by
  obtain⟨g1,g2⟩:=Me F K;have ih:=Md F K (by simpa using hl);unfold Wb nSm at h1 h2 g1 g2 ih;rw[QR,Jo,Jo]at h1;rw[QR,Jo,Jo]at h2;cases f with
  |none=>
   cases k with
   |none=>simp at h1 h2;rw[ih h1 h2]
   |some b=>simp at h1 h2;omega
  |some a=>
   cases k with
   |none=>simp at h1 h2;omega
   |some b=>
    by_cases e:a=b
    ·subst e;simp at h1 h2;rw[ih h1 h2]
    ·simp[e]at h1 h2;omega
section
variable{cs:List Int}{ls:L3}{ws us:LO}{o:Ord}{old:Option LO}{ts:List Int}
theorem OU:∀(ls:L3)(ws:LO),ws.length=ls.length->(∀(i:Nat) t rs,ws[i]?=some (some t)->ls[i]?=some rs->t∈rs.flatten)->(U1 ls ws).count 0+nSm ws=ws.length
 |[],[],_,_=>rfl
 |[],_::_,hl,_=>by cases hl
 |_::_,[],hl,_=>by cases hl
 |rs::ls,o::ws,hl,h=>by
  have ih:=OU ls ws (by simpa using hl) λi t rs e1 e2=>h (i+1) t rs (by simpa using e1) (by simpa using e2)
  unfold nSm at ih⊢;cases o with
  |none=>
   show(0::U1 ls ws).count 0+_=_
   rw[List.count_cons_self,List.filter_cons_of_neg (by simp),List.length_cons];omega
  |some t=>
   have h0:=Ro (h 0 t rs rfl rfl)
   show(((KM t rs:Nat):Int)::U1 ls ws).count 0+_=_
   rw[List.count_cons_of_ne (by omega),List.filter_cons_of_pos (by simp),List.length_cons,List.length_cons];omega
theorem ga0{n m:Nat}:Zv n m none []:=⟨λws h=>(by cases h),λws t h=>(by cases h),List.nodup_nil,λa h=>(by cases h)⟩
abbrev whW(ls:L3)(o:Ord)(old:Option LO)(ts:List Int)(ws:LO):Int:=KG (Ky (K9 ls o old ts) 0 ls ws)
structure OptQ(cs:List Int)(ls:L3)(o:Ord)(old:Option LO)(ts:List Int)(ws:LO):Prop where
 dl:Deal cs ls ws
 mx:∀us,Deal cs ls us->whW ls o old ts us<=whW ls o old ts ws
theorem Rf(g:Good cs ls)(ga:Zv cs.length ls.length old ts):∃ws d,Ys [Kf cs ls,KE o old ts]=some (.tuple [Ki ws,d])/\OptQ cs ls o old ts ws:=by obtain⟨ws,hbd,hdq,hst⟩:=kM (o:=o) g ga;have dl:=At hdq;refine⟨ws,_,hbd,dl,λus du=>?_⟩;have:=jd (O7 g) hdq hst (Cr du);rw[Ox ls us ls 0 (λj rs h=>by rw[Q3,Qh,h];rfl) du.len,Ox ls ws ls 0 (λj rs h=>by rw[Q3,Qh,h];rfl) dl.len]at this;exact this
def Xr(ls:L3)(o:Ord)(old:Option LO)(ts:List Int)(ws:LO):List Int:=Zz o (Kh (lng ls) (U1 ls ws))++[(KY old ws:Int)]++ts.map (KW ls ws)
theorem Re(g:Good cs ls)(dw:Deal cs ls ws)(du:Deal cs ls us)(ga:Zv cs.length ls.length old ts)(h:whW ls o old ts us<=whW ls o old ts ws):HT.ZD (Xr ls o old ts ws) (Xr ls o old ts us)=false:=by have hb:=B7 (o:=o) g du dw ga;have h:KG (Ky (K9 ls o old ts) 0 ls us)<=KG (Ky (K9 ls o old ts) 0 ls ws):=h;rw[QO (by omega)]at hb;have hk:=BW (o:=o) g du dw ga;rw[hb]at hk;exact hk
theorem Lo(g:Good cs ls)(ga:Zv cs.length ls.length old ts)(h1:OptQ cs ls o none [] us)(h2:OptQ cs ls o old ts ws):Kh (lng ls) (U1 ls ws)=Kh (lng ls) (U1 ls us)/\KY old us<=KY old ws:=by
 have k1:=Re g h1.dl h2.dl ga0 (h1.mx ws h2.dl);have k2:=Re g h2.dl h1.dl ga (h2.mx us h1.dl);have hl:(Zz o (Kh (lng ls) (U1 ls us))).length=(Zz o (Kh (lng ls) (U1 ls ws))).length:=OO (by rw[Xk,Xk]);unfold Xr at k1 k2;rw[Jg,Jg]at k1 k2;have c1:=(Ow hl k1).1;obtain⟨c2,c3⟩:=Ow hl.symm k2;have e:=PP _ _ hl.symm c2 c1;refine⟨BR e,?_⟩;have c4:=c3 e;have c4:HT.ZD ((KY old ws:Int)::ts.map (KW ls ws)) ((KY old us:Int)::ts.map (KW ls us))=false:=c4;rw[HT.RA]at c4;by_cases z:(KY old ws:Int)=KY old us
 ·omega
 ·rw[Qs z]at c4;have:=Jh c4;omega
theorem EO(g:Good cs ls)(ga:Zv cs.length ls.length (some us) ts)(h1:OptQ cs ls o none [] us)(h2:OptQ cs ls o (some us) ts ws):ws=us:=by
 obtain⟨c1,c2⟩:=Lo g ga h1 h2;have e:=congrArg ZL c1;have la:∀got:List Int,ZL (Kh (lng ls) got)=((got.count 0:Nat):Int):=λgot=>by unfold ZL Kh;simp
 rw[la,la]at e;have n1:=OU ls us h1.dl.len h1.dl.wish;have n2:=OU ls ws h2.dl.len h2.dl.wish;have l1:=h1.dl.len;have l2:=h2.dl.len;have c2:Wb us us<=Wb us ws:=c2;rw[O1]at c2;exact(Md us ws (by omega) c2 (by omega)).symm
theorem ka(ts:List Int)(n:Nat):K9 ls o (some (UA n none)) ts=K9 ls o none ts:=by
 funext i rs t;unfold K9;have:YO (some (UA n none)) i t=YO none i t:=by unfold YO;dsimp only;rw[Qs];intro z;have:=Qt z;cases List.eq_of_mem_replicate this
 rw[this]
theorem As(n:Nat)(h:OptQ cs ls o (some (UA n none)) ts ws):OptQ cs ls o none ts ws:=⟨h.dl,λus du=>by have:=h.mx us du;unfold whW at this⊢;rw[ka]at this;exact this⟩
theorem Mc{xs:List Int}:oNe (.list (xs.map int)) (.list (xs.map int))=some false:=by
 have lay:PyData.canLay0 (.list (xs.map int))=true:=Rv λx hx=>by obtain⟨t,_,rfl⟩:=Qu.mp hx;rfl
 have dep:UG (.list (xs.map int))<=1:=Pb (n:=0) (Ru λx hx=>by obtain⟨t,_,rfl⟩:=List.mem_map.mp hx;simp[UG]);unfold oNe;rw[Qk ⟨lay,lay,by omega⟩,OS _ lay];rfl
theorem NY:oNe (Ki ws) (Ki ws)=some false:=by unfold oNe;rw[Qk ⟨Ps ws,Ps ws,by have:=Bx ws;omega⟩,OS (Ki ws) (Ps ws)];rfl
theorem EN(g:Good cs ls):WI [Kf cs ls]=some (Ki (UA ls.length none)):=by
 have l7:=g.l7;refine Zd (Z:=[pb (Kf cs ls)]) rfl ?_;unfold V6;have hlen:Kg [.list (ls.map KQ)]=some (.int ls.length):=by rw[Zw,Qb]
 have hmul:Ku (.list [.none]) (.int ls.length)=some (Ki (UA ls.length none)):=by
  rw[Rp ⟨by omega,by omega,by rw[Qz,Q9];omega⟩,Qz];unfold Ki;rw[JO]
  congr 2
  have:∀n:Nat,(UA n [PyData.none]).flatten=UA n (Kd none):=λn=>by
   induction n with
   |zero=>rfl
   |succ n ih=>rw[QQ,QL,ih,QQ];rfl
  exact this _
 exact KH (U7 (Zu (UT UZ UY) (Qa rfl)) (ZN (UT (K8 rfl UZ Wd) UY) hlen) hmul) rfl
theorem Cq(g:Good cs ls):∀(cl:List Int)(k:Nat),∃es:List D,es.length=cl.length/\(∀e∈es,∃o old ts,e=KE o old ts/\Zv cs.length ls.length old ts)/\∀(i:Nat) c e,cl[i]?=some c->es[i]?=some e->Xw [Kf cs ls,.int c,.int (5+((k+i:Nat):Int))]=some e:=by
 intro cl;induction cl with
 |nil=>exact λk=>⟨[],rfl,λe h=>(by cases h),λi d e h=>by simp at h⟩
 |cons c r ih=>
  intro k;obtain⟨es,e1,e2,e3⟩:=ih (k+1);obtain⟨q,hq,o,old,ts,rfl,ga⟩:=Bs g c (5+(k:Int));refine⟨KE o old ts::es,by rw[Qv,e1,Qv],λe he=>?_,λi d e h1 h2=>?_⟩
  ·rcases QT.mp he with rfl|he
   ·exact⟨o,old,ts,rfl,ga⟩
   ·exact e2 e he
  ·cases i with
   |zero=>cases h1;cases h2;exact hq
   |succ i=>have:=e3 i d e (by simpa using h1) (by simpa using h2);rwa[show k+1+i=k+(i+1)by omega]at this
end
def XB:List Ord:=[.firsts,.full,.lasts]
def YH(W:Ord->LO)(os:List Ord):List (D×D):=os.map λo=>(UD o.tx,Ki (W o))
theorem Cp(W:Ord->LO):∀(j:Nat)(o:Ord),XB[j]?=some o->Xn (YH W (XB.take j)) (.inr o.tx) (Ki (W o))=YH W (XB.take (j+1))/\SL (.dict (YH W (XB.take (j+1)))) (.str o.tx)=some (Ki (W o))/\(YH W (XB.take j)).length<1000
 |0,o,h=>by cases h;exact⟨rfl,rfl,(by decide:0<1000)⟩
 |1,o,h=>by cases h;exact⟨rfl,rfl,(by decide:1<1000)⟩
 |2,o,h=>by cases h;exact⟨rfl,rfl,(by decide:2<1000)⟩
 |j+3,o,h=>by simp[XB]at h
theorem EM(W:Ord->LO)(o:Ord):SL (.dict (YH W XB)) (.str o.tx)=some (Ki (W o)):=by cases o<;>rfl
theorem Rj(ns:List Int)(hns:ns.length<=63)(a b:Option Int):∃cl:List Int,DL.cutD (ns.map int) a b=cl.map int/\cl.length<=63:=by
 have h:∀xs:List D,(∀x∈xs,∃c:Int,x=.int c)->∃cl:List Int,xs=cl.map int/\cl.length=xs.length:=by
  intro xs;induction xs with
  |nil=>exact λ_=>⟨[],rfl,rfl⟩
  |cons x xs ih=>
   intro h;obtain⟨c,rfl⟩:=h x Qo;obtain⟨cl,rfl,e⟩:=ih λy hy=>h y (Ql _ hy)
   exact⟨c::cl,rfl,by rw[Qv,Qv,e]⟩
 obtain⟨cl,e1,e2⟩:=h (DL.cutD (ns.map int) a b) λx hx=>by unfold DL.cutD at hx;obtain⟨c,_,rfl⟩:=Qu.mp (List.mem_of_mem_drop (List.mem_of_mem_take hx));exact⟨c,rfl⟩
 refine⟨cl,e1,?_⟩;rw[e2];unfold DL.cutD;rw[QW,Jk,Qb];omega
section
variable{cs:List Int}{ls:L3}{ws us:LO}{o:Ord}{old:Option LO}{ts:List Int}
theorem GX(g:Good cs ls)(dl:Deal cs ls ws)(h1:ts.Nodup)(h2:∀a∈ts,0<=a/\a<(ls.length:Int)):Zv cs.length ls.length (some ws) ts:=⟨λus e=>by cases e;exact dl.len,λus t e m=>by
 cases e;obtain⟨i,hi⟩:=List.getElem?_of_mem m;have hil:i<ls.length:=by have:=(Qg.mp hi).1;have:=dl.len;omega
 have:=dl.wish i t _ hi (Qd hil);obtain⟨r,hr,ht⟩:=Ud.mp this;exact(g.rk _ (JM hil)).there r hr t ht,h1,h2⟩
theorem Co(g:Good cs ls)(ga:Zv cs.length ls.length old ts)(h1:OptQ cs ls o old ts us)(h2:OptQ cs ls o old ts ws):Xr ls o old ts us=Xr ls o old ts ws:=by refine PP _ _ ?_ (Re g h1.dl h2.dl ga (h1.mx _ h2.dl)) (Re g h2.dl h1.dl ga (h2.mx _ h1.dl));unfold Xr;rw[Qj,Qj,Qj,Qj,Qb,Qb,OO (b:=Kh (lng ls) (U1 ls ws)) (by rw[Xk,Xk])];rfl
end
theorem Cn:∀ns:List Int,ns.length<=63->WH [.list (ns.map int)]=some (.bool true):=by
 intro ns hns;refine Zd (Z:=[pb (.list (ns.map int)),none,none,none,none,none,none,none,none,none,none,none,none,none]) rfl ?_;unfold V5;obtain⟨r,hr,cs,ls,rfl,g⟩:=jY (ns:=ns) (by omega) 1;have l7:=g.l7;have c6:=g.c6;obtain⟨v0,hv0⟩:=Nl ns 0 (by omega);refine Km (KO (Kn (UT (UR rfl) (UT UZ (UT UZ (UT UZ (UT UZ UY))))) rfl hr) (Qa rfl) rfl) ?_;obtain⟨cl0,hcut,hcl⟩:=Rj ns hns (some 9) (some 11)
 let cl:List Int:=v0::cl0
 have hadd:U4 (.list [.int v0]) (.list (DL.cutD (ns.map int) (some 9) (some 11)))=some (.list (cl.map int)):=by rw[hcut,XI (by rw[Qb,Q9];omega)];rfl
 refine Km (KO (U7 (Zu (UT (Kn (UT (UR rfl) (UT UZ UY)) rfl hv0) UY) (Qa rfl)) (Vk (UR rfl) (YX UZ) (YX UZ) Vs) hadd) (Qa rfl) rfl) ?_
 let S0:Option Sl:=some (.pub (.list (ns.map int)))
 let S1:Option Sl:=some (.pub (Kf cs ls))
 let S2:Option Sl:=some (.pub (.list (cl.map int)))
 obtain⟨es,hel,hes,hem⟩:=Cq g cl 0
 have hc:Ze (gT 2 (gNC (gN 14) (gNC (gN 15) gN0))) (UU true) (U0 3 Xw (US (UO 1) (US (UO 15) (US (UV U4 (UU (.int 5)) (UO 14)) UQ)))) (Yj 0 (cl.map int)) (Kq [S0,S1,S2,none,none,none,none,none,none,none,none,none,none,none]++UA 2 none) []=some es:=by
  refine(XM (λZ=>∃x y,Z=[S0,S1,S2,none,none,none,none,none,none,none,none,none,none,none,x,y]) _ es _ [] (by rw[YB,Qb];exact hel) ?_ ⟨none,none,rfl⟩ (by show 0+(Yj 0 _).length<=1000000;rw[YB,Qb];show 0+(cl0.length+1)<=1000000;omega)).trans (by rw[JJ]);rintro i d e hd he Z ⟨x,y,rfl⟩;obtain⟨x,hx,rfl⟩:=Xd hd;rw[Qe]at hx;cases hc:cl[i]? with
  |none=>rw[hc]at hx;cases hx
  |some c=>
  rw[hc]at hx;cases hx;have:=hem i c e hc he;refine⟨_,KB rfl (U5 (UX (Qa rfl) rfl) (U5 (UX (Qa rfl) rfl) KD)),rfl,Kn (UT (UR rfl) (UT (UR rfl) (UT (U7 UZ (UR rfl) Zh) UY))) rfl this,_,_,rfl⟩
 refine Km (Yn (YC (XN (UT (UR rfl) UY) XH) hc) (Qa rfl) rfl) ?_;refine Km (DU UZ (Qa rfl) rfl) ?_;have hW:=λo=>Rf (o:=o) g ga0
 obtain⟨W,hW⟩:∃W:Ord->LO,∀o,∃d,Ys [Kf cs ls,KE o none []]=some (.tuple [Ki (W o),d])/\OptQ cs ls o none [] (W o):=⟨λo=>Classical.choose (hW o),λo=>Classical.choose_spec (hW o)⟩
 let S3:Option Sl:=some (.own es)
 have hix:∀(us:LO)(d:D),oIx (.tuple [Ki us,d]) (.int 0)=some (Ki us):=λus d=>Zr (j:=0) rfl;have lst:∀us:LO,Ve [Ki us]=some (us.map Kd):=λus=>rfl
 obtain⟨e0,he0⟩:∃e0,es[0]?=some e0:=⟨es[0]'(by rw[hel];exact Uj _),Qd _⟩
 obtain⟨o0,old0,ts0,rfl,ga1⟩:=hes e0 (Qt he0);apply KI;apply ZO (λj Z=>∃y5 y6 y7,Z=[S0,S1,S2,S3,some (.deep .dic (.dict (YH W (XB.take j)))),y5,y6,y7,none,none,none,none,none,none])
 case h1=>exact ZH (Zu (UT UZ (UT UZ (UT UZ UY))) (Qa rfl)) Yw
 case h0=>exact⟨_,_,_,rfl⟩
 case hst=>
  rintro j d Z hj ⟨y5,y6,y7,rfl⟩
  obtain⟨o,ho,rfl⟩:∃o,XB[j]?=some o/\d=.str o.tx:=by
   match j,hj with
   |0,hj=>cases hj;exact⟨.firsts,rfl,rfl⟩
   |1,hj=>cases hj;exact⟨.full,rfl,rfl⟩
   |2,hj=>cases hj;exact⟨.lasts,rfl,rfl⟩
   |j+3,hj=>simp at hj
  obtain⟨p1,p2,p3⟩:=Cp W j o ho;obtain⟨d1,hb,hq⟩:=hW o;have gk:Zv cs.length ls.length (some (W o)) ts0:=GX g hq.dl ga1.once ga1.there;obtain⟨w2,d2,hb2,hq2⟩:=Rf (o:=o) g gk;have e2:=EO g gk hq hq2;subst e2;refine⟨_,UX (Qa rfl) rfl,?_⟩;unfold Mp;refine Km (KO (U7 (Kn (UT (UR rfl) (UT (YA (UT (UR rfl) (UT UZ (UT (Zu UY (Qa rfl)) UY))) (Qa rfl)) UY)) rfl hb) UZ (hix _ _)) (Qa rfl) rfl) ?_;apply KI;refine KF (b:=false) (Xf (XJ (Kn (UT (UR rfl) (UT (UR rfl) UY)) rfl (Gv g hq.dl)))) (λz=>by cases z) λ_=>K2 (KJ ?_)
  refine Km (Ef (KS (OC rfl (lst _))) rfl (UR rfl) rfl rfl p3 rfl) ?_;have p1:Xn (YH W (XB.take j)) (.inr o.tx) (.list ((W o).map Kd))=YH W (XB.take (j+1)):=p1;rw[p1];have h00:oIx (.list es) (.int 0)=some (KE o0 old0 ts0):=Zr (j:=0) he0;have h02:oIx (KE o0 old0 ts0) (.int 2)=some (.list (ts0.map int)):=Zr (j:=2) rfl;refine Km (KO (U7 (Kn (UT (UR rfl) (UT (YA (UT (UR rfl) (UT (UR rfl) (UT (U7 (RO rfl UZ rfl h00) UZ h02) UY))) (Qa rfl)) UY)) rfl hb2) UZ (hix _ _)) (Qa rfl) rfl) ?_;refine KF (b:=false) (XU (Z6 rfl (Ou rfl (UR rfl) rfl p2) NY) (Z6 rfl (Ou rfl (UR rfl) rfl p2) NY)) (λz=>by cases z) λ_=>K2 (Zg ⟨_,_,_,rfl⟩)
 case hend=>
 rintro Z ⟨y5,y6,y7,rfl⟩;refine KJ ?_
 let S3:Option Sl:=some (.pub (.list es))
 let S4:Option Sl:=some (.deep .dic (.dict (YH W XB)))
 apply KI;apply ZO (λj Z=>∃y5 y6 y7 y8 y9 y10 y11 y12 y13,Z=[S0,S1,S2,S3,S4,y5,y6,y7,y8,y9,y10,y11,y12,y13])
 case h1=>exact ZH (Yo rfl rfl) Yw
 case h0=>exact⟨_,_,_,_,_,_,_,_,_,rfl⟩
 case hst=>
  rintro j d Z hj ⟨y5,y6,y7,y8,y9,y10,y11,y12,y13,rfl⟩;obtain⟨o,old,ts,rfl,ga⟩:=hes d (Qt hj);have gn:Zv cs.length ls.length none ts:=⟨λws h=>(by cases h),λws t h=>(by cases h),ga.once,ga.there⟩
  have gr:Zv cs.length ls.length (some (UA ls.length none)) ts:=⟨λws h=>(by cases h;exact QF),λws t h m=>(by cases h;cases List.eq_of_mem_replicate m),ga.once,ga.there⟩
  obtain⟨w1,d1,hb1,hq1⟩:=Rf (o:=o) g ga;obtain⟨w2,d2,hb2,hq2⟩:=Rf (o:=o) g gr;obtain⟨w3,d3,hb3,hq3⟩:=Rf (o:=o) g gn;obtain⟨d4,_,hq4⟩:=hW o;refine⟨_,KB rfl (U5 (UX (Qa rfl) rfl) (U5 (UX (Qa rfl) rfl) (U5 (UX (Qa rfl) rfl) KD))),?_⟩;unfold Mq;refine Km (KO (U7 (Kn (UT (UR rfl) (UT (YA (UT (UR rfl) (UT (UR rfl) (UT (UR rfl) UY))) (Qa rfl)) UY)) rfl hb1) UZ (hix _ _)) (Qa rfl) rfl) ?_;apply KI;refine KF (b:=false) (Xf (XJ (Kn (UT (UR rfl) (UT (UR rfl) UY)) rfl (Gv g hq1.dl)))) (λz=>by cases z) λ_=>K2 (KJ ?_)
  have c1:=Nk g hq1.dl;rw[(Lo g ga hq4 hq1).1]at c1;apply KI;refine KF (b:=false) (U7 (Kn (UT (UR rfl) (UT (UR rfl) UY)) rfl c1) (Kn (UT (UR rfl) (UT (Ou rfl (UR rfl) rfl (EM W o)) UY)) rfl (Nk g hq4.dl)) Mc) (λz=>by cases z) λ_=>K2 (KJ ?_)
  refine Km (KO (YA (UT (UR rfl) (UT UZ (UT (UR rfl) UY))) (Qa rfl)) (Qa rfl) rfl) ?_;refine Km (KO (U7 (Kn (UT (UR rfl) (UT (YA (UT (UR rfl) (UT (Kn (UT (UR rfl) UY) rfl (EN g)) (UT (UR rfl) UY))) (Qa rfl)) UY)) rfl hb2) UZ (hix _ _)) (Qa rfl) rfl) ?_;refine Km (KO (U7 (Kn (UT (UR rfl) (UT (UR rfl) UY)) rfl hb3) UZ (hix _ _)) (Qa rfl) rfl) ?_;have hq2:=As _ hq2;have k2:=RW (o:=o) g hq2.dl gn;have k23:Zz o (Kh (lng ls) (U1 ls w2))++[(KY none w2:Int)]++ts.map (KW ls w2)=Zz o (Kh (lng ls) (U1 ls w3))++[(KY none w3:Int)]++ts.map (KW ls w3):=Co g gn hq2 hq3;rw[k23]at k2;apply KI;refine KF (b:=false) (U7 (Kn (UT (UR rfl) (UT (UR rfl) (UT (UR rfl) UY))) rfl k2) (Kn (UT (UR rfl) (UT (UR rfl) (UT (UR rfl) UY))) rfl (RW g hq3.dl gn)) Mc) (λz=>by cases z) λ_=>K2 (KJ ?_)
  have hle:=Re g hq3.dl hq1.dl gn (hq3.mx _ hq1.dl);exact KF (b:=false) (U7 (Kn (UT (UR rfl) (UT (UR rfl) (UT (UR rfl) UY))) rfl (RW (o:=o) g hq1.dl gn)) (Kn (UT (UR rfl) (UT (UR rfl) (UT (UR rfl) UY))) rfl (RW g hq3.dl gn)) (by rw[DX];exact congrArg some hle)) (λz=>by cases z) λ_=>K2 (Zg ⟨_,_,_,_,_,_,_,_,_,rfl⟩)
 case hend=>rintro Z ⟨y5,y6,y7,y8,y9,y10,y11,y12,y13,rfl⟩;exact KJ (KH UZ rfl)
end W
open PySem PySem.W PyProof.Rows
set_option maxRecDepth 100000 in
set_option maxHeartbeats 0 in
theorem PySem.Challenge.cw_wishdeal_k46_what_was_dealt_is_kept_holds : PySem.Challenge.rw_wishdeal_k46_what_was_dealt_is_kept.Holds := by
 w_on;o_law
 refine holds_open (q:=W.q0) (loose:=[]) (Xt:=λs=>xlAt W.q0 [] s&&recOk [] s) (XP:=XL W.q0 []) (Yf:=Hook.obs .none) (Ya:=Hook.val .none) (YP:=Hook.says .none) (N:=4806) (d:=W.d_bw) (kwd:=[])
  W.F1 (Hook.of .none) (Hook.keeps .none) (λs e=>xl_of s (Bool.and_eq_true_iff.mp e).1) XL.keeps (by rfl) (by rfl) (by rfl)
  (λs e=>recFacts_of (Bool.and_eq_true_iff.mp e).2) (by rfl) (by assumption) (by decide +kernel) ⟨rfl,rfl,rfl,rfl,rfl,by decide +kernel⟩ ?hw (W.walk W.Cn)
 case hw=>w_witness2


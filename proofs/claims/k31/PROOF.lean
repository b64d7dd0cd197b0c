import PyProof.Rows.All
import Wide.All
import OpenK.AllK
import Wide.FinOn
import Lean
import PyProof.EqAt
import PyProof.EqKinds
import PyProof.TupleCall
import PyProof.EnumMake
import PyProof.ZipIter
import PyProof.ExcClass2
import PyProof.ExcInit
import PyProof.ExcBaseAll.ValueError
import PyProof.FString2
import PyProof.ExcArgsOwn
import PyProof.InstStoreFacts
import ObjForm.Fk.InstStore
import ObjForm.Fk.InstLoad
import PyProof.StationsW
import PyProof.RulesAs
import PyProof.NsDelKeeps
import OpenK.KMore
import PyProof.IsiBase
import OpenK.KNot
import PyProof.Rows.RuleN_isinstance
import PyProof.NeData
import PyProof.P3In
import PyProof.StrWalks
import PyProof.ConsumeWalk
import PyProof.SliceStr2
import PyProof.MeetsStr
import KE.KItem
import KE.KUnpack
import KE.KRevSl
import PyProof.Rows.SetFrom
import PyProof.SetRoads
import PyProof.Rows.Range3
import PyProof.CallType
import PyProof.Rows.CallKwBuiltin
import PyProof.Rows.MinMaxN
import PyProof.SumWalkG
import PyProof.Rows.SeqMore
import PyProof.Rows.SortWalk
import PyProof.Rows.SumAny
import PyProof.Rows.SeqMore2
import KE.KSortTup
import PyProof.Rows.SortShellK
import PyProof.ReprRoads
import PyProof.ReprBulk
import PyProof.CallFns
import PyProof.NeKinds
import PyProof.Rows.StrJoinMade
import PyProof.StrCalls
import KE.KIntText
import PyProof.ReprDict
import PyProof.DictIter
import PyProof.Rows.DictUnroll
import PyProof.MeetsStr2
import PyProof.Rows.StrNews
import PyProof.StrLawsChain
import PyProof.Rows.StrItems
import PyProof.SeqRoads2
import PySem.Challenge.RW_wishdeal_k31_whole_best_where_no_way_gai
set_option compiler.extract_closed false
set_option Elab.async false
set_option linter.all false
set_option maxRecDepth 100000
set_option maxHeartbeats 4000000
theorem Qa:type_of% @of_decide_eq_true:=@of_decide_eq_true
theorem Qq:type_of% @if_pos:=@if_pos
theorem QC:type_of% @decide_eq_false:=@decide_eq_false
theorem QG:type_of% @if_neg:=@if_neg
theorem QM:type_of% @decide_eq_true:=@decide_eq_true
theorem Jn:type_of% @decide_eq_true_eq:=@decide_eq_true_eq
theorem Jz:type_of% @of_decide_eq_false:=@of_decide_eq_false
theorem JW:type_of% @congrArg:=@congrArg
open List renaming length_map→Qb,getElem?_eq_getElem→Qd,getElem?_map→Qf,getElem?_eq_some_iff→Qg,length_append→Qj,getElem?_set_ne→Ql,getElem?_append_left→Qm,mem_of_getElem?→Qn,mem_cons_self→Qo,getElem?_append_right→Qr,mem_map→Qs,mem_cons_of_mem→Qu,map_cons→Qv,getElem?_replicate→Qw,mem_singleton→Qy,mem_append_right→Qz,length_cons→QB,length_replicate→QE,map_append→QF,getD_eq_getElem?_getD→QH,getElem?_set_self→QJ,mem_append→QL,length_nil→QN,size_toArray→QO,flatten_cons→QP,mem_cons→QR,length_range→QS,map_map→QT,length_singleton→QU,lookup_cons→QW,mem_range→QY,length_set→Q3,replicate_succ→Q4,getElem?_eq_none→Q5,mem_append_left→Q6,mem_filter→Q9,zip_cons_cons→Ja,all_eq_true→Jb,getElem_mem→Je,append_nil→Jh,nil_append→Ji,pairwise_cons→Jj,append_assoc→Jm,getLast?_eq_getElem?→Jq,length_filter_le→Jr,mem_iff_getElem?→Js,length_take→Ju,length_pos_of_mem→Jy,drop_eq_getElem_cons→JA,nodup_cons→JC,filter_map→JD,any_cons→JE,flatten_append→JG,map_congr_left→JH,length_drop→JI,take_zero→JJ,getElem?_cons_succ→JK,mem_flatten→JM,take_length→JN,mem_replicate→JQ,head?_eq_getElem?→JS,contains_iff_mem→JU,nodup_append→JV,mem_iff_getElem→JX,mem_of_getLast?→JY,filterMap_cons→JZ,length_pos_iff→J0,all_map→J8,map_id'→J9,nodup_nil→Ua,take_succ→Ub,range→Uo,replicate→Up,Pairwise→Uz
open PySem renaming wpAny_bind→Qe,wpAny_pure→Qk,wpAny_mono→QA,wpAny_loadPart_at→QK,wpAny_truthy_bool→QZ,wpAny_standAt→Q8,wpAny_isSubtype_exc→Jf,wpAny_passesOwn→Jg,wpAny_pyIter_list→Jw,mem_of_lookup→JF,Value→Ud,Shared→Ue,Program→Uf,Addr→Ug,FuncData→Uh,Expr→Ui,sizeLine→Uj,wpAny→Uk,starEach→Ul,compareOp→Um,assignEach→UB,foldedSetIterable→UC
open PySem.Heap renaming lt_size→Qh,get?_push_of_some→Qi,get?_push_size→Qx
open Nat renaming le_refl→Qp,lt_of_lt_of_le→QD,ne_of_lt→QI,le_trans→QQ,le_of_not_lt→Q0,lt_irrefl→Jc,zero_add→Jd,ne_of_gt→Jx,le_succ→JO,not_lt_zero→JT,zero_le→J6
open Option.some renaming inj→Qt
open Int renaming toNat_natCast→QX,le_refl→Jv,le_antisymm→J4,zero_add→J7,not_lt→Uc
open Bool renaming and_eq_true→Q2,false_ne_true→Jt,false_eq_true→JP,not_eq_false'→JR
open Array renaming getD_eq_getD_getElem?→Q7,length_toList→Jo,getElem?_eq_getElem→JB
open PySem.W.Fast renaming te1987589406359920131→Jk
open PyProof.Rows renaming callWith_type1→Jl
open PySem.W renaming kia_one→Jp
open Option renaming getD_some→JL
open Array.Perm renaming refl→J5
open PySem.PyData renaming list→Uq,bool→Ur,str→Us,strOk→Ut,canLayAll0→Uu,depth→Uv,eqv→Uw,shown→UA
open PySem.PassesOwn renaming never→Ux
open PySem.Str renaming ofString→Uy
abbrev L3:=List (List (List Int))
abbrev LO:=List (Option Int)
abbrev LP:=List (Int×Int)
open PySem.W (Frag)
open PySem.PyData (int)
open List (replicate)
namespace DL
open PySem PySem.Spec PySem.W PyProof.Rows
def topRunT(tb:String->Option Builtin)(p:Uf)(w:World)(m:Nat)(ann:Option Ud):Nat->SharedT->Thread->Option SharedT
 |0,_,_=>none
 |n+1,s,t=>match through t,stepOk m ann t with
  |true,_=>some s
  |false,false=>none
  |false,true=>match stepT (denote tb) p w s t with
   |some x=>topRunT tb p w m ann n x.1 x.2
   |none=>none
theorem MK{tb:String->Option Builtin}{p:Uf}{w:World}{m:Nat}{ann:Option Ud}:∀{n:Nat}{s s':SharedT}{t:Thread},topRunT tb p w m ann n s t=some s'->topRun tb p w m ann n s.abs t=some s'.abs
 |0,_,_,_,h=>by cases h
 |n+1,s,s',t,h=>by
  rw[topRunT]at h;rw[topRun];cases ht:through t with
  |true=>rw[ht]at h;cases h;rfl
  |false=>
   rw[ht]at h;cases hk:stepOk m ann t with
   |false=>rw[hk]at h;cases h
   |true=>
    rw[hk]at h;dsimp only at h⊢;cases hs:stepT (denote tb) p w s t with
    |none=>rw[hs]at h;cases h
    |some x=>rw[hs]at h;rw[stepT_spec hs];exact MK h
def btOf(l:List Obj):BT:=(l.foldl (λ(x:BT×Nat) o=>(x.1.ins x.2 o,x.2+1)) (.nil,0)).1
noncomputable def T0 (w:World) (os:OsState):SharedT:=⟨btOf (boot_heap w.params).objs.toList,11,(boot_heap w.params).life,#[],boot_drawn,boot_toks,os⟩
theorem Ce(w:World)(os:OsState):(T0 w os).abs=⟨boot_heap w.params,#[],boot_drawn,boot_toks,os⟩:=by kernel_rfl
theorem B9(w:World):((boot_heap w.params).isNs mainGlobals&&(#[]:Array GenState).size==0,(boot_heap w.params).objs.size,(boot_heap w.params).nsMap mainGlobals "__annotations__")=(true,11,some (.ref 6)):=by kernel_rfl
noncomputable abbrev Lm (p q:Uf) (loose:List Str) (Xt:Ue->Bool) (w:World) (t:SharedT):=
 ((staticsOk (importedModules p.main.body) (boot_heap w.params) t.abs.heap&&namesBound p t.abs.heap&&gensDone t.abs&&laidKept (boot_heap w.params) t.abs.heap),openSeen q loose (importedModules p.main.body) Xt true t.abs)
theorem EM{p q:Uf}{loose:List Str}{Xt:Ue->Bool}{N M:Nat}(e:opening p=plainProg p.main.scope.names)(hN:Nat.ble 600 N=true)(f:∀s,fenceModules? p s=some s)(le:Nat.ble M N=true)
  (run:∀(w:World)(os:OsState),(topRunT treeTable p w 11 (some (.ref 6)) M (T0 w os) (topStub p)).map (Lm p q loose Xt w)=some (true,openGood q loose)):LeftO p q loose Xt (Hook.obs .none) (Hook.val .none) N:=λw=>by
 obtain⟨⟨h,gs,d,k,os⟩,e0,e'⟩:=Option.map_eq_some_iff.mp (boot_open e hN f w);have e':(h,gs,d,k)=(boot_heap w.params,#[],boot_drawn,boot_toks):=e';obtain⟨rfl,rfl,rfl,rfl⟩:h=boot_heap w.params/\gs=#[]/\d=boot_drawn/\k=boot_toks:=by simpa only[Prod.mk.injEq]using e'
 obtain⟨t,ht,l⟩:=Option.map_eq_some_iff.mp (run w os);have hr:=MK ht;rw[Ce]at hr;have r:=topRun_mono (N-M) _ _ _ _ hr;rw[show M+(N-M)=N by have:=Nat.le_of_ble_eq_true le;omega]at r;obtain⟨l1,l2⟩:=Prod.mk.inj l;have z:=B9 w;obtain⟨z1,z2,z3⟩:_/\_/\_:=by simpa only[Prod.mk.injEq]using z
 have tf:topFrom treeTable p w N ⟨boot_heap w.params,#[],boot_drawn,boot_toks,os⟩=some t.abs:=by
  unfold topFrom;dsimp only;rw[z1,z2,z3,r]
  show(match staticsOk (importedModules p.main.body) (boot_heap w.params) t.abs.heap&&namesBound p t.abs.heap&&gensDone t.abs&&laidKept (boot_heap w.params) t.abs.heap with|true=>some t.abs|false=>none)=_
  rw[l1]
 unfold openEnds;rw[e0]
 show(topFrom treeTable p w N _).map _=_
 rw[tf];exact JW some (Prod.ext l2 rfl)
end DL
open PySem in
lay_quick PySem.Challenge.pw_wishdeal_k31_whole_best_where_no_way_gai DL.topRunT PySem.W.openGood PySem.W.staticsOk PySem.W.namesBound PySem.W.laidKept PySem.W.xlAt
namespace W
open PySem PySem.Spec DL
abbrev p0:Uf:=PySem.Challenge.pw_wishdeal_k31_whole_best_where_no_way_gai
def YJ:List Nat:=[1,2,4,5,6,7,9,10,11,12,13,14,15,16,17,18,19,21,23,24,25,27,28,29,31,32,33,34,35,37,38,39,40,41,42,44,45,46,47,49,50,51,52,53,54,55,56,57,58,59,60,61]
def ixL:List Nat:=[1,2,13,14,15,16,17,18,19,21,24,25,27,28,29,31,32,33,34,35,37,38,39,40,41,42,44,45,46,47,49,50,51,52,53,54,55,56,57,58,59,60,61]
abbrev q0:Uf:=PySem.W.view p0 YJ
theorem Ll:∀(w:World)(os:OsState),(PySem.W.Fast.tw10708255244068714335 PySem.W.Fast.tw14364793385576792824 PySem.W.Fast.tw14595249212514964550 w 11 (some (.ref 6)) 2466 (T0 w os) (PySem.W.topStub PySem.W.Fast.tw14595249212514964550)).map (λt=>((PySem.W.Fast.tw13471830651028734593 (PySem.W.Fast.tw5923862056798008813 (Program.main PySem.W.Fast.tw14595249212514964550).body) (PySem.W.boot_heap w.params) t.abs.heap&&PySem.W.Fast.tw4683006035507612052 PySem.W.Fast.tw14595249212514964550 t.abs.heap&&PySem.W.gensDone t.abs&&PySem.W.Fast.tw16898566250750103049 (PySem.W.boot_heap w.params) t.abs.heap),PySem.W.Fast.tw4187177175401517315 (PySem.W.view PySem.W.Fast.tw14595249212514964550 YJ) [] (PySem.W.Fast.tw5923862056798008813 (Program.main PySem.W.Fast.tw14595249212514964550).body) (λs=>PySem.W.Fast.tw4757257242682413121 (PySem.W.view PySem.W.Fast.tw14595249212514964550 YJ) [] s&&PySem.W.recOk [] s) true t.abs))=some (true,PySem.W.Fast.tw3486900944545009338 (PySem.W.view PySem.W.Fast.tw14595249212514964550 YJ) []):=by intro w os;kernel_rfl
theorem Lk:PySem.W.LeftO p0 q0 [] (λs=>PySem.W.xlAt q0 [] s&&PySem.W.recOk [] s) (PySem.W.Hook.obs .none) (PySem.W.Hook.val .none) 4832:=by
 refine EM (M:=2466) (by kernel_rfl) rfl (λs=>by kernel_rfl) rfl λw os=>?_
 have h:=Ll w os;rw[←PySem.W.Fast.te10708255244068714335,←PySem.W.Fast.te14364793385576792824,←PySem.W.Fast.te4187177175401517315,←PySem.W.Fast.te5923862056798008813,←PySem.W.Fast.te13471830651028734593,←PySem.W.Fast.te4683006035507612052,←PySem.W.Fast.te16898566250750103049,←PySem.W.Fast.te4757257242682413121,←PySem.W.Fast.te3486900944545009338,←PySem.W.Fast.te14595249212514964550]at h;exact h
end W
namespace L2
open PySem PySem.Spec PyProof.Rows
abbrev Key:=Sum Int Str
def VE:Key->Ud->Bool
 |.inl k,v=>Value.isInt k v
 |.inr x,v=>Value.isStrOf x v
def keyH(w:World):Key->Int
 |.inl k=>hashInt k
 |.inr x=>hashStr w x
theorem XB:∀{k:Key}{v:Ud},VE k v=true->(∃i t,k=Sum.inl i/\v=Value.int i t)∨(∃x t,k=Sum.inr x/\v=Value.str x t)
 |.inl i,v,h=>by obtain⟨t,e⟩:=Value.isInt_shape (k:=i) (v:=v) h;exact .inl ⟨i,t,rfl,e⟩
 |.inr x,v,h=>by obtain⟨t,e⟩:=Value.isStrOf_shape (x:=x) (v:=v) h;exact .inr ⟨x,t,rfl,e⟩
theorem B8(i:Int)(t:Tok):VE (.inl i) (.int i t)=true:=by simp[VE,Value.isInt]
theorem B7(x:Str)(t:Tok):VE (.inr x) (.str x t)=true:=by simp[VE,Value.isStrOf]
theorem Gm(a b:Int):decide ((Sum.inl a:Key)=Sum.inl b)=(a==b):=by
 by_cases e:a=b
 ·subst e;simp
 ·have h:¬(Sum.inl a:Key)=Sum.inl b:=λq=>e (Sum.inl.inj q)
  rw[QC h];exact(beq_eq_false_iff_ne.mpr e).symm
theorem Gk(a b:Str):decide ((Sum.inr a:Key)=Sum.inr b)=decide (a=b):=by
 by_cases e:a=b
 ·subst e;simp
 ·have h:¬(Sum.inr a:Key)=Sum.inr b:=λq=>e (Sum.inr.inj q)
  rw[QC h,QC e]
theorem Gj(a:Int)(b:Str):decide ((Sum.inl a:Key)=Sum.inr b)=false:=QC (λq=>nomatch q)
theorem Fh(a:Str)(b:Int):decide ((Sum.inr a:Key)=Sum.inl b)=false:=QC (λq=>nomatch q)
def Z2(prog:Uf)(w:World):PySem.KeyKind prog w Key where
 is:=VE
 hash:=keyH w
 inj:=λv a b ha hb=>by
  rcases XB ha with ⟨i,t,rfl,rfl⟩|⟨x,t,rfl,rfl⟩
  ·rcases XB hb with ⟨j,u,rfl,e⟩|⟨y,u,rfl,e⟩
   ·injection e with e1 _;rw[e1]
   ·exact nomatch e
  ·rcases XB hb with ⟨j,u,rfl,e⟩|⟨y,u,rfl,e⟩
   ·exact nomatch e
   ·injection e with e1 _;rw[e1]
 byValue:=λk v h=>by rcases XB h with ⟨i,t,rfl,rfl⟩|⟨x,t,rfl,rfl⟩<;>rfl
 pyHash:=λhv h=>by
  rcases XB hv with ⟨i,t,rfl,rfl⟩|⟨x,t,rfl,rfl⟩
  ·exact wpAny_pyHash_int h
  ·exact wpAny_pyHash_str h
 eqBool:=λhu hv h=>by
  rcases XB hu with ⟨i,t,rfl,rfl⟩|⟨x,t,rfl,rfl⟩
  ·rcases XB hv with ⟨j,u,rfl,rfl⟩|⟨y,u,rfl,rfl⟩
   ·rw[Gm]at h;exact wpAny_eqBool_int h
   ·rw[Gj]at h;exact SeqAt.EqAt.int_str i t y u _ _ _ _ h
  ·rcases XB hv with ⟨j,u,rfl,rfl⟩|⟨y,u,rfl,rfl⟩
   ·rw[Fh]at h;exact SeqAt.EqAt.str_int x t j u _ _ _ _ h
   ·rw[Gk]at h;exact wpAny_eqBool_str h
 «strs»:=λk x t v h=>by
  rcases XB h with ⟨i,u,rfl,e⟩|⟨y,u,rfl,e⟩
  ·exact nomatch e
  ·injection e with e1 _
   subst e1;cases v<;>rfl
theorem Ax(prog:Uf)(w:World)(i:Int)(t:Tok):(Z2 prog w).is (.inl i) (.int i t)=true:=B8 i t
theorem Aw(prog:Uf)(w:World)(x:Str)(t:Tok):(Z2 prog w).is (.inr x) (.str x t)=true:=B7 x t
inductive V where
 |non|bl (b:Bool)|int (i:Int)|str (x:Str)|byt (b:Array UInt8)|flt (b:UInt64)|ref (a:Ug)|ty (n:String)
 deriving DecidableEq
def RelV:V->Ud->Prop
 |.non,u=>u=Value.none
 |.bl b,u=>u=Value.bool b
 |.int i,u=>∃t,u=Value.int i t
 |.str x,u=>∃t,u=Value.str x t
 |.byt b,u=>∃t,u=Value.bytes b t
 |.flt b,u=>∃t,u=Value.float b t
 |.ref a,u=>u=Value.ref a
 |.ty n,u=>u=Value.type n
abbrev Vals:List V->List Ud->Prop:=Paired RelV
theorem Vals.length{xs:List V}{us:List Ud}(r:Vals xs us):xs.length=us.length:=Paired.length r
theorem Vals.get:∀{xs:List V}{us:List Ud}{i:Nat}{x:V},Vals xs us->xs[i]?=some x->∃u,us[i]?=some u/\RelV x u
 |_,_,_,_,.nil,e=>by simp at e
 |_,_,0,_,.cons r _,e=>by simp at e;subst e;exact⟨_,rfl,r⟩
 |_,_,i+1,x,.cons _ t,e=>by obtain⟨u,h1,h2⟩:=Vals.get (i:=i) (x:=x) t (by simpa using e);exact⟨u,by simpa using h1,h2⟩
theorem Vals.set{x:V}{u:Ud}(r:RelV x u):∀{xs:List V}{us:List Ud}(i:Nat),Vals xs us->Vals (xs.set i x) (us.set i u)
 |_,_,_,.nil=>.nil
 |_,_,0,.cons _ t=>.cons r t
 |_,_,i+1,.cons q t=>.cons q (Vals.set r i t)
theorem Vals.append:∀{xs ys:List V}{us ws:List Ud},Vals xs us->Vals ys ws->Vals (xs++ys) (us++ws)
 |_,_,_,_,.nil,s=>s
 |_,_,_,_,.cons r t,s=>.cons r (Vals.append t s)
theorem Vals.take:∀{xs:List V}{us:List Ud}(n:Nat),Vals xs us->Vals (xs.take n) (us.take n)
 |_,_,0,_=>.nil
 |_,_,_+1,.nil=>.nil
 |_,_,n+1,.cons r t=>.cons r (Vals.take n t)
theorem Vals.drop:∀{xs:List V}{us:List Ud}(n:Nat),Vals xs us->Vals (xs.drop n) (us.drop n)
 |_,_,0,r=>r
 |_,_,_+1,.nil=>.nil
 |_,_,n+1,.cons _ t=>Vals.drop n t
def RelO:Option V->Option Ud->Prop
 |some v,some u=>RelV v u
 |none,none=>True
 |_,_=>False
def KV{κ:Type}:List (κ×V)->List (κ×Ud)->Prop:=Paired λ(p:κ×V) (q:κ×Ud)=>p.1=q.1/\RelV p.2 q.2
def kV:Key->V
 |.inl i=>.int i
 |.inr x=>.str x
inductive HO where
  |lst (xs:List V)
  |tup (xs:List V)
  |dK (kvs:List (Key×V))|dT (kvs:List (List Key×V))
  |set (S:Int->Bool) (n:Nat)
  |ins (C dx:Ug) (fs:List (Str×V))
  |own (x:Ug)
  |xd (fs:List (Str×V))
  |met (f x:Ug)
  |rng (lo hi:Int)
  |frz (o:Obj) (u:HO)
  |tbl (ps:Array Ud)
  |ext (φ:Heap->Prop)
abbrev Hp:=Ug->Option HO
def upd(H:Hp)(a:Ug)(o:HO):Hp:=λb=>if b=a then some o else H b
theorem Ky{H:Hp}{a:Ug}{o:HO}:upd H a o a=some o:=by unfold upd;rw[Qq rfl]
theorem Kb{H:Hp}{a b:Ug}{o:HO}(h:b≠a):upd H a o b=H b:=by unfold upd;rw[QG h]
theorem Lj{H:Hp}{a b:Ug}{o u:HO}(h:H a=some o)(h':H b=some u)(d:o≠u):a≠b:=by intro e;subst e;rw[h]at h';exact d (Qt h')
theorem Zo{H:Hp}{a b:Ug}{o:HO}(h:H a=some o)(h':H b=none):a≠b:=by intro e;subst e;rw[h]at h';cases h'
section
variable(P:Uf)(w:World)
def K2(H:Hp)(h:Heap)(a:Ug):HO->Prop
 |.lst xs=>xs.length<=Uj/\∃(its:List Ud)(n:Nat),Vals xs its/\h.get? a=some {cls:=.type "list", data:=.seq its.toArray n}
 |.tup xs=>xs.length<=Uj/\∃its:List Ud,Vals xs its/\IsTup h a its.toArray
 |.dK kvs=>kvs.length<=Uj/\(a==sysModules)=false/\∃vs,KV kvs vs/\h.DictOf (Z2 P w) a vs
 |.dT kvs=>kvs.length<=Uj/\(a==sysModules)=false/\∃xs:List (List Key×Ug×Ud),
   Paired (λ(p:List Key×V) (q:List Key×Ug×Ud)=>p.1=q.1/\H q.2.1=some (.tup (p.1.map kV))/\RelV p.2 q.2.2) kvs xs /\
   ∃o es ep,h.get? a=some o/\o.ExactDict/\o.data=.dict es ep/\es.toList=xs.map (entryOfKey (tupleKind (Z2 P w)))/\(xs.map (·.1)).Nodup
 |.set S n=>h.SetOf (intKind P w) a S n
 |.ins C dx fs=>H dx=some (.own a)/\fs.length<=1000/\dx≠a/\h.get? a=some (PySem.W.instObj C dx) /\
   ∃mA,h.Ns1 dx mA/\(∀f,RelO (fs.lookup f) (mA f))/\PySem.Within mA (fs.map (·.1))
 |.own _=>∃o,h.get? a=some o
 |.xd fs=>∃mA,h.Ns1 a mA/\∀f,RelO (fs.lookup f) (mA f)
 |.rng lo hi=>∃t u v,h.get? a=some {cls:=.type "range", data:=.fields #[.int lo t,.int hi u,.int 1 v]}
 |.frz o u=>h.get? a=some o/\K2 H h a u
 |.tbl ps=>h.get? a=some {cls:=.none,data:=.fields ps}
 |.met f x=>h.get? a=some (PySem.W.methodObj (.ref f) (.ref x))
 |.ext φ=>φ h/\(∃o,h.get? a=some o)/\∀h1 h2:Heap,φ h1->(∀o,h1.get? a=some o->h2.get? a=some o)->φ h2
def HOk(H:Hp)(h:Heap):Prop:=∀a o,H a=some o->K2 P w H h a o
end
section
variable{P:Uf}{w:World}{H H':Hp}{h h':Heap}{a:Ug}{o:HO}
theorem K2.lt(x:K2 P w H h a o):a<h.objs.size:=by
 cases o with
 |lst xs=>obtain⟨_,_,_,_,e⟩:=x;exact Qh e
 |tup xs=>obtain⟨_,_,_,p⟩:=x;exact p.lt
 |dK kvs=>obtain⟨_,_,_,_,o,_,_,e,_⟩:=x;exact Qh e
 |dT kvs=>obtain⟨_,_,_,_,o,_,_,e,_⟩:=x;exact Qh e
 |set S n=>obtain⟨o,_,_,_,e,_⟩:=x;exact Qh e
 |ins C dx fs=>obtain⟨_,_,_,e,_⟩:=x;exact Qh e
 |own y=>obtain⟨_,e⟩:=x;exact Qh e
 |xd fs=>obtain⟨_,⟨_,_,_,e,_⟩,_⟩:=x;exact Qh e
 |rng lo hi=>obtain⟨_,_,_,e⟩:=x;exact Qh e
 |frz ob u=>obtain⟨e,_⟩:=x;exact Qh e
 |tbl ps=>exact Qh (show h.get? a=some _ from x)
 |met f y=>exact Qh (show h.get? a=some _ from x)
 |ext φ=>obtain⟨_,⟨_,e⟩,_⟩:=x;exact Qh e
theorem Paired.mapP{α β:Type}{F G:α->β->Prop}:∀{l₁:List α}{l₂:List β},Paired F l₁ l₂->(∀a b,F a b->G a b)->Paired G l₁ l₂
 |_,_,.nil,_=>.nil
 |_,_,.cons r t,f=>.cons (f _ _ r) (Paired.mapP t f)
theorem K2.stay(x:K2 P w H h a o)(k:∀b u,(b=a∨H b=some (.own a))->h.get? b=some u->h'.get? b=some u)
  (ho:∀b,H b=some (.own a)->H' b=some (.own a)) (ht:∀b xs,H b=some (.tup xs)->H' b=some (.tup xs)):K2 P w H' h' a o:=by
 induction o with
 |lst xs=>obtain⟨z,its,n,r,e⟩:=x;exact⟨z,its,n,r,k _ _ (.inl rfl) e⟩
 |tup xs=>obtain⟨z,its,r,ob,e,c⟩:=x;exact⟨z,its,r,ob,k _ _ (.inl rfl) e,c⟩
 |dK kvs=>obtain⟨z,y,vs,r,ob,es,ep,e,c⟩:=x;exact⟨z,y,vs,r,ob,es,ep,k _ _ (.inl rfl) e,c⟩
 |dT kvs=>obtain⟨z,y,xs,r,ob,es,ep,e,c⟩:=x;exact⟨z,y,xs,Paired.mapP r λp q z=>⟨z.1,ht _ _ z.2.1,z.2.2⟩,ob,es,ep,k _ _ (.inl rfl) e,c⟩
 |set S n=>obtain⟨ob,es,ep,t,e,c⟩:=x;exact⟨ob,es,ep,t,k _ _ (.inl rfl) e,c⟩
 |ins C dx fs=>obtain⟨d,z,ne,e,mA,⟨od,es,ep,e2,c⟩,r⟩:=x;exact⟨ho _ d,z,ne,k _ _ (.inl rfl) e,mA,⟨od,es,ep,k _ _ (.inr d) e2,c⟩,r⟩
 |own y=>obtain⟨ob,e⟩:=x;exact⟨ob,k _ _ (.inl rfl) e⟩
 |xd fs=>obtain⟨mA,⟨od,es,ep,e,c⟩,r⟩:=x;exact⟨mA,⟨od,es,ep,k _ _ (.inl rfl) e,c⟩,r⟩
 |rng lo hi=>obtain⟨t,u,v,e⟩:=x;exact⟨t,u,v,k _ _ (.inl rfl) e⟩
 |frz ob u ih=>obtain⟨e,q⟩:=x;exact⟨k _ _ (.inl rfl) e,ih q⟩
 |tbl ps=>have e:h.get? a=some {cls:=.none,data:=.fields ps}:=x;show h'.get? a=some {cls:=.none,data:=.fields ps};exact k a _ (.inl rfl) e
 |met f y=>have e:h.get? a=some (PySem.W.methodObj (.ref f) (.ref y)):=x;show h'.get? a=some (PySem.W.methodObj (.ref f) (.ref y));exact k a _ (.inl rfl) e
 |ext φ=>obtain⟨p,⟨o,e⟩,st⟩:=x;exact⟨st _ _ p λo q=>k _ _ (.inl rfl) q,⟨o,k _ _ (.inl rfl) e⟩,st⟩
theorem HOk.lt(x:HOk P w H h)(e:H a=some o):a<h.objs.size:=(x a o e).lt
theorem HOk.fresh(x:HOk P w H h)(e:h.objs.size<=a):H a=none:=by
 cases q:H a with
 |none=>rfl
 |some u=>exact absurd (QD (x.lt q) e) (Jc _)
theorem HOk.kept(x:HOk P w H h)(k:∀b u,h.get? b=some u->h'.get? b=some u):HOk P w H h':=λa o e=>
 (x a o e).stay (λb u _ q=>k b u q) (λ_ q=>q) λ_ _ q=>q
theorem HOk.laid(x:HOk P w H h)(k:∀b u,h.get? b=some u->h'.get? b=some u)(hp:h.objs.size<=a)(new:K2 P w (upd H a o) h' a o):HOk P w (upd H a o) h':=λb u e=>by
 have hn:=x.fresh hp;by_cases hb:b=a
 ·subst hb;rw[Ky]at e;cases e;exact new
 ·rw[Kb hb]at e;exact(x b u e).stay (λc v _ q=>k c v q) (λc q=>by rw[Kb (Zo q hn)];exact q) λc xs q=>by rw[Kb (Zo q hn)];exact q
end
def Rd(H:Hp)(a:Ug)(u:HO):Prop:=H a=some u ∨ ∃o,H a=some (.frz o u)
theorem Rd.ok{P:Uf}{w:World}{H:Hp}{h:Heap}{a:Ug}{u:HO}(r:Rd H a u)(x:HOk P w H h):K2 P w H h a u:=by
 rcases r with r|⟨o,r⟩
 ·exact x a u r
 ·obtain⟨_,q⟩:=x a _ r;exact q
def Mut:Option HO->Prop
 |some (.lst _)=>True
 |some (.dK _)=>True
 |some (.dT _)=>True
 |some (.set _ _)=>True
 |some (.ins _ _ _)=>True
 |some (.ext _)=>True
 |_=>False
section
variable{P:Uf}{w:World}{H:Hp}{h h':Heap}{x e:Ug}{o':HO}
theorem HOk.write(ok:HOk P w H h)(mu:Mut (H x))(he:e=x∨H e=some (.own x))(k:∀b u,b≠e->h.get? b=some u->h'.get? b=some u)(heo:∃u,h'.get? e=some u)
  (new:K2 P w (upd H x o') h' x o'):HOk P w (upd H x o') h':=λb u q=>by
 have nown:∀c y,H c=some (.own y)->c≠x:=λc y r z=>by subst z;rw[r]at mu;exact mu
 have ntup:∀c xs,H c=some (.tup xs)->c≠x:=λc xs r z=>by subst z;rw[r]at mu;exact mu
 by_cases hb:b=x
 ·subst hb;rw[Ky]at q;cases q;exact new
 ·rw[Kb hb]at q;by_cases hbe:b=e
  ·have q':H b=some (.own x):=by
    rcases he with z|z
    ·exact absurd (hbe.trans z) hb
    ·rw[hbe];exact z
   rw[q]at q';cases q';obtain⟨v,hv⟩:=heo;exact⟨v,by rw[hbe];exact hv⟩
  ·refine(ok b u q).stay (λc v hc r=>k c v ?_ r) (λc r=>by rw[Kb (nown c b r)];exact r) λc xs r=>by rw[Kb (ntup c xs r)];exact r
   rcases hc with rfl|hc
   ·exact hbe
   ·rintro rfl;rcases he with z|z
    ·exact nown c b hc z
    ·rw[hc]at z;cases z;exact hb rfl
end
structure Un(fs ex:List Ug)(H H':Hp)(h h':Heap):Prop where
 keep:∀b o,h.get? b=some o->H b=none->b∉fs->b∉ex->h'.get? b=some o
 slot:∀b o,h.get? b=some o->H b=none->b∈fs->b∉ex->∃sl,h'.get? b=some {o with slots:=sl}
 free:∀b o,h.get? b=some o->H b=none->b∉ex->H' b=none
 there:∀b o,h.get? b=some o->b∉ex->∃o',h'.get? b=some o'
 tups:∀b xs,H b=some (.tup xs)->H' b=some (.tup xs)
 frzs:∀b o u,H b=some (.frz o u)->H' b=some (.frz o u)
 tbls:∀b ps,H b=some (.tbl ps)->∃more,H' b=some (.tbl (ps++more))
section
variable{fs fs' ex ex':List Ug}{H H1 H2:Hp}{h h1 h2 h':Heap}{a x e:Ug}{o:HO}
theorem Un.any(u:Un fs ex H H1 h h1){b:Ug}{ob:Obj}(q:h.get? b=some ob)(n:H b=none)(hx:b∉ex):∃sl,h1.get? b=some {ob with slots:=sl}:=by
 by_cases hb:b∈fs
 ·exact u.slot b ob q n hb hx
 ·exact⟨ob.slots,u.keep b ob q n hb hx⟩
theorem Un.kept(k:∀b u,h.get? b=some u->h'.get? b=some u):Un fs ex H H h h':=
 ⟨λb ob q _ _ _=>k b ob q,λb ob q _ _ _=>⟨ob.slots,k b ob q⟩,λ_ _ _ n _=>n,λb ob q _=>⟨ob,k b ob q⟩,λ_ _ q=>q,λ_ _ _ q=>q,λ_ ps q=>⟨#[],by rw[q];simp⟩⟩
theorem Un.refl:Un fs ex H H h h:=Un.kept λ_ _ q=>q
theorem Un.laid(k:∀b u,h.get? b=some u->h'.get? b=some u)(hp:h.objs.size<=a)(hn:H a=none):Un fs ex H (upd H a o) h h' where
 keep:=λb u q _ _ _=>k b u q
 slot:=λb u q _ _ _=>⟨u.slots,k b u q⟩
 free:=λb u q n _=>by rw[Kb (QI (QD (Qh q) hp))];exact n
 there:=λb u q _=>⟨u,k b u q⟩
 tups:=λb xs q=>by rw[Kb (Zo q hn)];exact q
 frzs:=λb u xs q=>by rw[Kb (Zo q hn)];exact q
 tbls:=λb ps q=>⟨#[],by rw[Kb (Zo q hn),q];simp⟩
theorem Un.write(mu:Mut (H x))(he:e=x∨H e=some (.own x))(k:∀b u,b≠e->h.get? b=some u->h'.get? b=some u)(heo:∃u,h'.get? e=some u):Un fs ex H (upd H x o) h h':=by
 have hx:∀b,H b=none->b≠x:=λb n z=>by subst z;rw[n]at mu;exact mu
 have hb:∀b,H b=none->b≠e:=λb n z=>by
  subst z;rcases he with r|r
  ·exact hx b n r
  ·rw[n]at r;cases r
 have hm:∀b u,H b=some u->¬Mut (some u)->b≠x:=λb u q nm z=>by subst z;rw[q]at mu;exact nm mu
 refine⟨λb u q n _ _=>k b u (hb b n) q,λb u q n _ _=>⟨u.slots,k b u (hb b n) q⟩,λb u q n _=>by rw[Kb (hx b n)];exact n,λb u q _=>?_,
  λb xs q=>by rw[Kb (hm b _ q λz=>z)];exact q,λb u xs q=>by rw[Kb (hm b _ q λz=>z)];exact q,λb ps q=>⟨#[],by rw[Kb (hm b _ q λz=>z),q];simp⟩⟩
 by_cases hbe:b=e
 ·subst hbe;exact heo
 ·exact⟨u,k b u hbe q⟩
end
def trk(h:Heap)(H:Hp):List Ug:=(Uo h.objs.size).filter λa=>(H a).isSome
def ZJ(h:Heap)(H:Hp):Heap:=PySem.W.hideAll h (trk h H)
theorem C6(h:Heap)(H:Hp):(ZJ h H).objs.size=h.objs.size:=PySem.W.hideAll_size _ _
theorem Cd{h:Heap}{H:Hp}{b:Ug}{o:Obj}(e:h.get? b=some o)(n:H b=none):(ZJ h H).get? b=some o:=
 PySem.W.hideAll_get _ e λhm=>by have q:(H b).isSome=true:=(Q9.mp hm).2;rw[n]at q;simp at q
theorem EL{h:Heap}{H:Hp}{b:Ug}{o:Obj}(e:(ZJ h H).get? b=some o):h.get? b=some o/\H b=none:=by
 have e':h.get? b=some o:=PySem.W.of_hideAll (trk h H) e;refine⟨e',?_⟩;cases q:H b with
 |none=>rfl
 |some x=>have hm:b∈trk h H:=List.mem_filter.mpr ⟨List.mem_range.mpr (Heap.lt_size e'),by simp[q]⟩;have z:(ZJ h H).get? b=none:=PySem.W.hideAll_none (trk h H) hm;rw[z]at e;cases e
structure Mod(K:Frag)(mg:Str->Option Ud)(base:Heap):Prop where
 kin:K.In base
 glob:base.Ns mainGlobals mg
 blt:∃mb,base.Ns builtinsNs mb/\∀x:Str,x ≠ "__name__" -> mb x=bootBuiltins x
 nolimit:base.NoLimit
structure Cx where
 prog:Uf
 w:World
 K:Frag
 mg:Str->Option Ud
 base:Heap
 A:Around
 N:List Str
 s₀:Ue
 H₀:Hp
 env:Env
 outer:List Env
 stack:List Env
 ex:List Ug
 fn:Str->Bool
 calm:Bool
 pn:List (Ug×Obj)
 xe:Ud->Ue->Prop
def frs(l:List Env):List Ug:=l.filterMap (·.frame)
abbrev Cx.fs(X:Cx):List Ug:=frs X.outer
def Vis(sc:Scope)(x:Str):Prop:=sc.names.lookup x=some .local∨sc.names.lookup x=some .cell∨sc.names.lookup x=some .free
def Loc(sc:Scope)(x:Str):Prop:=sc.names.lookup x=some .local∨sc.names.lookup x=some .cell
def Look(env:Env)(h:Heap)(m:Str->Option Ud)(x:Str)(u:Ud):Prop:=
 (env.kindOf x=some .local/\m x=some u)∨((env.kindOf x=some .cell∨env.kindOf x=some .free)/\∃c,env.cells.lookup x=some c/\h.IsCell c (some u))
structure Cx.Ok(X:Cx):Prop where
 mod:Mod X.K X.mg X.base
 kind:X.env.scope.kind=.function
 glob:X.env.globals=mainGlobals
 blt:X.env.builtins=builtinsNs
 above:X.s₀.heap.objs.size<=X.env.locals
 inj:∀x y c,X.env.cells.lookup x=some c->X.env.cells.lookup y=some c->x=y
 has:∀x,(X.env.kindOf x=some .cell∨X.env.kindOf x=some .free)->∃c,X.env.cells.lookup x=some c
 cab:∀x c,X.fn x=true->X.env.cells.lookup x=some c->X.s₀.heap.objs.size<=c
 hd:X.calm=true->X.A.handled=none
 frames:X.A.frames=some X.stack
 stk:X.stack=X.outer∨(X.stack=X.env::X.outer/\X.env.frame=some X.env.locals)
 exf:∀b∈X.ex,b≠X.env.locals/\∀x c,X.env.cells.lookup x=some c->c≠b
 bs:∀b o,X.base.get? b=some o->X.s₀.heap.get? b=some o/\X.H₀ b=none
 bsz:X.base.objs.size<=X.s₀.heap.objs.size
 noex:∀b o,X.base.get? b=some o->b∉X.ex
 exfs:∀b∈X.ex,b∉X.fs
 funs:X.s₀.heap.FunFrames X.base X.outer
 frf:∀b∈X.fs,X.H₀ b=none
structure Inv(X:Cx)(pins:List (Ug×Obj))(σ:List (Option V))(H:Hp)(s:Ue):Prop where
 ok:X.Ok
 os:s.os=X.s₀.os
 bare:AllBare s.gens
 base:Un X.fs X.ex X.H₀ H X.s₀.heap s.heap
 loc:∃m,s.heap.Ns X.env.locals m/\∀(i:Nat)(x:Str)(v:V),X.N[i]?=some x->σ[i]?=some (some v)->Vis X.env.scope x->∃u,RelV v u/\Look X.env s.heap m x u
 cell:∀x c,X.env.cells.lookup x=some c->∃v,s.heap.IsCell c v
 free:H X.env.locals=none
 freeC:∀x c,X.env.cells.lookup x=some c->H c=none
 pin:∀p∈X.pn++pins,s.heap.get? p.1=some p.2/\H p.1=none/\p.1≠X.env.locals/\p.1∉X.fs/\∀v,p.2.data≠.cell v
 hok:HOk X.prog X.w H s.heap
 len:σ.length=X.N.length
section
variable{X:Cx}{pins:List (Ug×Obj)}{σ:List (Option V)}{H H':Hp}{s:Ue}{h':Heap}
theorem Cx.Ok.nofr(ok:X.Ok){b:Ug}{o:Obj}(e:X.base.get? b=some o):b∉X.fs:=λhb=>by have:=(ok.funs.mem hb).1;rw[e]at this;cases this
theorem Inv.bs(I:Inv X pins σ H s):∀b o,X.base.get? b=some o->s.heap.get? b=some o/\H b=none:=λb o e=>
 ⟨I.base.keep b o (I.ok.bs b o e).1 (I.ok.bs b o e).2 (I.ok.nofr e) (I.ok.noex b o e),I.base.free b o (I.ok.bs b o e).1 (I.ok.bs b o e).2 (I.ok.noex b o e)⟩
theorem Inv.bk(I:Inv X pins σ H s):∀b o,X.base.get? b=some o->s.heap.get? b=some o:=λb o e=>(I.bs b o e).1
theorem Inv.mod(I:Inv X pins σ H s):Mod X.K X.mg X.base:=I.ok.mod
theorem Inv.kIn(I:Inv X pins σ H s):X.K.In s.heap:=I.ok.mod.kin.keeps I.bk
theorem Inv.lt(I:Inv X pins σ H s):X.env.locals<s.heap.objs.size:=let ⟨_,hn,_⟩:=I.loc;hn.lt
theorem Inv.sz(I:Inv X pins σ H s):X.s₀.heap.objs.size<=s.heap.objs.size:=QQ I.ok.above (Nat.le_of_lt I.lt)
theorem Inv.nofs(I:Inv X pins σ H s){a:Ug}(h:s.heap.objs.size<=a):a∉X.fs:=λhb=>by obtain⟨_,o,ho,_⟩:=I.ok.funs.mem hb;exact absurd (QD (Qh ho) (QQ I.sz h)) (Jc _)
theorem Inv.cne(I:Inv X pins σ H s):∀x c,X.env.cells.lookup x=some c->c≠X.env.locals:=λx c e z=>by obtain⟨v,o,ho,hd⟩:=I.cell x c e;obtain⟨m,⟨o',es,ep,ho',hd',_⟩,_⟩:=I.loc;rw[z,ho']at ho;cases ho;rw[hd']at hd;cases hd
theorem Inv.funs(I:Inv X pins σ H s):s.heap.FunFrames X.base X.outer:=by
 have all:∀(l:List Env),(∀b∈frs l,b∈X.fs)->X.s₀.heap.FunFrames X.base l->s.heap.FunFrames X.base l:=by
  intro l;induction l with
  |nil=>intro _ _;trivial
  |cons env r ih=>
   intro hs hl;obtain⟨hk,⟨L,o,hf,hn,ho,hd⟩,hr⟩:=hl;have hL:L∈X.fs:=hs L (by unfold frs;rw[JZ,hf];exact Qo);obtain⟨sl,e⟩:=I.base.slot L o ho (I.ok.frf L hL) hL λz=>I.ok.exfs L z hL
   exact⟨hk,⟨L,_,hf,hn,e,hd⟩,ih (λb hb=>hs b (by unfold frs;rw[JZ,hf];exact Qu _ hb)) hr⟩
 exact all X.outer (λ_ hb=>hb) I.ok.funs
theorem Inv.stack(I:Inv X pins σ H s):s.heap.FunFrames X.base X.stack:=by
 rcases I.ok.stk with e|⟨e,hf⟩
 ·rw[e];exact I.funs
 ·rw[e];obtain⟨m,hn,_⟩:=I.loc;refine .cons (by rw[I.ok.kind];decide) hf hn ?_ I.funs;exact Heap.get?_none_of_le (QQ I.ok.bsz I.ok.above)
theorem Inv.stkSub(I:Inv X pins σ H s):∀b∈frs X.stack,b∈X.env.locals::X.fs:=λb hb=>by
 rcases I.ok.stk with e|⟨e,hf⟩
 ·rw[e]at hb;exact Qu _ hb
 ·rw[e]at hb;unfold frs at hb;rw[JZ,hf]at hb;exact hb
theorem Inv.stkFree(I:Inv X pins σ H s):∀b∈frs X.stack,H b=none:=λb hb=>by
 rcases QR.mp (I.stkSub b hb)with e|hb
 ·rw[e];exact I.free
 ·obtain⟨_,o,ho,_⟩:=I.ok.funs.mem hb;exact I.base.free b o ho (I.ok.frf b hb) λz=>I.ok.exfs b z hb
theorem Inv.step{g':Array GenState}{t':Nat}{d':Drawn}{ch:List Ug}(I:Inv X pins σ H s)
  (hch:∀b∈ch,(b∈X.ex∨X.s₀.heap.objs.size<=b)/\b≠X.env.locals/\(∀x c,X.env.cells.lookup x=some c->c≠b)/\∀p∈X.pn++pins,p.1≠b)
  (keep:∀b o,b≠X.env.locals->b∉X.fs->b∉ch->s.heap.get? b=some o->H b=none->h'.get? b=some o)
  (slot:∀b o,b≠X.env.locals->b∈X.fs->b∉ch->s.heap.get? b=some o->H b=none->∃sl,h'.get? b=some {o with slots:=sl}) (free:∀b o,b∉ch->s.heap.get? b=some o->H b=none->H' b=none)
  (there:∀b o,b∉ch->s.heap.get? b=some o->∃o',h'.get? b=some o')
  (tups:∀b xs,H b=some (.tup xs)->H' b=some (.tup xs)) (frzs:∀b o u,H b=some (.frz o u)->H' b=some (.frz o u)) (tbls:∀b ps,H b=some (.tbl ps)->∃more,H' b=some (.tbl (ps++more)))
  (ns:∀m,s.heap.Ns X.env.locals m->h'.Ns X.env.locals m) (hok:HOk X.prog X.w H' h') (hg:AllBare g') :
  Inv X pins σ H' {s with heap:=h',gens:=g',drawn:=d',toks:=t'}:=by
 have neL:∀b o,X.s₀.heap.get? b=some o->b≠X.env.locals:=λb o e=>QI (QD (Qh e) I.ok.above)
 have neC:∀b o,X.s₀.heap.get? b=some o->b∉X.ex->b∉ch:=λb o e hx hb=>by
  rcases(hch b hb).1 with z|z
  ·exact hx z
  ·exact absurd (QD (Qh e) z) (Jc _)
 have cellK:∀x c,X.env.cells.lookup x=some c->∀v,s.heap.IsCell c v->h'.IsCell c v:=λx c e v ⟨o,ho,hd⟩=>by
  have nch:c∉ch:=λz=>(hch c z).2.2.1 x c e rfl
  by_cases hc:c∈X.fs
  ·obtain⟨sl,q⟩:=slot c o (I.cne x c e) hc nch ho (I.freeC x c e);exact⟨_,q,hd⟩
  ·exact⟨o,keep c o (I.cne x c e) hc nch ho (I.freeC x c e),hd⟩
 refine⟨I.ok,I.os,hg,⟨λb o e n hb hx=>?_,λb o e n hb hx=>?_,λb o e n hx=>?_,λb o e hx=>?_,λb xs e=>tups b xs (I.base.tups b xs e),λb o xs e=>frzs b o xs (I.base.frzs b o xs e),λb ps e=>?_⟩,?_,λx c e=>?_,?_,λx c e=>?_,λp hp=>?_,hok,I.len⟩
 ·exact keep b o (neL b o e) hb (neC b o e hx) (I.base.keep b o e n hb hx) (I.base.free b o e n hx)
 ·obtain⟨sl,e1⟩:=I.base.slot b o e n hb hx;obtain⟨sl',e2⟩:=slot b _ (neL b o e) hb (neC b o e hx) e1 (I.base.free b o e n hx);exact⟨sl',e2⟩
 ·obtain⟨o',e1⟩:=I.base.there b o e hx;exact free b o' (neC b o e hx) e1 (I.base.free b o e n hx)
 ·obtain⟨o',e1⟩:=I.base.there b o e hx;exact there b o' (neC b o e hx) e1
 ·obtain⟨m1,e1⟩:=I.base.tbls b ps e;obtain⟨m2,e2⟩:=tbls b _ e1;exact⟨m1++m2,by rw[e2,Array.append_assoc]⟩
 ·obtain⟨m,hn,hl⟩:=I.loc;refine⟨m,ns m hn,λi x v e1 e2 e3=>?_⟩;obtain⟨u,r,l⟩:=hl i x v e1 e2 e3;refine⟨u,r,?_⟩;rcases l with l|⟨k,c,e,z⟩
  ·exact .inl l
  ·exact .inr ⟨k,c,e,cellK x c e _ z⟩
 ·obtain⟨v,z⟩:=I.cell x c e;exact⟨v,cellK x c e v z⟩
 ·obtain⟨m,⟨o,_,_,ho,_⟩,_⟩:=I.loc;exact free _ o (λz=>(hch _ z).2.1 rfl) ho I.free
 ·obtain⟨v,o,ho,hd⟩:=I.cell x c e;exact free c o (λz=>(hch c z).2.2.1 x c e rfl) ho (I.freeC x c e)
 ·obtain⟨e,n,ne,nf,d⟩:=I.pin p hp;have nch:p.1∉ch:=λz=>(hch p.1 z).2.2.2 p hp rfl
  exact⟨keep p.1 p.2 ne nf nch e n,free p.1 p.2 nch e n,ne,nf,d⟩
theorem Inv.un{t':Nat}(I:Inv X pins σ H s)(u:Un X.fs [] H H' s.heap h')(hok:HOk X.prog X.w H' h'):Inv X pins σ H' {s with heap:=h',toks:=t'}:=by obtain⟨m,⟨o,es,ep,ho,r⟩,_⟩:=id I.loc;obtain⟨sl,hL⟩:=u.any ho I.free (by simp);exact I.step (g':=s.gens) (d':=s.drawn) (ch:=[]) (λ_ z=>nomatch z) (λb o _ hb _ e n=>u.keep b o e n hb (by simp)) (λb o _ hb _ e n=>u.slot b o e n hb (by simp)) (λb o _ e n=>u.free b o e n (by simp)) (λb o _ e=>u.there b o e (by simp)) u.tups u.frzs u.tbls (λm' hm=>by obtain⟨o',es',ep',ho',r'⟩:=hm;rw[ho]at ho';cases ho';exact⟨_,es',ep',hL,r'⟩) hok I.bare
theorem Inv.call{g':Array GenState}{t':Nat}{d':Drawn}{ch:List Ug}(I:Inv X pins σ H s)(u:Un (frs X.stack) ch H H' s.heap h')(hok:HOk X.prog X.w H' h')(hg:AllBare g')
  (hch:∀b∈ch,(b∈X.ex∨X.s₀.heap.objs.size<=b)/\b≠X.env.locals/\(∀x c,X.env.cells.lookup x=some c->c≠b)/\∀p∈X.pn++pins,p.1≠b) :
  Inv X pins σ H' {s with heap:=h',gens:=g',drawn:=d',toks:=t'}:=by
 obtain⟨m,⟨o,es,ep,ho,r⟩,_⟩:=id I.loc;obtain⟨sl,hL⟩:=u.any ho I.free λz=>(hch _ z).2.1 rfl
 exact I.step (ch:=ch) hch (λb o hL hb hc e n=>u.keep b o e n (λz=>(QR.mp (I.stkSub b z)).elim hL hb) hc) (λb o _ _ hc e n=>u.any e n hc) (λb o hc e n=>u.free b o e n hc) (λb o hc e=>u.there b o e hc) u.tups u.frzs u.tbls (λm' hm=>by obtain⟨o',es',ep',ho',r'⟩:=hm;rw[ho]at ho';cases ho';exact⟨_,es',ep',hL,r'⟩) hok hg
theorem Inv.turned{t':Nat}{it:Ug}(I:Inv X pins σ H s)(k:∀b o,b≠it->s.heap.get? b=some o->h'.get? b=some o)(hn:H it=none)(hL:it≠X.env.locals)
  (h1:it∈X.ex∨X.s₀.heap.objs.size<=it) (h2:∀x c,X.env.cells.lookup x=some c->c≠it) (h3:∀p∈X.pn++pins,p.1≠it):Inv X pins σ H {s with heap:=h',toks:=t'}:=by
 have nit:∀b u,H b=some u->b≠it:=λb u e z=>by rw[z,hn]at e;cases e
 refine I.step (g':=s.gens) (d':=s.drawn) (ch:=[it]) (λb hb=>?_) (λb o _ _ hc e _=>k b o (λz=>hc (by simp[z])) e) (λb o _ _ hc e _=>⟨o.slots,k b o (λz=>hc (by simp[z])) e⟩) (λ_ _ _ _ n=>n)
  (λb o hc e=>⟨o,k b o (λz=>hc (by simp[z])) e⟩) (λ_ _ e=>e) (λ_ _ _ e=>e) (λb ps e=>⟨#[],by rw[e];simp⟩) (λm hm=>?_) (λb u e=>?_) I.bare
 ·have e:b=it:=by simpa using hb
  subst e;exact⟨h1,hL,h2,h3⟩
 ·obtain⟨o,es,ep,ho,r⟩:=hm;exact⟨o,es,ep,k _ o (Ne.symm hL) ho,r⟩
 ·refine(I.hok b u e).stay (λc v hc q=>k c v ?_ q) (λ_ q=>q) λ_ _ q=>q
  rcases hc with z|z
  ·rw[z];exact nit b u e
  ·exact nit c _ z
theorem Inv.tok(I:Inv X pins σ H s)(t:Nat):Inv X pins σ H {s with toks:=t}:=I.un (h':=s.heap) (t':=t) Un.refl I.hok
theorem Inv.kept{t':Nat}(I:Inv X pins σ H s)(k:∀b u,s.heap.get? b=some u->h'.get? b=some u):Inv X pins σ H {s with heap:=h',toks:=t'}:=I.un (Un.kept k) (I.hok.kept k)
theorem Inv.laid{a:Ug}{o:HO}{t':Nat}(I:Inv X pins σ H s)(k:∀b u,s.heap.get? b=some u->h'.get? b=some u)(hp:s.heap.objs.size<=a)(new:K2 X.prog X.w (upd H a o) h' a o) :
  Inv X pins σ (upd H a o) {s with heap:=h',toks:=t'}:=I.un (Un.laid k hp (I.hok.fresh hp)) (I.hok.laid k hp new)
theorem Inv.write{x e:Ug}{o:HO}{t':Nat}(I:Inv X pins σ H s)(mu:Mut (H x))(he:e=x∨H e=some (.own x))(k:∀b u,b≠e->s.heap.get? b=some u->h'.get? b=some u)(heo:∃u,h'.get? e=some u)
  (new:K2 X.prog X.w (upd H x o) h' x o):Inv X pins σ (upd H x o) {s with heap:=h',toks:=t'}:=I.un (Un.write mu he k heo) (I.hok.write mu he k heo new)
theorem Inv.pins_of{pins':List (Ug×Obj)}(I:Inv X pins σ H s)(h:∀p∈pins',s.heap.get? p.1=some p.2/\H p.1=none/\p.1≠X.env.locals/\p.1∉X.fs/\∀v,p.2.data≠.cell v):Inv X pins' σ H s:=
 ⟨I.ok,I.os,I.bare,I.base,I.loc,I.cell,I.free,I.freeC,λp hp=>(QL.mp hp).elim (λz=>I.pin p (Q6 _ z)) (h p),I.hok,I.len⟩
theorem NA{N:List Str}(hN:N.Nodup){i j:Nat}{x:Str}(a:N[i]?=some x)(b:N[j]?=some x):i=j:=by obtain⟨h1,e1⟩:=Qg.mp a;obtain⟨h2,e2⟩:=Qg.mp b;exact(List.getElem_inj hN).mp (e1.trans e2.symm)
theorem Mp{M:Model}{A:Around}{E:Ud->Ue->Prop}{i:Nat}{x:Str}{v:V}{u:Ud}{Q:Unit->Ue->Prop}(I:Inv X pins σ H s)(hN:X.N.Nodup)(hi:X.N[i]?=some x)(hx:Loc X.env.scope x)(r:RelV v u)
  (h:∀s',Inv X pins (σ.set i (some v)) H s'->(∃a,Heap.SameBut a s.heap s'.heap/\(a=X.env.locals∨X.env.cells.lookup x=some a))->Q () s') (hf:X.fn x=true∨X.env.scope.names.lookup x=some .local:=by first|exact .inl rfl|exact .inr rfl|assumption):Uk M A (storeName X.env x u) Q E s:=by
 obtain⟨m,hn,hl⟩:=id I.loc;have hcls:(X.env.scope.kind==.class || (X.env.scope.kind==.module&&X.env.locals != X.env.globals))=false:=by rw[I.ok.kind];rfl
 have hiσ:i<σ.length:=by rw[I.len];exact(Qg.mp hi).1
 have cne:=I.cne
 have tracked:∀{a:Ug}{h':Heap},(∃o,s.heap.get? a=some o/\H a=none)->Heap.SameBut a s.heap h'->HOk X.prog X.w H h':=λ{a h'} ha hs b ob e=>by
  obtain⟨_,_,hfree⟩:=ha;refine(I.hok b ob e).stay (λc w' hc q=>(hs.2 c ?_).trans q) (λ_ q=>q) λ_ _ q=>q
  rintro rfl;rcases hc with rfl|hc
  ·rw[hfree]at e;cases e
  ·rw[hfree]at hc;cases hc
 rcases hx with hk|hk
 ·refine wpAny_storeName_local hk hn (λh' hn' hs=>?_) hcls;obtain⟨oL,_,_,hoL,_⟩:=id hn;refine h _ ⟨I.ok,I.os,I.bare,⟨λb o e n hb hx=>?_,λb o e n hb hx=>?_,I.base.free,λb o e hx=>?_,I.base.tups,I.base.frzs,I.base.tbls⟩,⟨_,hn',λj y v' e1 e2 e3=>?_⟩,λy c e=>?_,I.free,I.freeC,λp hp=>?_,tracked ⟨oL,hoL,I.free⟩ hs,by simpa using I.len⟩ ⟨_,hs,.inl rfl⟩
  ·exact(hs.2 b (QI (QD (Qh e) I.ok.above))).trans (I.base.keep b o e n hb hx)
  ·obtain⟨sl,e1⟩:=I.base.slot b o e n hb hx;exact⟨sl,(hs.2 b (QI (QD (Qh e) I.ok.above))).trans e1⟩
  ·obtain⟨o',e1⟩:=I.base.there b o e hx;exact⟨o',(hs.2 b (QI (QD (Qh e) I.ok.above))).trans e1⟩
  ·by_cases hj:j=i
   ·subst hj;rw[hi]at e1;cases e1;rw[QJ hiσ]at e2;cases e2;exact⟨u,r,.inl ⟨hk,by simp⟩⟩
   ·rw[Ql (Ne.symm hj)]at e2;obtain⟨u',r',q⟩:=hl j y v' e1 e2 e3;refine⟨u',r',?_⟩;rcases q with ⟨k,e⟩|⟨k,c,e,z⟩
    ·refine .inl ⟨k,?_⟩;have:y≠x:=λe=>hj (NA hN e1 (e ▸ hi))
     simp[this,e]
    ·exact .inr ⟨k,c,e,z.sameBut hs (cne y c e)⟩
  ·obtain⟨w',z⟩:=I.cell y c e;exact⟨w',z.sameBut hs (cne y c e)⟩
  ·obtain⟨e,n,ne,nf,d⟩:=I.pin p hp;exact⟨(hs.2 p.1 ne).trans e,n,ne,nf,d⟩
 ·have hfn:X.fn x=true:=by
   rcases hf with z|z
   ·exact z
   ·rw[z]at hk;cases hk
  obtain⟨c,hc⟩:=I.ok.has x (.inl hk);obtain⟨w',z⟩:=I.cell x c hc;refine wpAny_storeName_cell I.ok.kind hk hc z (λh' hc' hs=>?_);obtain⟨oc,hoc,hocd⟩:=id z;refine h {s with heap:=h'} ⟨I.ok,I.os,I.bare,⟨λb o e n hb hx=>?_,λb o e n hb hx=>?_,I.base.free,λb o e hx=>?_,I.base.tups,I.base.frzs,I.base.tbls⟩,⟨m,hn.sameBut hs (Ne.symm (cne x c hc)),λj y v' e1 e2 e3=>?_⟩,λy c' e=>?_,I.free,I.freeC,λp hp=>?_,tracked ⟨oc,hoc,I.freeC x c hc⟩ hs,by simpa using I.len⟩ ⟨c,hs,.inr hc⟩
  ·exact(hs.2 b (QI (QD (Qh e) (I.ok.cab x c hfn hc)))).trans (I.base.keep b o e n hb hx)
  ·obtain⟨sl,e1⟩:=I.base.slot b o e n hb hx;exact⟨sl,(hs.2 b (QI (QD (Qh e) (I.ok.cab x c hfn hc)))).trans e1⟩
  ·obtain⟨o',e1⟩:=I.base.there b o e hx;exact⟨o',(hs.2 b (QI (QD (Qh e) (I.ok.cab x c hfn hc)))).trans e1⟩
  ·by_cases hj:j=i
   ·subst hj;rw[hi]at e1;cases e1;rw[QJ hiσ]at e2;cases e2;exact⟨u,r,.inr ⟨.inl hk,c,hc,hc'⟩⟩
   ·rw[Ql (Ne.symm hj)]at e2;obtain⟨u',r',q⟩:=hl j y v' e1 e2 e3;refine⟨u',r',?_⟩;rcases q with q|⟨k,c',e,z'⟩
    ·exact .inl q
    ·refine .inr ⟨k,c',e,z'.sameBut hs ?_⟩;rintro rfl;exact hj (NA hN e1 (I.ok.inj _ _ _ e hc ▸ hi))
  ·by_cases hcc:c'=c
   ·subst hcc;exact⟨_,hc'⟩
   ·obtain⟨w2,z2⟩:=I.cell y c' e;exact⟨w2,z2.sameBut hs hcc⟩
  ·obtain⟨e,n,ne,nf,d⟩:=I.pin p hp;refine⟨(hs.2 p.1 ?_).trans e,n,ne,nf,d⟩;intro q;rw[q,hoc]at e;have q':oc=p.2:=Qt e;exact d w' (by rw[←q'];exact hocd)
theorem RF{M:Model}{A:Around}{E:Ud->Ue->Prop}{i:Nat}{x:Str}{v:V}{u:Ud}{Q:Unit->Ue->Prop}(I:Inv X pins σ H s)(hN:X.N.Nodup)(hi:X.N[i]?=some x)(hx:Loc X.env.scope x)(r:RelV v u)
  (h:∀s',Inv X pins (σ.set i (some v)) H s'->Q () s') (hf:X.fn x=true∨X.env.scope.names.lookup x=some .local:=by first|exact .inl rfl|exact .inr rfl|assumption):Uk M A (storeName X.env x u) Q E s:=
 Mp I hN hi hx r (λs' I' _=>h s' I') hf
theorem Inv.call'{s':Ue}{ch:List Ug}(I:Inv X pins σ H s)(ho:s'.os=s.os)(u:Un (frs X.stack) ch H H' s.heap s'.heap)(hok:HOk X.prog X.w H' s'.heap)(hg:AllBare s'.gens)
  (hch:∀b∈ch,(b∈X.ex∨X.s₀.heap.objs.size<=b)/\b≠X.env.locals/\(∀x c,X.env.cells.lookup x=some c->c≠b)/\∀p∈X.pn++pins,p.1≠b):Inv X pins σ H' s':=by
 obtain⟨h',g',d',t',o'⟩:=s';have e:o'=s.os:=ho;subst e;exact I.call (g':=g') (t':=t') (d':=d') u hok hg hch
end
abbrev XK:=Ud->Option Ug->Hp->Prop
abbrev St:=List (Option V)
abbrev VK:=V->Hp->Prop
abbrev TE:=St->Hp->VK->Prop
abbrev TT:=St->Hp->(Bool->Hp->Prop)->Prop
abbrev TA:=St->Hp->(List V->Hp->Prop)->Prop
structure Ends where
 nx:St->Hp->Prop
 rt:VK
 bk:St->Hp->Prop:=λ_ _=>False
 ct:St->Hp->Prop:=λ_ _=>False
abbrev TS:=Ends->St->Hp->Prop
def EP(X:Cx)(pins:List (Ug×Obj))(σ:St)(Q:VK)(u:Ud)(s':Ue):Prop:=∃v H',Inv X pins σ H' s'/\RelV v u/\Q v H'
def TP(X:Cx)(pins:List (Ug×Obj))(σ:St)(Q:Bool->Hp->Prop)(b:Bool)(s':Ue):Prop:=∃H',Inv X pins σ H' s'/\Q b H'
def AP(X:Cx)(pins:List (Ug×Obj))(σ:St)(Q:List V->Hp->Prop)(us:List Ud)(s':Ue):Prop:=∃vs H',Inv X pins σ H' s'/\Vals vs us/\Q vs H'
def SP(X:Cx)(pins:List (Ug×Obj))(D:Ends)(f:Flow)(s':Ue):Prop:=
 match f with
 |.next=>∃σ' H',Inv X pins σ' H' s'/\D.nx σ' H'
 |.brk=>∃σ' H',Inv X pins σ' H' s'/\D.bk σ' H'
 |.cont=>∃σ' H',Inv X pins σ' H' s'/\D.ct σ' H'
 |.ret u=>∃v σ' H',Inv X pins σ' H' s'/\RelV v u/\D.rt v H'
def PE(X:Cx)(e:Ui)(t:TE):Prop:=
 ∀(pins:List (Ug×Obj))(s:Ue)(σ:St)(H:Hp)(Q:VK),Inv X pins σ H s->t σ H Q->Uk (model X.prog X.w) X.A (eval e X.env) (EP X pins σ Q) X.xe s
def PT(X:Cx)(e:Ui)(t:TT):Prop:=
 ∀(pins:List (Ug×Obj))(s:Ue)(σ:St)(H:Hp)(Q:Bool->Hp->Prop),Inv X pins σ H s->t σ H Q->Uk (model X.prog X.w) X.A (isTrue e X.env (eval e X.env)) (TP X pins σ Q) X.xe s
def PW(X:Cx)(e:Ui)(t:TT):Prop:=
 ∀(whole:Sem Ud)(pins:List (Ug×Obj))(s:Ue)(σ:St)(H:Hp)(Q:Bool->Hp->Prop),Inv X pins σ H s->t σ H Q->Uk (model X.prog X.w) X.A (isTrue e X.env whole) (TP X pins σ Q) X.xe s
theorem PW.pt{X:Cx}{e:Ui}{t:TT}(h:PW X e t):PT X e t:=h _
def PA(X:Cx)(es:List Ui)(t:TA):Prop:=
 ∀(pos:Pos)(pins:List (Ug×Obj))(s:Ue)(σ:St)(H:Hp)(Q:List V->Hp->Prop),Inv X pins σ H s->t σ H Q->Uk (model X.prog X.w) X.A (spliced (backTo pos (Ul es X.env))) (AP X pins σ Q) X.xe s
def PS(X:Cx)(st:Stmt)(t:TS):Prop:=
 ∀(pins:List (Ug×Obj))(s:Ue)(σ:St)(H:Hp)(D:Ends),Inv X pins σ H s->t D σ H->Uk (model X.prog X.w) X.A (exec st X.env) (SP X pins D) X.xe s
def PSs(X:Cx)(st:List Stmt)(t:TS):Prop:=
 ∀(pins:List (Ug×Obj))(s:Ue)(σ:St)(H:Hp)(D:Ends),Inv X pins σ H s->t D σ H->Uk (model X.prog X.w) X.A (execs st X.env) (SP X pins D) X.xe s
theorem thn{α:Type}{t:Sem α}{Q Q':α->Ue->Prop}{M:Model}{A:Around}{E:Ud->Ue->Prop}{s:Ue}(h:Uk M A t Q E s)(hQ:∀a s,Q a s->Q' a s):Uk M A t Q' E s:=QA h hQ λ_ _ x=>x
section
variable{X:Cx}
def KO(i:Nat):TE:=λσ H Q=>∃v,σ[i]?=some (some v)/\Q v H
def tC(v:V):TE:=λ_ H Q=>Q v H
theorem PU{i:Nat}{x:Str}{pos:Pos}(hN:X.N[i]?=some x)(hv:Vis X.env.scope x)(hd:(x==("__debug__" : Str))=false:=by decide)(hcd:(x==("__classdict__" : Str))=false:=by decide):PE X (.Name x pos) (KO i):=by
 intro pins s σ H Q I h;obtain⟨v,e,h⟩:=h;obtain⟨m,hn,hl⟩:=I.loc;obtain⟨u,r,l⟩:=hl i x v hN e hv;have fin:EP X pins σ Q u s:=⟨v,H,I,r,h⟩;rcases l with ⟨hk,hm⟩|⟨hk,c,hc,hcell⟩
 ·exact wpAny_Name (wpAny_loadName_local I.ok.kind hk hn hm fin) hd
 ·rcases hk with hk|hk
  ·exact wpAny_Name (wpAny_loadName_cell I.ok.kind hk hc hcell fin) hd
  ·exact wpAny_Name (wpAny_loadName_free I.ok.kind hk hc hcell fin hcd) hd
theorem Fg{i j pos}:PE X (.Constant (.int i) j pos) (tC (.int i)):=λ_ _ _ H _ I h=>wpAny_Constant_int ⟨.int i,H,I.tok _,⟨_,rfl⟩,h⟩
theorem Li{b j pos}:PE X (.Constant (.bool b) j pos) (tC (.bl b)):=λ_ _ _ H _ I h=>Constant_bool ⟨.bl b,H,I,rfl,h⟩
theorem Ff{j pos}:PE X (.Constant .none j pos) (tC .non):=λ_ _ _ H _ I h=>Constant_none ⟨.non,H,I,rfl,h⟩
theorem Fe{x j pos}:PE X (.Constant (.str x) j pos) (tC (.str x)):=λ_ _ _ H _ I h=>Calls.Constant_str ⟨.str x,H,I.tok _,⟨_,rfl⟩,h⟩
def Gl(X:Cx)(x:Str):Prop:=X.env.kindOf x=some .globalImplicit
theorem O0{E:Ud->Ue->Prop}{pins:List (Ug×Obj)}{s:Ue}{σ:St}{H:Hp}{x:Str}{u:Ud}{pos:Pos}{Q:Ud->Ue->Prop}(I:Inv X pins σ H s)(hg:Gl X x)(hm:X.mg x=some u)(h:Q u s)
  (hd:(x==("__debug__" : Str))=false:=by decide):Uk (model X.prog X.w) X.A (eval (.Name x pos) X.env) Q E s:=
 Calls.Name_function_global I.ok.kind hg (Calls.loadGlobal_global (by rw[I.ok.glob];exact I.mod.glob.keeps I.bk) hm h) hd
theorem Wu{E:Ud->Ue->Prop}{pins:List (Ug×Obj)}{s:Ue}{σ:St}{H:Hp}{x:Str}{u:Ud}{pos:Pos}{Q:Ud->Ue->Prop}(I:Inv X pins σ H s)(hg:Gl X x)(hm:X.mg x=none)(hv:bootBuiltins x=some u)(h:Q u s)
  (hn:x ≠ "__name__" :=by decide) (hd:(x==("__debug__" : Str))=false:=by decide):Uk (model X.prog X.w) X.A (eval (.Name x pos) X.env) Q E s:=by
 obtain⟨mb,h1,h2⟩:=I.mod.blt;exact Calls.Name_function_global I.ok.kind hg (Calls.loadGlobal_builtin (by rw[I.ok.glob];exact I.mod.glob.keeps I.bk) hm (by rw[I.ok.blt];exact h1.keeps I.bk) ((h2 x hn).trans hv) h) hd
theorem OZ{x:Str}{v:V}{u:Ud}{pos:Pos}(hg:Gl X x)(hm:X.mg x=some u)(r:RelV v u)(hd:(x==("__debug__" : Str))=false:=by decide):PE X (.Name x pos) (tC v):=
 λ_ _ _ H _ I h=>O0 I hg hm ⟨v,H,I,r,h⟩ hd
theorem EK{x:Str}{v:V}{u:Ud}{pos:Pos}(hg:Gl X x)(hm:X.mg x=none)(hv:bootBuiltins x=some u)(r:RelV v u)(hn:x ≠ "__name__" :=by decide)(hd:(x==("__debug__" : Str))=false:=by decide):PE X (.Name x pos) (tC v):=
 λ_ _ _ H _ I h=>Wu I hg hm hv ⟨v,H,I,r,h⟩ hn hd
variable{a b:Ui}{ta tb:TE}{pos:Pos}
def PC(X:Cx)(op:CmpOp)(a b:Ui)(t:TE):Prop:=
 ∀(pins:List (Ug×Obj))(s:Ue)(σ:St)(H:Hp)(Q:VK),Inv X pins σ H s->t σ H Q ->
  Uk (model X.prog X.w) X.A (eval a X.env) (λv s₁=>Uk (model X.prog X.w) X.A (eval b X.env) (λu s₂=>Uk (model X.prog X.w) X.A (Um op v u) (EP X pins σ Q) X.xe s₂) X.xe s₁) X.xe s
theorem Nz(b:Ui){op:CmpOp}(h:op≠.In)(h2:op≠.NotIn):behindInMarks op b=false:=by
 have e1:(op==CmpOp.In)=false:=by cases op<;>first|rfl|exact absurd rfl h
 have e2:(op==CmpOp.NotIn)=false:=by cases op<;>first|rfl|exact absurd rfl h2
 cases b<;>simp[behindInMarks,e1,e2]
def tIsN(ta:TE):TE:=λσ H Q=>ta σ H λx H1=>Q (.bl (decide (x=.non))) H1
def Lh(ta:TE):TE:=λσ H Q=>ta σ H λx H1=>Q (.bl (!decide (x=.non))) H1
theorem RelV.none_iff{x:V}{v:Ud}(r:RelV x v):(v==Value.none)=decide (x=.non):=by
 cases x with
 |non=>cases r;rfl
 |bl _=>cases r;rfl
 |int _=>obtain⟨t,rfl⟩:=r;rfl
 |str _=>obtain⟨t,rfl⟩:=r;rfl
 |byt _=>obtain⟨t,rfl⟩:=r;rfl
 |flt _=>obtain⟨t,rfl⟩:=r;rfl
 |ref _=>cases r;rfl
 |ty _=>cases r;rfl
theorem PR{j pos'}(ha:PE X a ta):PC X .Is a (.Constant .none j pos') (tIsN ta):=by intro pins s σ H Q I h;refine thn (ha pins s σ H _ I h) λv s1 ⟨x,H1,I1,r1,q1⟩=>?_;exact Constant_none (is_none_gen ⟨.bl _,H1,I1,by rw[r1.none_iff];rfl,q1⟩)
theorem OY{j pos'}(ha:PE X a ta):PC X .IsNot a (.Constant .none j pos') (Lh ta):=by intro pins s σ H Q I h;refine thn (ha pins s σ H _ I h) λv s1 ⟨x,H1,I1,r1,q1⟩=>?_;exact Constant_none (isnot_none_gen ⟨.bl _,H1,I1,by rw[r1.none_iff];rfl,q1⟩)
def tB(t:TE):TT:=λσ H Q=>t σ H λx H1=>∃c,x=.bl c/\Q c H1
theorem PQ{op:CmpOp}{t:TE}(h:PC X op a b t)(h1:behindInMarks op b=false:=by first|exact Nz _ (by decide) (by decide)|rfl):PE X (.Compare a [op] [b] pos) t:=λpins s σ H Q I hw=>wpAny_Compare1 (h pins s σ H Q I hw) h1
theorem PP{op:CmpOp}{t:TE}(h:PC X op a b t)(h1:behindInMarks op b=false:=by first|exact Nz _ (by decide) (by decide)|rfl):PT X (.Compare a [op] [b] pos) (tB t):=by intro pins s σ H Q I hw;refine wpAny_isTrue_Compare1 (thn (h pins s σ H _ I hw) λv s1 h1=>thn h1 λu s2 h2=>thn h2 λc s3 ⟨x,H1,I1,r1,q1⟩=>?_) h1;obtain⟨d,rfl,q⟩:=q1;cases r1;exact QZ ⟨H1,I1,q⟩
theorem Fd{e:Ui}{t:TE}(h:PE X e t)(he:∀whole,isTrue e X.env whole=(do let v ←whole;standAt e.pos;holding [v] (truthy v)):=by intro _;rfl):PT X e (tB t):=by intro pins s σ H Q I hw;refine isTrue_plain (thn (h pins s σ H _ I hw) λv s1 ⟨x,H1,I1,r1,q1⟩=>?_) (he _);obtain⟨d,rfl,q⟩:=q1;cases r1;exact QZ ⟨H1,I1,q⟩
variable{tA tB':TT}{rest:List Ui}
def tAnd(t u:TT):TT:=λσ H Q=>t σ H λc H1=>if c=true then u σ H1 Q else Q false H1
def tOr(t u:TT):TT:=λσ H Q=>t σ H λc H1=>if c=true then Q true H1 else u σ H1 Q
def tNot(t:TT):TT:=λσ H Q=>t σ H λc H1=>Q (!c) H1
theorem EJ(ha:PT X a tA):PW X (.BoolOp .And [a] pos) tA:=by
 intro wh pins s σ H Q I h;refine isTrue_and (thn (ha pins s σ H Q I h) λc s1 e=>?_);cases c with
 |true=>exact isTrue_and_nil e
 |false=>exact e
theorem Fc(ha:PT X a tA):PW X (.BoolOp .Or [a] pos) tA:=by
 intro wh pins s σ H Q I h;refine isTrue_or (thn (ha pins s σ H Q I h) λc s1 e=>?_);cases c with
 |false=>exact isTrue_or_nil e
 |true=>exact e
theorem Fb(ha:PT X a tA)(hb:PW X (.BoolOp .And (b::rest) pos) tB'):PW X (.BoolOp .And (a::b::rest) pos) (tAnd tA tB'):=by
 intro wh pins s σ H Q I h;refine isTrue_and (thn (ha pins s σ H _ I h) λc s1 ⟨H1,I1,q1⟩=>?_);cases c with
 |true=>exact hb wh pins s1 σ H1 Q I1 q1
 |false=>exact⟨H1,I1,q1⟩
theorem Lg(ha:PT X a tA)(hb:PW X (.BoolOp .Or (b::rest) pos) tB'):PW X (.BoolOp .Or (a::b::rest) pos) (tOr tA tB'):=by
 intro wh pins s σ H Q I h;refine isTrue_or (thn (ha pins s σ H _ I h) λc s1 ⟨H1,I1,q1⟩=>?_);cases c with
 |true=>exact⟨H1,I1,q1⟩
 |false=>exact hb wh pins s1 σ H1 Q I1 q1
theorem Fa(ha:PT X a tA):PT X (.UnaryOp .Not a pos) (tNot tA):=by intro pins s σ H Q I h;exact isTrue_not (ha pins s σ H (λc H1=>Q (!c) H1) I h)
def Lf(ta tb:TE):TE:=λσ H Q=>ta σ H λx H1=>∃c,x=.bl c/\if c=true then tb σ H1 Q else Q (.bl false) H1
def tOrV(ta tb:TE):TE:=λσ H Q=>ta σ H λx H1=>∃c,x=.bl c/\if c=true then Q (.bl true) H1 else tb σ H1 Q
def Le(ta:TE):TE:=λσ H Q=>ta σ H λx H1=>∃c,x=.bl c/\Q (.bl (!c)) H1
theorem GZ{op}{t:TE}(h:PE X a t):PE X (.BoolOp op [a] pos) t:=λpins s σ H Q I hw=>BoolOp_one (h pins s σ H Q I hw)
theorem GY(ha:PE X a ta)(hb:PE X (.BoolOp .And (b::rest) pos) tb):PE X (.BoolOp .And (a::b::rest) pos) (Lf ta tb):=by
 intro pins s σ H Q I h;refine BoolOp_and (thn (ha pins s σ H _ I h) λv s1 ⟨x,H1,I1,r1,q1⟩=>?_);obtain⟨c,rfl,q1⟩:=q1;cases r1;refine QZ ?_;cases c with
 |true=>exact hb pins s1 σ H1 Q I1 q1
 |false=>exact⟨.bl false,H1,I1,rfl,q1⟩
theorem Ld(ha:PE X a ta)(hb:PE X (.BoolOp .Or (b::rest) pos) tb):PE X (.BoolOp .Or (a::b::rest) pos) (tOrV ta tb):=by
 intro pins s σ H Q I h;refine BoolOp_or (thn (ha pins s σ H _ I h) λv s1 ⟨x,H1,I1,r1,q1⟩=>?_);obtain⟨c,rfl,q1⟩:=q1;cases r1;refine QZ ?_;cases c with
 |false=>exact hb pins s1 σ H1 Q I1 q1
 |true=>exact⟨.bl true,H1,I1,rfl,q1⟩
theorem GX(ha:PE X a ta):PE X (.UnaryOp .Not a pos) (Le ta):=by intro pins s σ H Q I h;refine UnaryOp_ (thn (ha pins s σ H _ I h) λv s1 ⟨x,H1,I1,r1,q1⟩=>?_);obtain⟨c,rfl,q1⟩:=q1;cases r1;exact not_of (QZ ⟨.bl (!c),H1,I1,rfl,q1⟩)
def tIf(t:TT)(ta tb:TE):TE:=λσ H Q=>t σ H λc H1=>if c=true then ta σ H1 Q else tb σ H1 Q
theorem Cc{c:Ui}(hc:PT X c tA)(ha:PE X a ta)(hb:PE X b tb):PE X (.IfExp c a b pos) (tIf tA ta tb):=by
 intro pins s σ H Q I h;refine wpAny_IfExp (thn (hc pins s σ H _ I h) λd s1 ⟨H1,I1,q1⟩=>?_);cases d with
 |true=>exact ha pins s1 σ H1 Q I1 q1
 |false=>exact hb pins s1 σ H1 Q I1 q1
end
def SqL(K:Frag)(H:Hp)(a:Ug)(xs:List V):Prop:=
 Rd H a (.lst xs) ∨
  ∃(o:Obj)(its:Array Ud)(n:Nat),K.lookup a=some o/\o.cls=.type "list" /\ o.dict=none/\o.data=.seq its n/\its.size<=Uj/\Vals xs its.toList
def SqT(K:Frag)(H:Hp)(a:Ug)(xs:List V):Prop:=
 Rd H a (.tup xs) ∨
  ∃(o:Obj)(its:Array Ud)(n:Nat),K.lookup a=some o/\o.cls=.type "tuple" /\ o.data=.seq its n/\its.size<=Uj/\Vals xs its.toList
def absV:Ud->Option V
 |.none=>some .non
 |.bool b=>some (.bl b)
 |.int i _=>some (.int i)
 |.str x _=>some (.str x)
 |.bytes b _=>some (.byt b)
 |.float b _=>some (.flt b)
 |.ref a=>some (.ref a)
 |.type n=>some (.ty n)
 |_=>none
theorem RelV.abs{x:V}{u:Ud}(r:RelV x u):absV u=some x:=by
 cases x with
 |non=>cases r;rfl
 |bl _=>cases r;rfl
 |int _=>obtain⟨t,rfl⟩:=r;rfl
 |str _=>obtain⟨t,rfl⟩:=r;rfl
 |byt _=>obtain⟨t,rfl⟩:=r;rfl
 |flt _=>obtain⟨t,rfl⟩:=r;rfl
 |ref _=>cases r;rfl
 |ty _=>cases r;rfl
theorem RelV.inj{x y:V}{u:Ud}(r:RelV x u)(q:RelV y u):x=y:=Qt (r.abs.symm.trans q.abs)
theorem Vals.inj:∀{xs ys:List V}{us:List Ud},Vals xs us->Vals ys us->xs=ys
 |_,_,_,.nil,.nil=>rfl
 |_,_,_,.cons r t,.cons r' t'=>by rw[r.inj r',Vals.inj t t']
section
variable{X:Cx}{pins:List (Ug×Obj)}{σ:St}{H:Hp}{s:Ue}{a:Ug}{xs ys:List V}
theorem SqL.of{K:Frag}(h:H a=some (.lst xs)):SqL K H a xs:=.inl (.inl h)
theorem SqT.of{K:Frag}(h:H a=some (.tup xs)):SqT K H a xs:=.inl (.inl h)
theorem Inv.list(I:Inv X pins σ H s)(h:SqL X.K H a xs):∃its:List Ud,Vals xs its/\PlainL s.heap a its.toArray/\xs.length<=Uj:=by
 rcases h with h|⟨o,its,n,hk,hc,hd,hs,hz,r⟩
 ·obtain⟨z,its,n,r,e⟩:=h.ok I.hok;exact⟨its,r,⟨_,n,e,rfl,rfl,rfl⟩,z⟩
 ·refine⟨its.toList,r,⟨o,n,I.kIn a o hk,hc,hd,by simpa using hs⟩,?_⟩;have e:=r.length;simp only[Jo]at e;omega
theorem Inv.tuple(I:Inv X pins σ H s)(h:SqT X.K H a xs):∃its:List Ud,Vals xs its/\IsTup s.heap a its.toArray/\xs.length<=Uj:=by
 rcases h with h|⟨o,its,n,hk,hc,hs,hz,r⟩
 ·obtain⟨z,its,r,p⟩:=h.ok I.hok;exact⟨its,r,p,z⟩
 ·refine⟨its.toList,r,⟨o,I.kIn a o hk,hc,n,by simpa using hs⟩,?_⟩;have e:=r.length;simp only[Jo]at e;omega
theorem Inv.list_inj(I:Inv X pins σ H s)(h:SqL X.K H a xs)(h':SqL X.K H a ys):xs=ys:=by
 obtain⟨its,r,⟨o,n,e,_,_,d⟩,_⟩:=I.list h;obtain⟨its',r',⟨o',n',e',_,_,d'⟩,_⟩:=I.list h';rw[e]at e';cases e';rw[d]at d';injection d' with d1 _
 have:its=its':=by simpa using congrArg Array.toList d1
 subst this;exact r.inj r'
theorem Inv.tuple_inj(I:Inv X pins σ H s)(h:SqT X.K H a xs)(h':SqT X.K H a ys):xs=ys:=by
 obtain⟨its,r,⟨o,e,_,n,d⟩,_⟩:=I.tuple h;obtain⟨its',r',⟨o',e',_,n',d'⟩,_⟩:=I.tuple h';rw[e]at e';cases e';rw[d]at d';injection d' with d1 _
 have:its=its':=by simpa using congrArg Array.toList d1
 subst this;exact r.inj r'
end
abbrev Cx.wish(X:Cx)(E:Ud->Ue->Prop):Cx:={X with xe:=E}
abbrev Cx.nox(X:Cx):Cx:=X.wish λ_ _=>False
theorem Cx.Ok.wish{X:Cx}(ok:X.Ok)(E:Ud->Ue->Prop):(X.wish E).Ok:=
 ⟨ok.mod,ok.kind,ok.glob,ok.blt,ok.above,ok.inj,ok.has,ok.cab,ok.hd,ok.frames,ok.stk,ok.exf,ok.bs,ok.bsz,ok.noex,ok.exfs,ok.funs,ok.frf⟩
theorem Cx.Ok.unwish{X:Cx}{E:Ud->Ue->Prop}(ok:(X.wish E).Ok):X.Ok:=
 ⟨ok.mod,ok.kind,ok.glob,ok.blt,ok.above,ok.inj,ok.has,ok.cab,ok.hd,ok.frames,ok.stk,ok.exf,ok.bs,ok.bsz,ok.noex,ok.exfs,ok.funs,ok.frf⟩
section
variable{X:Cx}{pins:List (Ug×Obj)}{σ:St}{H:Hp}{s:Ue}{E:Ud->Ue->Prop}
theorem Inv.wish(I:Inv X pins σ H s)(E:Ud->Ue->Prop):Inv (X.wish E) pins σ H s:=⟨I.ok.wish E,I.os,I.bare,I.base,I.loc,I.cell,I.free,I.freeC,I.pin,I.hok,I.len⟩
theorem Inv.unwish(I:Inv (X.wish E) pins σ H s):Inv X pins σ H s:=⟨I.ok.unwish,I.os,I.bare,I.base,I.loc,I.cell,I.free,I.freeC,I.pin,I.hok,I.len⟩
theorem SP.unwish{D:Ends}{f:Flow}{s':Ue}(h:SP (X.wish E) pins D f s'):SP X pins D f s':=by
 cases f with
 |next=>obtain⟨σ',H',I,q⟩:=h;exact⟨σ',H',I.unwish,q⟩
 |brk=>obtain⟨σ',H',I,q⟩:=h;exact⟨σ',H',I.unwish,q⟩
 |cont=>obtain⟨σ',H',I,q⟩:=h;exact⟨σ',H',I.unwish,q⟩
 |ret u=>obtain⟨v,σ',H',I,r,q⟩:=h;exact⟨v,σ',H',I.unwish,r,q⟩
theorem PSs.nox{st:List Stmt}{t:TS}(h:PSs X.nox st t):PSs X st t:=λpins s σ H D I hw=>
 QA (h pins s σ H D (I.wish _) hw) (λ_ _ q=>q.unwish) λ_ _ z=>False.elim z
end
section
variable{X:Cx}{st:Stmt}{rest:List Stmt}{t u:TS}{e:Ui}{te:TE}{pos:Pos}
def Lc:TS:=λD σ H=>D.nx σ H
def tSeq(t u:TS):TS:=λD σ H=>t {D with nx:=u D} σ H
theorem EI:PSs X [] Lc:=λ_ _ σ H _ I h=>wpAny_execs_nil ⟨σ,H,I,h⟩
theorem Cb(h1:PS X st t)(h2:PSs X rest u):PSs X (st::rest) (tSeq t u):=by
 intro pins s σ H D I h;refine wpAny_execs_cons (thn (h1 pins s σ H {D with nx:=u D} I h) λf s1 q=>?_);cases f with
 |next=>obtain⟨σ',H',I',q⟩:=q;exact h2 pins s1 σ' H' D I' q
 |ret v=>exact q
 |brk=>exact q
 |cont=>exact q
theorem EH(h1:PS X st t):PSs X [st] t:=by
 intro pins s σ H D I h;refine wpAny_execs_cons (thn (h1 pins s σ H D I h) λf s1 q=>?_);cases f with
 |next=>exact wpAny_execs_nil q
 |ret v=>exact q
 |brk=>exact q
 |cont=>exact q
theorem Inv.quiet{pins:List (Ug×Obj)}{σ:St}{H:Hp}{s:Ue}(I:Inv X pins σ H s):interactive X.env=false:=by simp[interactive,I.ok.kind]
def Lb(te:TE):TS:=λD σ H=>te σ H λ_ H1=>D.nx σ H1
theorem Rz(he:PE X e te)(hs:swapsWith e none pos.line X.env=pure false:=by rfl):PS X (.Expr e pos) (Lb te):=by intro pins s σ H D I h;exact wpAny_Expr_any (thn (he pins s σ H _ I h) λv s1 ⟨x,H1,I1,r1,q1⟩=>⟨σ,H1,I1,q1⟩) I.quiet hs
def tRet(te:TE):TS:=λD σ H=>te σ H D.rt
theorem GW(he:PE X e te):PS X (.Return (some e) pos) (tRet te):=by intro pins s σ H D I h;exact wpAny_Return_some (thn (he pins s σ H _ I h) λv s1 ⟨x,H1,I1,r1,q1⟩=>⟨x,σ,H1,I1,r1,q1⟩)
def tIfS(c:TT)(t u:TS):TS:=λD σ H=>c σ H λb H1=>if b=true then t D σ H1 else u D σ H1
theorem La{c:Ui}{a b:List Stmt}{tc:TT}(hc:PT X c tc)(ha:PSs X a t)(hb:PSs X b u):PS X (.If c a b pos) (tIfS tc t u):=by
 intro pins s σ H D I h;refine wpAny_If (thn (hc pins s σ H _ I h) λd s1 ⟨H1,I1,q1⟩=>?_);cases d with
 |true=>exact ha pins s1 σ H1 D I1 q1
 |false=>exact hb pins s1 σ H1 D I1 q1
end
abbrev TG:=V->St->Hp->(St->Hp->Prop)->Prop
abbrev TGs:=List V->St->Hp->(St->Hp->Prop)->Prop
def PG(X:Cx)(target:Ui)(t:TG):Prop:=
 ∀(pins:List (Ug×Obj))(s:Ue)(σ:St)(H:Hp)(v:V)(u:Ud)(Q:St->Hp->Prop),Inv X pins σ H s->RelV v u->t v σ H Q ->
  Uk (model X.prog X.w) X.A (assign target X.env u) (λ_ s'=>∃σ' H',Inv X pins σ' H' s'/\Q σ' H') X.xe s
def PGs(X:Cx)(ts:List Ui)(t:TGs):Prop:=
 ∀(pins:List (Ug×Obj))(s:Ue)(σ:St)(H:Hp)(vs:List V)(us:List Ud)(Q:St->Hp->Prop),Inv X pins σ H s->Vals vs us->t vs σ H Q ->
  Uk (model X.prog X.w) X.A (assignInOrder ((UB ts X.env).map (·.2)) us) (λ_ s'=>∃σ' H',Inv X pins σ' H' s'/\Q σ' H') X.xe s
abbrev TIp:=V->V->Hp->VK->Prop
def PIp(X:Cx)(op:Operator)(t:TIp):Prop:=
 ∀(pins:List (Ug×Obj))(s:Ue)(σ:St)(H:Hp)(x y:V)(v u:Ud)(Q:VK),Inv X pins σ H s->RelV x v->RelV y u->t x y H Q ->
  Uk (model X.prog X.w) X.A (inplaceOp op v u) (EP X pins σ Q) X.xe s
section
variable{X:Cx}{pos:Pos}
def SW(i:Nat):TG:=λv σ H Q=>Q (σ.set i (some v)) H
theorem OX{i:Nat}{x:Str}(hN:X.N.Nodup)(hi:X.N[i]?=some x)(hx:Loc X.env.scope x)(hf:X.fn x=true∨X.env.scope.names.lookup x=some .local:=by first|exact .inl rfl|exact .inr rfl|assumption):PG X (.Name x pos) (SW i):=by intro pins s σ H v u Q I r h;exact wpAny_assign_Name (RF I hN hi hx r (λs' I'=>⟨_,H,I',h⟩) hf)
def gNil:TGs:=λvs σ H Q=>vs=[]/\Q σ H
def M9(t:TG)(u:TGs):TGs:=λvs σ H Q=>∃v r,vs=v::r/\t v σ H λσ' H'=>u r σ' H' Q
theorem EG:PGs X [] gNil:=by intro pins s σ H vs us Q I r h;obtain⟨e,h⟩:=h;subst e;cases r;exact assignInOrder_nil ⟨σ,H,I,h⟩
theorem Ca{e:Ui}{es:List Ui}{t:TG}{u:TGs}(h1:PG X e t)(h2:PGs X es u)
  (hs:(UB (e::es) X.env).map (·.2)=assign e X.env::(UB es X.env).map (·.2):=by rfl):PGs X (e::es) (M9 t u):=by
 intro pins s σ H vs us Q I r h;obtain⟨v,vr,e1,h⟩:=h;subst e1;cases r with
 |cons r rr=>rw[hs];refine assignInOrder_cons (thn (h1 pins s σ H _ _ _ I r h) λ_ s1 ⟨σ1,H1,I1,q1⟩=>?_);exact h2 pins s1 σ1 H1 _ _ Q I1 rr q1
def gTup(K:Frag)(n:Nat)(t:TGs):TG:=λv σ H Q=>∃a xs,v=.ref a/\SqT K H a xs/\xs.length=n/\t xs σ H Q
theorem GV{es:List Ui}{k:Nat}{t:TGs}{n:Nat}(hc:X.calm=true)(h:PGs X es t)
  (hn:(UB es X.env).length=n:=by rfl) (hst:(UB es X.env).findIdx? (·.1)=none:=by rfl):PG X (.Tuple es k pos) (gTup X.K n t):=by
 intro pins s σ H v u Q I r hw;obtain⟨a,xs,e1,hq,hl,hw⟩:=hw;subst e1;cases r;obtain⟨its,rv,ht,hz⟩:=I.tuple hq;refine assign_Tuple_tuple (I.ok.hd hc) ht (by simp[hn,←hl,rv.length]) hst λh' hx=>?_
 have I1:Inv X pins σ H {s with heap:=h'}:=I.kept (t':=s.toks) λb o e=>hx b o (QI (Qh e)) e;exact h pins _ σ H xs _ Q I1 (by simpa using rv) hw
def tAsg(te:TE)(g:TG):TS:=λD σ H=>te σ H λx H1=>g x σ H1 D.nx
theorem GU{tg e:Ui}{te:TE}{g:TG}(he:PE X e te)(hg:PG X tg g)(hs:swapsWithSole [tg] e pos.line X.env=pure false:=by rfl)(hw:swappedStores [tg] e X.env=pure none:=by rfl)
  (h1:(UB [tg] X.env).map (·.2)=[assign tg X.env]:=by rfl):PS X (.Assign [tg] e pos) (tAsg te g):=by
 intro pins s σ H D I h;refine wpAny_Assign_stores (thn (he pins s σ H _ I h) λv s1 ⟨x,H1,I1,r1,q1⟩=>?_) hs hw;rw[h1];exact thn (hg pins s1 σ H1 x v _ I1 r1 q1) λ_ s2 q=>q
theorem Ri{i:Nat}{x:Str}{e:Ui}{te:TE}{pos':Pos}(hN:X.N.Nodup)(hi:X.N[i]?=some x)(hx:Loc X.env.scope x)(he:PE X e te)(hs:swapsWith e (some (.Name x pos')) pos.line X.env=pure false:=by rfl)(hf:X.fn x=true∨X.env.scope.names.lookup x=some .local:=by first|exact .inl rfl|exact .inr rfl|assumption) :
  PS X (.Assign [.Name x pos'] e pos) (tAsg te (SW i)):=by
 intro pins s σ H D I h;refine wpAny_Assign_Name (thn (he pins s σ H _ I h) λv s1 ⟨y,H1,I1,r1,q1⟩=>?_) hs;exact RF I1 hN hi hx r1 (λs2 I2=>⟨_,H1,I2,q1⟩) hf
def tAug(i:Nat)(te:TE)(ti:TIp):TS:=λD σ H=>∃x,σ[i]?=some (some x)/\te σ H λy H1=>ti x y H1 λz H2=>D.nx (σ.set i (some z)) H2
theorem GT{i:Nat}{x:Str}{e:Ui}{te:TE}{op:Operator}{ti:TIp}{pos':Pos}(hN:X.N.Nodup)(hi:X.N[i]?=some x)(hx:Loc X.env.scope x)(he:PE X e te)(ho:PIp X op ti)(hf:X.fn x=true∨X.env.scope.names.lookup x=some .local:=by first|exact .inl rfl|exact .inr rfl|assumption) :
  PS X (.AugAssign (.Name x pos') op e pos) (tAug i te ti):=by
 intro pins s σ H D I h;obtain⟨v,e1,h⟩:=h;obtain⟨m,hn,hl⟩:=I.loc;have vis:Vis X.env.scope x:=by rcases hx with k|k;exact .inl k;exact .inr (.inl k)
 obtain⟨u,r,l⟩:=hl i x v hi e1 vis;refine wpAny_AugAssign_Name ?_;have go:Uk (model X.prog X.w) X.A (eval e X.env) (λw s₂=>Uk (model X.prog X.w) X.A (inplaceOp op u w) (λr s₃=>Uk (model X.prog X.w) X.A (storeName X.env x r) (λ_=>SP X pins D .next) X.xe s₃) X.xe s₂) X.xe s:=by refine thn (he pins s σ H _ I h) λw s1 ⟨y,H1,I1,r1,q1⟩=>?_;refine thn (ho pins s1 σ H1 v y u w _ I1 r r1 q1) λz s2 ⟨zv,H2,I2,r2,q2⟩=>?_;exact RF I2 hN hi hx r2 (λs3 I3=>⟨_,H2,I3,q2⟩) hf
 rcases l with ⟨hk,hm⟩|⟨hk,c,hc,hcell⟩
 ·exact wpAny_loadName_local I.ok.kind hk hn hm go
 ·rcases hk with hk|hk
  ·exact wpAny_loadName_cell I.ok.kind hk hc hcell go
  ·rcases hx with k|k
   ·have:X.env.scope.names.lookup x=some .free:=hk;rw[k]at this;cases this
   ·have:X.env.scope.names.lookup x=some .free:=hk;rw[k]at this;cases this
end
section
variable{X:Cx}{pos:Pos}
def GS(c:TT)(tb:TS):TS:=λD σ H=>∃W:Nat->St->Hp->Prop,(∃m,W m σ H)/\∀m σ H,W m σ H ->
 c σ H λb H1=>if b=true then ∃N:St->Hp->Prop,(∀σ' H',N σ' H'->∃m',m'<m/\W m' σ' H')/\tb {D with nx:=N,ct:=N,bk:=D.nx} σ H1 else D.nx σ H1
theorem D9{c:Ui}{body:List Stmt}{tc:TT}{tb:TS}(hp:PassesOwn (model X.prog X.w) X.A X.env X.xe)(hc:PT X c tc)(hb:PSs X body tb):PS X (.While c body [] pos) (GS tc tb):=by
 intro pins s σ H D I h;obtain⟨W,⟨m0,w0⟩,turn⟩:=h;refine wpAny_While (codeAny_whileLoop (λn s'=>∃σ' H',Inv X pins σ' H' s'/\W n σ' H') ?_ m0 ⟨σ,H,I,w0⟩);rintro n s1 ⟨σ1,H1,I1,w1⟩;refine Jg hp (thn (hc pins s1 σ1 H1 _ I1 (turn n σ1 H1 w1)) λb s2 ⟨H2,I2,q2⟩=>?_);cases b with
 |true=>
  obtain⟨N,hN,q2⟩:=q2;rw[Qq rfl];refine Jg hp (thn (hb pins s2 σ1 H2 _ I2 q2) λf s3 q3=>?_);cases f with
  |next=>obtain⟨σ3,H3,I3,n3⟩:=q3;obtain⟨m',hm,w3⟩:=hN σ3 H3 n3;exact⟨m',hm,σ3,H3,I3,w3⟩
  |cont=>obtain⟨σ3,H3,I3,n3⟩:=q3;obtain⟨m',hm,w3⟩:=hN σ3 H3 n3;exact⟨m',hm,σ3,H3,I3,w3⟩
  |brk=>exact q3
  |ret v=>exact q3
 |false=>rw[QG Jt];exact wpAny_execs_nil ⟨σ1,H2,I2,q2⟩
end
structure It where
 go:Nat->Hp->Prop
 yld:Nat->Hp->V->Hp->Prop
 stop:Nat->Hp->Prop
def KL(X:Cx)(pins:List (Ug×Obj))(H:Hp)(b:Ug):Prop:=
 H b=none/\b≠X.env.locals/\b∉X.fs/\(b∈X.ex∨X.s₀.heap.objs.size<=b)/\(∀x c,X.env.cells.lookup x=some c->c≠b)/\∀p∈X.pn++pins,p.1≠b
theorem Inv.fpOk{X:Cx}{pins:List (Ug×Obj)}{σ:St}{H H':Hp}{s:Ue}{b:Ug}(I:Inv X pins σ H s)(hb:s.heap.objs.size<=b)(hn:H' b=none):KL X pins H' b:=by
 refine⟨hn,Jx (QD I.lt hb),I.nofs hb,.inr (QQ I.sz hb),λx c e z=>?_,λp hp z=>?_⟩
 ·obtain⟨v,q⟩:=I.cell x c e;exact absurd (QD q.lt (by rw[z];exact hb)) (Jc _)
 ·exact absurd (QD (Qh (I.pin p hp).1) (by rw[z];exact hb)) (Jc _)
structure Turn(P:Uf)(w:World)(K:Frag)(tg:Ui)(J:It)(fp:List Ug)(it:Ug)(tn:Nat->Heap->Prop):Prop where
 mem:it∈fp
 obj:∀i h,tn i h->∀b∈fp,∃o,h.get? b=some o/\∀v,o.data≠.cell v
 keep:∀i h h',tn i h->(∀b∈fp,∀o,h.get? b=some o->h'.get? b=some o)->tn i h'
 item:∀(X:Cx),X.prog=P->X.w=w->X.K=K->X.calm=true->∀(i:Nat)(pins:List (Ug×Obj))(s:Ue)(σ:St)(H:Hp)(E:Ud->Ue->Prop),Inv X pins σ H s->(∀b∈fp,KL X pins H b)->tn i s.heap->J.go i H ->
  Uk (model P w) X.A (pyNext (.ref it)) (λr s1=>∃u,r=some u /\
   Uk (model P w) X.A (letOwnedTupleGo tg (.ref it) u) (λ_ s2=>∃x H',Inv X pins σ H' s2/\RelV x u/\J.yld i H x H'/\tn (i+1) s2.heap/\∀b∈fp,H' b=none) E s1) E s
 done:∀(X:Cx),X.prog=P->X.w=w->X.K=K->X.calm=true->∀(i:Nat)(pins:List (Ug×Obj))(s:Ue)(σ:St)(H:Hp)(E:Ud->Ue->Prop),Inv X pins σ H s->(∀b∈fp,KL X pins H b)->tn i s.heap->J.stop i H ->
  Uk (model P w) X.A (pyNext (.ref it)) (λr s1=>r=none/\Inv X pins σ H s1) E s
 self:∀(A:Around)(i:Nat)(s:Ue)(Q:Ud->Ue->Prop)(E:Ud->Ue->Prop),tn i s.heap->Q (.ref it) s->Uk (model P w) A (pyIter (.ref it)) Q E s
abbrev TI:=St->Hp->(It->Hp->Prop)->Prop
def PIE(X:Cx)(pins:List (Ug×Obj))(σ:St)(tg:Ui)(R:It->Hp->Prop)(itv:Ud)(s2:Ue):Prop:=
 ∃(it:Ug)(fp:List Ug)(tn:Nat->Heap->Prop)(J:It)(H':Hp),itv=.ref it/\Inv X pins σ H' s2/\Turn X.prog X.w X.K tg J fp it tn/\tn 0 s2.heap/\(∀b∈fp,KL X pins H' b)/\R J H'
def PI(X:Cx)(tg iter:Ui)(wi:TI):Prop:=
 ∀(pins:List (Ug×Obj))(s:Ue)(σ:St)(H:Hp)(R:It->Hp->Prop),Inv X pins σ H s->wi σ H R ->
  Uk (model X.prog X.w) X.A (eval iter X.env) (λv s1=>Uk (model X.prog X.w) X.A (pyIter v) (PIE X pins σ tg R) X.xe s1) X.xe s
theorem TZ{M:Model}{A:Around}{E:Ud->Ue->Prop}{s:Ue}{tg:Ui}{it:Ug}{u:Ud}{o:Obj}{n:String}{vs:Array Ud}{Q:Unit->Ue->Prop}(ho:s.heap.get? it=some o)(hc:o.cls=.type n)(hd:o.data=.fields vs)
  (hn:["enumerate", "zip", "dict_itemiterator", "dict_reverseitemiterator", "odict_iterator", "itertools.zip_longest", "itertools.pairwise"].contains n=false) (hQ:Q () s):Uk M A (letOwnedTupleGo tg (.ref it) u) Q E s:=by
 unfold letOwnedTupleGo
 cases tg<;>first
  |exact Qk hQ
  |(cases u<;>first
    |exact Qk hQ
    |(
      refine Qe (wpAny_load ho ?_);rw[hc,hd];show Uk M A (if(["enumerate", "zip", "dict_itemiterator", "dict_reverseitemiterator", "odict_iterator", "itertools.zip_longest", "itertools.pairwise"].contains n&&vs[0]?==some (rawInt _))=true then _ else _) Q E s;rw[QG (by intro h;rw[hn,Bool.false_and]at h;cases h)];exact Qk hQ))
def Itl(K:Frag)(a:Ug):It:=
 ⟨λi H=>∃xs x,SqL K H a xs/\xs[i]?=some x,λi H x H'=>H'=H/\∀xs,SqL K H a xs->xs[i]?=some x,λi H=>∃xs,SqL K H a xs/\xs.length<=i⟩
def Itt(K:Frag)(a:Ug):It:=
 ⟨λi H=>∃xs x,SqT K H a xs/\xs[i]?=some x,λi H x H'=>H'=H/\∀xs,SqT K H a xs->xs[i]?=some x,λi H=>∃xs,SqT K H a xs/\xs.length<=i⟩
def Itr(lo:Int)(n:Nat):It:=⟨λi _=>i<n,λi H x H'=>H'=H/\x=.int (lo+i),λi _=>n<=i⟩
theorem C5{P:Uf}{w:World}{K:Frag}{tg:Ui}(a it:Ug):Turn P w K tg (Itl K a) [it] it (λi h=>h.IsListIter it a i) where
 mem:=by simp
 obj:=λi h st b hb=>by
  have e:b=it:=by simpa using hb
  subst e;obtain⟨o,e,c,d⟩:=st;exact⟨o,e,λv z=>by rw[d]at z;cases z⟩
 keep:=λi h h' st k=>st.at λo e=>k it (by simp) o e
 item:=by
  intro X hP hw hK hc i pins s σ H E I hf st hg;subst hP hw hK;obtain⟨xs,x,hq,hx⟩:=hg;obtain⟨its,rv,p,hz⟩:=I.list hq;obtain⟨u,hu,ru⟩:=rv.get hx;obtain⟨f0,f1,f2,f3,f4,f5⟩:=hf it (by simp);refine wpAny_pyNext_list_item st p.isList (x:=u) (by simpa using hu) λh' st' sb=>?_
  have I1:Inv X pins σ H {s with heap:=h'}:=I.turned (t':=s.toks) (λb o hb e=>(sb.2 b hb).trans e) f0 f1 f3 f4 f5;obtain⟨o,e,c,d⟩:=id st';exact⟨u,rfl,TZ (s:={s with heap:=h'}) e c d (by decide) ⟨x,H,I1,ru,⟨rfl,λys hy=>by rw[I.list_inj hy hq];exact hx⟩,st',λb hb=>(hf b hb).1⟩⟩
 done:=by intro X hP hw hK hc i pins s σ H E I hf st hg;subst hP hw hK;obtain⟨xs,hq,hx⟩:=hg;obtain⟨its,rv,p,hz⟩:=I.list hq;obtain⟨f0,f1,f2,f3,f4,f5⟩:=hf it (by simp);have hl:=rv.length;exact wpAny_pyNext_list_end (I.ok.hd hc) st p.isList (by simp;omega) λh' eb=>⟨rfl,I.turned (t':=s.toks) (λb o hb e=>eb b o hb e) f0 f1 f3 f4 f5⟩
 self:=λ_ _ _ _ _ st h=>wpAny_pyIter_listiter st h
theorem BG{P:Uf}{w:World}{K:Frag}{tg:Ui}(a it:Ug):Turn P w K tg (Itt K a) [it] it (λi h=>h.IsTupleIter it a i) where
 mem:=by simp
 obj:=λi h st b hb=>by
  have e:b=it:=by simpa using hb
  subst e;obtain⟨o,e,c,d⟩:=st;exact⟨o,e,λv z=>by rw[d]at z;cases z⟩
 keep:=λi h h' st k=>st.at λo e=>k it (by simp) o e
 item:=by
  intro X hP hw hK hc i pins s σ H E I hf st hg;subst hP hw hK;obtain⟨xs,x,hq,hx⟩:=hg;obtain⟨its,rv,p,hz⟩:=I.tuple hq;obtain⟨u,hu,ru⟩:=rv.get hx;obtain⟨f0,f1,f2,f3,f4,f5⟩:=hf it (by simp);refine wpAny_pyNext_tuple_item st (show s.heap.IsTuple a its.toArray from p) (x:=u) (by simpa using hu) λh' st' sb=>?_
  have I1:Inv X pins σ H {s with heap:=h'}:=I.turned (t':=s.toks) (λb o hb e=>(sb.2 b hb).trans e) f0 f1 f3 f4 f5;obtain⟨o,e,c,d⟩:=id st';exact⟨u,rfl,TZ (s:={s with heap:=h'}) e c d (by decide) ⟨x,H,I1,ru,⟨rfl,λys hy=>by rw[I.tuple_inj hy hq];exact hx⟩,st',λb hb=>(hf b hb).1⟩⟩
 done:=by intro X hP hw hK hc i pins s σ H E I hf st hg;subst hP hw hK;obtain⟨xs,hq,hx⟩:=hg;obtain⟨its,rv,p,hz⟩:=I.tuple hq;obtain⟨f0,f1,f2,f3,f4,f5⟩:=hf it (by simp);have hl:=rv.length;exact wpAny_pyNext_tuple_end (I.ok.hd hc) st (show s.heap.IsTuple a its.toArray from p) (by simp;omega) λh' eb=>⟨rfl,I.turned (t':=s.toks) (λb o hb e=>eb b o hb e) f0 f1 f3 f4 f5⟩
 self:=λ_ _ _ _ _ st h=>wpAny_pyIter_tupleiter st h
theorem BF{P:Uf}{w:World}{K:Frag}{tg:Ui}(it:Ug)(lo:Int)(n:Nat):Turn P w K tg (Itr lo n) [it] it (λi h=>IsRangeIter h it (lo+(i:Nat)*1) ((n:Int)-(i:Nat)) 1) where
 mem:=by simp
 obj:=λi h st b hb=>by
  have e:b=it:=by simpa using hb
  subst e;exact⟨_,st,λv z=>by have z':Data.fields _=Data.cell v:=z;cases z'⟩
 keep:=λi h h' st k=>k it (by simp) _ st
 item:=by
  intro X hP hw hK hc i pins s σ H E I hf st hg;subst hP hw hK;obtain⟨f0,f1,f2,f3,f4,f5⟩:=hf it (by simp);have W:=Walks.range (prog:=X.prog) (w:=X.w) (I.ok.hd hc) it lo 1 n;refine W.item i s _ _ hg st λv h' tk hv st' kk=>?_
  obtain⟨t,rfl⟩:=hv;have I1:Inv X pins σ H {s with heap:=h',toks:=tk}:=I.turned (λb o hb e=>kk b o (by simpa using hb) e) f0 f1 f3 f4 f5;refine⟨_,rfl,TZ (s:={s with heap:=h',toks:=tk}) (n:= "range_iterator") st' rfl rfl (by decide) ⟨.int (lo+i),H,I1,⟨t,?_⟩,⟨rfl,rfl⟩,st',λb hb=>(hf b hb).1⟩⟩;rw[Int.mul_one]
 done:=by intro X hP hw hK hc i pins s σ H E I hf st hg;subst hP hw hK;obtain⟨f0,f1,f2,f3,f4,f5⟩:=hf it (by simp);exact wpAny_pyNext_range_end (I.ok.hd hc) st (by have:n<=i:=hg;omega) λh' eb=>⟨rfl,I.turned (t':=s.toks) (λb o hb e=>eb b o hb e) f0 f1 f3 f4 f5⟩
 self:=λ_ _ _ _ _ st h=>wpAny_pyIter_rangeiter st h
section
variable{X:Cx}{tg:Ui}
theorem Ny{pins:List (Ug×Obj)}{σ:St}{H:Hp}{s:Ue}{R:It->Hp->Prop}{E:Ud->Ue->Prop}{lo hi:Int}{t u v:Tok}{tk:Nat}(I:Inv X pins σ H s)(h1 : -(2 ^ 62)<=lo)(h2:lo<2 ^ 62)(h3 : -(2 ^ 62)<=hi)(h4:hi<2 ^ 62)
  (q:R (Itr lo (hi-lo).toNat) H):Uk (model X.prog X.w) X.A (pyIter (.ref s.heap.objs.size)) (PIE X pins σ tg R) E {s with heap:=s.heap.push {cls:=.type "range", data:=.fields #[.int lo t,.int hi u,.int 1 v]},toks:=tk}:=by
 refine wpAny_pyIter_range (IsRange.new ..) (small_one h1 h2 h3 h4) ?_;have I1:Inv X pins σ H {s with heap:=s.heap.push {cls:=.type "range", data:=.fields #[.int lo t,.int hi u,.int 1 v]},toks:=tk}:=I.kept λb o e=>Qi _ e
 refine⟨(s.heap.push {cls:=.type "range", data:=.fields #[.int lo t,.int hi u,.int 1 v]}).objs.size,[(s.heap.push {cls:=.type "range", data:=.fields #[.int lo t,.int hi u,.int 1 v]}).objs.size],_,_,H,rfl,
  I1.kept (t':=tk) λb o e=>Qi _ e,BF _ lo (hi-lo).toNat,?_,λb hb=>?_,q⟩
 ·have e1:lo+((0:Nat):Int)*1=lo:=by simp
  have e2:(((hi-lo).toNat:Nat):Int)-((0:Nat):Int)=Builtin.Range.rangeSize lo hi 1:=by rw[rangeSize_one];split<;>omega
  show IsRangeIter _ _ (lo+((0:Nat):Int)*1) ((((hi-lo).toNat:Nat):Int)-((0:Nat):Int)) 1;rw[e1,e2];exact Qx _ rfl
 ·have e:b=(s.heap.push {cls:=.type "range", data:=.fields #[.int lo t,.int hi u,.int 1 v]}).objs.size:=by simpa using hb
  subst e;exact I1.fpOk (Qp _) (I1.hok.fresh (Qp _))
def M8(ta:TA):TI:=λσ H R=>ta σ H λvs H1=>∃j:Int,vs=[.int j] /\ -(2 ^ 62)<=j/\j<2 ^ 62/\R (Itr 0 j.toNat) H1
def M7(ta:TA):TI:=λσ H R=>ta σ H λvs H1=>∃i j:Int,vs=[.int i,.int j]/\(-(2 ^ 62)<=i/\i<2 ^ 62 /\ -(2 ^ 62)<=j/\j<2 ^ 62)/\R (Itr i (j-i).toNat) H1
theorem C4{a:Ui}{ta:TA}{p pos:Pos}(hg:Gl X "range")(hm:X.mg "range" = none)(ha:PA X [a] ta)(hs:Ul [a] X.env=[(false,eval a X.env)]:=by rfl):PI X tg (.Call (.Name "range" p) [a] [] pos) (M8 ta):=by
 intro pins s σ H R I h;refine Call_ (Wu I hg hm boot_range (Jl (thn (ha pos pins s σ H _ I h) λus s1 ⟨vs,H1,I1,r1,q1⟩=>?_) hs rfl));obtain⟨j,e,q1,q2,q⟩:=q1;subst e;cases r1 with
 |cons r rr=>cases rr;obtain⟨t,rfl⟩:=r;exact call_range_1 (Ny I1 (by omega) (by omega) q1 q2 (by simpa using q))
theorem C3{a b:Ui}{ta:TA}{p pos:Pos}(hg:Gl X "range")(hm:X.mg "range" = none)(ha:PA X [a,b] ta)(hs:Ul [a,b] X.env=[(false,eval a X.env),(false,eval b X.env)]:=by rfl)(hs2:Ul [b] X.env=[(false,eval b X.env)]:=by rfl) :
  PI X tg (.Call (.Name "range" p) [a,b] [] pos) (M7 ta):=by
 intro pins s σ H R I h;refine Call_ (Wu I hg hm boot_range (Jl (thn (ha pos pins s σ H _ I h) λus s1 ⟨vs,H1,I1,r1,q1⟩=>?_) (by rw[hs,hs2]) (by rw[hs2];rfl)));obtain⟨i,j,e,⟨q1,q2,q3,q4⟩,q⟩:=q1;subst e;cases r1 with
 |cons r rr=>
  cases rr with
  |cons r' rr=>cases rr;obtain⟨t,rfl⟩:=r;obtain⟨t',rfl⟩:=r';exact call_range_2 (Ny I1 q1 q2 q3 q4 q)
def tFor(wi:TI)(g:TG)(tb:TS):TS:=λD σ H=>wi σ H λJ H1=>∃W:Nat->Nat->St->Hp->Prop,(∃m,W 0 m σ H1)/\∀i m σ H,W i m σ H ->
 (J.stop i H/\D.nx σ H)∨(J.go i H/\∃N:St->Hp->Prop,(∀σ' H',N σ' H'->∃m',m'<m/\W (i+1) m' σ' H')/\∀x H',J.yld i H x H'->g x σ H' λσ2 H2=>tb {D with nx:=N,ct:=N,bk:=D.nx} σ2 H2)
def VN(fp:List Ug)(h:Heap):List (Ug×Obj):=fp.filterMap λb=>(h.get? b).map λo=>(b,o)
theorem VU{fp:List Ug}{h:Heap}{b:Ug}{o:Obj}(hb:b∈fp)(e:h.get? b=some o):(b,o)∈VN fp h:=List.mem_filterMap.mpr ⟨b,hb,by rw[e];rfl⟩
theorem C2{fp:List Ug}{h:Heap}{p:Ug×Obj}(hp:p∈VN fp h):p.1∈fp/\h.get? p.1=some p.2:=by
 obtain⟨b,hb,e⟩:=List.mem_filterMap.mp hp;cases q:h.get? b with
 |none=>rw[q]at e;cases e
 |some o=>rw[q]at e;have e':(b,o)=p:=Qt e;subst e';exact⟨hb,q⟩
theorem Inv.pinned{pins:List (Ug×Obj)}{σ:St}{H:Hp}{s:Ue}{fp:List Ug}(I:Inv X pins σ H s)(hf:∀b∈fp,KL X pins H b)(ho:∀b∈fp,∃o,s.heap.get? b=some o/\∀v,o.data≠.cell v):Inv X (pins++VN fp s.heap) σ H s:=
 I.pins_of λp hp=>(QL.mp hp).elim (λz=>I.pin p (Qz _ z)) λz=>by obtain⟨hb,e⟩:=C2 z;obtain⟨f0,f1,f2,_⟩:=hf p.1 hb;obtain⟨o,e',d⟩:=ho p.1 hb;rw[e]at e';cases e';exact⟨e,f0,f1,f2,d⟩
theorem Inv.unpinned{pins pl:List (Ug×Obj)}{σ:St}{H:Hp}{s:Ue}(I:Inv X (pins++pl) σ H s):Inv X pins σ H s:=I.pins_of λp hp=>I.pin p (Qz _ (Q6 _ hp))
theorem GR{iter:Ui}{body:List Stmt}{wi:TI}{g:TG}{tb:TS}{pos:Pos}(hp:PassesOwn (model X.prog X.w) X.A X.env X.xe)(hc:X.calm=true)(hi:PI X tg iter wi)(hg:PG X tg g)(hb:PSs X body tb)
  (hs:∀x,UC iter X.env x=pure x:=by intro _;rfl):PS X (.For tg iter body [] pos) (tFor wi g tb):=by
 intro pins s σ H D I h;refine wpAny_For (thn (hi pins s σ H _ I h) λv s1 h1=>thn h1 λitv s2 h2=>?_) hs;obtain⟨it,fp,tn,J,H2,e,I2,T,st2,f2,W,⟨m0,w0⟩,turn⟩:=h2;subst e;have stat:∀{H':Hp},(∀b∈fp,H' b=none)->∀b∈fp,KL X pins H' b:=λhn b hb=>⟨hn b hb,(f2 b hb).2⟩;refine codeAny_forLoop_any (λn s'=>∃i σ' H',Inv X pins σ' H' s'/\tn i s'.heap/\(∀b∈fp,H' b=none)/\W i n σ' H') ?_ m0 ⟨0,σ,H2,I2,st2,λb hb=>(f2 b hb).1,w0⟩;rintro n s3 ⟨i,σ3,H3,I3,st3,fr3,w3⟩;rcases turn i n σ3 H3 w3 with ⟨stop,qn⟩|⟨go,N,hN,step⟩
 ·refine Jg hp (thn (T.done X rfl rfl rfl hc i pins s3 σ3 H3 X.xe I3 (stat fr3) st3 stop) λr s4 ⟨hr,I4⟩=>?_);subst hr;exact wpAny_execs_nil ⟨σ3,H3,I4,qn⟩
 ·refine Jg hp (thn (T.item X rfl rfl rfl hc i pins s3 σ3 H3 X.xe I3 (stat fr3) st3 go) λr s4 ⟨u,hr,h4⟩=>?_);subst hr;refine Jg hp (thn h4 λ_ s5 ⟨x,H5,I5,r5,y5,st5,fr5⟩=>?_);have I5':=I5.pinned (stat fr5) (T.obj _ _ st5);refine Jg hp (thn (hg _ s5 σ3 H5 x u _ I5' r5 (step x H5 y5)) λ_ s6 ⟨σ6,H6,I6,q6⟩=>?_);refine Jg hp (thn (hb _ s6 σ6 H6 _ I6 q6) λf s7 q7=>?_);have again:∀{σ7:St}{H7:Hp},Inv X (pins++VN fp s5.heap) σ7 H7 s7->N σ7 H7->∃m,m<n/\∃i σ' H',Inv X pins σ' H' s7/\tn i s7.heap/\(∀b∈fp,H' b=none)/\W i m σ' H':=λ{σ7 H7} I7 n7=>by obtain⟨m',hm,w7⟩:=hN σ7 H7 n7;refine⟨m',hm,i+1,σ7,H7,I7.unpinned,T.keep _ _ _ st5 λb hb o e=>(I7.pin (b,o) (Qz _ (Qz _ (VU hb e)))).1,λb hb=>?_,w7⟩;obtain⟨o,e,d⟩:=T.obj _ _ st5 b hb;exact(I7.pin (b,o) (Qz _ (Qz _ (VU hb e)))).2.1
  cases f with
  |next=>obtain⟨σ7,H7,I7,n7⟩:=q7;exact again I7 n7
  |cont=>obtain⟨σ7,H7,I7,n7⟩:=q7;exact again I7 n7
  |brk=>obtain⟨σ7,H7,I7,q7⟩:=q7;exact⟨σ7,H7,I7.unpinned,q7⟩
  |ret v=>obtain⟨x7,σ7,H7,I7,r7,q7⟩:=q7;exact⟨x7,σ7,H7,I7.unpinned,r7,q7⟩
end
abbrev R2:=V->V->Hp->VK->Prop
def OpR(X:Cx)(f:Ud->Ud->Sem Ud)(r:R2):Prop:=
 ∀(pins:List (Ug×Obj))(s:Ue)(σ:St)(H:Hp)(x y:V)(v u:Ud)(Q:VK),Inv X pins σ H s->RelV x v->RelV y u->r x y H Q ->
  Uk (model X.prog X.w) X.A (f v u) (EP X pins σ Q) X.xe s
def UnR(X:Cx)(f:Ud->Sem Ud)(r:V->Hp->VK->Prop):Prop:=
 ∀(pins:List (Ug×Obj))(s:Ue)(σ:St)(H:Hp)(x:V)(v:Ud)(Q:VK),Inv X pins σ H s->RelV x v->r x H Q ->
  Uk (model X.prog X.w) X.A (f v) (EP X pins σ Q) X.xe s
def ZN(X:Cx)(f:Ud)(r:List V->Hp->VK->Prop):Prop:=
 ∀(pins:List (Ug×Obj))(s:Ue)(σ:St)(H:Hp)(xs:List V)(us:List Ud)(Q:VK),Inv X pins σ H s->Vals xs us->r xs H Q ->
  Uk (model X.prog X.w) X.A (call f us) (EP X pins σ Q) X.xe s
def tOp(r:R2)(ta tb:TE):TE:=λσ H Q=>ta σ H λx H1=>tb σ H1 λy H2=>r x y H2 Q
def tUn(r:V->Hp->VK->Prop)(ta:TE):TE:=λσ H Q=>ta σ H λx H1=>r x H1 Q
def rI(C:Int->Int->Prop)(g:Int->Int->V):R2:=λx y H Q=>∃i j,x=.int i/\y=.int j/\C i j/\Q (g i j) H
def rI0(g:Int->Int->V):R2:=λx y H Q=>∃i j,x=.int i/\y=.int j/\Q (g i j) H
def rU(g:Int->V):V->Hp->VK->Prop:=λx H Q=>∃i,x=.int i/\Q (g i) H
section
variable{X:Cx}{a b c:Ui}{ta tb tc:TE}{pos:Pos}
theorem Vw(ha:PE X a ta)(hb:PE X b tb){pins:List (Ug×Obj)}{s:Ue}{σ:St}{H:Hp}{R:V->V->Hp->Prop}(I:Inv X pins σ H s)
  (h:ta σ H λx H1=>tb σ H1 λy H2=>R x y H2) {Q:Ud->Ue->Prop} {f:Ud->Ud->Sem Ud}
  (hf:∀v u s2 x y H2,Inv X pins σ H2 s2->RelV x v->RelV y u->R x y H2->Uk (model X.prog X.w) X.A (f v u) Q X.xe s2) :
  Uk (model X.prog X.w) X.A (eval a X.env) (λv s₁=>Uk (model X.prog X.w) X.A (eval b X.env) (λu s₂=>Uk (model X.prog X.w) X.A (f v u) Q X.xe s₂) X.xe s₁) X.xe s:=by
 refine thn (ha pins s σ H _ I h) λv s1 ⟨x,H1,I1,r1,q1⟩=>?_;refine thn (hb pins s1 σ H1 _ I1 q1) λu s2 ⟨y,H2,I2,r2,q2⟩=>?_;exact hf v u s2 x y H2 I2 r1 r2 q2
theorem LY{op:Operator}{r:R2}(ho:OpR X (binaryOp op) r)(ha:PE X a ta)(hb:PE X b tb):PE X (.BinOp a op b pos) (tOp r ta tb):=by intro pins s σ H Q I h;exact wpAny_BinOp (Vw ha hb I h λv u s2 x y H2 I2 rx ry q=>ho pins s2 σ H2 x y v u Q I2 rx ry q)
theorem LX{op:UnaryOp}{r:V->Hp->VK->Prop}(ho:UnR X (unaryOp op) r)(ha:PE X a ta):PE X (.UnaryOp op a pos) (tUn r ta):=by intro pins s σ H Q I h;exact UnaryOp_ (thn (ha pins s σ H _ I h) λv s1 ⟨x,H1,I1,r1,q1⟩=>ho pins s1 σ H1 x v Q I1 r1 q1)
theorem opI{f:Ud->Ud->Sem Ud}{C:Int->Int->Prop}{g:Int->Int->Int}
  (rule:∀(i j:Int)(t u:Tok)(s:Ue)(Q:Ud->Ue->Prop)(E:Ud->Ue->Prop),C i j->Q (.int (g i j) s.toks) {s with toks:=s.toks+1}->Uk (model X.prog X.w) X.A (f (.int i t) (.int j u)) Q E s) :
  OpR X f (rI C λi j=>.int (g i j)):=by
 intro pins s σ H x y v u Q I rx ry h;obtain⟨i,j,rfl,rfl,hc,q⟩:=h;obtain⟨t,rfl⟩:=rx;obtain⟨t',rfl⟩:=ry;exact rule i j t t' s _ _ hc ⟨.int (g i j),H,I.tok _,⟨_,rfl⟩,q⟩
theorem opI0{f:Ud->Ud->Sem Ud}{g:Int->Int->Int}
  (rule:∀(i j:Int)(t u:Tok)(s:Ue)(Q:Ud->Ue->Prop)(E:Ud->Ue->Prop),Q (.int (g i j) s.toks) {s with toks:=s.toks+1}->Uk (model X.prog X.w) X.A (f (.int i t) (.int j u)) Q E s) :
  OpR X f (rI0 λi j=>.int (g i j)):=by
 intro pins s σ H x y v u Q I rx ry h;obtain⟨i,j,rfl,rfl,q⟩:=h;obtain⟨t,rfl⟩:=rx;obtain⟨t',rfl⟩:=ry;exact rule i j t t' s _ _ ⟨.int (g i j),H,I.tok _,⟨_,rfl⟩,q⟩
theorem XE{f:Ud->Ud->Sem Ud}{g:Int->Int->Bool}
  (rule:∀(i j:Int)(t u:Tok)(s:Ue)(Q:Ud->Ue->Prop)(E:Ud->Ue->Prop),Q (.bool (g i j)) s->Uk (model X.prog X.w) X.A (f (.int i t) (.int j u)) Q E s) :
  OpR X f (rI0 λi j=>.bl (g i j)):=by
 intro pins s σ H x y v u Q I rx ry h;obtain⟨i,j,rfl,rfl,q⟩:=h;obtain⟨t,rfl⟩:=rx;obtain⟨t',rfl⟩:=ry;exact rule i j t t' s _ _ ⟨.bl (g i j),H,I,rfl,q⟩
def CPow(i j:Int):Prop:=0<=j/\j<=1000000/\i.natAbs<2 ^ 64
def CMul(i j:Int):Prop:=(-(2 ^ 64)<i/\i<2 ^ 64)∨(-(2 ^ 64)<j/\j<2 ^ 64)
theorem CMul.ok{i j:Int}(h:CMul i j):IntMulOk i j:=by
 rcases h with ⟨h1,h2⟩|⟨h1,h2⟩
 ·exact .of_left (intBits_le_64 h1 h2)
 ·exact .of_right (intBits_le_64 h1 h2)
theorem GQ:OpR X (binaryOp .Add) (rI0 λi j=>.int (i+j)):=opI0 λ_ _ _ _ _ _ _ q=>add_int q
theorem GP:OpR X (binaryOp .Sub) (rI0 λi j=>.int (i-j)):=opI0 λ_ _ _ _ _ _ _ q=>sub_int q
theorem GO:OpR X (binaryOp .Mult) (rI CMul λi j=>.int (i*j)):=opI λ_ _ _ _ _ _ _ hc q=>mul_int q hc.ok
theorem GN:OpR X (binaryOp .Mod) (rI (λ_ j=>0<j) λi j=>.int (i % j)):=opI λi j _ _ _ _ _ hc q=>by have h1:(0:Int)<j:=hc;exact mod_int' (by omega) (by rw[Int.fmod_eq_emod_of_nonneg i (by omega)];exact q)
theorem GM:OpR X (binaryOp .Pow) (rI CPow λi j=>.int (i ^ j.toNat)):=opI λ_ _ _ _ _ _ _ hc q=>pow_int_small hc.1 hc.2.1 hc.2.2 q
theorem EF:OpR X (inplaceOp .Mult) (rI CMul λi j=>.int (i*j)):=opI λ_ _ _ _ _ _ _ hc q=>imul_int q hc.ok
theorem unI{f:Ud->Sem Ud}{g:Int->Int}
  (rule:∀(i:Int)(t:Tok)(s:Ue)(Q:Ud->Ue->Prop)(E:Ud->Ue->Prop),Q (.int (g i) s.toks) {s with toks:=s.toks+1}->Uk (model X.prog X.w) X.A (f (.int i t)) Q E s) :
  UnR X f (rU λi=>.int (g i)):=by
 intro pins s σ H x v Q I rx h;obtain⟨i,rfl,q⟩:=h;obtain⟨t,rfl⟩:=rx;exact rule i t s _ _ ⟨.int (g i),H,I.tok _,⟨_,rfl⟩,q⟩
theorem GL:UnR X (unaryOp .USub) (rU λi=>.int (-i)):=unI λ_ _ _ _ _ q=>neg_int q
end
section
variable{X:Cx}{a b c:Ui}{ta tb tc:TE}{pos:Pos}
theorem PN{pins:List (Ug×Obj)}{σ:St}{H:Hp}{s:Ue}{Q:VK}{k k':Bool}(I:Inv X pins σ H s)(q:Q (.bl k) H)(e:k=k'):EP X pins σ Q (.bool k') s:=by subst e;exact⟨.bl k,H,I,rfl,q⟩
theorem LW:OpR X (Um .Lt) (rI0 λi j=>.bl (decide (i<j))):=XE λ_ _ _ _ _ _ _ q=>lt_int q
theorem LV:OpR X (Um .LtE) (rI0 λi j=>.bl (decide (i<=j))):=XE λ_ _ _ _ _ _ _ q=>le_int q
theorem LU:OpR X (Um .Gt) (rI0 λi j=>.bl (decide (j<i))):=XE λ_ _ _ _ _ _ _ q=>gt_int q
theorem LS:OpR X (Um .GtE) (rI0 λi j=>.bl (decide (j<=i))):=XE λ_ _ _ _ _ _ _ q=>ge_int q
theorem C1:OpR X (Um .In) (λx y H Q=>∃i j,x=.str i/\y=.str j/\Q (.bl (!(Builtin.Str.occurrences j i 0 j.length 1).isEmpty)) H):=by intro pins s σ H x y v u Q I rx ry h;obtain⟨i,j,rfl,rfl,q⟩:=h;obtain⟨t,rfl⟩:=rx;obtain⟨t',rfl⟩:=ry;exact in_str (PN I q rfl)
theorem AQ:OpR X (Um .NotIn) (λx y H Q=>∃i j,x=.str i/\y=.str j/\Q (.bl (!(!(Builtin.Str.occurrences j i 0 j.length 1).isEmpty))) H):=by intro pins s σ H x y v u Q I rx ry h;obtain⟨i,j,rfl,rfl,q⟩:=h;obtain⟨t,rfl⟩:=rx;obtain⟨t',rfl⟩:=ry;exact notIn_str (PN I q rfl)
theorem OpR.or{f:Ud->Ud->Sem Ud}{r r':R2}(h:OpR X f r)(h':OpR X f r'):OpR X f (λx y H Q=>r x y H Q∨r' x y H Q):=by
 intro pins s σ H x y v u Q I rx ry q;rcases q with q|q
 ·exact h pins s σ H x y v u Q I rx ry q
 ·exact h' pins s σ H x y v u Q I rx ry q
theorem GK(b:Ui){op:CmpOp}(h:op≠.In:=by decide)(h2:op≠.NotIn:=by decide):behindInMarks op b=false:=by
 have e1:(op==CmpOp.In)=false:=by cases op<;>first|rfl|exact absurd rfl h
 have e2:(op==CmpOp.NotIn)=false:=by cases op<;>first|rfl|exact absurd rfl h2
 cases b<;>simp[behindInMarks,e1,e2]
theorem OW{op:CmpOp}{r:R2}(ho:OpR X (Um op) r)(ha:PE X a ta)(hb:PE X b tb)(hm:behindInMarks op b=false):PE X (.Compare a [op] [b] pos) (tOp r ta tb):=by intro pins s σ H Q I h;exact wpAny_Compare1 (Vw ha hb I h λv u s2 x y H2 I2 rx ry q=>ho pins s2 σ H2 x y v u Q I2 rx ry q) hm
def Pr(t:TE):TT:=λσ H Q=>t σ H λx H'=>∃k,x=.bl k/\Q k H'
theorem Ry{op:CmpOp}{r:R2}(ho:OpR X (Um op) r)(ha:PE X a ta)(hb:PE X b tb)(hm:behindInMarks op b=false):PT X (.Compare a [op] [b] pos) (Pr (tOp r ta tb)):=by
 intro pins s σ H Q I h
 refine wpAny_isTrue_Compare1 (thn (ha pins s σ H _ I h) λv s1 ⟨x,H1,I1,r1,q1⟩=>thn (hb pins s1 σ H1 _ I1 q1) λu s2 ⟨y,H2,I2,r2,q2⟩=>
  thn (ho pins s2 σ H2 x y v u _ I2 r1 r2 q2) λc s3 ⟨z,H3,I3,r3,k,e,q3⟩=>?_) hm
 subst e;cases r3;exact QZ ⟨H3,I3,q3⟩
def PM(r r':R2)(ta tb tc:TE):TE:=λσ H Q=>ta σ H λx H1=>tb σ H1 λy H2=>r x y H2 λz H3=>∃k,z=.bl k /\
 (if k=true then tc σ H3 λw' H4=>r' y w' H4 Q else Q (.bl false) H3)
theorem D8{op op':CmpOp}{r r':R2}(ho:OpR X (Um op) r)(ho':OpR X (Um op') r')(ha:PE X a ta)(hb:PE X b tb)(hc:PE X c tc)
  (hm:lastMarks [op,op'] [b,c]=false:=by with_unfolding_all rfl):PE X (.Compare a [op,op'] [b,c] pos) (PM r r' ta tb tc):=by
 intro pins s σ H Q I h
 refine Compare_chain (thn (ha pins s σ H _ I h) λv s1 ⟨x,H1,I1,r1,q1⟩=>chain_link (thn (hb pins s1 σ H1 _ I1 q1) λu s2 ⟨y,H2,I2,r2,q2⟩=>
  thn (ho pins s2 σ H2 x y v u _ I2 r1 r2 q2) λd s3 ⟨z,H3,I3,r3,k,e,q3⟩=>?_)) hm
 subst e;cases r3;refine QZ ?_;cases k with
 |false=>exact ite_ff ⟨.bl false,H3,I3,rfl,q3⟩
 |true=>exact ite_tt (chain_last (thn (hc pins s3 σ H3 _ I3 q3) λw' s4 ⟨z',H4,I4,r4,q4⟩=>ho' pins s4 σ H4 y z' u w' Q I4 r2 r4 q4))
theorem D7{op op':CmpOp}{r r':R2}(ho:OpR X (Um op) r)(ho':OpR X (Um op') r')(ha:PE X a ta)(hb:PE X b tb)(hc:PE X c tc)
  (hm:lastMarks [op,op'] [b,c]=false:=by with_unfolding_all rfl):PT X (.Compare a [op,op'] [b,c] pos) (Pr (PM r r' ta tb tc)):=by
 intro pins s σ H Q I h
 refine isTrue_chain (thn (ha pins s σ H _ I h) λv s1 ⟨x,H1,I1,r1,q1⟩=>test_link (thn (hb pins s1 σ H1 _ I1 q1) λu s2 ⟨y,H2,I2,r2,q2⟩=>
  thn (ho pins s2 σ H2 x y v u _ I2 r1 r2 q2) λd s3 ⟨z,H3,I3,r3,k,e,q3⟩=>?_)) hm
 subst e;cases r3;refine QZ ?_;cases k with
 |false=>obtain⟨k',e',q'⟩:=q3;cases e';exact ite_ff ⟨H3,I3,q'⟩
 |true=>refine ite_tt (test_last (thn (hc pins s3 σ H3 _ I3 q3) λw' s4 ⟨z',H4,I4,r4,q4⟩=>thn (ho' pins s4 σ H4 y z' u w' _ I4 r2 r4 q4) λd' s5 ⟨z2,H5,I5,r5,k2,e2,q5⟩=>?_));subst e2;cases r5;exact QZ ⟨H5,I5,q5⟩
theorem Sd:(Uj:Nat)<2 ^ 63:=by rw[sizeLine_eq];decide
theorem BE:OpR X (binaryOp .Add) (λx y H Q=>∃i j,x=.str i/\y=.str j/\i.length+j.length<=Uj/\Q (.str (i++j)) H):=by intro pins s σ H x y v u Q I rx ry h;obtain⟨i,j,rfl,rfl,hz,q⟩:=h;obtain⟨t,rfl⟩:=rx;obtain⟨t',rfl⟩:=ry;exact add_str (λt' tk=>⟨.str (i++j),H,I.tok _,⟨_,rfl⟩,q⟩) hz
theorem TY{x:V}{us:List Ud}(r:Vals [x] us):∃u,us=[u]/\RelV x u:=by
 cases r with
 |cons r1 r2=>cases r2;exact⟨_,rfl,r1⟩
theorem SV{x y:V}{us:List Ud}(r:Vals [x,y] us):∃u w',us=[u,w']/\RelV x u/\RelV y w':=by
 cases r with
 |cons r1 r2=>
  cases r2 with
  |cons r3 r4=>cases r4;exact⟨_,_,rfl,r1,r3⟩
theorem C0(hc:X.calm=true):ZN X (.builtin "max") (λxs H Q=>∃i j,xs=[.int i,.int j]/\Q (.int (if j > i then j else i)) H):=by
 intro pins s σ H xs us Q I r h;obtain⟨i,j,rfl,q⟩:=h;obtain⟨u,w',rfl,⟨t,rfl⟩,⟨t',rfl⟩⟩:=SV r;refine max_two_ints (I.ok.hd hc) λh' tk k=>⟨_,H,I.kept k,?_,q⟩
 by_cases hj:j > i
 ·rw[Qq hj,Qq hj];exact⟨_,rfl⟩
 ·rw[QG hj,QG hj];exact⟨_,rfl⟩
theorem CZ:ZN X (.type "int") (λxs H Q=>(∃i,xs=[.int i]/\Q (.int i) H) ∨ ∃k,xs=[.bl k]/\Q (.int (if k then 1 else 0)) H):=by
 intro pins s σ H xs us Q I r h;rcases h with ⟨i,rfl,q⟩|⟨k,rfl,q⟩
 ·obtain⟨u,rfl,t,rfl⟩:=TY r;exact call_int_int ⟨.int i,H,I,⟨_,rfl⟩,q⟩
 ·obtain⟨u,rfl,r1⟩:=TY r;cases r1;exact call_int_bool ⟨.int (if k then 1 else 0),H,I.tok _,⟨_,rfl⟩,q⟩
def LenV(K:Frag)(x:V)(H:Hp)(n:Nat):Prop:=
 match x with
 |.str y=>y.length<=Uj/\n=y.length
 |.byt y=>y.size<=Uj/\n=y.size
 |.ref p=>(∃xs,SqL K H p xs/\n=xs.length) ∨ ∃xs,SqT K H p xs/\n=xs.length
 |_=>False
theorem Nx:ZN X (.builtin "len") (λxs H Q=>∃x n,xs=[x]/\LenV X.K x H n/\Q (.int n) H):=by
 intro pins s σ H xs us Q I r h;obtain⟨x,n,rfl,e,q⟩:=h;obtain⟨u,rfl,rx⟩:=TY r;have hl:=Sd;have hs:Uj=16777216:=sizeLine_eq;cases x with
 |str y=>obtain⟨t,rfl⟩:=rx;obtain⟨hy,e'⟩:y.length<=Uj/\n=y.length:=e;subst e';exact len_str (by omega) ⟨.int _,H,I.tok _,⟨_,rfl⟩,q⟩
 |byt y=>obtain⟨t,rfl⟩:=rx;obtain⟨hy,e'⟩:y.size<=Uj/\n=y.size:=e;subst e';exact PySem.W.len_bytes (by omega) ⟨.int _,H,I.tok _,⟨_,rfl⟩,q⟩
 |ref p=>
  cases rx;have e':(∃xs,SqL X.K H p xs/\n=xs.length) ∨ ∃xs,SqT X.K H p xs/\n=xs.length:=e;rcases e' with ⟨xs,hx,e'⟩|⟨xs,hx,e'⟩
  ·subst e';obtain⟨its,r',pl,hz⟩:=I.list hx;have hlen:=r'.length;exact Calls.call_len_list pl.isList (by simp only[QO];omega) ⟨.int xs.length,H,I.tok _,⟨_,by simp only[QO];rw[hlen]⟩,q⟩
  ·subst e';obtain⟨its,r',pl,hz⟩:=I.tuple hx;have hlen:=r'.length;exact len_tuple pl (by simp only[QO];omega) ⟨.int xs.length,H,I.tok _,⟨_,by simp only[QO];rw[hlen]⟩,q⟩
 |_=>exact(show False from e).elim
end
structure Room(k:Nat)(A:Around):Prop where
 hd:A.handled=none
 dp:A.depth+3*k+5<recursionLimit
 un:A.units+16*k+200<cLine
 gd:A.guards=some []
theorem Room.mono{j k:Nat}{A:Around}(r:Room k A)(h:j<=k):Room j A:=⟨r.hd,by have:=r.dp;omega,by have:=r.un;omega,r.gd⟩
theorem Room.deeper{k:Nat}{A:Around}(r:Room (k+1) A)(env:Env):Room k (A.deeper env):=
 ⟨r.hd,by have:=r.dp;show A.depth+1+3*k+5<_;omega,by have:=r.un;show A.units+3+16*k+200<_;omega,r.gd⟩
theorem Room.depth{k:Nat}{A:Around}(r:Room k A):A.depth<recursionLimit:=by have:=r.dp;omega
theorem Room.units{k:Nat}{A:Around}(r:Room k A):A.units+64<cLine:=by have:=r.un;omega
def tNil:TA:=λ_ H Q=>Q [] H
def LR(ta:TE)(tr:TA):TA:=λσ H Q=>ta σ H λx H1=>tr σ H1 λxs H2=>Q (x::xs) H2
section
variable{X:Cx}{e:Ui}{es:List Ui}{te:TE}{t:TA}{pos:Pos}
theorem Xp:PA X [] tNil:=λ_ _ _ _ H Q I h=>Calls.spliced_nil ⟨[],H,I,.nil,h⟩
theorem Xk(ha:PE X e te)(hr:PA X es t)(hs:Ul (e::es) X.env=(false,eval e X.env)::Ul es X.env:=by rfl):PA X (e::es) (LR te t):=by intro pos pins s σ H Q I h;rw[hs];show Uk _ _ (spliced ((false,eval e X.env)::backTo pos (Ul es X.env))) _ _ s;refine Calls.spliced_cons (thn (ha pins s σ H _ I h) λu s1 ⟨x,H1,I1,r1,q1⟩=>?_);exact thn (hr pos pins s1 σ H1 _ I1 q1) λus s2 ⟨xs,H2,I2,r2,q2⟩=>⟨x::xs,H2,I2,.cons r1 r2,q2⟩
def tTup(t:TA):TE:=λσ H Q=>t σ H λxs H1=>xs.length<=Uj/\∀p,H1 p=none->Q (.ref p) (upd H1 p (.tup xs))
def tLst(t:TA):TE:=λσ H Q=>t σ H λxs H1=>xs.length<=Uj/\∀p,H1 p=none->Q (.ref p) (upd H1 p (.lst xs))
theorem GJ{x1}(h:PA X es t):PE X (.Tuple es x1 pos) (tTup t):=by intro pins s σ H Q I hq;refine wpAny_Tuple_spliced (thn (h pos pins s σ H _ I hq) λus s1 ⟨xs,H1,I1,r,z,q⟩=>⟨by rw[←r.length];exact z,?_⟩);have hf:H1 s1.heap.objs.size=none:=I1.hok.fresh (Qp _);refine⟨.ref s1.heap.objs.size,upd H1 s1.heap.objs.size (.tup xs),I1.laid (t':=s1.toks) (λb u e=>Qi _ e) (Qp _) ?_,rfl,q _ hf⟩;exact⟨z,us,r,⟨_,Qx _ rfl,rfl,_,rfl⟩⟩
theorem PL(h:PA X es t):PE X (.List es pos) (tLst t):=by intro pins s σ H Q I hq;refine wpAny_List_spliced (thn (h pos pins s σ H _ I hq) λus s1 ⟨xs,H1,I1,r,z,q⟩=>⟨by rw[←r.length];exact z,?_⟩);have hf:H1 s1.heap.objs.size=none:=I1.hok.fresh (Qp _);refine⟨.ref s1.heap.objs.size,upd H1 s1.heap.objs.size (.lst xs),I1.laid (t':=s1.toks) (λb u e=>Qi _ e) (Qp _) ?_,rfl,q _ hf⟩;exact⟨z,us,0,r,Qx _ rfl⟩
end
abbrev Sp:=List V->Hp->VK->XK->Prop
abbrev CXT:=List Env->Hp->Ue->XK->Ud->Ue->Prop
structure Env0(P:Uf)(w:World)(K:Frag)(mg:Str->Option Ud)(base:Heap)(A:Around)(outer:List Env)(s:Ue)(H:Hp):Prop where
 frames:A.frames=some outer
 mod:Mod K mg base
 bs:∀b o,base.get? b=some o->s.heap.get? b=some o/\H b=none
 bsz:base.objs.size<=s.heap.objs.size
 funs:s.heap.FunFrames base outer
 frf:∀b∈frs outer,H b=none
 hok:HOk P w H s.heap
 bare:AllBare s.gens
def CE(outer:List Env)(P:Uf)(w:World)(H:Hp)(s:Ue)(Q:VK)(u:Ud)(s':Ue):Prop:=
 ∃v H',s'.os=s.os/\AllBare s'.gens/\Un (frs outer) [] H H' s.heap s'.heap/\HOk P w H' s'.heap/\RelV v u/\Q v H'
def CR(CX:CXT)(outer:List Env)(P:Uf)(w:World)(H:Hp)(s:Ue)(Q:VK)(E:XK)(r:Result)(s':Ue):Prop:=
 match r with
 |.ok (.ret u)=>CE outer P w H s Q u s'
 |.ok _=>False
 |.error e=>CX outer H s E e s'
structure FnOk(P:Uf)(w:World)(K:Frag)(mg:Str->Option Ud)(base:Heap)(CX:CXT)(k:Nat)(f:Ug)(fd:Uh)(ps:List Str)(sp:Sp):Prop where
 len:∀vs H Q E,sp vs H Q E->vs.length=ps.length
 run:∀(A:Around)(outer:List Env)(s:Ue)(H:Hp)(args:Args)(us:List Ud)(vs:List V)(Q:VK)(E:XK),Room k A->Env0 P w K mg base A outer s H->BindsTo s fd args (ps.zip us)->Vals vs us->sp vs H Q E ->
  codeAny (model P w) A (.call (.ref f) args) (CR CX outer P w H s Q E) s
section
variable{X:Cx}{pins:List (Ug×Obj)}{σ:St}{H:Hp}{s s':Ue}
theorem Inv.env0(I:Inv X pins σ H s):Env0 X.prog X.w X.K X.mg X.base X.A X.stack s H:=
 ⟨I.ok.frames,I.ok.mod,I.bs,QQ I.ok.bsz I.sz,I.stack,I.stkFree,I.hok,I.bare⟩
theorem Inv.after{Q:VK}{u:Ud}(I:Inv X pins σ H s)(h:CE X.stack X.prog X.w H s Q u s'):EP X pins σ Q u s':=by obtain⟨v,H',os,bare,un,hok,r,q⟩:=h;obtain⟨hh,g,d,t,os'⟩:=s';obtain rfl:os'=s.os:=os;exact⟨v,H',I.call (h':=hh) (g':=g) (d':=d) (t':=t) (ch:=[]) un hok bare (λb z=>absurd z (by simp)),r,q⟩
end
def LQ(sp:Sp)(dvs:List V)(E:XK)(t:TA):TE:=λσ H Q=>t σ H λvs H1=>sp (vs++dvs) H1 Q E
def Wl(K:Frag)(fd:Uh)(ps:List Str)(ds:List Ud):Prop:=
 ∀(s:Ue)(us:List Ud),K.In s.heap->(us++ds).length=ps.length->BindsTo s fd ⟨us,[]⟩ (ps.zip (us++ds))
theorem Wl.all{K:Frag}{fd:Uh}{ps:List Str}(h:∀us:List Ud,us.length=ps.length->bindArgs fd ⟨us,[]⟩=pure (ps.zip us)):Wl K fd ps []:=λs us _ hl=>by rw[Jh]at hl⊢;exact .of_eq (h us hl)
def Rh(CX:CXT)(X:Cx)(E:XK):Prop:=∀(pins:List (Ug×Obj))(σ:St)(H:Hp)(s:Ue)(e:Ud)(s':Ue),Inv X pins σ H s->CX X.stack H s E e s'->X.xe e s'
section
variable{X:Cx}{CX:CXT}{k:Nat}{f C:Ug}{fd:Uh}{ps:List Str}{sp:Sp}{dvs:List V}{ds:List Ud}{E:XK}{x m:Str}{p pos apos:Pos}{e o:Ui}{es:List Ui}{ta:TE}{t:TA}
theorem Fo{pins:List (Ug×Obj)}{σ:St}{H:Hp}{s:Ue}{Q:VK}{us:List Ud}{vs:List V}(F:FnOk X.prog X.w X.K X.mg X.base CX k f fd ps sp)(hr:Room k X.A)(hb:Wl X.K fd ps ds)(hd:Vals dvs ds)(hx:Rh CX X E)
  (I:Inv X pins σ H s) (r:Vals vs us) (h:sp (vs++dvs) H Q E):Uk (model X.prog X.w) X.A (call (.ref f) us) (EP X pins σ Q) X.xe s:=by
 have r2:Vals (vs++dvs) (us++ds):=r.append hd;have hl:(us++ds).length=ps.length:=by rw[←r2.length];exact F.len _ _ _ _ h
 refine wpAny_call (codeAny_mono (F.run X.A X.stack s H ⟨us,[]⟩ (us++ds) (vs++dvs) Q E hr I.env0 (hb s us I.kIn hl) r2 h) λr s' hq=>?_);cases r with
 |error e=>exact hx pins σ H s e s' I hq
 |ok fl=>
  cases fl with
  |ret u=>exact I.after hq
  |next=>exact False.elim hq
  |brk=>exact False.elim hq
  |cont=>exact False.elim hq
theorem EE(F:FnOk X.prog X.w X.K X.mg X.base CX k f fd ps sp)(hr:Room k X.A)(hg:Gl X x)(hm:X.mg x=some (.ref f))(hk:PySem.W.keepIn X.K (.ref f)=true)(hb:Wl X.K fd ps ds)(hd:Vals dvs ds)(hx:Rh CX X E)
  (ha:PA X (e::es) t) (hdb:(x==("__debug__" : Str))=false:=by decide) (he:Ul (e::es) X.env=(false,eval e X.env)::Ul es X.env:=by rfl) (hpl:(backTo pos (Ul es X.env)).any (·.1)=false:=by rfl) :
  PE X (.Call (.Name x p) (e::es) [] pos) (LQ sp dvs E t):=by
 intro pins s σ H Q I h;refine wpAny_Call_Name_kw (O0 I hg hm ?_ hdb);refine PySem.W.callWith_K (h₀:=X.base) I.ok.mod.kin hk (thn (ha pos pins s σ H _ I h) λus s1 ⟨vs,H1,I1,r,q⟩=>⟨I1.kIn,?_⟩) he hpl;exact Fo F hr hb hd hx I1 r q
end
structure Tr(N P:List Str)(sc:Scope):Prop where
 kind:sc.kind=.function
 co:sc.isCoroutine=false
 gen:sc.isGenerator=false
 nd:N.Nodup
 pre:N.take P.length=P
 par:∀x∈P,sc.names.lookup x=some .local∨sc.names.lookup x=some .cell
 nofree:∀y∈sc.names,y.2≠.free
theorem Mo{kindOf:Str->Option NameKind}{x:Str}:∀{binds:List (Str×Ud)}{m:Str->Option Ud},(∀v,(x,v)∉binds)->bindL kindOf binds m x=m x
 |[],_,_=>rfl
 |(n,v)::r,m,h=>by
  unfold bindL;rw[Mo λw hw=>h w (Qu _ hw)];split
  ·have:x≠n:=by rintro rfl;exact h v Qo
   simp[this]
  ·rfl
theorem Mn{kindOf:Str->Option NameKind}{x:Str}:∀{binds:List (Str×Ud)}{m:Str->Option Ud},(∀v,(x,v)∉binds)->bindC kindOf binds m x=m x
 |[],_,_=>rfl
 |(n,v)::r,m,h=>by
  unfold bindC;rw[Mn λw hw=>h w (Qu _ hw)];split
  ·rfl
  ·have:x≠n:=by rintro rfl;exact h v Qo
   simp[this]
theorem Mm{kindOf:Str->Option NameKind}{x:Str}{v:Ud}:∀{P:List Str}{vs:List Ud}{i:Nat}{m:Str->Option Ud},P.Nodup->P[i]?=some x->vs[i]?=some v->kindOf x=some .local ->
  bindL kindOf (P.zip vs) m x=some v
 |[],_,_,_,_,h,_,_=>by simp at h
 |_::_,[],_,_,_,_,h,_=>by simp at h
 |p::P,w::vs,0,m,nd,h1,h2,hk=>by simp at h1 h2;subst h1;subst h2;show bindL kindOf ((p,w)::P.zip vs) m p=_;unfold bindL;rw[Mo λv hv=>(JC.mp nd).1 (List.of_mem_zip hv).1,Qq hk];simp
 |p::P,w::vs,i+1,m,nd,h1,h2,hk=>by show bindL kindOf ((p,w)::P.zip vs) m x=_;unfold bindL;exact Mm (i:=i) (List.nodup_cons.mp nd).2 (by simpa using h1) (by simpa using h2) hk
theorem Ml{kindOf:Str->Option NameKind}{x:Str}{v:Ud}:∀{P:List Str}{vs:List Ud}{i:Nat}{m:Str->Option Ud},P.Nodup->P[i]?=some x->vs[i]?=some v->kindOf x≠some .local ->
  bindC kindOf (P.zip vs) m x=some v
 |[],_,_,_,_,h,_,_=>by simp at h
 |_::_,[],_,_,_,_,h,_=>by simp at h
 |p::P,w::vs,0,m,nd,h1,h2,hk=>by simp at h1 h2;subst h1;subst h2;show bindC kindOf ((p,w)::P.zip vs) m p=_;unfold bindC;rw[Mn λv hv=>(JC.mp nd).1 (List.of_mem_zip hv).1,QG hk];simp
 |p::P,w::vs,i+1,m,nd,h1,h2,hk=>by show bindC kindOf ((p,w)::P.zip vs) m x=_;unfold bindC;exact Ml (i:=i) (List.nodup_cons.mp nd).2 (by simpa using h1) (by simpa using h2) hk
def YR(N:List Str)(vs:List V):St:=vs.map some++Up (N.length-vs.length) none
def Yd(CX:CXT)(P:Uf)(w:World)(K:Frag)(mg:Str->Option Ud)(base:Heap)(N:List Str)(qual:Str)(scope:Scope)(f:Ug)(cd:Ud)(A:Around)(outer:List Env)(s:Ue)(H:Hp)(E:XK):Cx where
 prog:=P
 w:=w
 K:=K
 mg:=mg
 base:=base
 A:=A.deeper (envOfC qual scope s.heap.objs.size f cd)
 N:=N
 s₀:=s
 H₀:=H
 env:=envOfC qual scope s.heap.objs.size f cd
 outer:=outer
 stack:=envOfC qual scope s.heap.objs.size f cd::outer
 ex:=[]
 calm:=true
 fn:=λ_=>true
 pn:=[]
 xe:=λe s'=>Uk (model P w) (A.deeper (envOfC qual scope s.heap.objs.size f cd)) (leaving (envOfC qual scope s.heap.objs.size f cd) e) (λ_ s''=>CX outer H s E e s'') (λe' s''=>CX outer H s E e' s'') s'
theorem Nw{sc:Scope}{n:Nat}{x:Str}(h:sc.names.lookup x=some .cell):∃c,(cellsFrom n sc.names []).lookup x=some c:=by have q:=PySem.W.cellsFrom_some sc.names n [] (.inl h);exact Option.isSome_iff_exists.mp q
theorem CY{CX:CXT}{P:Uf}{w:World}{K:Frag}{mg:Str->Option Ud}{base:Heap}{N ps:List Str}{qual:Str}{scope:Scope}{f:Ug}{cd:Ud}{A:Around}{outer:List Env}{s s1:Ue}{H:Hp}{E:XK}{us:List Ud}{vs:List V}
  (S:Tr N ps scope) (hd:A.handled=none) (e0:Env0 P w K mg base A outer s H) (hl:vs.length=ps.length) (r:Vals vs us)
  (x:InCallC s s.heap.objs.size (bindL (envOfC qual scope s.heap.objs.size f cd).kindOf (ps.zip us) λ_=>none) (cellsFrom (s.heap.objs.size+1) scope.names []) (bindC (envOfC qual scope s.heap.objs.size f cd).kindOf (ps.zip us) λ_=>none) s1) :
  Inv (Yd CX P w K mg base N qual scope f cd A outer s H E) [] (YR N vs) H s1:=by
 have hpl:ps.length<=N.length:=by have:=JW List.length S.pre;rw[Ju]at this;omega
 obtain⟨h1,tk,rfl,hk⟩:=x.done;have noA:∀b:Ug,b∉(Yd CX P w K mg base N qual scope f cd A outer s H E).ex:=λb z=>absurd (show b∈([]:List Ug)from z) (by simp)
 refine⟨⟨e0.mod,S.kind,rfl,rfl,Qp _,λy z c h1 h2=>?_,λy hy=>?_,λy c _ h=>?_,λ_=>hd,Around.frames_deeper e0.frames,.inr ⟨rfl,rfl⟩,λb z=>absurd z (noA b),e0.bs,e0.bsz,λb _ _=>noA b,λb z=>absurd z (noA b),e0.funs,e0.frf⟩,
  rfl,e0.bare,Un.kept hk,⟨_,x.toInCall.ns,λi y v h1 h2 h3=>?_⟩,λy c h=>⟨_,x.cell y c h⟩,e0.hok.fresh (Nat.le_refl _),λy c h=>?_,λp hp=>absurd (show p∈([]:List (Ug×Obj))from hp) (by simp),e0.hok.kept hk,?_⟩
 ·exact name_of_addr x.apart (JF h1) (JF h2)
 ·have hy:scope.names.lookup y=some .cell∨scope.names.lookup y=some .free:=hy;rcases hy with hy|hy
  ·exact Nw hy
  ·exact absurd rfl (S.nofree _ (JF hy))
 ·exact Nat.le_of_lt (x.above y c (JF h))
 ·have hi:i<vs.length:=by
   unfold YR at h2;by_cases hi:i<vs.length
   ·exact hi
   ·rw[List.getElem?_append_right (by simpa using hi)]at h2;rw[Qw]at h2;split at h2<;>cases h2
  have ha:vs[i]?=some v:=by
   unfold YR at h2;rw[List.getElem?_append_left (by simpa using hi),List.getElem?_map]at h2;cases e:vs[i]? with
   |none=>rw[e]at h2;cases h2
   |some a=>rw[e]at h2;cases h2;rfl
  obtain⟨u,hu,rv⟩:=r.get ha;have hp:ps[i]?=some y:=by rw[←S.pre,List.getElem?_take_of_lt (by omega)];exact h1
  have ndP:ps.Nodup:=by rw[←S.pre];exact S.nd.sublist (List.take_sublist _ _)
  refine⟨u,rv,?_⟩;rcases S.par y (Qn hp)with k|k
  ·exact .inl ⟨k,Mm ndP hp hu k⟩
  ·obtain⟨c,e⟩:=Nw (n:=s.heap.objs.size+1) k;refine .inr ⟨.inl k,c,e,?_⟩;have q:=x.cell y c e;rw[Ml ndP hp hu (by show scope.names.lookup y≠_;rw[k];decide)]at q;exact q
 ·exact e0.hok.fresh (Nat.le_of_lt (x.above y c (JF h)))
 ·unfold YR;show _=N.length;rw[Qj,Qb,QE];omega
theorem LN{CX:CXT}{P:Uf}{w:World}{K:Frag}{mg:Str->Option Ud}{base:Heap}{k:Nat}{f:Ug}{name qual:Str}{params:Arguments}{body:List Stmt}{scope:Scope}{dV kV doc pm cdv ct oc:Ud}{an od:Option Ug}
  {osl:Array (Option Ud)} {N ps:List Str} {sp:Sp} (lk:K.lookup f=some ⟨oc,od,.func (PySem.W.fnOf name qual params body scope dV kV doc pm an cdv ct),osl⟩) (hcd:PySem.W.codeIn K cdv qual=true) (S:Tr N ps scope)
  (len:∀vs H Q E,sp vs H Q E->vs.length=ps.length)
  (hbody:∀(A:Around)(outer:List Env)(s:Ue)(H:Hp)(vs:List V)(Q:VK)(E:XK),Room k (A.deeper (envOfC qual scope s.heap.objs.size f cdv))->sp vs H Q E ->
   ∃t,PSs (Yd CX P w K mg base N qual scope f cdv A outer s H E) body t/\t {nx:=λ_ H'=>Q .non H',rt:=Q} (YR N vs) H) :
  FnOk P w K mg base CX (k+1) f (PySem.W.fnOf name qual params body scope dV kV doc pm an cdv ct) ps sp:=by
 refine⟨len,λA outer s H args us vs Q E hr e0 hb r hsp=>?_⟩;have hl:=len _ _ _ _ hsp;have KX:K.In s.heap:=e0.mod.kin.keeps λb o e=>(e0.bs b o e).1;have lim:s.heap.NoLimit:=e0.mod.nolimit.keeps λb o e=>(e0.bs b o e).1
 have hkind:∀y∈ps.zip us,scope.names.lookup y.1=some .local∨(scope.names.lookup y.1=some .cell/\((cellsFrom (s.heap.objs.size+1) scope.names []).lookup y.1).isSome=true):=λ⟨n,v⟩ hy=>by
  rcases S.par n (List.of_mem_zip hy).1 with q|q
  ·exact .inl q
  ·exact .inr ⟨q,PySem.W.cellsFrom_some _ _ _ (.inl q)⟩
 refine codeAny_call_function hr.depth (KX _ _ lk) rfl S.co S.gen rfl (PySem.W.codeRec_of KX hcd) (hb _ _ _ _ ?_);refine wpAny_newFunctionEnv_cells S.kind hkind λenv he s1 x=>?_;subst he
 refine⟨lim.keeps x.toInCall.keep,codeAny_func ?_⟩;obtain⟨t,ht,hq⟩:=hbody A outer s H vs Q E (hr.deeper _) hsp;have I:Inv (Yd CX P w K mg base N qual scope f cdv A outer s H E) [] (YR N vs) H s1:=CY S hr.hd e0 hl r x;refine QA (ht [] s1 (YR N vs) H _ I hq) (λfl s' hs=>?_) λe s' hs=>hs
 have fin:∀{σ':St}{H':Hp}{v:V}{u:Ud},Inv (Yd CX P w K mg base N qual scope f cdv A outer s H E) [] σ' H' s'->RelV v u->Q v H'->CE outer P w H s Q u s':=
  λ{σ' H' v u} J rv q=>⟨v,H',J.os,J.bare,J.base,J.hok,rv,q⟩
 cases fl with
 |ret u=>obtain⟨v,σ',H',J,rv,q⟩:=hs;exact fin J rv q
 |next=>obtain⟨σ',H',J,q⟩:=hs;exact fin (v:=V.non) (u:=Value.none) J rfl q
 |brk=>obtain⟨_,_,_,q⟩:=hs;exact False.elim q
 |cont=>obtain⟨_,_,_,q⟩:=hs;exact False.elim q
section
variable{X:Cx}{x:Str}{p pos:Pos}{e:Ui}{es:List Ui}{t:TA}{id T:String}{r:List V->Hp->VK->Prop}
def tCB(r:List V->Hp->VK->Prop)(t:TA):TE:=λσ H Q=>t σ H λvs H1=>r vs H1 Q
theorem Tx(hc:ZN X (.builtin id) r)(hg:Gl X x)(hm:X.mg x=none)(hv:bootBuiltins x=some (.builtin id))(ha:PA X (e::es) t)(hn:x ≠ "__name__" :=by decide)(hdb:(x==("__debug__" : Str))=false:=by decide)
  (he:Ul (e::es) X.env=(false,eval e X.env)::Ul es X.env:=by rfl) (hpl:(backTo pos (Ul es X.env)).any (·.1)=false:=by rfl):PE X (.Call (.Name x p) (e::es) [] pos) (tCB r t):=by
 intro pins s σ H Q I h;refine wpAny_Call_Name_kw (Wu I hg hm hv ?_ hn hdb);exact PyProof.Rows.callWith_builtin1 (thn (ha pos pins s σ H _ I h) λus s1 ⟨vs,H1,I1,r1,q1⟩=>hc pins s1 σ H1 vs us Q I1 r1 q1) he hpl
theorem TK(hc:ZN X (.type T) r)(hg:Gl X x)(hm:X.mg x=none)(hv:bootBuiltins x=some (.type T))(ha:PA X (e::es) t)(hn:x ≠ "__name__" :=by decide)(hdb:(x==("__debug__" : Str))=false:=by decide)
  (he:Ul (e::es) X.env=(false,eval e X.env)::Ul es X.env:=by rfl) (hpl:(backTo pos (Ul es X.env)).any (·.1)=false:=by rfl):PE X (.Call (.Name x p) (e::es) [] pos) (tCB r t):=by
 intro pins s σ H Q I h;refine wpAny_Call_Name_kw (Wu I hg hm hv ?_ hn hdb);exact Jl (thn (ha pos pins s σ H _ I h) λus s1 ⟨vs,H1,I1,r1,q1⟩=>hc pins s1 σ H1 vs us Q I1 r1 q1) he hpl
end
end L2
namespace HT
open PySem PyProof.Rows
section
variable{prog:Uf}{w:World}{A:Around}{E:Ud->Ue->Prop}{s:Ue}
def sIx(n d:Nat):Option Int->Nat
 |none=>d
 |some v=>if v<0 then(v+(n:Int)).toNat else min v.toNat n
end
end HT
namespace L2
open PySem PySem.Spec PyProof.Rows
abbrev TO:=St->Hp->(Option Int->Hp->Prop)->Prop
def PO(X:Cx)(e:Option Ui)(t:TO):Prop:=
 ∀(pins:List (Ug×Obj))(s:Ue)(σ:St)(H:Hp)(Q:Option Int->Hp->Prop),Inv X pins σ H s->t σ H Q ->
  Uk (model X.prog X.w) X.A (evalPart e X.env) (λu s'=>∃o H',Inv X pins σ H' s'/\IsPart u o/\Q o H') X.xe s
def ED:TO:=λ_ H Q=>Q none H
def LM(t:TE):TO:=λσ H Q=>t σ H λx H1=>∃i,x=.int i/\Q (some i) H1
section
variable{X:Cx}{e:Ui}{te:TE}{lo hi:Option Ui}{tl th:TO}{pos p2:Pos}
theorem EC:PO X none ED:=by intro pins s σ H Q I h;rw[evalPart_none];exact Qk ⟨none,H,I,.none,h⟩
theorem EB(h:PE X e te):PO X (some e) (LM te):=by
 intro pins s σ H Q I hw;rw[evalPart_some];refine thn (h pins s σ H _ I hw) λu s1 ⟨x,H1,I1,r1,q1⟩=>?_
 obtain⟨i,rfl,q⟩:=q1;obtain⟨t,rfl⟩:=r1;exact⟨some i,H1,I1,.int i t,q⟩
def SlR(X:Cx)(r:V->Option Int->Option Int->Hp->VK->Prop):Prop:=
 ∀(pins:List (Ug×Obj))(s:Ue)(σ:St)(H:Hp)(x:V)(v vl vu:Ud)(lo hi:Option Int)(sl:Ug)(Q:VK),Inv X pins σ H s->RelV x v->s.heap.IsSliceOf sl vl vu .none->IsPart vl lo->IsPart vu hi->r x lo hi H Q ->
  ∃T id,typeLookup (.type T) "__getitem__" = pure (some (.builtin id))/\s.TypeIs v T/\Uk (model X.prog X.w) X.A (getItem v (.ref sl)) (EP X pins σ Q) X.xe s
theorem SlR.or{r r':V->Option Int->Option Int->Hp->VK->Prop}(h:SlR X r)(h':SlR X r'):SlR X (λx lo hi H Q=>r x lo hi H Q∨r' x lo hi H Q):=by
 intro pins s σ H x v vl vu lo hi sl Q I rx hs pl pu q;rcases q with q|q
 ·exact h pins s σ H x v vl vu lo hi sl Q I rx hs pl pu q
 ·exact h' pins s σ H x v vl vu lo hi sl Q I rx hs pl pu q
def tSl(r:V->Option Int->Option Int->Hp->VK->Prop)(te:TE)(tl th:TO):TE:=λσ H Q=>te σ H λx H1=>tl σ H1 λl H2=>th σ H2 λu H3=>r x l u H3 Q
theorem Cq{r:V->Option Int->Option Int->Hp->VK->Prop}(hr:SlR X r)(he:PE X e te)(hl:PO X lo tl)(hu:PO X hi th):PE X (.Subscript e (.Slice lo hi none p2) pos) (tSl r te tl th):=by
 intro pins s σ H Q I h;refine Subscript_ (thn (he pins s σ H _ I h) λv s1 ⟨x,H1,I1,r1,q1⟩=>?_);refine wpAny_Slice (thn (hl pins s1 σ H1 _ I1 q1) λvl s2 ⟨l,H2,I2,pl,q2⟩=>thn (hu pins s2 σ H2 _ I2 q2) λvu s3 ⟨u,H3,I3,pu,q3⟩=>?_);rw[evalPart_none];refine Qk ?_;have I4:Inv X pins σ H3 {s3 with heap:=s3.heap.push {cls:=.type "slice", data:=.fields #[vl,vu,.none]}}:=I3.kept (t':=s3.toks) λb ob q=>Qi _ q
 obtain⟨T,id,hT,ht,hg⟩:=hr pins {s3 with heap:=s3.heap.push {cls:=.type "slice", data:=.fields #[vl,vu,.none]}} σ H3 x v vl vu l u s3.heap.objs.size Q I4 r1 (Heap.IsSliceOf.new ..) pl pu q3;show Uk (model X.prog X.w) X.A (subscriptTail e (.Slice lo hi none p2) v (.ref s3.heap.objs.size)) (EP X pins σ Q) X.xe {s3 with heap:=s3.heap.push {cls:=.type "slice", data:=.fields #[vl,vu,.none]}};exact tail_any (ops:=[.ref s3.heap.objs.size,v]) ht hT hg (by with_unfolding_all rfl)
def Yw(xs:List V)(lo hi:Option Int):List V:=(xs.drop (HT.sIx xs.length 0 lo)).take (HT.sIx xs.length xs.length hi-HT.sIx xs.length 0 lo)
theorem Av(xs:List V)(lo hi:Option Int):(Yw xs lo hi).length<=xs.length:=by unfold Yw;rw[Ju,JI];omega
end
def ixN(n:Nat)(i:Int):Option Nat:=if 0<=i then(if i<n then some i.toNat else none)else if -(n:Int)<=i then some (i+n).toNat else none
def atI{α:Type}(xs:List α)(i:Int):Option α:=(ixN xs.length i).bind λj=>xs[j]?
theorem EA{n:Nat}{i:Int}{j:Nat}(h:ixN n i=some j):seqIndex? i n=some j/\j<n /\ -(n:Int)<=i/\i<n:=by
 unfold ixN at h;by_cases h0:0<=i
 ·rw[Qq h0]at h;by_cases h1:i<n
  ·rw[Qq h1]at h;have e:i.toNat=j:=Qt h;exact⟨by rw[seqIndex_of h0 h1,e],by omega,by omega,h1⟩
  ·rw[QG h1]at h;cases h
 ·rw[QG h0]at h;by_cases h1 : -(n:Int)<=i
  ·rw[Qq h1]at h;have e:(i+n).toNat=j:=Qt h;exact⟨by rw[seqIndex_neg (by omega) h1,e],by omega,h1,by omega⟩
  ·rw[QG h1]at h;cases h
theorem Rx{α:Type}{xs:List α}{i:Int}{v:α}(h:atI xs i=some v):∃j,seqIndex? i xs.length=some j/\xs[j]?=some v/\j<xs.length /\ -(xs.length:Int)<=i/\i<xs.length:=by
 unfold atI at h;cases e:ixN xs.length i with
 |none=>rw[e]at h;cases h
 |some j=>rw[e]at h;obtain⟨h1,h2,h3,h4⟩:=EA e;exact⟨j,h1,h,h2,h3,h4⟩
theorem KQ{α:Type}{xs:List α}{j:Nat}{v:α}(h:xs[j]?=some v):atI xs (j:Int)=some v:=by
 have hj:j<xs.length:=(Qg.mp h).1;have e:ixN xs.length (j:Int)=some j:=by unfold ixN;rw[if_pos (by omega),if_pos (by omega)];simp
 unfold atI;rw[e];exact h
def Rw(b:Ui):Prop:=∀o i,subscripted b false o i=operate [o,i] (getItem o i)
def IxR(X:Cx)(r:R2):Prop:=
 ∀(value slice:Ui)(pins:List (Ug×Obj))(s:Ue)(σ:St)(H:Hp)(x y:V)(v u:Ud)(Q:VK),Inv X pins σ H s->RelV x v->RelV y u->r x y H Q ->
  subscripted slice false v u=operate [v,u] (getItem v u)->Uk (model X.prog X.w) X.A (subscriptTail value slice v u) (EP X pins σ Q) X.xe s
def MtR(X:Cx)(id:String)(r:V->List V->Hp->VK->Prop):Prop:=
 ∀(pins:List (Ug×Obj))(s:Ue)(σ:St)(H:Hp)(x:V)(xs:List V)(v:Ud)(us:List Ud)(Q:VK),Inv X pins σ H s->RelV x v->Vals xs us->r x xs H Q ->
  Uk (model X.prog X.w) X.A (call (.builtin id) (v::us)) (EP X pins σ Q) X.xe s
section
variable{X:Cx}{a b:Ui}{ta tb:TE}{pos:Pos}
theorem IxR.or{r r':R2}(h:IxR X r)(h':IxR X r'):IxR X (λx y H Q=>r x y H Q∨r' x y H Q):=by
 intro value slice pins s σ H x y v u Q I rx ry q hs;rcases q with q|q
 ·exact h value slice pins s σ H x y v u Q I rx ry q hs
 ·exact h' value slice pins s σ H x y v u Q I rx ry q hs
theorem Pu{r:R2}(hr:IxR X r)(ha:PE X a ta)(hb:PE X b tb)(hs:Rw b):PE X (.Subscript a b pos) (tOp r ta tb):=by intro pins s σ H Q I h;exact Subscript_ (Vw ha hb I h λv u s2 x y H2 I2 rx ry q=>hr a b pins s2 σ H2 x y v u Q I2 rx ry q (hs _ _))
def rIxL(K:Frag):R2:=λx y H Q=>∃p xs i v,x=.ref p/\y=.int i/\SqL K H p xs/\atI xs i=some v/\Q v H
def rIxT(K:Frag):R2:=λx y H Q=>∃p xs i v,x=.ref p/\y=.int i/\SqT K H p xs/\atI xs i=some v/\Q v H
def rIxS:R2:=λx y H Q=>∃z i c,x=.str z/\y=.int i/\z.length<=Uj/\atI z.cps.toList i=some c/\Q (.str ⟨#[c]⟩) H
theorem Ez:IxR X (rIxL X.K):=by
 intro value slice pins s σ H x y v u Q I rx ry h hs;obtain⟨p,xs,i,z,rfl,rfl,hq,he,q⟩:=h;cases rx;obtain⟨t,rfl⟩:=ry;obtain⟨its,r,pl,hz⟩:=I.list hq;obtain⟨j,h1,h2,h3,h4,h5⟩:=Rx he;obtain⟨w,ew,rw'⟩:=r.get h2;have hl:=r.length;have hn:=Sd;have fin:EP X pins σ Q w s:=⟨z,H,I,rw',q⟩
 by_cases h0:0<=i
 ·have hj:i.toNat=j:=by
   rw[seqIndex_of h0 h5]at h1;exact Qt h1
  exact item_listR pl.isList h0 (by omega) (by rw[hj];simpa using ew) fin hs
 ·have hj:(i+(its.toArray.size:Int)).toNat=j:=by
   rw[seqIndex_neg (by omega) h4]at h1;rw[QO,←hl];exact Qt h1
  exact subscriptTail_builtinR (x:=w) pl.isList.typeIs slot_list_getitem.lookup
   (wpAny_getItem_list_neg (Q:=λr s'=>r=w/\EP X pins σ Q r s') pl.isList (by omega) (by rw[List.size_toArray]<;>omega) (by omega) (by rw[hj];simpa using ew) ⟨rfl,fin⟩) hs
theorem Fn:IxR X (rIxT X.K):=by
 intro value slice pins s σ H x y v u Q I rx ry h hs;obtain⟨p,xs,i,z,rfl,rfl,hq,he,q⟩:=h;cases rx;obtain⟨t,rfl⟩:=ry;obtain⟨its,r,pl,hz⟩:=I.tuple hq;obtain⟨j,h1,h2,h3,h4,h5⟩:=Rx he;obtain⟨w,ew,rw'⟩:=r.get h2;have hl:=r.length;have hn:=Sd;have fin:EP X pins σ Q w s:=⟨z,H,I,rw',q⟩
 exact subscriptTail_builtinR (x:=w) pl.typeIs slot_tuple_getitem.lookup
  (getItem_tuple (j:=j) (Q:=λr s'=>r=w/\EP X pins σ Q r s') pl (by omega) (by omega) (by rw[List.size_toArray,←hl];exact h1) (by simpa using ew) ⟨rfl,fin⟩) hs
theorem Fm:IxR X rIxS:=by
 intro value slice pins s σ H x y v u Q I rx ry h hs;obtain⟨z,i,c,rfl,rfl,hz,he,q⟩:=h;obtain⟨t,rfl⟩:=rx;obtain⟨t',rfl⟩:=ry;obtain⟨j,h1,h2,h3,h4,h5⟩:=Rx he;have hl:z.cps.toList.length=z.length:=by simp[Str.length]
 rw[hl]at h1 h4 h5;have hn:=Sd;exact tail_any (typeIs_str s z t) slot_str_getitem.lookup (getItem_str (c:=c) (by have e1:decide (i < -(2 ^ 63:Int))=false:=QC (by omega);have e2:decide (i ≥ 2 ^ 63)=false:=QC (by omega);rw[e1,e2,Bool.or_false]) (by rw[h1];simpa using h2) ⟨.str ⟨#[c]⟩,H,I.tok _,⟨_,rfl⟩,q⟩) hs
def rIx(K:Frag):R2:=λx y H Q=>rIxL K x y H Q∨rIxT K x y H Q∨rIxS x y H Q
theorem PK:IxR X (rIx X.K):=Ez.or (Fn.or Fm)
theorem AO(lo hi:Option Int)(n:Nat):(sliceBounds lo hi none n).1=((HT.sIx n 0 lo:Nat):Int)/\(sliceBounds lo hi none n).2.1=((HT.sIx n n hi:Nat):Int)/\(sliceBounds lo hi none n).2.2=1:=by
 refine⟨?_,?_,rfl⟩
 ·cases lo with
  |none=>simp[sliceBounds,HT.sIx]
  |some i=>
   simp only[sliceBounds,HT.sIx,Option.getD_none,show(1:Int) > 0 by decide,if_true];by_cases h:i<0
   ·simp only[h,if_true]<;>omega
   ·simp only[h,if_false]<;>omega
 ·cases hi with
  |none=>simp[sliceBounds,HT.sIx]
  |some i=>
   simp only[sliceBounds,HT.sIx,Option.getD_none,show(1:Int) > 0 by decide,if_true];by_cases h:i<0
   ·simp only[h,if_true]<;>omega
   ·simp only[h,if_false]<;>omega
theorem AN(its:List Ud)(lo hi:Option Int):slicePick its.toArray lo hi none=((its.drop (HT.sIx its.length 0 lo)).take (HT.sIx its.length its.length hi-HT.sIx its.length 0 lo)).toArray:=by obtain⟨h1,h2,h3⟩:=AO lo hi its.toArray.size;unfold slicePick;rw[h1,h2,h3];simp only[sliceRange_one,pick_run,QO]<;>rfl
def rSlL(K:Frag):V->Option Int->Option Int->Hp->VK->Prop:=λx lo hi H Q=>∃a xs,x=.ref a/\SqL K H a xs/\∀p,H p=none->Q (.ref p) (upd H p (.lst (Yw xs lo hi)))
theorem Ey:SlR X (rSlL X.K):=by intro pins s σ H x v vl vu lo hi sl Q I rx hs pl pu h;obtain⟨a,xs,rfl,hx,q⟩:=h;cases rx;obtain⟨its,r,ht,hz⟩:=I.list hx;have hlen:=r.length;refine⟨"list", _,slot_list_getitem.lookup,ht.isList.typeIs,?_⟩;refine wpAny_getItem_list_slice ht.isList hs pl pu .none (by simp) ?_ (by rw[List.size_toArray]<;>omega);rw[AN,←hlen];refine⟨.ref s.heap.objs.size,_,I.laid (t':=s.toks) (o:=.lst (Yw xs lo hi)) (λb ob q=>Qi _ q) (Qp _) ?_,rfl,q _ (I.hok.fresh (Qp _))⟩;exact⟨QQ (Av xs lo hi) hz,_,0,(r.drop (HT.sIx xs.length 0 lo)).take (HT.sIx xs.length xs.length hi-HT.sIx xs.length 0 lo),Qx _ rfl⟩
theorem MJ:ZN X (.type "list") (λxs H Q=>∃p ys,xs=[.ref p]/\(SqL X.K H p ys∨SqT X.K H p ys)/\∀l,H l=none->Q (.ref l) (upd H l (.lst ys))):=by
 intro pins s σ H xs us Q I r h;obtain⟨p,ys,rfl,hq,q⟩:=h;obtain⟨u,rfl,rx⟩:=TY r;cases rx
 have fin:∀(its:List Ud),Vals ys its->ys.length<=Uj->∀(h':Heap)(c':Nat),(∀b o',s.heap.get? b=some o'->h'.get? b=some o') ->
   h'.get? s.heap.objs.size=some {cls:=.type "list", dict:=none,data:=.seq its.toArray c',slots:=#[]}->EP X pins σ Q (.ref s.heap.objs.size) {s with heap:=h'}:=λits r' hz h' c' kp e=>
  ⟨.ref s.heap.objs.size,_,I.laid (t':=s.toks) kp (Qp _) (show K2 X.prog X.w _ h' _ (.lst ys)from⟨hz,its,c',r',e⟩),rfl,q _ (I.hok.fresh (Qp _))⟩
 rcases hq with hq|hq
 ·obtain⟨its,r',pl,hz⟩:=I.list hq;have hlen:=r'.length;obtain⟨o,ho,hc,n,hd⟩:=pl.isList;exact call_list_seq p (.inl rfl) ho hc hd (λh' c' kp e=>fin its r' hz h' c' kp e) (by simp only[QO]<;>omega)
 ·obtain⟨its,r',pl,hz⟩:=I.tuple hq;have hlen:=r'.length;obtain⟨o,ho,hc,n,hd⟩:=pl;exact call_list_seq p (.inr rfl) ho hc hd (λh' c' kp e=>fin its r' hz h' c' kp e) (by simp only[QO]<;>omega)
def tyV(K:Frag)(T:String)(x:V)(H:Hp):Prop:=match x with
 |.str _=>T = "str"
 |.int _=>T = "int"
 |.ref p=>(T = "list" /\ ∃xs,SqL K H p xs)∨(T = "tuple" /\ ∃o,K.lookup p=some o/\o.cls=.type "tuple" /\ o.dict=none) ∨
   (T = "dict" /\ ((∃kvs,H p=some (.dK kvs)) ∨ ∃kvs,H p=some (.dT kvs)))∨(T = "set" /\ ∃S n,H p=some (.set S n))
 |_=>False
theorem PJ{pins:List (Ug×Obj)}{σ:St}{H:Hp}{s:Ue}{T:String}{x:V}{v:Ud}(I:Inv X pins σ H s)(r:RelV x v)(ty:tyV X.K T x H) :
  s.TypeIs v T/\∀a,v=.ref a->∃ob,s.heap.get? a=some ob/\ob.dict=none:=by
 cases x with
 |str z=>obtain⟨t,rfl⟩:=r;cases (show T = "str" from ty);exact⟨typeIs_str s z t,λ_ e=>nomatch e⟩
 |int i=>obtain⟨t,rfl⟩:=r;cases (show T = "int" from ty);exact⟨typeIs_int s i t,λ_ e=>nomatch e⟩
 |ref p=>
  cases r;rcases ty with ⟨rfl,xs,hq⟩|⟨rfl,o,hk,hc,hd⟩|⟨rfl,hk⟩|⟨rfl,S,n,hk⟩
  ·obtain⟨its,_,pl,_⟩:=I.list hq;refine⟨pl.isList.typeIs,λa e=>?_⟩;cases e;obtain⟨o,n,e,c,hd,_⟩:=pl;exact⟨o,e,hd⟩
  ·refine⟨⟨o,I.kIn p o hk,hc⟩,λa e=>?_⟩;cases e;exact⟨o,I.kIn _ o hk,hd⟩
  ·have z:∃o,s.heap.get? p=some o/\o.ExactDict:=by
    rcases hk with ⟨kvs,hk⟩|⟨kvs,hk⟩
    ·obtain⟨_,_,_,_,o,_,_,e,ex,_⟩:=I.hok p _ hk;exact⟨o,e,ex⟩
    ·obtain⟨_,_,_,_,o,_,_,e,ex,_⟩:=I.hok p _ hk;exact⟨o,e,ex⟩
   obtain⟨o,e,ex⟩:=z;refine⟨⟨o,e,ex.1⟩,λa e2=>?_⟩;cases e2;exact⟨o,e,ex.2.1⟩
  ·obtain⟨o,_,_,_,e,ex,_⟩:=I.hok p _ hk;refine⟨⟨o,e,ex.1⟩,λa e2=>?_⟩;cases e2;exact⟨o,e,ex.2.1⟩
 |_=>exact False.elim ty
def tBM0(K:Frag)(T:String)(r:V->List V->Hp->VK->Prop)(to:TE):TE:=λσ H Q=>to σ H λx H1=>tyV K T x H1/\r x [] H1 Q
def tBM(K:Frag)(T:String)(r:V->List V->Hp->VK->Prop)(to:TE)(t:TA):TE:=λσ H Q=>to σ H λx H1=>tyV K T x H1/\t σ H1 λxs H2=>r x xs H2 Q
variable{o e:Ui}{es:List Ui}{to:TE}{t:TA}{name:Str}{apos cpos:Pos}{T id:String}{r:V->List V->Hp->VK->Prop}
theorem Fl(pa:PlainAttrs T)(slot:Slot T name id)(hty:typeOf (.builtin id)=pure (.type "method_descriptor"))(hm:MtR X id r)(ho:PE X o to)
  (hbase:attributeBase o name X.env (eval o X.env)=eval o X.env:=by rfl) (hline:(apos.endLine==cpos.line)=true:=by rfl):PE X (.Call (.Attribute o name apos) [] [] cpos) (tBM0 X.K T r to):=by
 intro pins s σ H Q I h;refine wpAny_Call_method0_late hbase hline (thn (ho pins s σ H _ I h) λv s1 ⟨x,H1,I1,r1,ty,q1⟩=>?_);obtain⟨h1,h2⟩:=PJ I1 r1 ty;exact⟨T,id,pa,slot,hty,h1,h2,Calls.callWith_builtin rfl (PySem.evalArgs_none (hm pins s1 σ H1 x [] v [] Q I1 r1 .nil q1))⟩
theorem V6(pa:PlainAttrs T)(slot:Slot T name id)(hty:typeOf (.builtin id)=pure (.type "method_descriptor"))(hm:MtR X id r)(ho:PE X o to)(ha:PA X (e::es) t)
  (hbase:attributeBase o name X.env (eval o X.env)=eval o X.env:=by rfl)
  (hfew:((backTo cpos (Ul (e::es) X.env)).all (λx=>!x.1)&&(backToKw cpos (keywordEach [] X.env)).all (λx=>x.1.isSome)
   && decide ((e::es).length+([]:List Keyword).length+(if([]:List Keyword).isEmpty then 0 else 1)<30))=true:=by rfl)
  (hline:(apos.endLine==cpos.line)=true:=by rfl) (hs:Ul (e::es) X.env=(false,eval e X.env)::Ul es X.env:=by rfl) (hplain:(backTo cpos (Ul es X.env)).any (·.1)=false:=by rfl) :
  PE X (.Call (.Attribute o name apos) (e::es) [] cpos) (tBM X.K T r to t):=by
 intro pins s σ H Q I h;refine wpAny_Call_method_late hbase hfew hline rfl (thn (ho pins s σ H _ I h) λv s1 ⟨x,H1,I1,r1,ty,q1⟩=>?_);obtain⟨h1,h2⟩:=PJ I1 r1 ty;refine⟨T,id,pa,slot,hty,h1,h2,?_⟩;have hA:=ha cpos pins s1 σ H1 _ I1 q1;rw[hs]at hA⊢;refine Calls.callWith_builtin (by show(false || (backTo cpos (Ul es X.env)).any (·.1))=false;rw[hplain]<;>rfl) (Calls.evalArgs_plain ?_);exact thn hA λus s2 ⟨vs,H2,I2,r2,q2⟩=>hm pins s2 σ H2 x vs v us Q I2 r1 r2 q2
end
def MtM(X:Cx)(id:String)(r:V->List V->Hp->VK->Prop):Prop:=
 ∀(pins:List (Ug×Obj))(s:Ue)(σ:St)(H:Hp)(x:V)(xs:List V)(v:Ud)(us:List Ud)(Q:VK),Inv X pins σ H s->RelV x v->Vals xs us->r x xs H Q ->
  Uk (model X.prog X.w) X.A (call (.builtin id) (v::us)) (EP X pins σ Q) X.xe s
theorem Vals.one:∀{x:V}{us:List Ud},Vals [x] us->∃u,us=[u]/\RelV x u
 |_,_,.cons r .nil=>⟨_,rfl,r⟩
theorem Vals.two:∀{x y:V}{us:List Ud},Vals [x,y] us->∃u v,us=[u,v]/\RelV x u/\RelV y v
 |_,_,_,.cons r (.cons q .nil)=>⟨_,_,rfl,r,q⟩
theorem Vals.reverse{xs:List V}{us:List Ud}(h:Vals xs us):Vals xs.reverse us.reverse:=by
 induction h with
 |nil=>exact .nil
 |cons r t ih=>rw[List.reverse_cons,List.reverse_cons];exact Vals.append ih (.cons r .nil)
theorem Vals.rep{xs:List V}{us:List Ud}(h:Vals xs us):∀k:Nat,Vals (Up k xs).flatten (Up k us).flatten
 |0=>.nil
 |k+1=>by rw[Q4,Q4,QP,QP];exact Vals.append h (Vals.rep h k)
theorem Mk(its:List Ud):∀(k:Nat)(acc:List Ud),
  List.foldl (λx1 x2=>x1++x2) acc.toArray (Up k its.toArray)=(acc++(Up k its).flatten).toArray
 |0,acc=>by simp
 |k+1,acc=>by
  have e:acc.toArray++its.toArray=(acc++its).toArray:=by simp
  have e2:(acc++its)++(Up k its).flatten=acc++(Up (k+1) its).flatten:=by rw[Q4,QP,Jm]
  rw[←e2,←Mk its k (acc++its),←e,Q4,List.foldl_cons]
section
variable{X:Cx}{pins:List (Ug×Obj)}{σ:St}{H:Hp}{s:Ue}{l b:Ug}{xs ys zs:List V}
theorem Inv.lset{its its':List Ud}{n:Nat}{f:Array Ud->Array Ud}{t':Nat}(I:Inv X pins σ H s)(hH:H l=some (.lst xs))
  (e:s.heap.get? l=some {cls:=.type "list", data:=.seq its.toArray n}) (hf:f its.toArray=its'.toArray) (hv:Vals ys its') (hz:ys.length<=Uj) :
  Inv X pins σ (upd H l (.lst ys)) {s with heap:=s.heap.update l (Obj.mapSeq f),toks:=t'}:=by
 have q:=PySem.IsL.update e f;rw[hf]at q;refine I.write (x:=l) (e:=l) (by rw[hH];exact trivial) (.inl rfl) (λb' u hb hu=>(Heap.get?_update_other s.heap (Obj.mapSeq f) (Ne.symm hb)).trans hu) ⟨_,q⟩ ?_;exact⟨hz,its',_,hv,q⟩
theorem Inv.lnew{its:List Ud}{t':Nat}(I:Inv X pins σ H s)(hv:Vals ys its)(hz:ys.length<=Uj) :
  Inv X pins σ (upd H s.heap.objs.size (.lst ys)) {s with heap:=s.heap.push {cls:=.type "list", data:=.seq its.toArray},toks:=t'}:=
 I.laid (λ_ _ q=>Qi _ q) (Qp _) ⟨hz,its,0,hv,Qx _ rfl⟩
theorem Inv.fresh(I:Inv X pins σ H s):H s.heap.objs.size=none:=I.hok.fresh (Qp _)
theorem Inv.lstM(I:Inv X pins σ H s)(hH:H l=some (.lst xs)):xs.length<=Uj/\∃(its:List Ud)(n:Nat),Vals xs its/\xs.length=its.length/\s.heap.get? l=some {cls:=.type "list", data:=.seq its.toArray n}:=by obtain⟨z,its,n,r,e⟩:=I.hok l _ hH;exact⟨z,its,n,r,r.length,e⟩
theorem Nv{n:Nat}(h:n<=Uj):Builtin.List.listTooLong n=false:=by unfold Builtin.List.listTooLong;exact QC (by omega)
end
section
variable{X:Cx}
def EW:V->List V->Hp->VK->Prop:=λx vs H Q=>∃l xs y,x=.ref l/\vs=[y]/\H l=some (.lst xs)/\xs.length<Uj/\Q .non (upd H l (.lst (xs++[y])))
theorem Ms:MtM X "list.append" EW:=by intro pins s σ H x vs v us Q I rx rv h;obtain⟨l,xs,y,rfl,rfl,hH,hz,q⟩:=h;cases rx;obtain⟨u,rfl,ru⟩:=rv.one;obtain⟨z,its,n,r,hl,e⟩:=I.lstM hH;refine call_meets F.slot_list_append ⟨_,e,rfl⟩ F.entry_list_append (F.args_list_append_2 _ _) (PySem.list_append l its.toArray n u (by rw[QO];omega)) ⟨e,?_⟩;refine⟨.non,_,I.lset (its':=its++[u]) hH e (by simp) (r.append (.cons ru .nil)) ?_,rfl,q⟩;rw[Qj,QU];omega
def EV:V->List V->Hp->VK->Prop:=λx vs H Q=>∃l b xs zs,x=.ref l/\vs=[.ref b]/\H l=some (.lst xs)/\H b=some (.lst zs)/\xs.length+zs.length<=Uj/\Q .non (upd H l (.lst (xs++zs)))
theorem CW:MtM X "list.extend" EV:=by
 intro pins s σ H x vs v us Q I rx rv h;obtain⟨l,b,xs,zs,rfl,rfl,hH,hB,hz,q⟩:=h;cases rx;obtain⟨u,rfl,ru⟩:=rv.one;cases ru;obtain⟨z,its,n,r,hl,e⟩:=I.lstM hH;obtain⟨z2,its2,n2,r2,hl2,e2⟩:=I.lstM hB;have hsz:its.toArray.size+its2.toArray.size<=Uj:=by rw[QO,QO];omega
 have hlong:¬(!its.toArray.isEmpty&&Builtin.List.listTooLong (its.toArray.size+its2.toArray.size))=true:=by rw[Nv hsz,Bool.and_false];exact Jt
 refine call_meets F.slot_list_extend ⟨_,e,rfl⟩ F.entry_list_extend (F.args_list_extend_2 _ _)
  (AutoSeq1.list_extend_list_list_0 l its.toArray n b its2.toArray n2 hlong (by rw[QO];omega) (by omega)) ⟨e,e2,?_⟩
 refine⟨.non,_,I.lset (its':=its++its2) hH e (by simp) (r.append r2) ?_,rfl,q⟩;rw[Qj];omega
theorem EU{α:Type}(xs:List α)(k:Nat):(Up k xs).flatten.length=k*xs.length:=by
 induction k with
 |zero=>simp
 |succ k ih=>rw[Q4,QP,Qj,ih,Nat.succ_mul,Nat.add_comm]
end
section
variable{prog:Uf}{w:World}{A:Around}{E:Ud->Ue->Prop}{s:Ue}
set_option maxRecDepth 100000 in
end
end L2
namespace Att
open PySem PySem.W PySem.Calls PyProof.Rows
theorem AX{P:Params}{h:Heap}:∀(ns:List Int)(vs:List Ud),WellAll P h vs (ns.map WData.int)->IntsAre vs ns:=by
 intro ns;induction ns with
 |nil=>intro vs w;rw[List.map_nil]at w;cases w;exact .nil
 |cons n ns ih=>
  intro vs w;rw[Qv]at w;cases w with
  |cons a b=>cases a;exact .cons _ _ (ih _ b)
theorem CV{l:OpenLaw}{n:Nat}(hn:l.most=some n){P:Params}{h:Heap}{args:List WData}{vals:List Ud}
  (hpre:l.row.toRowW.claim.pre args=true) (hwl:WellAll P h vals args) :
  ∃a vs ns,vals=[Value.ref a]/\args=[WData.list (ns.map WData.int)]/\h.get? a=some {cls:=.type "list", data:=.seq vs.toArray}/\IntsAre vs ns/\ns.length<=n:=by
 have hsh:WShape.hasAll [] args [.list .int]=true:=(pre_splitW hpre).1;have hc:l.pre.holds [] {args:=args}=true:=(pre_splitW hpre).2;obtain⟨d,r,rfl,h1,h2⟩:=hasAllW_cons hsh;obtain rfl:=hasAllW_nil h2;obtain⟨xs,rfl,h3⟩:=hasW_list h1;obtain⟨ns,rfl⟩:=items_int h3
 have hlen:ns.length<=n:=by
  unfold OpenLaw.pre at hc;have h4:(WTm.not (.lt (.lit (.int (n:Int))) (.len (.arg 0)))).holds [] {args:=[.list (ns.map .int)]}=true:=by have h4:=(holds_andW hc).1;rw[hn]at h4;exact h4
  have h5:=condW_of h4 (w_not (w_lt w_lit (w_len_list (w_arg rfl))));rw[Qb]at h5;refine Q0 λq=>?_;have q':(n:Int)<((ns.length:Nat):Int):=by omega
  first
   |(rw[QM q']at h5;exact absurd h5 (by decide))
   |(simp at h5;omega)
 cases hwl with
 |cons w1 w2=>
  cases w2;cases w1 with
  |list ho hall=>exact⟨_,_,ns,rfl,rfl,ho,AX ns _ hall,hlen⟩
theorem CU(l:OpenLaw)(args:List WData):l.row.toRowW.claim.post args (.bool true) args=true:=
 postW_of (r:=l.row.toRowW) (X:=(true==true))
  (show WShape.has [] (.bool true) .bool=true by first|rfl|decide|simp[WShape.has,WShape.arms,WShape.armsAll])
  (show(WTm.eq .res (.lit (.bool true))).value [] {args:=args,res:=some (.bool true),after:=args}=some (.bool (true==true))from w_eq_bool (w_res rfl) w_lit) rfl
theorem attach_call{l:OpenLaw}{n:Nat}{q:Uf}{loose:List Str}{XP:(Str->Option Ud)->Heap->Prop}{YP:World->Heap->Prop}{d:DefRec}
  (hn:l.most=some n) (hdf:d.params.defaults=[])
  (call:∀(w:World)(s₀ s₁:Ue)(mg mb:Str->Option Ud)(fa:Ug)(o:Obj)(pm cd doc:Ud)(a:Ug)(vs:List Ud)(ns:List Int),
   Ground q loose [] XP w s₀ mg mb s₁.heap->YP w s₁.heap ->
   s₁.heap.get? fa=some o->o.data=.func (docDef d.name d.params d.body d.scope pm cd doc)->s₁.heap.CodeRec cd d.name->mg d.name=some (.ref fa) ->
   s₁.heap.get? a=some {cls:=.type "list", data:=.seq vs.toArray}->IntsAre vs ns->ns.length<=n->s₁.gens=#[] ->
   codeAny (model l.prog w) callerA (.call (.ref fa) ⟨[.ref a],[]⟩) (λr s'=>r=.ok (.ret (.bool true))/\OldK s₁.heap s'.heap/\s'.os=s₁.os/\AllBare s'.gens) s₁) :
  WalkO q loose XP YP l.row.toRowW d [] (λf vs=>PySem.call f vs):=by
 intro w s₀ s₁ mg mb G Y fa o pm cd doc dV kV ho hd hcd hD hmg hg args vals as hpre hlay hrd hwl hlo;obtain rfl:dV=.none:=Dflts.none hD hdf;obtain rfl:kV=.none:=Dflts.noKw hD;obtain⟨a,vs,ns,rfl,rfl,hobj,hints,hlen⟩:=CV hn hpre hwl;refine enter_call (codeAny_mono (call w s₀ s₁ mg mb fa o pm cd doc a vs ns G Y ho (fd_plain hd) hcd hmg hobj hints hlen hg) λr s' hq=>?_);obtain⟨rfl,h2,h3,h4⟩:=hq;exact⟨.inl ⟨.bool true,.bool true,[],rfl,λ_=>rfl,.bool true,CU l _,λ_=>⟨List.Pairwise.nil,λ_ hm=>(nomatch hm)⟩⟩,h2,h3,h4⟩
end Att
namespace L2
open PySem PySem.Spec PyProof.Rows
theorem Xw:∀{vs:List Ud}{ns:List Int},IntsAre vs ns->Vals (ns.map V.int) vs
 |_,_,.nil=>.nil
 |_,_,.cons n t h=>.cons ⟨t,rfl⟩ (Xw h)
def Only(H:Hp):Prop:=∀b,H b=none ∨ ∃o xs,H b=some (.frz o (.lst xs))
theorem Cp{P:Uf}{w:World}{K:Frag}{mg mb:Str->Option Ud}{CX:CXT}{k:Nat}{fa a:Ug}{fd:Uh}{x:Str}{sp:Sp}{s₁:Ue}{vs:List Ud}{ns:List Int}
  (KX:K.In s₁.heap) (hns:s₁.heap.Ns mainGlobals mg) (hb:s₁.heap.Ns builtinsNs mb) (hbb:∀x:Str,x ≠ "__name__" -> mb x=bootBuiltins x) (hlim:s₁.heap.NoLimit) (hg:s₁.gens=#[])
  (ha:s₁.heap.get? a=some {cls:=.type "list", data:=.seq vs.toArray}) (hi:IntsAre vs ns) (hl:ns.length<=Uj) (hr:Room k callerA)
  (F:∀base:Heap,K.In base->base.Ns mainGlobals mg->FnOk P w K mg base CX k fa fd [x] sp) (hbind:∀(s:Ue)(u:Ud),BindsTo s fd ⟨[u],[]⟩ [(x,u)])
  (hsp:∀H:Hp,Only H->SqL K H a (ns.map V.int)->sp [.ref a] H (λv _=>v=.bl true) λ_ _ _=>False)
  (hCX:∀H e s',CX [] H s₁ (λ_ _ _=>False) e s'->False) :
  codeAny (model P w) callerA (.call (.ref fa) ⟨[.ref a],[]⟩) (λr s'=>r=.ok (.ret (.bool true))/\OldK s₁.heap s'.heap/\s'.os=s₁.os/\AllBare s'.gens) s₁:=by
 have rv:=Xw hi;have lenV:=hi.length
 have core:∀H:Hp,Only H->SqL K H a (ns.map V.int)->HOk P w H s₁.heap->(∀b,H b≠none->b=a)->(H a≠none->K.lookup a=none) ->
   codeAny (model P w) callerA (.call (.ref fa) ⟨[.ref a],[]⟩) (λr s'=>r=.ok (.ret (.bool true))/\OldK s₁.heap s'.heap/\s'.os=s₁.os/\AllBare s'.gens) s₁:=by
  intro H hO hS hok hA hK;have base_of:∀{b:Ug}{o:Obj},s₁.heap.get? b=some o->H b=none->(ZJ s₁.heap H).get? b=some o:=λe n=>Cd e n
  have noA:∀{b:Ug}{o:Obj}{es:Array DictEntry}{ep:Nat},s₁.heap.get? b=some o->o.data=.dict es ep->H b=none:=λ{b o es ep} e d=>by
   cases q:H b with
   |none=>rfl
   |some u=>have e':b=a:=hA b (by rw[q];simp);subst e';rw[ha]at e;cases e;have d':Data.seq vs.toArray _=Data.dict es ep:=d;cases d'
  have nsK:∀{b:Ug}{m:Str->Option Ud},s₁.heap.Ns b m->(ZJ s₁.heap H).Ns b m:=λ{b m} ⟨o,es,ep,e,d,r⟩=>⟨o,es,ep,base_of e (noA e d),d,r⟩
  have hKb:K.In (ZJ s₁.heap H):=λb o e=>base_of (KX b o e) (by
   cases q:H b with
   |none=>rfl
   |some u=>have e':b=a:=hA b (by rw[q];simp);subst e';rw[hK (by rw[q];simp)]at e;cases e)
  have hM:Mod K mg (ZJ s₁.heap H):=⟨hKb,nsK hns,⟨mb,nsK hb,hbb⟩,let ⟨mc,h1,h2⟩:=hlim;⟨mc,nsK h1,h2⟩⟩
  have e0:Env0 P w K mg (ZJ s₁.heap H) callerA [] s₁ H:=⟨rfl,hM,λb o e=>EL e,Nat.le_of_eq (C6 _ _),trivial,λb hb=>absurd (show b∈([]:List Ug)from hb) (by simp),hok,.of_eq hg⟩
  refine codeAny_mono ((F _ hKb (nsK hns)).run callerA [] s₁ H ⟨[.ref a],[]⟩ [.ref a] [.ref a] _ _ hr e0 (hbind s₁ (.ref a)) (.cons rfl .nil) (hsp H hO hS)) λr s' h=>?_
  cases r with
  |error e=>exact(hCX H e s' h).elim
  |ok fl=>
   cases fl with
   |next=>exact False.elim h
   |brk=>exact False.elim h
   |cont=>exact False.elim h
   |ret u=>
    obtain⟨v,H',os,bare,un,hok',r',q⟩:=h;have q':v=.bl true:=q;subst q';obtain rfl:u=Value.bool true:=r';refine⟨rfl,OldK.of_keep λb o e=>?_,os,bare⟩;cases q:H b with
    |none=>exact un.keep b o e q (by intro z;exact absurd (show b∈([]:List Ug)from z) (by simp)) (by simp)
    |some u=>
     rcases hO b with z|⟨ob,xs,z⟩
     ·rw[q]at z;cases z
     ·have z2:=un.frzs b ob _ z;obtain⟨e1,_⟩:=hok b _ z;obtain⟨e2,_⟩:=hok' b _ z2;rw[e]at e1;cases e1;exact e2
 cases hk:K.lookup a with
 |some o=>have e:=KX a o hk;rw[ha]at e;cases e;refine core (λ_=>none) (λ_=>.inl rfl) (.inr ⟨_,vs.toArray,_,hk,rfl,rfl,rfl,by rw[List.size_toArray,lenV];exact hl,by simpa using rv⟩) (λb u z=>by have z':(none:Option HO)=some u:=z;cases z') (λb z=>absurd rfl z) λz=>absurd rfl z
 |none=>
  refine core (λb=>if b=a then some (.frz {cls:=.type "list", data:=.seq vs.toArray} (.lst (ns.map V.int)))else none) (λb=>?_) (.inl (.inr ⟨{cls:=.type "list", data:=.seq vs.toArray},Qq rfl⟩)) (λb u z=>?_) (λb z=>?_) λ_=>hk
  ·by_cases hb:b=a
   ·exact .inr ⟨_,_,Qq hb⟩
   ·exact .inl (QG hb)
  ·by_cases hb:b=a
   ·have z':=(Qq hb).symm.trans z;cases z';subst hb;exact⟨ha,by rw[Qb];exact hl,vs,_,rv,ha⟩
   ·have z':=(QG hb).symm.trans z;cases z'
  ·by_cases hb:b=a
   ·exact hb
   ·exact absurd (QG hb) z
def VS(s:Stmt):Arguments:=match s with
 |.FunctionDef _ a _ _ _ _ _ _ _ _=>a
 |_=>{posonlyargs:=[],args:=[],vararg:=none,kwonlyargs:=[],kw_defaults:=[],kwarg:=none,defaults:=[]}
def Wz(s:Stmt):List Stmt:=match s with
 |.FunctionDef _ _ b _ _ _ _ _ _ _=>b
 |_=>[]
def Zr(s:Stmt):Scope:=match s with
 |.FunctionDef _ _ _ _ _ _ sc _ _ _=>sc
 |_=>{kind:=.function,names:=[],isGenerator:=false,isCoroutine:=false}
abbrev CX0:CXT:=λ_ _ _ _ _ _=>False
abbrev E0:XK:=λ_ _ _=>False
theorem LK{X:Cx}:Rh CX0 X E0:=λ_ _ _ _ _ _ _ h=>h.elim
structure Fun(K:Frag)(x qual:Str)(st:Stmt)(f:Ug)(fd:Uh):Prop where
 ex:∃(oc:Ud)(od:Option Ug)(kV doc pm:Ud)(an:Option Ug)(cdv ct:Ud)(osl:Array (Option Ud)),
  fd=PySem.W.fnOf x qual (VS st) (Wz st) (Zr st) .none kV doc pm an cdv ct/\K.lookup f=some ⟨oc,od,.func fd,osl⟩/\PySem.W.codeIn K cdv qual=true
 kp:PySem.W.keepIn K (.ref f)=true
section
variable{P:Uf}{w:World}{K:Frag}{mg:Str->Option Ud}{base:Heap}
theorem Fun.ok{x qual:Str}{st:Stmt}{f:Ug}{fd:Uh}{N ps:List Str}{k:Nat}{sp:Sp}(F:Fun K x qual st f fd)(S:Tr N ps (Zr st))(len:∀vs H Q E,sp vs H Q E->vs.length=ps.length)
  (hbody:∀(cdv:Ud)(A:Around)(outer:List Env)(s:Ue)(H:Hp)(vs:List V)(Q:VK)(E:XK),Room k (A.deeper (envOfC qual (Zr st) s.heap.objs.size f cdv))->sp vs H Q E ->
   ∃t,PSs (Yd CX0 P w K mg base N qual (Zr st) f cdv A outer s H E).nox (Wz st) t/\t {nx:=λ_ H'=>Q .non H',rt:=Q} (YR N vs) H):FnOk P w K mg base CX0 (k+1) f fd ps sp:=by
 obtain⟨oc,od,kV,doc,pm,an,cdv,ct,osl,rfl,lk,hcd⟩:=F.ex;refine LN lk hcd S len λA outer s H vs Q E hr hsp=>?_
 obtain⟨t,h,q⟩:=hbody cdv A outer s H vs Q E hr hsp;exact⟨t,h.nox,q⟩
theorem Fun.binds{x qual:Str}{st:Stmt}{f:Ug}{fd:Uh}{ps:List Str}(F:Fun K x qual st f fd)
  (h:∀(kV doc pm:Ud)(an:Option Ug)(cdv ct:Ud)(us:List Ud),us.length=ps.length->bindArgs (PySem.W.fnOf x qual (VS st) (Wz st) (Zr st) .none kV doc pm an cdv ct) ⟨us,[]⟩=pure (ps.zip us)):Wl K fd ps []:=by
 obtain⟨oc,od,kV,doc,pm,an,cdv,ct,osl,rfl,lk,hcd⟩:=F.ex;exact .all (h kV doc pm an cdv ct)
end
def Same(H H':Hp):Prop:=∀b o,H b=some o->H' b=some o
theorem Same.refl(H:Hp):Same H H:=λ_ _ h=>h
theorem Same.trans{H H1 H2:Hp}(a:Same H H1)(b:Same H1 H2):Same H H2:=λc o h=>b c o (a c o h)
theorem Same.free{H H':Hp}(e:Same H H'){l:Ug}(h:H' l=Option.none):H l=Option.none:=by
 cases q:H l with
 |none=>rfl
 |some o=>rw[e l o q]at h;cases h
theorem Same.seq{K:Frag}{H H':Hp}{a:Ug}{xs:List V}(e:Same H H')(h:SqL K H a xs):SqL K H' a xs:=by
 rcases h with (h|⟨o,h⟩)|h
 ·exact .inl (.inl (e _ _ h))
 ·exact .inl (.inr ⟨o,e _ _ h⟩)
 ·exact .inr h
section
variable{X:Cx}{pins:List (Ug×Obj)}{σ:St}{H:Hp}{s:Ue}{h':Heap}
theorem Inv.turnedNew{t':Nat}{fp:List Ug}{p:Ug}{o:HO}(I:Inv X pins σ H s)(hf:∀b∈fp,KL X pins H b)
  (k:∀b o,b∉fp->s.heap.get? b=some o->h'.get? b=some o) (hp:s.heap.objs.size<=p) (new:K2 X.prog X.w (upd H p o) h' p o) :
  Inv X pins σ (upd H p o) {s with heap:=h',toks:=t'}:=by
 have hn:H p=none:=I.hok.fresh hp;have trk:∀b u,H b=some u->b∉fp:=λb u e z=>by rw[(hf b z).1]at e;cases e
 refine I.step (g':=s.gens) (d':=s.drawn) (ch:=fp) (λb hb=>?_) (λb o _ _ hc e _=>k b o hc e) (λb o _ _ hc e _=>⟨o.slots,k b o hc e⟩)
  (λb o _ e n=>by rw[Kb (QI (QD (Qh e) hp))];exact n) (λb o hc e=>⟨o,k b o hc e⟩)
  (λb xs e=>by rw[Kb (Zo e hn)];exact e) (λb ob u e=>by rw[Kb (Zo e hn)];exact e) (λb ps e=>⟨#[],by rw[Kb (Zo e hn),e];simp⟩)
  (λm hm=>?_) (λb u e=>?_) I.bare
 ·obtain⟨_,f1,_,f3,f4,f5⟩:=hf b hb;exact⟨f3,f1,f4,f5⟩
 ·obtain⟨ob,es,ep,ho,r⟩:=hm;exact⟨ob,es,ep,k _ ob (λz=>(hf _ z).2.1 rfl) ho,r⟩
 ·by_cases hb:b=p
  ·subst hb;rw[Ky]at e;cases e;exact new
  ·rw[Kb hb]at e;refine(I.hok b u e).stay (λc v hc q=>k c v ?_ q) (λc q=>by rw[Kb (Zo q hn)];exact q) λc xs q=>by rw[Kb (Zo q hn)];exact q
   rcases hc with z|z
   ·rw[z];exact trk b u e
   ·exact trk c _ z
theorem Inv.turnedL{t':Nat}{fp:List Ug}(I:Inv X pins σ H s)(hf:∀b∈fp,KL X pins H b)
  (k:∀b o,b∉fp->s.heap.get? b=some o->h'.get? b=some o):Inv X pins σ H {s with heap:=h',toks:=t'}:=by
 have trk:∀b u,H b=some u->b∉fp:=λb u e z=>by rw[(hf b z).1]at e;cases e
 refine I.step (g':=s.gens) (d':=s.drawn) (ch:=fp) (λb hb=>?_) (λb o _ _ hc e _=>k b o hc e) (λb o _ _ hc e _=>⟨o.slots,k b o hc e⟩)
  (λ_ _ _ _ n=>n) (λb o hc e=>⟨o,k b o hc e⟩) (λ_ _ e=>e) (λ_ _ _ e=>e) (λb ps e=>⟨#[],by rw[e];simp⟩) (λm hm=>?_) (λb u e=>?_) I.bare
 ·obtain⟨_,f1,_,f3,f4,f5⟩:=hf b hb;exact⟨f3,f1,f4,f5⟩
 ·obtain⟨ob,es,ep,ho,r⟩:=hm;exact⟨ob,es,ep,k _ ob (λz=>(hf _ z).2.1 rfl) ho,r⟩
 ·refine(I.hok b u e).stay (λc v hc q=>k c v ?_ q) (λc q=>q) λc xs q=>q
  rcases hc with z|z
  ·rw[z];exact trk b u e
  ·exact trk c _ z
end
def Ite(K:Frag)(a:Ug):It:=
 ⟨λi H=>∃xs x,SqL K H a xs/\xs[i]?=some x,
  λi H v H'=>∃p x,H p=none/\v=.ref p/\(∀xs,SqL K H a xs->xs[i]?=some x)/\H'=upd H p (.tup [.int i,x]),
  λi H=>∃xs,SqL K H a xs/\xs.length<=i⟩
theorem CT{P:Uf}{w:World}{K:Frag}{elts:List Ui}{x1}{tp:Pos}(a e it:Ug)(hne:e≠it) :
  Turn P w K (.Tuple elts x1 tp) (Ite K a) [e,it] e (λi h=>(∃old,IsEnum h e it i old)/\h.IsListIter it a i) where
 mem:=by simp
 obj:=λi h st b hb=>by
  obtain⟨⟨old,he⟩,o,ho,c,d⟩:=st;have hb':b=e∨b=it:=by simpa using hb
  rcases hb' with rfl|rfl
  ·exact⟨_,he,λv z=>by have z':Data.fields _=Data.cell v:=z;cases z'⟩
  ·exact⟨o,ho,λv z=>by rw[d]at z;cases z⟩
 keep:=λi h h' st k=>by obtain⟨⟨old,he⟩,hi⟩:=st;exact⟨⟨old,k e (by simp) _ he⟩,hi.at λo q=>k it (by simp) o q⟩
 item:=by
  intro X hP hw hK hc i pins s σ H E I hf st hg;subst hP hw hK;obtain⟨⟨old,he⟩,hi⟩:=st;obtain⟨xs,x,hq,hx⟩:=hg;obtain⟨its,rv,p,hz⟩:=I.list hq;obtain⟨u,hu,ru⟩:=rv.get hx;refine wpAny_pyNext_enum_item he hi p.isList (x:=u) (by simpa using hu) hne λh1 out hi1 ht hsz kk=>?_
  refine⟨_,rfl,wpAny_letOwnedTupleGo_enum out λh2 he2 hs2=>?_⟩;have hel:e<s.heap.objs.size:=Qh he;have hs2':Heap.SameBut e h1 h2:=hs2;have ht2:h2.get? s.heap.objs.size=some {cls:=.type "tuple", data:=.seq #[.int i s.toks,u]}:=(hs2'.2 _ (Jx hel)).trans ht
  have kk2:∀b o,b∉[e,it]->s.heap.get? b=some o->h2.get? b=some o:=λb o hb q=>by
   have hbe:b≠e:=λz=>hb (by simp[z])
   have hbi:b≠it:=λz=>hb (by simp[z])
   exact(hs2'.2 b hbe).trans (kk b o hbe hbi q)
  have hn:H s.heap.objs.size=none:=I.hok.fresh (Qp _)
  have I2:Inv X pins σ (upd H s.heap.objs.size (.tup [.int i,x])) {s with heap:=h2,toks:=s.toks+1}:=
   I.turnedNew (fp:=[e,it]) hf kk2 (Qp _) ⟨by show 2<=Uj;decide,[.int i s.toks,u],.cons ⟨_,rfl⟩ (.cons ru .nil),⟨_,ht2,rfl,_,rfl⟩⟩
  refine⟨.ref s.heap.objs.size,_,I2,rfl,⟨_,x,hn,rfl,λys hy=>by rw[I.list_inj hy hq];exact hx,rfl⟩,⟨⟨u,?_⟩,?_⟩,λb hb=>?_⟩
  ·have:=he2;simpa using this
  ·have hi2:h2.IsListIter it a (i+1):=hi1.at λo q=>(hs2'.2 it (Ne.symm hne)).trans q
   exact hi2
  ·have fr:=(hf b hb)
   have hlt:b<s.heap.objs.size:=by
    have hb':b=e∨b=it:=by simpa using hb
    rcases hb' with rfl|rfl
    ·exact hel
    ·obtain⟨o,ho,_⟩:=hi;exact Qh ho
   rw[Kb (QI hlt)];exact fr.1
 done:=by intro X hP hw hK hc i pins s σ H E I hf st hg;subst hP hw hK;obtain⟨⟨old,he⟩,hi⟩:=st;obtain⟨xs,hq,hx⟩:=hg;obtain⟨its,rv,p,hz⟩:=I.list hq;have hl:=rv.length;exact wpAny_pyNext_enum_end (I.ok.hd hc) he hi p.isList (by simp;omega) λh' eb=>⟨rfl,I.turnedL (t':=s.toks) hf λb o hb q=>eb b o (λz=>hb (by simp[z])) q⟩
 self:=λ_ _ _ _ _ st h=>by obtain⟨⟨old,he⟩,_⟩:=st;exact wpAny_pyIter_enum he h
section
variable{X:Cx}
def LJ(K:Frag)(ta:TA):TI:=λσ H R=>ta σ H λvs H1=>∃a xs,vs=[.ref a]/\SqL K H1 a xs/\R (Ite K a) H1
theorem ET{a:Ui}{ta:TA}{p pos:Pos}{elts:List Ui}{x1}{tp:Pos}(hg:Gl X "enumerate")(hm:X.mg "enumerate" = none)(ha:PA X [a] ta)
  (hs:Ul [a] X.env=[(false,eval a X.env)]:=by rfl):PI X (.Tuple elts x1 tp) (.Call (.Name "enumerate" p) [a] [] pos) (LJ X.K ta):=by
 intro pins s σ H R I h;refine Call_ (Wu I hg hm boot_enumerate (Jl (thn (ha pos pins s σ H _ I h) λus s1 ⟨vs,H1,I1,r1,q1⟩=>?_) hs rfl));obtain⟨l,xs,e,hq,q⟩:=q1;subst e;cases r1 with
 |cons r rr=>
  cases rr;cases (show _=Value.ref l from r);obtain⟨its,rv,pl,hz⟩:=I1.list hq;refine call_enumerate_list pl.isList λh' he hi hsz kk=>?_;have I2:Inv X pins σ H1 {s1 with heap:=h'}:=I1.kept (t':=s1.toks) kk;refine wpAny_pyIter_enum he ?_
  refine⟨s1.heap.objs.size+1,[s1.heap.objs.size+1,s1.heap.objs.size],_,_,H1,rfl,I2,CT l _ _ (Nat.succ_ne_self _),⟨⟨_,he⟩,hi⟩,λb hb=>?_,q⟩;have hb':b=s1.heap.objs.size+1∨b=s1.heap.objs.size:=by simpa using hb
  rcases hb' with rfl|rfl
  ·exact I1.fpOk (JO _) (I1.hok.fresh (JO _))
  ·exact I1.fpOk (Qp _) (I1.hok.fresh (Qp _))
end
section
variable{κ:Type}[DecidableEq κ]
def K8(kvs:List (κ×V))(k:κ):Option V:=(kvs.find? λkv=>decide (kv.1=k)).map (·.2)
def Za(kvs:List (κ×V))(k:κ)(v:V):List (κ×V):=
 if(kvs.any λkv=>decide (kv.1=k))=true then kvs.map (λkv=>if kv.1=k then(kv.1,v)else kv)else kvs++[(k,v)]
theorem Sx{p:κ×V}{r:List (κ×V)}{k:κ}(e:p.1=k):K8 (p::r) k=some p.2:=by simp[K8,List.find?_cons,e]
theorem Sw{p:κ×V}{r:List (κ×V)}{k:κ}(e:¬p.1=k):K8 (p::r) k=K8 r k:=by simp[K8,List.find?_cons,e]
theorem Nu(k:κ):∀kvs:List (κ×V),(kvs.any λkv=>decide (kv.1=k))=(K8 kvs k).isSome
 |[]=>rfl
 |p::r=>by
  rw[JE];by_cases e:p.1=k
  ·simp only[Sx e,QM e,Bool.true_or,Option.isSome_some]
  ·rw[Sw e,QC e,Bool.false_or];exact Nu k r
theorem Mw(kvs:List (κ×V))(k:κ)(v:V):(Za kvs k v).length<=kvs.length+1:=by
 unfold Za;split
 ·rw[Qb];omega
 ·rw[Qj,QB,QN];omega
theorem RelO.isSome_eq{o:Option V}{u:Option Ud}(r:RelO o u):o.isSome=u.isSome:=by
 cases o with
 |none=>cases u with
  |none=>rfl
  |some _=>exact(show False from r).elim
 |some _=>cases u with
  |none=>exact(show False from r).elim
  |some _=>rfl
theorem RelO.getD{o:Option V}{u:Option Ud}{d:V}{d':Ud}(r:RelO o u)(rd:RelV d d'):RelV (o.getD d) (u.getD d'):=by
 cases o with
 |none=>cases u with
  |none=>exact rd
  |some _=>exact(show False from r).elim
 |some _=>cases u with
  |none=>exact(show False from r).elim
  |some _=>exact r
theorem KV.val{kvs:List (κ×V)}{vs:List (κ×Ud)}(r:KV kvs vs)(k:κ):RelO (K8 kvs k) (valueAt vs k):=by
 unfold KV at r;induction r with
 |nil=>exact True.intro
 |@cons p q ps qs h t ih=>
  obtain⟨h1,h2⟩:=h;by_cases e:p.1=k
  ·have e':q.1=k:=h1.symm.trans e;have b:valueAt (q::qs) k=some q.2:=by simp[valueAt,List.find?_cons,e']
   rw[Sx e,b];exact h2
  ·have e':¬q.1=k:=λz=>e (h1.trans z)
   have b:valueAt (q::qs) k=valueAt qs k:=by simp[valueAt,List.find?_cons,e']
   rw[Sw e,b];exact ih
theorem KV.any{kvs:List (κ×V)}{vs:List (κ×Ud)}(r:KV kvs vs)(k:κ):(kvs.any λkv=>decide (kv.1=k))=vs.any λkv=>decide (kv.1=k):=by
 unfold KV at r;induction r with
 |nil=>rfl
 |cons h t ih=>rw[JE,JE,ih,h.1]
theorem KV.repl{kvs:List (κ×V)}{vs:List (κ×Ud)}(r:KV kvs vs)(k:κ){y:V}{u:Ud}(ry:RelV y u) :
  KV (kvs.map λkv=>if kv.1=k then(kv.1,y)else kv) (vs.map λkv=>if kv.1=k then(kv.1,u)else kv):=by
 unfold KV at r⊢;induction r with
 |nil=>exact .nil
 |@cons p q ps qs h t ih=>
  rw[Qv,Qv];refine .cons ?_ ih;obtain⟨h1,h2⟩:=h;by_cases e:p.1=k
  ·rw[Qq e,Qq (h1.symm.trans e)];exact⟨h1,ry⟩
  ·rw[QG e,QG (λz=>e (h1.trans z))];exact⟨h1,h2⟩
theorem KV.put{kvs:List (κ×V)}{vs:List (κ×Ud)}(r:KV kvs vs)(k:κ){y:V}{u:Ud}(ry:RelV y u):KV (Za kvs k y) (stored vs k u):=by
 unfold Za stored;rw[r.any k];by_cases e:(vs.any λkv=>decide (kv.1=k))=true
 ·rw[Qq e,Qq e];exact r.repl k ry
 ·rw[QG e,QG e];exact Paired.snoc r ⟨rfl,ry⟩
theorem KV.length{kvs:List (κ×V)}{vs:List (κ×Ud)}(r:KV kvs vs):kvs.length=vs.length:=Paired.length r
end
theorem SX{P:Uf}{w:World}{k:Key}{u:Ud}(r:RelV (kV k) u):(Z2 P w).is k u=true:=by
 cases k with
 |inl i=>obtain⟨t,e⟩:=(show ∃t,u=Value.int i t from r);subst e;exact Ax P w i t
 |inr x=>obtain⟨t,e⟩:=(show ∃t,u=Value.str x t from r);subst e;exact Aw P w x t
theorem Mr{P:Uf}{w:World}:∀{ks:List Key}{us:List Ud},Vals (ks.map kV) us->ItemsAre (Z2 P w) ks us
 |[],_,r=>by rw[List.map_nil]at r;cases r;exact .nil
 |k::ks,_,r=>by
  rw[Qv]at r;cases r with
  |cons h t=>exact .cons (SX h) (Mr t)
abbrev KT(H:Hp):List (List Key×V)->List (List Key×Ug×Ud)->Prop:=Paired λp q=>p.1=q.1/\H q.2.1=some (.tup (p.1.map kV))/\RelV p.2 q.2.2
theorem KT.val{H:Hp}{kvs:List (List Key×V)}{xs:List (List Key×Ug×Ud)}(r:KT H kvs xs)(k:List Key):RelO (K8 kvs k) ((atKey xs k).map (·.2)):=by
 induction r with
 |nil=>exact True.intro
 |@cons p q ps qs h t ih=>
  obtain⟨h1,_,h2⟩:=h;by_cases e:p.1=k
  ·have e':q.1=k:=h1.symm.trans e;have b:atKey (q::qs) k=some q.2:=by simp[atKey,List.find?_cons,e']
   rw[Sx e,b];exact h2
  ·have e':¬q.1=k:=λz=>e (h1.trans z)
   have b:atKey (q::qs) k=atKey qs k:=by simp[atKey,List.find?_cons,e']
   rw[Sw e,b];exact ih
theorem KT.repl{H:Hp}{kvs:List (List Key×V)}{xs:List (List Key×Ug×Ud)}(r:KT H kvs xs)(k:List Key){y:V}{u:Ud}(ry:RelV y u) :
  KT H (kvs.map λkv=>if kv.1=k then(kv.1,y)else kv) (xs.map (putAt k u)):=by
 induction r with
 |nil=>exact .nil
 |@cons p q ps qs h t ih=>
  rw[Qv,Qv];refine .cons ?_ ih;obtain⟨h1,h2,h3⟩:=h;unfold putAt;by_cases e:p.1=k
  ·rw[Qq e,Qq (h1.symm.trans e)];exact⟨h1,h2,ry⟩
  ·rw[QG e,QG (λz=>e (h1.trans z))];exact⟨h1,h2,h3⟩
theorem KT.put{H:Hp}{kvs:List (List Key×V)}{xs:List (List Key×Ug×Ud)}(r:KT H kvs xs)(k:List Key){b:Ug}{y:V}{u:Ud}(hb:H b=some (.tup (k.map kV)))(ry:RelV y u) :
  KT H (Za kvs k y) (storedH xs k b u):=by
 have e:(kvs.any λkv=>decide (kv.1=k))=(atKey xs k).isSome:=by rw[Nu,(r.val k).isSome_eq,Option.isSome_map]
 unfold Za storedH;rw[e];by_cases q:(atKey xs k).isSome=true
 ·rw[Qq q,Qq q];exact r.repl k ry
 ·rw[QG q,QG q];exact Paired.snoc r ⟨rfl,hb,ry⟩
theorem KT.keeps{H H':Hp}{kvs:List (List Key×V)}{xs:List (List Key×Ug×Ud)}(r:KT H kvs xs)(ht:∀b ys,H b=some (.tup ys)->H' b=some (.tup ys)):KT H' kvs xs:=
 Paired.mapP r λ_ _ z=>⟨z.1,ht _ _ z.2.1,z.2.2⟩
section
variable{P:Uf}{w:World}{H:Hp}{h:Heap}{a:Ug}
theorem Pt{u:HO}(ok:HOk P w H h)(e:Rd H a u):K2 P w H h a u:=e.ok ok
theorem T5{kvs:List (Key×V)}(ok:HOk P w H h)(e:Rd H a (.dK kvs)):kvs.length<=Uj/\(a==sysModules)=false/\∃vs,KV kvs vs/\h.DictOf (Z2 P w) a vs:=
 show K2 P w H h a (.dK kvs)from Pt ok e
theorem LI{kvs:List (Key×V)}(ok:HOk P w H h)(e:H a=some (.dK kvs)):kvs.length<=Uj/\(a==sysModules)=false/\∃vs,KV kvs vs/\h.DictOf (Z2 P w) a vs:=T5 ok (.inl e)
theorem PH{ks:List Key}(ok:HOk P w H h)(e:H a=some (.tup (ks.map kV))):(tupleKind (Z2 P w)).is h ks a:=by
 obtain⟨_,its,r,o,h1,h2,n,h3⟩:=(show K2 P w H h a (.tup (ks.map kV))from ok a _ e)
 exact⟨o,its.toArray,n,h1,h2,h3,by simpa using Mr r⟩
theorem LH{kvs:List (List Key×V)}(ok:HOk P w H h)(e:Rd H a (.dT kvs)):kvs.length<=Uj/\(a==sysModules)=false /\
  ∃xs,KT H kvs xs/\h.DictOfH (tupleKind (Z2 P w)) a xs:=by
 obtain⟨z,y,xs,r,o,es,ep,h1,h2,h3,h4,h5⟩:=(show K2 P w H h a (.dT kvs)from Pt ok e)
 refine⟨z,y,xs,r,o,es,ep,h1,h2,h3,h4,λx hx=>?_,h5⟩
 have all:∀{l:List (List Key×V)}{m:List (List Key×Ug×Ud)},KT H l m->∀x∈m,(tupleKind (Z2 P w)).is h x.1 x.2.1:=by
  intro l m q;induction q with
  |nil=>intro x hx;exact nomatch hx
  |@cons p q ps qs hq t ih=>
   intro x hx;rcases QR.mp hx with e|hx
   ·subst e;exact PH ok (by rw[←hq.1];exact hq.2.1)
   ·exact ih x hx
 exact all r x hx
theorem LG{kvs:List (List Key×V)}(ok:HOk P w H h)(e:H a=some (.dT kvs)):kvs.length<=Uj/\(a==sysModules)=false /\
  ∃xs,KT H kvs xs/\h.DictOfH (tupleKind (Z2 P w)) a xs:=LH ok (.inl e)
end
def DPut(H:Hp)(a:Ug)(y v:V)(H':Hp):Prop:=
 (∃kvs k,H a=some (.dK kvs)/\y=kV k/\kvs.length<Uj/\H'=upd H a (.dK (Za kvs k v))) ∨
 ∃kvs k b,H a=some (.dT kvs)/\y=.ref b/\H b=some (.tup (k.map kV))/\kvs.length<Uj/\H'=upd H a (.dT (Za kvs k v))
theorem DPut.k{H:Hp}{a:Ug}{kvs:List (Key×V)}{k:Key}{v:V}(e:H a=some (.dK kvs))(hl:kvs.length<Uj):DPut H a (kV k) v (upd H a (.dK (Za kvs k v))):=.inl ⟨kvs,k,e,rfl,hl,rfl⟩
section
variable{X:Cx}{pins:List (Ug×Obj)}{σ:St}{H:Hp}{s:Ue}{a:Ug}{y v:V}{u r:Ud}{o:Option V}{A:Around}{E:Ud->Ue->Prop}
theorem Inv.big(I:Inv X pins σ H s):sysModules<s.heap.objs.size:=by have h:mainGlobals<s.heap.objs.size:=(I.mod.glob.keeps I.bk).lt;exact Nat.lt_trans (by decide) h
theorem OV{h':Heap}{t':Nat}{ob:HO}(I:Inv X pins σ H s)(mu:Mut (H a))(hs:Heap.SameBut a s.heap h')(he:∃q,h'.get? a=some q)(new:K2 X.prog X.w (upd H a ob) h' a ob) :
  Inv X pins σ (upd H a ob) {s with heap:=h',toks:=t'}:=
 I.write (x:=a) (e:=a) mu (.inl rfl) (λb q hb z=>(hs.2 b hb).trans z) he new
theorem Fk{P:Uf}{w:World}{H':Hp}{h':Heap}{kvs:List (Key×V)}{vs:List (Key×Ud)}(z:kvs.length<=Uj)(hd:(a==sysModules)=false)(rel:KV kvs vs)(dd:h'.DictOf (Z2 P w) a vs) :
  K2 P w H' h' a (.dK kvs):=⟨z,hd,vs,rel,dd⟩
theorem CS{H':Hp}{Q:Unit->Ue->Prop}(hu:A.units+1<cLine)(I:Inv X pins σ H s)(g:DPut H a y v H')(ry:RelV y u)(rv:RelV v r)(h:∀s',Inv X pins σ H' s'->Q () s') :
  Uk (model X.prog X.w) A (setItem (.ref a) u r) Q E s:=by
 rcases g with ⟨kvs,k,e,ey,l,eH⟩|⟨kvs,k,b,e,ey,eb,l,eH⟩
 ·subst ey eH;obtain⟨z,hd,vs,rel,dd⟩:=LI I.hok e;have hz:vs.length<=Uj:=by rw[←rel.length];exact z
  have hl:(Za kvs k v).length<=Uj:=by have:=Mw kvs k v;omega
  refine wpAny_setItem_pairs (hsz:=hz) (SX ry) dd λh' dd' hs=>h _ ?_;have he:∃q,h'.get? a=some q:=let ⟨q,_,_,hq,_⟩:=dd';⟨q,hq⟩
  exact OV I (by rw[e];exact True.intro) hs he (Fk hl hd (rel.put k rv) dd')
 ·subst ey eH;cases (show u=Value.ref b from ry);obtain⟨z,hd,xs,rel,dd⟩:=LG I.hok e;have hz:xs.length<=Uj:=by rw[←Paired.length rel];exact z
  have hl:(Za kvs k v).length<=Uj:=by have:=Mw kvs k v;omega
  refine wpAny_setItem_heap (hsz:=hz) (tupleKind_room_in1 hu) (PH I.hok eb) dd λh' dd' hs=>h _ ?_
  obtain⟨q,es,ep,hq,h2,h3,h4,_,h5⟩:=dd';refine OV I (by rw[e];exact True.intro) hs ⟨q,hq⟩ ⟨hl,hd,_,(rel.put k eb rv).keeps λc ys ec=>?_,q,es,ep,hq,h2,h3,h4,h5⟩;rw[Kb (Lj ec e (λz=>nomatch z))];exact ec
end
def LF(td ty tv:TE):TS:=λD σ H=>tv σ H λv H1=>td σ H1 λx H2=>ty σ H2 λy H3=>∃a H4,x=.ref a/\DPut H3 a y v H4/\D.nx σ H4
section
variable{X:Cx}{o i e value:Ui}{pos pos' tpos:Pos}{td ty tv:TE}
theorem ES(hu:X.A.units+1<cLine)(ho:PE X o td)(hi:PE X i ty)(hv:PE X value tv)(hs:swapsWith value (some (.Subscript o i pos')) pos.line X.env=pure false) :
  PS X (.Assign [.Subscript o i pos'] value pos) (LF td ty tv):=by
 intro pins s σ H D I h;refine wpAny_Assign_Subscript (thn (hv pins s σ H _ I h) λr s1 ⟨v,H1,I1,rv,q1⟩=>thn (ho pins s1 σ H1 _ I1 q1) λu s2 ⟨x,H2,I2,rx,q2⟩=>thn (hi pins s2 σ H2 _ I2 q2) λiv s3 ⟨y,H3,I3,ry,a,H4,ex,g,q3⟩=>?_) hs;subst ex;obtain rfl:u=Value.ref a:=rx;exact CS hu I3 g ry rv λs4 I4=>⟨σ,H4,I4,q3⟩
end
theorem Co{P:Uf}{w:World}{H:Hp}(h:Heap)(hb:sysModules<h.objs.size):K2 P w H (h.push {cls:=.type "dict", data:=.dict #[]}) h.objs.size (.dK []):=
 ⟨J6 _,beq_eq_false_iff_ne.mpr (Ne.symm (QI hb)),[],.nil,Heap.DictOf.new h⟩
def Fj:TE:=λ_ H Q=>∀p,H p=none->Q (.ref p) (upd H p (.dK []))
section
variable{X:Cx}{pos:Pos}
theorem Cn:PE X (.Dict [] [] pos) Fj:=λpins s σ H Q I h=>
 wpAny_Dict_empty ⟨.ref s.heap.objs.size,_,I.laid (a:=s.heap.objs.size) (o:=.dK []) (t':=s.toks) (λ_ _ q=>Qi _ q) (Qp _) (Co s.heap I.big),rfl,h _ (I.hok.fresh (Qp _))⟩
end
end L2
namespace L2
open PySem PySem.Spec
def Ye(bmB bm:List Ud):Prop:=∀(X:String)(b:Bool),bmB.contains (.type X)=b->bm.contains (.type X)=b
def Zy(M:Model)(C:Ug)(name:Str)(r:Option Ud)(h:Heap):Prop:=∀(A:Around)(E:Ud->Ue->Prop)(Q:Option Ud->Ue->Prop)(h':Heap)(g:Array GenState)(d:Drawn)(t:Nat)(os:OsState),
 (∀b o,h.get? b=some o->h'.get? b=some o)->Q r ⟨h',g,d,t,os⟩->Uk M A (typeLookup (.ref C) name) Q E ⟨h',g,d,t,os⟩
theorem Zy.keeps{M:Model}{C:Ug}{name:Str}{r:Option Ud}{h h':Heap}(x:Zy M C name r h)(k:∀b o,h.get? b=some o->h'.get? b=some o):Zy M C name r h':=
 λA E Q h2 g d t os k2 q=>x A E Q h2 g d t os (λb o e=>k2 b o (k b o e)) q
theorem Zy.at{M:Model}{A:Around}{E:Ud->Ue->Prop}{Q:Option Ud->Ue->Prop}{C:Ug}{name:Str}{r:Option Ud}{h:Heap}{g:Array GenState}{d:Drawn}{t:Nat}{os:OsState}(x:Zy M C name r h)(q:Q r ⟨h,g,d,t,os⟩):Uk M A (typeLookup (.ref C) name) Q E ⟨h,g,d,t,os⟩:=
 x A E Q h g d t os (λ_ _ e=>e) q
section
variable{prog:Uf}{w:World}{A:Around}{E:Ud->Ue->Prop}{h:Heap}{g:Array GenState}{d:Drawn}{t:Nat}{os:OsState}{R:Result->Ue->Prop}
variable{nm q:Str}{C N x:Ug}{bs bm bmB:List Ud}{hdct:Bool}{sn:List Str}{sub:List Ud}{ab:Bool}{col:Option Bool}{dd:Option Ug}{k0 k1 k2 k3 k5:Option Ud}{B newId sa owner:String}{mN mA:Str->Option Ud}{name:Str}{v:Ud}
theorem CQ{M:Model}{o:Obj}{nameV:Ud}{Q:Unit->Ue->Prop}(T:Ye bmB bm)(hb:bmB.contains (.type "BaseException")=true)(hC:h.get? C=some (excClassObj nm q C N bs bm hdct sn sub ab col dd k0 k1 k2 k3 k5 newId))
  (hx:h.get? x=some o) (hc:o.cls=.ref C) (hq:Q () ⟨h,g,d,t,os⟩):Uk M A (checkBuiltinCall "BaseException.__getattribute__" ⟨[.ref x,nameV],[]⟩) Q E ⟨h,g,d,t,os⟩:=by
 have hk:builtinKind "BaseException.__getattribute__" = some .slot:=by decide +kernel
 have hsplit:splitId "BaseException.__getattribute__" = some ("BaseException", "__getattribute__"):=by decide +kernel
 have hcB:(Value.ref C::bm).contains (.type "BaseException")=true:=by rw[List.contains_cons,T _ _ hb];rfl
 have ha:=PySem.F.args_bexc_ga (.ref x) nameV;simp only[checkBuiltinCall,hk,hsplit];refine Qe ?_
 ·unfold isInstance
  repeat (first|(with_reducible refine QK hx ?_;rw[hc])|(with_reducible refine Jf hC ?_;rw[hcB])|wp_step)
  exact hq
end
end L2
namespace L2
open PySem PySem.Spec PyProof.Rows PySem.Calls PyProof.V
def XO(fr:Bool)(e C:Ug)(dd:Option Ug):Heap->Prop:=λh=>∃vs sl,h.get? e=some {cls:=.ref C,dict:=dd,data:=.fields vs,slots:=sl}/\(fr=true->vs[1]?=some .none/\∃t0,vs[0]?=some (.ref t0))
abbrev VB:List Ud:=[.type "ValueError", .type "Exception", .type "BaseException", .type "object"]
structure XCls(M:Model)(base:Heap)(C:Ug)(bm:List Ud)(fI:Ug):Prop where
 obj:∃nm q N bs sn sub ab col dd k0 k1 k2 k3 k5,base.get? C=some (excClassObj nm q C N bs bm true sn sub ab col dd k0 k1 k2 k3 k5 "ValueError.__new__")
 tail:Ye VB bm
 init:Zy M C "__init__" (some (.ref fI)) base
 fn:∃o,base.get? fI=some o/\o.cls=.type "function"
 sa:Zy M C "__setattr__" (some (.builtin "object.__setattr__")) base
 ga:Zy M C "__getattribute__" (some (.builtin "BaseException.__getattribute__")) base
 gh:Zy M C "__getattr__" none base
 cl:Zy M C "__class__" (some (.builtin "object.__class__")) base
 pass:∀v,refuseLoop v "__setattr__" bm=pure ()
def XD(dx:Ug)(fs:List (Str×V)):Heap->Prop:=λh=>∃mA,h.Ns1 dx mA/\h.ExactDictFk dx/\(∀f,RelO (fs.lookup f) (mA f))/\PySem.Within mA (fs.map (·.1))
end L2
namespace L2
open PySem PySem.Spec
section
variable{prog:Uf}{w:World}{A:Around}{E:Ud->Ue->Prop}{h:Heap}{g:Array GenState}{d:Drawn}{t:Nat}{os:OsState}{R:Result->Ue->Prop}
variable{nm q:Str}{C N a:Ug}{bs bm bmB:List Ud}{hdct:Bool}{sn:List Str}{sub:List Ud}{ab:Bool}{col:Option Bool}{dd:Option Ug}{k0 k1 k2 k3 k5:Option Ud}{newId:String}{o:Obj}
theorem BD(T:Ye bmB bm)(ho:bmB.contains (.type "object")=true)(hC:h.get? C=some (excClassObj nm q C N bs bm hdct sn sub ab col dd k0 k1 k2 k3 k5 newId))(hx:h.get? a=some o)(hc:o.cls=.ref C)(hq:R (.ok (.ret (.ref C))) ⟨h,g,d,t,os⟩) :
  codeAny (model prog w) A (.call (.builtin "getset_descriptor.__get__") ⟨[.builtin "object.__class__", .ref a,.ref C],[]⟩) R ⟨h,g,d,t,os⟩:=by
 have hT5:(⟨h,g,d,t,os⟩:Ue).TypeIs (.builtin "object.__class__") "getset_descriptor" :=PySem.F.typeOf_object_class;have hcB:(Value.ref C::bm).contains (.type (".".intercalate ("object.__class__".cutAt '.').dropLast))=true:=by rw[PySem.F.owner_object_class,List.contains_cons,T _ _ ho];rfl
 refine codeAny_call_builtin PySem.F.slot_gs_get.plain PySem.F.entry_gs_get (PySem.F.slot_gs_get.check _ _ _ _ _ _ _ _ hT5 (PySem.F.args_gs_get _ _ _) ?_)
 repeat (any_goals (first|assumption|(with_reducible refine QK hx ?_;rw[hc])|(with_reducible refine Jf hC ?_;rw[hcB])|wp_step))
 refine⟨Code.quiet_builtin _ (by decide +kernel),codeAny_builtin PySem.F.entry_object_class ?_⟩;unfold Builtin.«object.__class__»
 repeat (any_goals (first|assumption|(with_reducible refine QK hx ?_;rw[hc])|wp_step))
theorem AW{tk:Tok}{Q:PySem.Fin->Ue->Prop}(T:Ye bmB bm)(ho:bmB.contains (.type "object")=true)(hC:h.get? C=some (excClassObj nm q C N bs bm hdct sn sub ab col dd k0 k1 k2 k3 k5 newId))(fc:Zy (model prog w) C "__class__" (some (.builtin "object.__class__")) h)(hx:h.get? a=some o)(hc:o.cls=.ref C)(hq:Q (.done (.ret (.ref C))) ⟨h,g,d,t,os⟩) :
  Uk (model prog w) A (Builtin.«object.__getattribute__» ⟨[.ref a,.str "__class__" tk],[]⟩) Q E ⟨h,g,d,t,os⟩:=by
 have hT5:(⟨h,g,d,t,os⟩:Ue).TypeIs (.builtin "object.__class__") "getset_descriptor" :=PySem.F.typeOf_object_class;have f5:=PySem.F.typeOf_object_class;have f6:=PySem.F.slot_gs_get.lookup;have f7:=PySem.F.slot_gs_set.lookup
 repeat (any_goals (first|assumption|(with_reducible refine QK hx ?_;rw[hc])|with_reducible refine fc.at ?_|wp_step))
 refine BD T ho hC hx hc ?_
 repeat (any_goals (first|assumption|wp_step))
theorem Mv{Q:Option Ud->Ue->Prop}(FB:ExcAttrFacts "ValueError")(T:Ye VB bm)(hC:h.get? C=some (excClassObj nm q C N bs bm hdct sn sub ab col dd k0 k1 k2 k3 k5 newId))(fc:Zy (model prog w) C "__class__" (some (.builtin "object.__class__")) h)
  (fg:Zy (model prog w) C "__getattribute__" (some (.builtin "BaseException.__getattribute__")) h) (fa:Zy (model prog w) C "__getattr__" none h) (hx:h.get? a=some o) (hc:o.cls=.ref C) (hq:Q (some (.ref C)) ⟨h,g,d,t+1,os⟩) :
  Uk (model prog w) A (getAttr? (.ref a) "__class__") Q E ⟨h,g,d,t,os⟩:=by
 have f3:=FB.ga.bind (.ref a);have hx0:(false&&onTheHeap (Value.builtin "BaseException.__getattribute__"))=false:=rfl;have hx2:(Value.builtin "BaseException.__getattribute__" == Value.builtin "object.__getattribute__")=false:=by decide +kernel
 have hx1:(onTheHeap (Value.ref C)&&Value.builtin "BaseException.__getattribute__" == Value.builtin "object.__getattribute__")=false:=by rw[hx2];rfl
 unfold getAttr? getAttrBy?;refine Qe (wpAny_mkText (Qe (wpAny_attempt ?_)))
 repeat (any_goals (first|assumption|(with_reducible refine QK hx ?_;rw[hc])|with_reducible refine fg.at ?_|with_reducible refine fa.at ?_|wp_step))
 refine codeAny_call_builtin FB.ga.plain PySem.F.entry_bexc_ga (CQ T rfl hC hx hc (AW T rfl hC fc hx hc ?_))
 repeat (any_goals (first|assumption|wp_step))
end
end L2
namespace L2
open PySem PySem.Spec PyProof.Rows
section
variable{prog:Uf}{w:World}{A:Around}{E:Ud->Ue->Prop}{h:Heap}{g:Array GenState}{d:Drawn}{t:Nat}{os:OsState}
variable{nm q nm' q':Str}{C N D N' a:Ug}{bs bm bs' bm':List Ud}{hdct hdct':Bool}{sn sn':List Str}{sub sub':List Ud}{ab ab':Bool}{col col':Option Bool}{dd dd':Option Ug}{k0 k1 k2 k3 k5 j0 j1 j2 j3 j5:Option Ud}{newId newId':String}{o:Obj}{b:Bool}
theorem ER{Q:Ud->Ue->Prop}(T:Ye VB bm)(hC:h.get? C=some (excClassObj nm q C N bs bm hdct sn sub ab col dd k0 k1 k2 k3 k5 newId))(hD:h.get? D=some (excClassObj nm' q' D N' bs' bm' hdct' sn' sub' ab' col' dd' j0 j1 j2 j3 j5 newId'))
  (fc:Zy (model prog w) C "__class__" (some (.builtin "object.__class__")) h) (fg:Zy (model prog w) C "__getattribute__" (some (.builtin "BaseException.__getattribute__")) h) (fa:Zy (model prog w) C "__getattr__" none h)
  (hx:h.get? a=some o) (hc:o.cls=.ref C) (hb:(Value.ref C::bm).contains (.ref D)=b) (hq:∀tk,Q (.bool b) ⟨h,g,d,tk,os⟩):Uk (model prog w) A (call (.builtin "isinstance") [.ref a,.ref D]) Q E ⟨h,g,d,t,os⟩:=by
 have hT:(⟨h,g,d,t,os⟩:Ue).TypeIs (.ref D) "type" :=⟨_,hD,rfl⟩
 have f2:=tc_sub;refine call_isinstance_of ?_ (λz=>nomatch z);unfold Builtin.«isinstance.nested»;refine Qe ?_;unfold typeOf;refine Qe (QK hx (Qk ?_));rw[hc];by_cases e:C=D
 ·subst e;have hb1:b=true:=by rw[←hb];simp
  subst hb1;rw[if_pos (by simp)];exact Qe (wpAny_rule (Qk (hq t)))
 ·rw[if_neg (by simp[e])];refine Qe (Qe (QK hD (Qk ?_)));rw[Qq (show(Value.type "type" == Value.type "type")=true by decide)]
  k_delta "plainIsInstance"
  unfold isType isInstance
  repeat (first|(with_reducible refine QK hx ?_;rw[hc])|with_reducible refine QK hD ?_|with_reducible refine QK hC ?_|(with_reducible refine Jf hC ?_;rw[hb])|wp_step)
  cases b with
  |true=>wp_walk;exact hq t
  |false=>
   rw[QG (by decide)];refine Qe (Mv PySem.F.excAttr_ValueError T hC fc fg fa hx hc ?_)
   repeat (first|with_reducible refine QK hC ?_|(with_reducible refine Jf hC ?_;rw[hb])|wp_step)
   exact hq _
theorem Fi{Q:Ud->Ue->Prop}{X:String}(T:Ye VB bm)(hC:h.get? C=some (excClassObj nm q C N bs bm hdct sn sub ab col dd k0 k1 k2 k3 k5 newId))(hX:typeOf (.type X)=pure (.type "type"))
  (fc:Zy (model prog w) C "__class__" (some (.builtin "object.__class__")) h) (fg:Zy (model prog w) C "__getattribute__" (some (.builtin "BaseException.__getattribute__")) h) (fa:Zy (model prog w) C "__getattr__" none h)
  (hx:h.get? a=some o) (hc:o.cls=.ref C) (hb:(Value.ref C::bm).contains (.type X)=b) (hq:∀tk,Q (.bool b) ⟨h,g,d,tk,os⟩):Uk (model prog w) A (call (.builtin "isinstance") [.ref a,.type X]) Q E ⟨h,g,d,t,os⟩:=by
 refine call_isinstance_of ?_ (λz=>nomatch z);unfold Builtin.«isinstance.nested»;refine Qe ?_;have ty:∀{M:Model}{A:Around}{Q:Ud->Ue->Prop}{E:Ud->Ue->Prop},Q (.ref C) ⟨h,g,d,t,os⟩->Uk M A (typeOf (.ref a)) Q E ⟨h,g,d,t,os⟩:=λq=>by unfold typeOf;refine Qe (QK hx (Qk ?_));rw[hc];exact q
 refine ty ?_;rw[if_neg (by simp)];refine Qe (wpAny_of_eq hX ?_);rw[Qq (show(Value.type "type" == Value.type "type")=true by decide)]
 k_delta "plainIsInstance"
 unfold isType isInstance
 repeat (first|(with_reducible refine QK hx ?_;rw[hc])|with_reducible refine QK hC ?_|(with_reducible refine Jf hC ?_;rw[hb])|wp_step)
 cases b with
 |true=>wp_walk;exact hq t
 |false=>
  rw[QG (by decide)];refine Qe (Mv PySem.F.excAttr_ValueError T hC fc fg fa hx hc ?_)
  repeat (first|with_reducible refine QK hC ?_|(with_reducible refine Jf hC ?_;rw[hb])|wp_step)
  exact hq _
end
def rIsX(KC:Ug->List Ud->Prop):List V->Hp->VK->Prop:=λxs H Q=>∃a C dd bm fr c b,xs=[.ref a,c]/\KC C bm/\H a=some (.ext (XO fr a C dd)) /\
 ((∃D bm',c=.ref D/\KC D bm'/\(Value.ref C::bm).contains (.ref D)=b) ∨ ∃T,c=.ty T/\typeOf (.type T)=pure (.type "type")/\(Value.ref C::bm).contains (.type T)=b)/\Q (.bl b) H
theorem Cm{X:Cx}{KC:Ug->List Ud->Prop}(hcls:∀C bm,KC C bm->∃fI,XCls (model X.prog X.w) X.base C bm fI):ZN X (.builtin "isinstance") (rIsX KC):=by
 rintro pins s σ H xs us Q I r ⟨a,C,dd,bm,fr,c,b,rfl,kc,hx,hD,q⟩;cases r with
 |cons ra r=>
 cases r with
 |cons rc r=>
 cases r;have ra':_=Value.ref a:=ra;subst ra';obtain⟨fI,XC⟩:=hcls C bm kc;obtain⟨nm,qn,N,bs,sn,sub,ab,col,dd1,k0,k1,k2,k3,k5,hC⟩:=XC.obj;obtain⟨⟨vs,sl,ga,_⟩,_,_⟩:=I.hok a _ hx;obtain⟨hp,g,d,tk,os⟩:=s;rcases hD with ⟨D,bm',rfl,kd,hb⟩|⟨T,rfl,hT,hb⟩
 ·have rc':_=Value.ref D:=rc;subst rc';obtain⟨fI',XD'⟩:=hcls D bm' kd;obtain⟨nm',qn',N',bs',sn',sub',ab',col',dd2,j0,j1,j2,j3,j5,hD'⟩:=XD'.obj;exact ER XC.tail (I.bk _ _ hC) (I.bk _ _ hD') (XC.cl.keeps I.bk) (XC.ga.keeps I.bk) (XC.gh.keeps I.bk) ga rfl hb λtk'=>⟨.bl b,H,I.tok tk',rfl,q⟩
 ·have rc':_=Value.type T:=rc;subst rc';exact Fi XC.tail (I.bk _ _ hC) hT (XC.cl.keeps I.bk) (XC.ga.keeps I.bk) (XC.gh.keeps I.bk) ga rfl hb λtk'=>⟨.bl b,H,I.tok tk',rfl,q⟩
def LD(nm:Str):List Str:=if nm = "NoWishes" then ["part", "number"]else if nm = "NoAim" then ["part"]else if nm = "NoText" then ["row"]else []
def Ps(K:Frag)(nm:Str):Option Ug:=match PySem.W.nsIn K mainGlobals nm with|some (some (.ref C))=>some C|_=>none
def NmAt(K:Frag)(nm:Str)(C:Ug):Prop:=∃o cd,K.lookup C=some o/\o.data=.cls cd/\cd.name=nm
structure ClsK(K:Frag)(nm:Str)(C:Ug)(bm:List Ud):Prop where
 ad:Ps K nm=some C
 nmd:NmAt K nm C
 up:nm = "DealError" /\ bm=VB∨nm ≠ "DealError" /\ ∃D,Ps K "DealError" = some D/\bm=.ref D::VB/\NmAt K "DealError" D
 cls:∀(M:Model)(h:Heap),K.In h->∃fI,XCls M h C bm fI
 fld:∀(M:Model)(h:Heap),K.In h->∀f∈(["part", "number", "row"]:List Str),Zy M C f none h
def KC(K:Frag):Ug->List Ud->Prop:=λC bm=>∃nm,ClsK K nm C bm
section
variable{K:Frag}{nm x:Str}{C D:Ug}{bm bm':List Ud}
theorem ClsK.ty(c:ClsK K nm C bm)(T:String):(Value.ref C::bm).contains (.type T)=VB.contains (.type T):=by
 rcases c.up with ⟨_,rfl⟩|⟨_,D',g,rfl,n⟩
 ·rfl
 ·rfl
end
section
variable{X:Cx}{e:Ui}{st:Stmt}{sts:List Stmt}{t:TE}{ts:TS}
theorem LC(k:X.K.In X.base):∀C bm,KC X.K C bm->∃fI,XCls (model X.prog X.w) X.base C bm fI:=λ_ _ ⟨_,c⟩=>c.cls _ _ k
end
end L2
namespace DL
open PySem PySem.Spec L2
open PyProof.Rows hiding St
abbrev D:=PyData
abbrev XW:=V->St->Hp->Prop
abbrev KX0:XW:=λ_ _ _=>False
def XFs(G:Hp)(dd:Option Ug)(fs:List Str)(vs:List V):Prop:=match dd with
 |none=>fs=[]/\vs=[]
 |some dx=>fs.length=vs.length/\G dx=some (.ext (XD dx (fs.zip vs)))
theorem XFs.mono{G G1:Hp}{dd:Option Ug}{fs:List Str}{vs:List V}(e:Same G G1)(h:XFs G dd fs vs):XFs G1 dd fs vs:=by
 cases dd with
 |none=>exact h
 |some dx=>exact⟨h.1,e _ _ h.2⟩
def kD:Key->D
 |.inl i=>.int i
 |.inr x=>.str x
def tkD(k:List Key):D:=.tuple (k.map kD)
def pdD(ks:List (List Key))(ds:List D):List (D×D):=(.bool true,.none)::(ks.map tkD).zip ds
mutual
inductive Rep(K:Frag)(G:Hp):V->D->Prop where
 |non:Rep K G .non .none
 |bl (b:Bool):Rep K G (.bl b) (.bool b)
 |int (i:Int):Rep K G (.int i) (.int i)
 |str (x:Str):Rep K G (.str x) (.str x)
 |lst {a:Ug} {vs:List V} {ds:List D} (h:SqL K G a vs) (r:Reps K G vs ds):Rep K G (.ref a) (.list ds)
 |tup {a:Ug} {vs:List V} {ds:List D} (h:SqT K G a vs) (r:Reps K G vs ds):Rep K G (.ref a) (.tuple ds)
 |dic {a:Ug} (h:G a=some (.dK [])):Rep K G (.ref a) (.dict [])
 |exc {a C:Ug} {dd:Option Ug} {bm:List Ud} {nm:Str} {vs:List V} {ds:List D} (c:ClsK K nm C bm) (h:G a=some (.ext (XO false a C dd))) (hd:XFs G dd (LD nm) vs) (r:Reps K G vs ds):Rep K G (.ref a) (.dict [(.none,.tuple [.str nm,.list ds])])
 |dct {a:Ug} {ks:List Key} {vs:List V} {ds:List D} {kvs:List (D×D)} (e:kvs=(ks.map kD).zip ds) (hne:ks≠[]) (hl:ks.length=ds.length) (h:G a=some (.dK (ks.zip vs))) (r:Reps K G vs ds):Rep K G (.ref a) (.dict kvs)
 |dtt {a:Ug} {o:Obj} {ks:List (List Key)} {vs:List V} {ds:List D} {kvs:List (D×D)} (e:kvs=pdD ks ds) (hl:ks.length=ds.length) (h:G a=some (.frz o (.dT (ks.zip vs)))) (r:Reps K G vs ds):Rep K G (.ref a) (.dict kvs)
inductive Reps(K:Frag)(G:Hp):List V->List D->Prop where
 |nil:Reps K G [] []
 |cons {v:V} {d:D} {vs:List V} {ds:List D} (h:Rep K G v d) (t:Reps K G vs ds):Reps K G (v::vs) (d::ds)
end
variable{K:Frag}{B G0 G G1 G2 H H1 H2:Hp}
theorem Z5{a:Ug}{xs:List V}(e:Same G G1)(h:SqT K G a xs):SqT K G1 a xs:=by
 rcases h with (h|⟨o,h⟩)|h
 ·exact .inl (.inl (e _ _ h))
 ·exact .inl (.inr ⟨o,e _ _ h⟩)
 ·exact .inr h
theorem Rep.mono(e:Same G G1){v:V}{d:D}(r:Rep K G v d):Rep K G1 v d:=Rep.rec (motive_1:=λv d _=>Rep K G1 v d) (motive_2:=λvs ds _=>Reps K G1 vs ds) .non .bl .int .str (λh _ r=>.lst (e.seq h) r) (λh _ r=>.tup (Z5 e h) r) (λh=>.dic (e _ _ h)) (λc h hd _ r=>.exc c (e _ _ h) (hd.mono e) r) (λz n l h _ r=>.dct z n l (e _ _ h) r) (λz l h _ r=>.dtt z l (e _ _ h) r) .nil (λ_ _=>.cons) r
theorem Reps.mono(e:Same G G1){vs:List V}{ds:List D}(r:Reps K G vs ds):Reps K G1 vs ds:=Reps.rec (motive_1:=λv d _=>Rep K G1 v d) (motive_2:=λvs ds _=>Reps K G1 vs ds) .non .bl .int .str (λh _ r=>.lst (e.seq h) r) (λh _ r=>.tup (Z5 e h) r) (λh=>.dic (e _ _ h)) (λc h hd _ r=>.exc c (e _ _ h) (hd.mono e) r) (λz n l h _ r=>.dct z n l (e _ _ h) r) (λz l h _ r=>.dtt z l (e _ _ h) r) .nil (λ_ _=>.cons) r
section
variable{v:V}{vs ws:List V}{ds es:List D}
theorem Rep.bl_inv{b:Bool}(h:Rep K G v (.bool b)):v=.bl b:=by cases h;rfl
theorem Rep.int_inv{i:Int}(h:Rep K G v (.int i)):v=.int i:=by cases h;rfl
theorem Rep.str_inv{x:Str}(h:Rep K G v (.str x)):v=.str x:=by cases h;rfl
theorem Rep.lst_inv(h:Rep K G v (.list ds)):∃a vs,v=.ref a/\SqL K G a vs/\Reps K G vs ds:=by
 cases h with
 |lst h r=>exact⟨_,_,rfl,h,r⟩
theorem Rep.tup_inv(h:Rep K G v (.tuple ds)):∃a vs,v=.ref a/\SqT K G a vs/\Reps K G vs ds:=by
 cases h with
 |tup h r=>exact⟨_,_,rfl,h,r⟩
theorem Reps.length:∀{vs:List V}{ds:List D},Reps K G vs ds->vs.length=ds.length
 |_,_,.nil=>rfl
 |_,_,.cons _ t=>by rw[QB,QB,Reps.length t]
theorem Reps.get:∀{vs:List V}{ds:List D}{i:Nat}{d:D},Reps K G vs ds->ds[i]?=some d->∃v,vs[i]?=some v/\Rep K G v d
 |_,_,_,_,.nil,e=>by simp at e
 |_,_,0,_,.cons h _,e=>by simp at e;subst e;exact⟨_,rfl,h⟩
 |_,_,i+1,d,.cons _ t,e=>by obtain⟨u,h1,h2⟩:=Reps.get (i:=i) (d:=d) t (by simpa using e);exact⟨u,by simpa using h1,h2⟩
theorem Reps.append:∀{vs ws:List V}{ds es:List D},Reps K G vs ds->Reps K G ws es->Reps K G (vs++ws) (ds++es)
 |_,_,_,_,.nil,s=>s
 |_,_,_,_,.cons r t,s=>.cons r (Reps.append t s)
theorem Reps.take:∀{vs:List V}{ds:List D}(n:Nat),Reps K G vs ds->Reps K G (vs.take n) (ds.take n)
 |_,_,0,_=>by rw[JJ,JJ];exact .nil
 |_,_,_+1,.nil=>.nil
 |_,_,n+1,.cons r t=>.cons r (Reps.take n t)
theorem Reps.drop:∀{vs:List V}{ds:List D}(n:Nat),Reps K G vs ds->Reps K G (vs.drop n) (ds.drop n)
 |_,_,0,r=>r
 |_,_,_+1,.nil=>.nil
 |_,_,n+1,.cons _ t=>Reps.drop n t
theorem Reps.reverse:∀{vs:List V}{ds:List D},Reps K G vs ds->Reps K G vs.reverse ds.reverse
 |_,_,.nil=>.nil
 |_,_,.cons r t=>by rw[List.reverse_cons,List.reverse_cons];exact Reps.append (Reps.reverse t) (.cons r .nil)
theorem Reps.set{v:V}{d:D}(r:Rep K G v d):∀{vs:List V}{ds:List D}(i:Nat),Reps K G vs ds->Reps K G (vs.set i v) (ds.set i d)
 |_,_,_,.nil=>.nil
 |_,_,0,.cons _ t=>.cons r t
 |_,_,i+1,.cons q t=>.cons q (Reps.set r i t)
theorem Reps.ints:∀(ns:List Int),Reps K G (ns.map V.int) (ns.map int)
 |[]=>.nil
 |n::ns=>.cons (.int n) (Reps.ints ns)
end
inductive MO where
 |l (vs:List V)|k (kvs:List (Key×V))|t (kvs:List (List Key×V))|s (S:Int->Bool) (n:Nat)
def MO.ho:MO->HO
 |.l vs=>.lst vs
 |.k kvs=>.dK kvs
 |.t kvs=>.dT kvs
 |.s S n=>.set S n
structure Ext(G H G' H':Hp):Prop where
 h:Same H H'
 g:Same G G'
 gh:Same G' H'
 np:∀a(u:MO),H a=some u.ho->G a=none->G' a=none
theorem Ext.refl(e:Same G H):Ext G H G H:=⟨.refl _,.refl _,e,λ_ _ _ q=>q⟩
theorem KU{p:Ug}{o:HO}(h:H p=none):Same H (upd H p o):=λb u e=>by rw[Kb (Zo e h)];exact e
theorem Ext.new{p:Ug}{o:HO}(e:Same G H)(h:H p=none):Ext G H (upd G p o) (upd H p o):=by
 have hg:G p=none:=e.free h;refine⟨KU h,KU hg,λb u q=>?_,λa u q n=>?_⟩
 ·by_cases z:b=p
  ·subst z;rw[Ky]at q⊢;exact q
  ·rw[Kb z]at q⊢;exact e b u q
 ·rw[Kb (Zo q h)];exact n
theorem Ext.hid{p:Ug}{o:HO}(e:Same G H)(h:H p=none):Ext G H G (upd H p o):=
 ⟨KU h,.refl _,e.trans (KU h),λ_ _ _ n=>n⟩
inductive Pat where
 |leaf|lst (p:Pat)|tup (ps:List Pat)|dic
mutual
inductive RepO(K:Frag)(G H:Hp):Pat->V->D->List Ug->Prop where
 |leaf {v:V} {d:D} (r:Rep K G v d):RepO K G H .leaf v d []
 |lst {p:Pat} {a:Ug} {vs:List V} {ds:List D} {fp:List Ug} (h:H a=some (.lst vs)) (r:RepOl K G H p vs ds fp):RepO K G H (.lst p) (.ref a) (.list ds) (a::fp)
 |tup {ps:List Pat} {a:Ug} {vs:List V} {ds:List D} {fp:List Ug} (h:H a=some (.tup vs)) (r:RepOs K G H ps vs ds fp):RepO K G H (.tup ps) (.ref a) (.tuple ds) fp
 |dic {a:Ug} {ks:List Key} {vs:List V} {ds:List D} {kvs:List (D×D)} (e:kvs=(ks.map kD).zip ds) (hl:ks.length=ds.length) (h:H a=some (.dK (ks.zip vs))) (r:Reps K G vs ds):RepO K G H .dic (.ref a) (.dict kvs) [a]
inductive RepOl(K:Frag)(G H:Hp):Pat->List V->List D->List Ug->Prop where
 |nil {p:Pat}:RepOl K G H p [] [] []
 |cons {p:Pat} {v:V} {d:D} {vs:List V} {ds:List D} {f1 f2:List Ug} (h:RepO K G H p v d f1) (t:RepOl K G H p vs ds f2):RepOl K G H p (v::vs) (d::ds) (f1++f2)
inductive RepOs(K:Frag)(G H:Hp):List Pat->List V->List D->List Ug->Prop where
 |nil:RepOs K G H [] [] [] []
 |cons {p:Pat} {ps:List Pat} {v:V} {d:D} {vs:List V} {ds:List D} {f1 f2:List Ug} (h:RepO K G H p v d f1) (t:RepOs K G H ps vs ds f2):RepOs K G H (p::ps) (v::vs) (d::ds) (f1++f2)
end
def YG(K:Frag)(G H:Hp)(M1:Pat->V->D->List Ug->Prop)(M2:Pat->List V->List D->List Ug->Prop)(M3:List Pat->List V->List D->List Ug->Prop):Prop:=
 (∀{p v d fp},RepO K G H p v d fp->M1 p v d fp)/\(∀{p vs ds fp},RepOl K G H p vs ds fp->M2 p vs ds fp)/\∀{ps vs ds fp},RepOs K G H ps vs ds fp->M3 ps vs ds fp
theorem RepO.ind3{M1:Pat->V->D->List Ug->Prop}{M2:Pat->List V->List D->List Ug->Prop}{M3:List Pat->List V->List D->List Ug->Prop}
  (c1:∀{v d},Rep K G v d->M1 .leaf v d []) (c2:∀{p a vs ds fp},H a=some (.lst vs)->M2 p vs ds fp->M1 (.lst p) (.ref a) (.list ds) (a::fp)) (c3:∀{ps a vs ds fp},H a=some (.tup vs)->M3 ps vs ds fp->M1 (.tup ps) (.ref a) (.tuple ds) fp)
  (c4:∀{a:Ug}{ks:List Key}{vs:List V}{ds:List D}{kvs:List (D×D)},kvs=(ks.map kD).zip ds->ks.length=ds.length->H a=some (.dK (ks.zip vs))->Reps K G vs ds->M1 .dic (.ref a) (.dict kvs) [a])
  (c5:∀{p},M2 p [] [] []) (c6:∀{p v d vs ds f1 f2},M1 p v d f1->M2 p vs ds f2->M2 p (v::vs) (d::ds) (f1++f2)) (c7:M3 [] [] [] []) (c8:∀{p ps v d vs ds f1 f2},M1 p v d f1->M3 ps vs ds f2->M3 (p::ps) (v::vs) (d::ds) (f1++f2)) :
  YG K G H M1 M2 M3:=
 ⟨λh=>RepO.rec (motive_1:=λp v d fp _=>M1 p v d fp) (motive_2:=λp v d fp _=>M2 p v d fp) (motive_3:=λp v d fp _=>M3 p v d fp) c1 (λh _=>c2 h) (λh _=>c3 h) c4 c5 (λ_ _=>c6) c7 (λ_ _=>c8) h,
  λh=>RepOl.rec (motive_1:=λp v d fp _=>M1 p v d fp) (motive_2:=λp v d fp _=>M2 p v d fp) (motive_3:=λp v d fp _=>M3 p v d fp) c1 (λh _=>c2 h) (λh _=>c3 h) c4 c5 (λ_ _=>c6) c7 (λ_ _=>c8) h,
  λh=>RepOs.rec (motive_1:=λp v d fp _=>M1 p v d fp) (motive_2:=λp v d fp _=>M2 p v d fp) (motive_3:=λp v d fp _=>M3 p v d fp) c1 (λh _=>c2 h) (λh _=>c3 h) c4 c5 (λ_ _=>c6) c7 (λ_ _=>c8) h⟩
theorem RepO.mono3(sg:Same G G1)(sh:Same H H1):YG K G H (RepO K G1 H1) (RepOl K G1 H1) (RepOs K G1 H1):=
 RepO.ind3 (λr=>.leaf (r.mono sg)) (λh r=>.lst (sh _ _ h) r) (λh r=>.tup (sh _ _ h) r) (λe hl h r=>.dic e hl (sh _ _ h) (r.mono sg)) .nil .cons .nil .cons
theorem RepO.mono(sg:Same G G1)(sh:Same H H1){p:Pat}{v:V}{d:D}{fp:List Ug}(r:RepO K G H p v d fp):RepO K G1 H1 p v d fp:=(RepO.mono3 sg sh).1 r
theorem RepO.upd3{a:Ug}{o:HO}(nt:∀vs,H a≠some (.tup vs)):YG K G H (λp v d fp=>a∉fp->RepO K G (upd H a o) p v d fp) (λp v d fp=>a∉fp->RepOl K G (upd H a o) p v d fp) (λp v d fp=>a∉fp->RepOs K G (upd H a o) p v d fp):=
 RepO.ind3
 (λr _=>.leaf r) (λh r n=>.lst (by rw[Kb (λz=>n (by rw[z];exact Qo))];exact h) (r λz=>n (Qu _ z))) (λh r n=>.tup (by rw[Kb (λz=>by subst z;exact nt _ h)];exact h) (r n))
 (λe hl h r n=>.dic e hl (by rw[Kb (λz=>n (by rw[z];exact Qo))];exact h) r) (λ_=>.nil) (λh t n=>.cons (h λz=>n (Q6 _ z)) (t λz=>n (Qz _ z))) (λ_=>.nil) (λh t n=>.cons (h λz=>n (Q6 _ z)) (t λz=>n (Qz _ z)))
theorem RepO.upd{a:Ug}{o:HO}(nt:∀vs,H a≠some (.tup vs)){p:Pat}{v:V}{d:D}{fp:List Ug}(r:RepO K G H p v d fp)(n:a∉fp):RepO K G (upd H a o) p v d fp:=(RepO.upd3 nt).1 r n
theorem RepO.rep3(gh:Same G H):YG K G H (λ_ v d _=>Rep K H v d) (λ_ v d _=>Reps K H v d) (λ_ v d _=>Reps K H v d):=
 RepO.ind3 (λr=>r.mono gh) (λh r=>.lst (SqL.of h) r) (λh r=>.tup (SqT.of h) r)
 (λ{a ks vs ds kvs} e hl h r=>by
  cases ks with
  |nil=>subst e;exact .dic h
  |cons k ks=>exact .dct e (λz=>by cases z) hl h (r.mono gh)) .nil .cons .nil .cons
theorem RepO.rep(gh:Same G H){p:Pat}{v:V}{d:D}{fp:List Ug}(r:RepO K G H p v d fp):Rep K H v d:=(RepO.rep3 gh).1 r
theorem RepO.isl3:YG K G H (λ_ _ _ fp=>∀a∈fp,∃u:MO,H a=some u.ho) (λ_ _ _ fp=>∀a∈fp,∃u:MO,H a=some u.ho) (λ_ _ _ fp=>∀a∈fp,∃u:MO,H a=some u.ho):=
 RepO.ind3 (λ_ a m=>by cases m)
 (λh r b m=>(QR.mp m).elim (λe=>⟨.l _,e ▸ h⟩) (r b)) (λ_ r=>r) (λ_ _ h _ b m=>⟨.k _,Qy.mp m ▸ h⟩) (λa m=>by cases m) (λh t b m=>(QL.mp m).elim (h b) (t b)) (λa m=>by cases m) (λh t b m=>(QL.mp m).elim (h b) (t b))
theorem RepO.isl{p:Pat}{v:V}{d:D}{fp:List Ug}(r:RepO K G H p v d fp):∀a∈fp,∃u:MO,H a=some u.ho:=RepO.isl3.1 r
theorem RepO.uniq3(sh:Same H H1):YG K G H (λp v _ fp=>∀d' fp',RepO K G1 H1 p v d' fp'->fp=fp') (λp v _ fp=>∀d' fp',RepOl K G1 H1 p v d' fp'->fp=fp') (λp v _ fp=>∀d' fp',RepOs K G1 H1 p v d' fp'->fp=fp'):=
 RepO.ind3
 (λ_ d' fp' h=>by cases h;rfl)
 (λh r d' fp' h'=>by
  cases h' with
  |lst h2 r2=>have e:=sh _ _ h;rw[h2]at e;cases e;rw[r _ _ r2])
 (λh r d' fp' h'=>by
  cases h' with
  |tup h2 r2=>have e:=sh _ _ h;rw[h2]at e;cases e;exact r _ _ r2)
 (λ_ _ _ _ d' fp' h=>by cases h;rfl) (λd' fp' h=>by cases h;rfl)
 (λh t d' fp' h'=>by
  cases h' with
  |cons h2 t2=>rw[h _ _ h2,t _ _ t2])
 (λd' fp' h=>by cases h;rfl)
 (λh t d' fp' h'=>by
  cases h' with
  |cons h2 t2=>rw[h _ _ h2,t _ _ t2])
theorem RepO.uniq(sh:Same H H1){p:Pat}{v:V}{d d':D}{fp fp':List Ug}(r:RepO K G H p v d fp)(r':RepO K G1 H1 p v d' fp'):fp=fp':=(RepO.uniq3 sh).1 r _ _ r'
inductive Sl where
 |pub (d:D)|own (ds:List D)|deep (p:Pat) (d:D)
abbrev UE:=List (Option Sl)
def DpOk(K:Frag)(B G H:Hp)(σ:St)(ρ:UE):Prop:=∃ω:Ug->Nat,
 (∀(i:Nat) p d,ρ[i]?=some (some (.deep p d))->∃v fp,σ[i]?=some (some v)/\RepO K G H p v d fp/\fp.Nodup/\∀a∈fp,B a=none/\G a=none/\ω a=i) /\
 (∀(i:Nat) ds a,ρ[i]?=some (some (.own ds))->σ[i]?=some (some (.ref a))->ω a=i)
theorem DpOk.of{σ:St}{ρ:UE}(h1:∀(i:Nat) p d,ρ[i]?=some (some (.deep p d))->False)(h2:∀(i:Nat) ds,ρ[i]?=some (some (.own ds))->False):DpOk K B G H σ ρ:=
 ⟨λ_=>0,λi p d q=>(h1 i p d q).elim,λi ds a q=>(h2 i ds q).elim⟩
theorem DpOk.map{B1:Hp}{σ σ1:St}{ρ ρ1:UE}(k:DpOk K B G H σ ρ)
  (h1:∀(i:Nat) p d,ρ1[i]?=some (some (.deep p d))->ρ[i]?=some (some (.deep p d))/\σ1[i]?=σ[i]?)
  (h2:∀(i:Nat) ds,ρ1[i]?=some (some (.own ds))->∃es,ρ[i]?=some (some (.own es))/\σ1[i]?=σ[i]?)
  (h3:∀(i:Nat) p d v fp,ρ[i]?=some (some (.deep p d))->σ[i]?=some (some v)->RepO K G H p v d fp->(∀a∈fp,B a=none/\G a=none)->(∀(j:Nat) ds a,ρ[j]?=some (some (.own ds))->σ[j]?=some (some (.ref a))->a∉fp)->RepO K G1 H1 p v d fp/\∀a∈fp,B1 a=none/\G1 a=none):DpOk K B1 G1 H1 σ1 ρ1:=by
 obtain⟨ω,k1,k2⟩:=k;refine⟨ω,λi p d q=>?_,λi ds a q s=>?_⟩
 ·obtain⟨q1,e1⟩:=h1 i p d q;obtain⟨v,fp,s,r,n,w⟩:=k1 i p d q1;obtain⟨r1,w1⟩:=h3 i p d v fp q1 s r (λa m=>⟨(w a m).1,(w a m).2.1⟩) λj ds a qj sj m=>by have z1:=k2 j ds a qj sj;have z2:=(w a m).2.2;rw[z1]at z2;subst z2;rw[q1]at qj;cases qj
  exact⟨v,fp,by rw[e1];exact s,r1,n,λa m=>⟨(w1 a m).1,(w1 a m).2,(w a m).2.2⟩⟩
 ·obtain⟨es,q1,e1⟩:=h2 i ds q;rw[e1]at s;exact k2 i es a q1 s
structure EOk(K:Frag)(B G0 G H:Hp)(σ:St)(ρ:UE):Prop where
 bh:Same B H
 gh:Same G H
 g0:Same G0 G
 np:∀a(u:MO),B a=some u.ho->G0 a=none->G a=none
 len:ρ.length=σ.length
 pub:∀(i:Nat) d,ρ[i]?=some (some (.pub d))->∃v,σ[i]?=some (some v)/\Rep K G v d
 own:∀(i:Nat) ds,ρ[i]?=some (some (.own ds))->∃a vs,σ[i]?=some (some (.ref a))/\B a=none/\G a=none/\H a=some (.lst vs)/\Reps K G vs ds
 sep:∀(i j:Nat) a ds es,ρ[i]?=some (some (.own ds))->ρ[j]?=some (some (.own es))->σ[i]?=some (some (.ref a))->σ[j]?=some (some (.ref a))->i=j
 dp:DpOk K B G H σ ρ
theorem EOk.ext{G' H':Hp}{σ:St}{ρ:UE}(k:EOk K B G0 G H σ ρ)(e:Ext G H G' H'):EOk K B G0 G' H' σ ρ where
 bh:=k.bh.trans e.h
 gh:=e.gh
 g0:=k.g0.trans e.g
 np:=λa o q n=>e.np a o (k.bh a _ q) (k.np a o q n)
 len:=k.len
 pub:=λi d q=>let ⟨v,h1,h2⟩:=k.pub i d q;⟨v,h1,h2.mono e.g⟩
 own:=λi ds q=>let ⟨a,vs,h1,h2,h3,h4,h5⟩:=k.own i ds q;⟨a,vs,h1,h2,e.np a (.l _) h4 h3,e.h a _ h4,h5.mono e.g⟩
 sep:=k.sep
 dp:=k.dp.map (λ_ _ _ q=>⟨q,rfl⟩) (λ_ ds q=>⟨ds,q,rfl⟩) λi p d v fp q s r w n=>⟨r.mono e.g e.h,λa m=>let ⟨_,hl⟩:=r.isl a m;⟨(w a m).1,e.np a _ hl (w a m).2⟩⟩
theorem EOk.publish{σ:St}{ρ:UE}{i:Nat}{ds:List D}(k:EOk K B G0 G H σ ρ)(h:ρ[i]?=some (some (.own ds))) :
  ∃a G',σ[i]?=some (some (.ref a))/\Same G G'/\Rep K G' (.ref a) (.list ds)/\EOk K B G0 G' H σ (ρ.set i (some (.pub (.list ds)))):=by
 obtain⟨a,vs,h1,h2,h3,h4,h5⟩:=k.own i ds h;have sg:Same G (upd G a (.lst vs)):=KU h3;have hr:Rep K (upd G a (.lst vs)) (.ref a) (.list ds):=.lst (SqL.of Ky) (h5.mono sg);refine⟨a,upd G a (.lst vs),h1,sg,hr,⟨k.bh,λb u q=>?_,k.g0.trans sg,λb o q n=>?_,by rw[Q3];exact k.len,λj d q=>?_,λj es q=>?_,λj l c es fs q1 q2 s1 s2=>?_,?_⟩⟩
 ·by_cases z:b=a
  ·subst z;rw[Ky]at q;cases q;exact h4
  ·rw[Kb z]at q;exact k.gh b u q
 ·have z:b≠a:=λz=>by subst z;rw[h2]at q;cases q
  rw[Kb z];exact k.np b o q n
 ·by_cases z:i=j
  ·subst z;have hl:i<ρ.length:=(Qg.mp h).1;rw[QJ hl]at q;cases q;exact⟨.ref a,h1,hr⟩
  ·rw[Ql z]at q;obtain⟨v,g1,g2⟩:=k.pub j d q;exact⟨v,g1,g2.mono sg⟩
 ·by_cases z:i=j
  ·subst z;have hl:i<ρ.length:=(Qg.mp h).1;rw[QJ hl]at q;cases q
  ·rw[Ql z]at q;obtain⟨b,ws,g1,g2,g3,g4,g5⟩:=k.own j es q;have zb:b≠a:=λe=>z (k.sep i j a ds es h q h1 (by rw[←e];exact g1))
   exact⟨b,ws,g1,g2,by rw[Kb zb];exact g3,g4,g5.mono sg⟩
 ·have nz:∀{m:Nat}{ts:List D},(ρ.set i (some (Sl.pub (.list ds))))[m]?=some (some (.own ts))->ρ[m]?=some (some (.own ts)):=λ{m ts} q=>by
   by_cases z:i=m
   ·subst z;have hl:i<ρ.length:=(Qg.mp h).1;rw[QJ hl]at q;cases q
   ·rw[Ql z]at q;exact q
  exact k.sep j l c es fs (nz q1) (nz q2) s1 s2
 ·have hl:i<ρ.length:=(Qg.mp h).1
  have nz:∀{m:Nat}{s:Sl},(ρ.set i (some (Sl.pub (.list ds))))[m]?=some (some s)->(∃d,s=.pub d)∨ρ[m]?=some (some s):=λ{m s} q=>by
   by_cases z:i=m
   ·subst z;rw[QJ hl]at q;cases q;exact .inl ⟨_,rfl⟩
   ·rw[Ql z]at q;exact .inr q
  refine k.dp.map (λm p d q=>?_) (λm es q=>?_) λm p d v fp q s r w n=>⟨r.mono sg (.refl _),λb mb=>⟨(w b mb).1,?_⟩⟩
  ·rcases nz q with ⟨_,e⟩|q
   ·cases e
   ·exact⟨q,rfl⟩
  ·rcases nz q with ⟨_,e⟩|q
   ·cases e
   ·exact⟨es,q,rfl⟩
  ·rw[Kb (λz=>by subst z;exact n i ds b h h1 mb)];exact(w b mb).2
inductive Res(α:Type) where
 |ok (a:α) (ρ:UE)|bad
abbrev M(α:Type):=UE->Res α
def UK{α:Type}(a:α):M α:=λρ=>.ok a ρ
def UY{α:Type}(o:Option α):M α:=λρ=>match o with|some a=>.ok a ρ|none=>.bad
def UX{α β:Type}(f:M α)(k:α->M β):M β:=λρ=>match f ρ with | .ok a ρ'=>k a ρ' | .bad=>.bad
section
variable(K:Frag)(B G0:Hp)
def aft{α γ:Type}(R:Hp->γ->α->Prop)(r:Res α)(G:Hp)(σ:St)(Q:γ->Hp->Prop):Prop:=
 match r with
 |.ok d ρ'=>∀v G' H',EOk K B G0 G' H' σ ρ'->Same G G'->R G' v d->Q v H'
 |.bad=>False
def tM{α γ:Type}(R:Hp->γ->α->Prop)(f:M α):St->Hp->(γ->Hp->Prop)->Prop:=λσ H Q=>
 ∃G ρ,EOk K B G0 G H σ ρ/\aft K B G0 R (f ρ) G σ Q
abbrev tD(f:M D):TE:=tM K B G0 (Rep K) f
abbrev tDs(f:M (List D)):TA:=tM K B G0 (Reps K) f
abbrev tBo(f:M Bool):TT:=tM K B G0 (λ_ b c=>b=c) f
abbrev tOi(f:M (Option Int)):TO:=tM K B G0 (λ_ b c=>b=c) f
end
section
variable{K:Frag}{B G0:Hp}{α β γ δ ε:Type}{R:Hp->γ->α->Prop}{S:Hp->δ->β->Prop}{T:Hp->ε->α->Prop}{σ:St}{H:Hp}
theorem aft.mono{r:Res α}{G G':Hp}{Q:γ->Hp->Prop}(e:Same G G')(h:aft K B G0 R r G σ Q):aft K B G0 R r G' σ Q:=by
 cases r with
 |ok d ρ=>exact λv G2 H2 k s q=>h v G2 H2 k (e.trans s) q
 |bad=>exact h
theorem aft.done{d:α}{ρ:UE}{G G' H H':Hp}{v:γ}{Q:γ->Hp->Prop}(h:aft K B G0 R (.ok d ρ) G σ Q)(k:EOk K B G0 G H σ ρ)(e:Ext G H G' H')(r:R G' v d):Q v H':=
 h v G' H' (k.ext e) e.g r
theorem aft.now{d:α}{ρ:UE}{G H:Hp}{v:γ}{Q:γ->Hp->Prop}(h:aft K B G0 R (.ok d ρ) G σ Q)(k:EOk K B G0 G H σ ρ)(r:R G v d):Q v H:=
 h v G H k (.refl _) r
theorem aft.opt{o:Option α}{ρ:UE}{G:Hp}{Q:γ->Hp->Prop}(h:aft K B G0 R (UY o ρ) G σ Q):∃d,o=some d/\aft K B G0 R (.ok d ρ) G σ Q:=by
 cases o with
 |none=>exact h.elim
 |some d=>exact⟨d,rfl,h⟩
theorem tM.bind{f:M α}{k:α->M β}{Q:δ->Hp->Prop}(h:tM K B G0 S (UX f k) σ H Q) :
  tM K B G0 R f σ H (λv H1=>∃G ρ d,EOk K B G0 G H1 σ ρ/\R G v d/\aft K B G0 S (k d ρ) G σ Q):=by
 obtain⟨G,ρ,e,a⟩:=h;refine⟨G,ρ,e,?_⟩;unfold UX at a;cases q:f ρ with
 |bad=>rw[q]at a;exact a.elim
 |ok d ρ1=>rw[q]at a;exact λv G' H' e' s r=>⟨G',ρ1,d,e',r,aft.mono s a⟩
theorem tM.bind2{α' γ':Type}{R':Hp->γ'->α'->Prop}{f:M α}{g:α->M α'}{k:α->α'->M β}{Q:δ->Hp->Prop}(mo:∀G G' v d,Same G G'->R G v d->R G' v d)
  (h:tM K B G0 S (UX f λx=>UX (g x) λy=>k x y) σ H Q) :
  tM K B G0 R f σ H (λv H1=>∃x,tM K B G0 R' (g x) σ H1 λu H2=>∃G ρ y,EOk K B G0 G H2 σ ρ/\R G v x/\R' G u y/\aft K B G0 S (k x y ρ) G σ Q):=by
 obtain⟨G,ρ,e,a⟩:=tM.bind (R:=R) h;refine⟨G,ρ,e,?_⟩;cases q:f ρ with
 |bad=>rw[q]at a;exact a.elim
 |ok d ρ1=>
  rw[q]at a;intro v G' H' e' s r;obtain⟨G2,ρ2,d2,e2,r2,a2⟩:=a v G' H' e' s r;refine⟨d2,G2,ρ2,e2,?_⟩;unfold UX at a2;cases q2:g d2 ρ2 with
  |bad=>rw[q2]at a2;exact a2.elim
  |ok d3 ρ3=>rw[q2]at a2;exact λu G3 H3 e3 s3 r3=>⟨G3,ρ3,d3,e3,mo _ _ _ _ s3 r2,r3,aft.mono s3 a2⟩
end
theorem OU{K:Frag}(G G':Hp)(v:V)(d:D)(e:Same G G')(r:Rep K G v d):Rep K G' v d:=r.mono e
theorem tM.two{K:Frag}{B G0:Hp}{β δ:Type}{S:Hp->δ->β->Prop}{σ:St}{H:Hp}{f g:M D}{k:D->D->M β}{Q:δ->Hp->Prop}{P:V->V->Hp->Prop}
  (h:tM K B G0 S (UX f λx=>UX g λy=>k x y) σ H Q)
  (i:∀v u H2 G ρ x y,EOk K B G0 G H2 σ ρ->Rep K G v x->Rep K G u y->aft K B G0 S (k x y ρ) G σ Q->P v u H2) :
  tD K B G0 f σ H (λv H1=>tD K B G0 g σ H1 λu H2=>P v u H2):=by
 obtain⟨G,ρ,e,a⟩:=tM.bind2 (R:=Rep K) (R':=Rep K) OU h;refine⟨G,ρ,e,?_⟩;cases q:f ρ with
 |bad=>rw[q]at a;exact a.elim
 |ok d ρ1=>
  rw[q]at a;intro v G' H' e' s r;obtain⟨x,G2,ρ2,e2,a2⟩:=a v G' H' e' s r;refine⟨G2,ρ2,e2,?_⟩;cases q2:g ρ2 with
  |bad=>rw[q2]at a2;exact a2.elim
  |ok d3 ρ3=>rw[q2]at a2;intro u G3 H3 e3 s3 r3;obtain⟨G4,ρ4,y,e4,r4,r5,a5⟩:=a2 u G3 H3 e3 s3 r3;exact i v u H3 G4 ρ4 x y e4 r4 r5 a5
theorem tM.one{K:Frag}{B G0:Hp}{α β γ δ:Type}{R:Hp->γ->α->Prop}{S:Hp->δ->β->Prop}{σ:St}{H:Hp}{f:M α}{k:α->M β}{Q:δ->Hp->Prop}{P:γ->Hp->Prop}
  (h:tM K B G0 S (UX f k) σ H Q) (i:∀v H2 G ρ x,EOk K B G0 G H2 σ ρ->R G v x->aft K B G0 S (k x ρ) G σ Q->P v H2):tM K B G0 R f σ H P:=by
 obtain⟨G,ρ,e,a⟩:=tM.bind (R:=R) h;refine⟨G,ρ,e,?_⟩;cases q:f ρ with
 |bad=>rw[q]at a;exact a.elim
 |ok d ρ1=>rw[q]at a;intro v G' H' e' s r;obtain⟨G2,ρ2,d2,e2,r2,a2⟩:=a v G' H' e' s r;exact i v H' G2 ρ2 d2 e2 r2 a2
section
variable{X:Cx}{B G0:Hp}{e a b:Ui}{pos:Pos}
theorem U5{t t':TE}(h:PE X e t)(i:∀σ H Q,t' σ H Q->t σ H Q):PE X e t':=λpins s σ H Q I q=>h pins s σ H Q I (i σ H Q q)
theorem ZS{t t':TT}(h:PT X e t)(i:∀σ H Q,t' σ H Q->t σ H Q):PT X e t':=λpins s σ H Q I q=>h pins s σ H Q I (i σ H Q q)
theorem paof{es:List Ui}{t t':TA}(h:PA X es t)(i:∀σ H Q,t' σ H Q->t σ H Q):PA X es t':=λps pins s σ H Q I q=>h ps pins s σ H Q I (i σ H Q q)
theorem poof{eo:Option Ui}{t t':TO}(h:PO X eo t)(i:∀σ H Q,t' σ H Q->t σ H Q):PO X eo t':=λpins s σ H Q I q=>h pins s σ H Q I (i σ H Q q)
theorem KZ{st:Stmt}{t t':TS}(h:PS X st t)(i:∀D σ H,t' D σ H->t D σ H):PS X st t':=λpins s σ H D I q=>h pins s σ H D I (i D σ H q)
theorem Pk{st:List Stmt}{t t':TS}(h:PSs X st t)(i:∀D σ H,t' D σ H->t D σ H):PSs X st t':=λpins s σ H D I q=>h pins s σ H D I (i D σ H q)
def UD(i:Nat):M D:=λρ=>match ρ[i]? with
 |some (some (.pub d))=>.ok d ρ
 |some (some (.own ds))=>.ok (.list ds) (ρ.set i (some (.pub (.list ds))))
 |_=>.bad
theorem PF{i:Nat}(h:PE X e (KO i)):PE X e (tD X.K B G0 (UD i)):=U5 h λσ H Q ⟨G,ρ,k,a⟩=>by
 unfold UD at a;cases q:ρ[i]? with
 |none=>rw[q]at a;exact a.elim
 |some o=>
  cases o with
  |none=>rw[q]at a;exact a.elim
  |some sl=>
   cases sl with
   |deep _ _=>rw[q]at a;exact a.elim
   |pub d=>rw[q]at a;obtain⟨v,h1,h2⟩:=k.pub i d q;exact⟨v,h1,a.now k h2⟩
   |own ds=>rw[q]at a;obtain⟨ad,G',h1,h2,h3,h4⟩:=k.publish q;exact⟨.ref ad,h1,a (.ref ad) G' H h4 h2 h3⟩
theorem Sc{v:V}{d:D}(h:PE X e (tC v))(r:∀G,Rep X.K G v d):PE X e (tD X.K B G0 (UK d)):=U5 h λσ H Q ⟨G,ρ,k,a⟩=>a.now k (r G)
theorem HA{i:Int}{j}:PE X (.Constant (.int i) j pos) (tD X.K B G0 (UK (.int i))):=Sc Fg λ_=>.int i
theorem EQ{i:Bool}{j}:PE X (.Constant (.bool i) j pos) (tD X.K B G0 (UK (.bool i))):=Sc Li λ_=>.bl i
theorem EO{j}:PE X (.Constant .none j pos) (tD X.K B G0 (UK .none)):=Sc Ff λ_=>.non
theorem Hz{x:Str}{j}:PE X (.Constant (.str x) j pos) (tD X.K B G0 (UK (.str x))):=Sc Fe λ_=>.str x
def UH{β:Type}(op:D->D->Option β)(f g:M D):M β:=UX f λx=>UX g λy=>UY (op x y)
def OpD(X:Cx)(f:Ud->Ud->Sem Ud)(op:D->D->Option D):Prop:=
 ∃r:R2,OpR X f r/\∀v u G H x y d Q,Same G H->Rep X.K G v x->Rep X.K G u y->op x y=some d->(∀w G' H',Ext G H G' H'->Rep X.K G' w d->Q w H')->r v u H Q
theorem VD{op:Operator}{p:D->D->Option D}{f g:M D}(o:OpD X (binaryOp op) p)(ha:PE X a (tD X.K B G0 f))(hb:PE X b (tD X.K B G0 g)):PE X (.BinOp a op b pos) (tD X.K B G0 (UH p f g)):=by
 obtain⟨r,h,i⟩:=o;refine U5 (LY h ha hb) λσ H Q q=>?_;refine tM.two q λv u H2 G ρ x y k rx ry a=>?_
 obtain⟨d,e,a⟩:=a.opt;exact i v u G H2 x y d Q k.gh rx ry e λw G' H' ex rw=>a.done k ex rw
theorem OpD.or{f:Ud->Ud->Sem Ud}{p q:D->D->Option D}(h:OpD X f p)(h':OpD X f q):OpD X f (λx y=>(p x y).orElse λ_=>q x y):=by
 obtain⟨r,h1,i1⟩:=h;obtain⟨r',h2,i2⟩:=h';refine⟨_,h1.or h2,λv u G H x y d Q s rx ry e k=>?_⟩;dsimp only at e;cases z:p x y with
 |some d'=>rw[z]at e;have e':d'=d:=Qt e;subst e';exact .inl (i1 v u G H x y d' Q s rx ry z k)
 |none=>rw[z]at e;exact .inr (i2 v u G H x y d Q s rx ry e k)
def oII(g:Int->Int->Option D):D->D->Option D
 |.int i,.int j=>g i j
 |_,_=>none
theorem O3{g:Int->Int->Option D}{x y d:D}(e:oII g x y=some d):∃i j,x=.int i/\y=.int j/\g i j=some d:=by
 unfold oII at e;split at e
 ·exact⟨_,_,rfl,rfl,e⟩
 ·cases e
theorem OpD.int{f:Ud->Ud->Sem Ud}{C:Int->Int->Prop}{g:Int->Int->V}{p:Int->Int->Option D}(h:OpR X f (rI C g))(i:∀i j d,p i j=some d->C i j/\∀G,Rep X.K G (g i j) d):OpD X f (oII p):=by refine⟨_,h,λv u G H x y d Q s rx ry e k=>?_⟩;obtain⟨a,b,rfl,rfl,e⟩:=O3 e;obtain⟨c,r⟩:=i a b d e;exact⟨a,b,rx.int_inv,ry.int_inv,c,k _ G H (.refl s) (r G)⟩
theorem OpD.int0{f:Ud->Ud->Sem Ud}{g:Int->Int->V}{p:Int->Int->D}(h:OpR X f (rI0 g))(i:∀i j G,Rep X.K G (g i j) (p i j)):OpD X f (oII λi j=>some (p i j)):=by refine⟨_,h,λv u G H x y d Q s rx ry e k=>?_⟩;obtain⟨a,b,rfl,rfl,e⟩:=O3 e;cases e;exact⟨a,b,rx.int_inv,ry.int_inv,k _ G H (.refl s) (i a b G)⟩
end
section
variable{X:Cx}{B G0:Hp}{e a b c:Ui}{pos:Pos}
theorem Hy:OpD X (binaryOp .Add) (oII λi j=>some (.int (i+j))):=.int0 GQ λ_ _ _=>.int _
theorem Hx:OpD X (binaryOp .Sub) (oII λi j=>some (.int (i-j))):=.int0 GP λ_ _ _=>.int _
def ZB(i j:Int):Option D:=if(-(2 ^ 64)<i/\i<2 ^ 64)∨(-(2 ^ 64)<j/\j<2 ^ 64)then some (.int (i*j))else none
theorem EN:OpD X (binaryOp .Mult) (oII ZB):=.int GO λi j d h=>by
 unfold ZB at h;split at h
 ·rename_i c;cases h;exact⟨c,λ_=>.int _⟩
 ·cases h
def XN(i j:Int):Option D:=if 0<j then some (.int (i % j))else none
theorem Hw:OpD X (binaryOp .Mod) (oII XN):=.int GN λi j d h=>by
 unfold XN at h;split at h
 ·rename_i c;cases h;exact⟨c,λ_=>.int _⟩
 ·cases h
theorem Ck:OpR X (binaryOp .FloorDiv) (rI (λi j=>0<j/\j<2 ^ 64) λi j=>.int (i / j)):=opI λi j _ _ _ _ _ hc q=>by
 have h1:(0:Int)<j:=hc.1;have h2:j<2 ^ 64:=hc.2;refine floordiv_int (by omega) (by rw[Int.fdiv_eq_ediv_of_nonneg i (by omega)];exact q) (.inl (PyProof.noPylong_of_log2 ?_));have h0:j.natAbs≠0:=by omega
 have:j.natAbs.log2<64:=(Nat.log2_lt h0).mpr (by omega);omega
def XQ(i j:Int):Option D:=if 0<j/\j<2 ^ 64 then some (.int (i / j))else none
theorem Hv:OpD X (binaryOp .FloorDiv) (oII XQ):=.int Ck λi j d h=>by
 unfold XQ at h;split at h
 ·rename_i c;cases h;exact⟨c,λ_=>.int _⟩
 ·cases h
def XM(i j:Int):Option D:=if 0<=j/\j<=1000000/\i.natAbs<2 ^ 64 then some (.int (i ^ j.toNat))else none
theorem Hu:OpD X (binaryOp .Pow) (oII XM):=.int GM λi j d h=>by
 unfold XM at h;split at h
 ·rename_i c;cases h;exact⟨c,λ_=>.int _⟩
 ·cases h
theorem lim:(1000000:Nat)<=Uj:=by decide
def T4:D->D->Option D
 |.str x,.str y=>if x.length+y.length<=1000000 then some (.str (x++y))else none
 |_,_=>none
theorem FR:OpD X (binaryOp .Add) T4:=by
 refine⟨_,BE,λv u G H x y d Q s rx ry e k=>?_⟩;unfold T4 at e;split at e
 ·split at e
  ·rename_i c;cases e;exact⟨_,_,rx.str_inv,ry.str_inv,QQ c lim,k _ G H (.refl s) (.str _)⟩
  ·cases e
 ·cases e
def LB(K:Frag):R2:=λx y H Q=>∃l b xs zs,x=.ref l/\y=.ref b/\SqL K H l xs/\SqL K H b zs/\xs.length+zs.length<=Uj/\∀p,H p=none->Q (.ref p) (upd H p (.lst (xs++zs)))
theorem FQ:OpR X (binaryOp .Add) (LB X.K):=by
 intro pins s σ H x y v u Q I rx ry h;obtain⟨l,b,xs,zs,rfl,rfl,hH,hB,hz,q⟩:=h;cases rx;cases ry;obtain⟨its,r,⟨⟨c1,d1,t1,s1⟩,n1,e1,ec1,ed1,et1⟩,z1⟩:=I.list hH;obtain⟨its2,r2,⟨⟨c2,d2,t2,s2⟩,n2,e2,ec2,ed2,et2⟩,z2⟩:=I.list hB;simp only at ec1 ed1 et1 ec2 ed2 et2;subst ec1 ed1 et1 ec2 ed2 et2;have hl:=r.length;have hl2:=r2.length;refine concat_meets ⟨_,e1,rfl⟩ ⟨_,e2,rfl⟩ noFill_list_add seq_list_add PySem.F.slot_list_add PySem.F.entry_list_add (PySem.F.args_list_add_2 _ _) (list_addW l b its.toArray its2.toArray n1 n2 none none s1 s2 (by rw[QO,QO];omega)) ⟨e1,e2,?_⟩;have ea:its.toArray++its2.toArray=(its++its2).toArray:=by simp
 rw[ea];exact⟨.ref _,_,I.lnew (t':=s.toks) (r.append r2) (by rw[Qj];omega),rfl,q _ I.fresh⟩
theorem LA(a:Int)(t:Tok)(l:Ug)(items:Array Ud)(n:Nat)(sl:Array (Option Ud)) :
  Meets (Builtin.«int.__rmul__» ⟨[.int a t,.ref l],[]⟩) (λ_ R s=>s.heap.get? l=some {cls:=.type "list", dict:=none,data:=.seq items n,slots:=sl}/\R (.ok (.ret Value.notImplemented)) s):=
 .of_wp λprog w A R s h=>by obtain⟨hp,g,d,tk,os⟩:=s;obtain⟨hl,h⟩:=h;wp_walk;exact⟨_,rfl,h⟩
theorem mulW(l:Ug)(items:Array Ud)(n:Nat)(x:Int)(u:Tok)(sl:Array (Option Ud))(hc0:¬(!Builtin.List.listFitsIndex x)=true)(hc1:¬items.size*x.toNat > (2 ^ 63-1) / 8)(hc2:¬Builtin.List.listTooLong (items.size*x.toNat)=true) :
  Meets (Builtin.«list.__mul__» ⟨[.ref l,.int x u],[]⟩) (λ_ R s=>s.heap.get? l=some {cls:=.type "list", dict:=none,data:=.seq items n,slots:=sl}/\R (.ok (.ret (Value.ref s.heap.objs.size))) {s with heap:=s.heap.push {cls:=Value.type "list", data:=Data.seq (List.foldl (λx1 x2=>x1++x2) #[] (Up (if items.isEmpty=true then 0 else x.toNat) items))},toks:=s.toks}):=
 .of_wp λprog w A R s h=>by
  obtain⟨hp,g,d,tk,os⟩:=s;obtain⟨hl,h⟩:=h;have hsz:=AutoListH.joined_fits hc2
  wp_walk;refine wpAny_ite_false (QC (Nat.not_lt.mpr hsz)) ?_;wp_walk;exact⟨_,rfl,h⟩
def Lz(K:Frag):R2:=λx y H Q=>∃l k xs,x=.ref l/\y=.int k/\SqL K H l xs /\ -(2 ^ 63)<=k/\k<2 ^ 63/\xs.length*k.toNat<=Uj /\
 ∀p,H p=none->Q (.ref p) (upd H p (.lst (Up k.toNat xs).flatten))
theorem FP:OpR X (binaryOp .Mult) (Lz X.K):=by
 intro pins s σ H x y v u Q I rx ry h;obtain⟨l,k,xs,rfl,rfl,hH,h1,h2,hz,q⟩:=h;cases rx;obtain⟨t,rfl⟩:=ry;obtain⟨its,r,⟨⟨c1,d1,t1,sl⟩,n,e,ec1,ed1,et1⟩,z⟩:=I.list hH;simp only at ec1 ed1 et1;subst ec1 ed1 et1;have hl:=r.length;have hlen:its.toArray.size*k.toNat<=Uj:=by rw[QO,←hl];exact hz
 have hcap:¬its.toArray.size*k.toNat > (2 ^ 63-1) / 8:=by
  have:(Uj:Nat)<=(2 ^ 63-1) / 8:=by decide
  omega
 have hfit:¬(!Builtin.List.listFitsIndex k)=true:=by rw[fitsIndex_both h1 h2];exact Jt
 have hlong:¬Builtin.List.listTooLong (its.toArray.size*k.toNat)=true:=by rw[Nv hlen];exact Jt
 have hnew:List.foldl (λx1 x2=>x1++x2) #[] (Up (if its.toArray.isEmpty=true then 0 else k.toNat) its.toArray)=(Up k.toNat its).flatten.toArray:=by
  have f0:∀m:Nat,List.foldl (λx1 x2=>x1++x2) #[] (Up m its.toArray)=(Up m its).flatten.toArray:=λm=>by have:=Mk its m [];rw[Ji]at this;exact this
  rw[f0];cases its with
  |nil=>simp
  |cons a r'=>rw[if_neg (by simp)]
 refine wpAny_binaryOp_repeat_ref (T:= "list") (U:= "int") (by decide) ⟨_,e,rfl⟩ (λs'=>typeIs_int s' k t) noFill_list_mul F.fills_int_mul F.slot_int_rmul repeat_list F.slot_int_index.lookup
  (call_meets F.slot_int_rmul (typeIs_int s k t) F.entry_int_rmul (F.args_int_rmul_2 _ _) (LA k t l its.toArray n sl)
   ⟨e,rfl,⟨_,e,rfl⟩,call_meets F.slot_list_mul ⟨_,e,rfl⟩ F.entry_list_mul (F.args_list_mul_2 _ _) (mulW l its.toArray n k t sl hfit hcap hlong) ⟨e,?_⟩⟩)
 rw[hnew];exact⟨.ref _,_,I.lnew (t':=s.toks) (r.rep k.toNat) (by rw[EU,Nat.mul_comm];exact hz),rfl,q _ I.fresh⟩
def T3:D->D->Option D
 |.list x,.list y=>if x.length+y.length<=1000000 then some (.list (x++y))else none
 |_,_=>none
theorem FO:OpD X (binaryOp .Add) T3:=by
 refine⟨_,FQ,λv u G H x y d Q s rx ry e k=>?_⟩;unfold T3 at e;split at e
 ·split at e
  ·rename_i c;cases e;obtain⟨l,vs,rfl,h1,r1⟩:=rx.lst_inv;obtain⟨b,ws,rfl,h2,r2⟩:=ry.lst_inv;refine⟨l,b,vs,ws,rfl,rfl,s.seq h1,s.seq h2,by rw[r1.length,r2.length];exact QQ c lim,λp hp=>k _ _ _ (Ext.new s hp) ?_⟩;exact .lst (SqL.of Ky) ((r1.append r2).mono (KU (s.free hp)))
  ·cases e
 ·cases e
theorem Reps.rep{K:Frag}{G:Hp}{vs:List V}{ds:List D}(r:Reps K G vs ds):∀n:Nat,Reps K G (Up n vs).flatten (Up n ds).flatten
 |0=>.nil
 |n+1=>by rw[Q4,Q4,QP,QP];exact r.append (r.rep n)
def T2:D->D->Option D
 |.list x,.int k=>if -1000000<=k/\k<=1000000/\x.length*k.toNat<=1000000 then some (.list (Up k.toNat x).flatten)else none
 |_,_=>none
theorem FN:OpD X (binaryOp .Mult) T2:=by
 refine⟨_,FP,λv u G H x y d Q s rx ry e k=>?_⟩;unfold T2 at e;split at e
 ·split at e
  ·rename_i c;cases e;obtain⟨l,vs,rfl,h1,r1⟩:=rx.lst_inv;refine⟨l,_,vs,rfl,ry.int_inv,s.seq h1,by omega,by omega,by rw[r1.length];exact QQ c.2.2 lim,λp hp=>k _ _ _ (Ext.new s hp) ?_⟩;exact .lst (SqL.of Ky) ((r1.rep _).mono (KU (s.free hp)))
  ·cases e
 ·cases e
def UW:D->D->Option D
 |.int i,.int j=>some (.int (i+j))
 |.str x,.str y=>if x.length+y.length<=1000000 then some (.str (x++y))else none
 |.list x,.list y=>if x.length+y.length<=1000000 then some (.list (x++y))else none
 |_,_=>none
def Kt:D->D->Option D
 |.int i,.int j=>some (.int (i-j))
 |_,_=>none
def U9:D->D->Option D
 |.int i,.int j=>ZB i j
 |.list x,.int k=>if -1000000<=k/\k<=1000000/\x.length*k.toNat<=1000000 then some (.list (Up k.toNat x).flatten)else none
 |_,_=>none
def Zm:D->D->Option D
 |.int i,.int j=>XN i j
 |_,_=>none
def Y2:D->D->Option D
 |.int i,.int j=>XQ i j
 |_,_=>none
def Y1:D->D->Option D
 |.int i,.int j=>XM i j
 |_,_=>none
theorem OpD.congr{f:Ud->Ud->Sem Ud}{p q:D->D->Option D}(h:OpD X f p)(e:∀x y,q x y=p x y):OpD X f q:=by
 have:q=p:=by funext x y;exact e x y
 rw[this];exact h
theorem Ly:OpD X (binaryOp .Add) UW:=(Hy.or (FR.or FO)).congr λx y=>by cases x<;>cases y<;>first|rfl|(simp only[UW,oII,T4,T3,Option.orElse];done)|(simp only[UW,oII,T4,T3,Option.orElse];split<;>rfl)
theorem Lx:OpD X (binaryOp .Sub) Kt:=Hx.congr λx y=>by cases x<;>cases y<;>rfl
theorem Lw:OpD X (binaryOp .Mult) U9:=(EN.or FN).congr λx y=>by cases x<;>cases y<;>first|rfl|(simp only[U9,oII,T2,Option.orElse];done)|(simp only[U9,oII,T2,Option.orElse];split<;>first|rfl|assumption)
theorem Lv:OpD X (binaryOp .Mod) Zm:=Hw.congr λx y=>by cases x<;>cases y<;>rfl
theorem Lu:OpD X (binaryOp .FloorDiv) Y2:=Hv.congr λx y=>by cases x<;>cases y<;>rfl
theorem Ha:OpD X (binaryOp .Pow) Y1:=Hu.congr λx y=>by cases x<;>cases y<;>rfl
end
section
variable{X:Cx}{B G0:Hp}{e a b c:Ui}{pos:Pos}
def OpB(X:Cx)(f:Ud->Ud->Sem Ud)(op:D->D->Option Bool):Prop:=
 ∃r:R2,OpR X f r/\∀v u G H x y d Q,Same G H->Rep X.K G v x->Rep X.K G u y->op x y=some d->Q (.bl d) H->r v u H Q
theorem OpB.or{f:Ud->Ud->Sem Ud}{p q:D->D->Option Bool}(h:OpB X f p)(h':OpB X f q):OpB X f (λx y=>(p x y).orElse λ_=>q x y):=by
 obtain⟨r,h1,i1⟩:=h;obtain⟨r',h2,i2⟩:=h';refine⟨_,h1.or h2,λv u G H x y d Q s rx ry e k=>?_⟩;dsimp only at e;cases z:p x y with
 |some d'=>rw[z]at e;have e':d'=d:=Qt e;subst e';exact .inl (i1 v u G H x y d' Q s rx ry z k)
 |none=>rw[z]at e;exact .inr (i2 v u G H x y d Q s rx ry e k)
theorem OpB.congr{f:Ud->Ud->Sem Ud}{p q:D->D->Option Bool}(h:OpB X f p)(e:∀x y,q x y=p x y):OpB X f q:=by
 have:q=p:=by funext x y;exact e x y
 rw[this];exact h
theorem FM{op:CmpOp}{p:D->D->Option Bool}{f g:M D}(o:OpB X (Um op) p)(ha:PE X a (tD X.K B G0 f))(hb:PE X b (tD X.K B G0 g))(hm:behindInMarks op b=false) :
  PT X (.Compare a [op] [b] pos) (tBo X.K B G0 (UH p f g)):=by
 obtain⟨r,h,i⟩:=o;refine ZS (Ry h ha hb hm) λσ H Q q=>?_;refine tM.two q λv u H2 G ρ x y k rx ry a=>?_
 obtain⟨d,e,a⟩:=a.opt;exact i v u G H2 x y d _ k.gh rx ry e ⟨d,rfl,a.now k rfl⟩
def UN{α β:Type}(h:α->β)(f:M α):M β:=UX f λx=>UK (h x)
theorem tM.map{K:Frag}{α β γ δ:Type}{R:Hp->γ->α->Prop}{S:Hp->δ->β->Prop}{σ:St}{H:Hp}{h:α->β}{f:M α}{Q:δ->Hp->Prop}(j:γ->δ)(q:tM K B G0 S (UN h f) σ H Q)
  (i:∀G v x,R G v x->S G (j v) (h x)):tM K B G0 R f σ H (λv H'=>Q (j v) H'):=
 tM.one (R:=R) (f:=f) q λv H2 G ρ x k r a=>aft.now (show aft K B G0 S (.ok (h x) ρ) G σ Q from a) k (i G v x r)
theorem tBo.val{K:Frag}{σ:St}{H:Hp}{f:M Bool}{Q:VK}(q:tD K B G0 (UN Ur f) σ H Q):tBo K B G0 f σ H (λb H'=>Q (.bl b) H'):=
 tM.map (R:=λ_ b c=>b=c) V.bl q λG v x e=>by rw[e];exact .bl x
theorem FL{op:CmpOp}{p:D->D->Option Bool}{f g:M D}(o:OpB X (Um op) p)(ha:PE X a (tD X.K B G0 f))(hb:PE X b (tD X.K B G0 g))(hm:behindInMarks op b=false) :
  PE X (.Compare a [op] [b] pos) (tD X.K B G0 (UN Ur (UH p f g))):=by
 obtain⟨r,h,i⟩:=o;refine U5 (OW h ha hb hm) λσ H Q q=>?_;refine tM.two (tBo.val q) λv u H2 G ρ x y k rx ry a=>?_
 obtain⟨d,e,a⟩:=a.opt;exact i v u G H2 x y d _ k.gh rx ry e (a.now k rfl)
def WE(p q:D->D->Option Bool)(f g h:M D):M Bool:=UX f λx=>UX g λy=>UX (UY (p x y)) λt=>if t=true then UX h λz=>UY (q y z)else UK false
theorem Bp{op op':CmpOp}{p q:D->D->Option Bool}{f g h:M D}(o:OpB X (Um op) p)(o':OpB X (Um op') q)(ha:PE X a (tD X.K B G0 f))(hb:PE X b (tD X.K B G0 g))(hc:PE X c (tD X.K B G0 h))
  (hm:lastMarks [op,op'] [b,c]=false:=by with_unfolding_all rfl):PT X (.Compare a [op,op'] [b,c] pos) (tBo X.K B G0 (WE p q f g h)):=by
 obtain⟨r,h1,i⟩:=o;obtain⟨r',h2,i'⟩:=o';refine ZS (D7 h1 h2 ha hb hc hm) λσ H Q w=>?_;refine tM.two w λv u H2 G ρ x y k rx ry a=>?_
 cases z:p x y with
 |none=>rw[z]at a;exact a.elim
 |some t=>
  rw[z]at a;refine i v u G H2 x y t _ k.gh rx ry z ⟨t,rfl,?_⟩;cases t with
  |false=>rw[QG Jt];exact⟨false,rfl,aft.now a k rfl⟩
  |true=>
   rw[Qq rfl];refine⟨G,ρ,k,?_⟩;have a4:aft X.K B G0 (λ_ (b:Bool) c=>b=c) ((UX h λz=>UY (q y z)) ρ) G σ Q:=a;unfold UX at a4;cases z2:h ρ with
   |bad=>rw[z2]at a4;exact a4.elim
   |ok d ρ1=>rw[z2]at a4;intro w G5 H5 k5 s5 r5;obtain⟨t2,e2,a6⟩:=a4.opt;exact i' u w G5 H5 y d t2 _ k5.gh (ry.mono s5) r5 e2 ⟨t2,rfl,a6 t2 G5 H5 k5 s5 rfl⟩
theorem Bo{op op':CmpOp}{p q:D->D->Option Bool}{f g h:M D}(o:OpB X (Um op) p)(o':OpB X (Um op') q)(ha:PE X a (tD X.K B G0 f))(hb:PE X b (tD X.K B G0 g))(hc:PE X c (tD X.K B G0 h))
  (hm:lastMarks [op,op'] [b,c]=false:=by with_unfolding_all rfl):PE X (.Compare a [op,op'] [b,c] pos) (tD X.K B G0 (UN Ur (WE p q f g h))):=by
 obtain⟨r,h1,i⟩:=o;obtain⟨r',h2,i'⟩:=o';refine U5 (D8 h1 h2 ha hb hc hm) λσ H Q w=>?_;refine tM.two (tBo.val w) λv u H2 G ρ x y k rx ry a=>?_
 cases z:p x y with
 |none=>rw[z]at a;exact a.elim
 |some t=>
  rw[z]at a;refine i v u G H2 x y t _ k.gh rx ry z ⟨t,rfl,?_⟩;cases t with
  |false=>rw[QG Jt];exact aft.now (v:=false) a k rfl
  |true=>
   rw[Qq rfl];refine⟨G,ρ,k,?_⟩;have a4:aft X.K B G0 (λ_ (b:Bool) c=>b=c) ((UX h λz=>UY (q y z)) ρ) G σ (λb H'=>Q (.bl b) H'):=a;unfold UX at a4;cases z2:h ρ with
   |bad=>rw[z2]at a4;exact a4.elim
   |ok d ρ1=>rw[z2]at a4;intro w G5 H5 k5 s5 r5;obtain⟨t2,e2,a6⟩:=a4.opt;exact i' u w G5 H5 y d t2 _ k5.gh (ry.mono s5) r5 e2 (a6 t2 G5 H5 k5 s5 rfl)
def oIB(g:Int->Int->Bool):D->D->Option Bool
 |.int i,.int j=>some (g i j)
 |_,_=>none
theorem OpB.int{f:Ud->Ud->Sem Ud}{g:Int->Int->Bool}(h:OpR X f (rI0 λi j=>.bl (g i j))):OpB X f (oIB g):=by
 refine⟨_,h,λv u G H x y d Q s rx ry e k=>?_⟩;unfold oIB at e;split at e
 ·cases e;exact⟨_,_,rx.int_inv,ry.int_inv,k⟩
 ·cases e
theorem B_lt:OpB X (Um .Lt) (oIB λi j=>decide (i<j)):=.int LW
theorem B_le:OpB X (Um .LtE) (oIB λi j=>decide (i<=j)):=.int LV
theorem B_gt:OpB X (Um .Gt) (oIB λi j=>decide (j<i)):=.int LU
theorem B_ge:OpB X (Um .GtE) (oIB λi j=>decide (j<=i)):=.int LS
mutual
theorem Z7{pins:List (Ug×Obj)}{s:Ue}{σ:St}{G H:Hp}(I:Inv X pins σ H s)(sg:Same G H):∀{v:V}{d:D}{u:Ud},Rep X.K G v d->RelV v u->d.canLay0=true->∃as,Reads s.heap u d as
 |_,_,_,.non,r,_=>by cases r;exact⟨_,.none⟩
 |_,_,_,.bl b,r,_=>by cases r;exact⟨_,.bool b⟩
 |_,_,_,.int i,r,_=>by obtain⟨t,rfl⟩:=r;exact⟨_,.int i t⟩
 |_,_,_,.str x,r,_=>by obtain⟨t,rfl⟩:=r;exact⟨_,.str x t⟩
 |_,_,_,.lst h q,r,c=>by cases r;obtain⟨its,rv,⟨o,n,e,hc,_,hd⟩,hz⟩:=I.list (sg.seq h);obtain⟨as,ra⟩:=readsAll_of I sg q rv (show Uu _=true by simpa[PyData.canLay0]using c);exact⟨_,.list e hc hd (by simpa using ra)⟩
 |_,_,_,.tup h q,r,c=>by cases r;obtain⟨its,rv,p,hz⟩:=I.tuple (Z5 sg h);obtain⟨o,e,hc,n,hd⟩:=p;obtain⟨as,ra⟩:=readsAll_of I sg q rv (show Uu _=true by simpa[PyData.canLay0]using c);exact⟨_,.tuple e hc hd (by simpa using ra)⟩
 |_,_,_,.dic h,r,c=>by simp[PyData.canLay0]at c
 |_,_,_,.exc _ _ _ _,r,c=>by simp[PyData.canLay0]at c
 |_,_,_,.dct _ _ _ _ _,r,c=>by simp[PyData.canLay0]at c
 |_,_,_,.dtt _ _ _ _,r,c=>by simp[PyData.canLay0]at c
theorem readsAll_of{pins:List (Ug×Obj)}{s:Ue}{σ:St}{G H:Hp}(I:Inv X pins σ H s)(sg:Same G H):∀{vs:List V}{ds:List D}{us:List Ud},Reps X.K G vs ds->Vals vs us->Uu ds=true->∃as,ReadsAll s.heap us ds as
 |_,_,_,.nil,r,_=>by cases r;exact⟨_,.nil⟩
 |_,_,_,.cons h t,r,c=>by
  cases r with
  |cons r1 r2=>have c':=c;rw[Uu,Q2]at c';obtain⟨as,ra⟩:=Z7 I sg h r1 c'.1;obtain⟨bs,rb⟩:=readsAll_of I sg t r2 c'.2;exact⟨_,.cons ra rb⟩
end
def oEq(x y:D):Option Bool:=if x.canLay0=true/\y.canLay0=true/\x.depth<=60 then some (Uw x y)else none
def oNe(x y:D):Option Bool:=if x.canLay0=true/\y.canLay0=true/\x.depth<=60 then some (!Uw x y)else none
theorem B_eq(hu:X.A.units+64<cLine):OpB X (Um .Eq) oEq:=by
 refine⟨λv u H Q=>∃G x y d,Same G H/\Rep X.K G v x/\Rep X.K G u y/\oEq x y=some d/\Q (.bl d) H,?_,λv u G H x y d Q s rx ry e k=>⟨G,x,y,d,s,rx,ry,e,k⟩⟩;intro pins s σ H x y v u Q I rx ry ⟨G,dx,dy,d,sg,px,py,e,q⟩;unfold oEq at e;split at e
 ·rename_i c;cases e;obtain⟨as,ra⟩:=Z7 I sg px rx c.1;obtain⟨bs,rb⟩:=Z7 I sg py ry c.2.1;exact SeqAt.compareEq_reads ra rb c.1 c.2.1 (by have:=c.2.2;omega) ⟨.bl _,H,I,rfl,q⟩
 ·cases e
theorem B_ne(hu:X.A.units+64<cLine):OpB X (Um .NotEq) oNe:=by
 refine⟨λv u H Q=>∃G x y d,Same G H/\Rep X.K G v x/\Rep X.K G u y/\oNe x y=some d/\Q (.bl d) H,?_,λv u G H x y d Q s rx ry e k=>⟨G,x,y,d,s,rx,ry,e,k⟩⟩;intro pins s σ H x y v u Q I rx ry ⟨G,dx,dy,d,sg,px,py,e,q⟩;unfold oNe at e;split at e
 ·rename_i c;cases e;obtain⟨as,ra⟩:=Z7 I sg px rx c.1;obtain⟨bs,rb⟩:=Z7 I sg py ry c.2.1;exact SeqAt.compareNe_reads ra rb c.1 c.2.1 (by have:=c.2.2;omega) ⟨.bl _,H,I,rfl,q⟩
 ·cases e
def isNon:D->Bool
 |.none=>true
 |_=>false
theorem Rep.isNon{K:Frag}{G:Hp}{v:V}{d:D}(r:Rep K G v d):DL.isNon d=decide (v=.non):=by cases r<;>simp[DL.isNon]
end
section
variable{X:Cx}{B G0:Hp}{e a b c:Ui}{pos:Pos}{es rest:List Ui}
theorem tM.nx{K:Frag}{α β γ δ:Type}{R:Hp->γ->α->Prop}{S:Hp->δ->β->Prop}{σ:St}{G H:Hp}{ρ:UE}{f:M α}{g:α->M β}{Q:δ->Hp->Prop}{P:γ->Hp->Prop}
  (k:EOk K B G0 G H σ ρ) (a:aft K B G0 S (UX f g ρ) G σ Q) (i:∀v H' G' ρ' x,EOk K B G0 G' H' σ ρ'->Same G G'->R G' v x->aft K B G0 S (g x ρ') G' σ Q->P v H'):tM K B G0 R f σ H P:=by
 refine⟨G,ρ,k,?_⟩;unfold UX at a;cases q:f ρ with
 |bad=>rw[q]at a;exact a.elim
 |ok d ρ1=>rw[q]at a;exact λv G' H' e s r=>i v H' G' ρ1 d e s r (aft.mono s a)
def KJ(f g:M Bool):M Bool:=UX f λt=>if t=true then g else UK false
def mOr(f g:M Bool):M Bool:=UX f λt=>if t=true then UK true else g
def Ki(f:M Bool):M Bool:=UN (λt=>!t) f
theorem FJ{K:Frag}{f g:M Bool}{σ:St}{H:Hp}{Q:Bool->Hp->Prop}(q:tBo K B G0 (KJ f g) σ H Q):tAnd (tBo K B G0 f) (tBo K B G0 g) σ H Q:=
 tM.one (R:=λ_ b c=>b=c) q λv H2 G ρ x k r a=>by
  have r:v=x:=r;subst r;cases v with
  |true=>exact⟨G,ρ,k,a⟩
  |false=>exact aft.now (v:=false) a k rfl
theorem Ht{K:Frag}{f g:M Bool}{σ:St}{H:Hp}{Q:Bool->Hp->Prop}(q:tBo K B G0 (mOr f g) σ H Q):tOr (tBo K B G0 f) (tBo K B G0 g) σ H Q:=
 tM.one (R:=λ_ b c=>b=c) q λv H2 G ρ x k r a=>by
  have r:v=x:=r;subst r;cases v with
  |false=>exact⟨G,ρ,k,a⟩
  |true=>exact aft.now (v:=true) a k rfl
theorem pwof{t t':TT}(h:PW X e t)(i:∀σ H Q,t' σ H Q->t σ H Q):PW X e t':=λwh pins s σ H Q I q=>h wh pins s σ H Q I (i σ H Q q)
theorem Dl{f:M Bool}(ha:PT X a (tBo X.K B G0 f)):PW X (.BoolOp .And [a] pos) (tBo X.K B G0 f):=EJ ha
theorem FI{f:M Bool}(ha:PT X a (tBo X.K B G0 f)):PW X (.BoolOp .Or [a] pos) (tBo X.K B G0 f):=Fc ha
theorem FH{f g:M Bool}(ha:PT X a (tBo X.K B G0 f))(hb:PW X (.BoolOp .And (b::rest) pos) (tBo X.K B G0 g)):PW X (.BoolOp .And (a::b::rest) pos) (tBo X.K B G0 (KJ f g)):=pwof (Fb ha hb) λ_ _ _ q=>FJ q
theorem Hs{f g:M Bool}(ha:PT X a (tBo X.K B G0 f))(hb:PW X (.BoolOp .Or (b::rest) pos) (tBo X.K B G0 g)):PW X (.BoolOp .Or (a::b::rest) pos) (tBo X.K B G0 (mOr f g)):=pwof (Lg ha hb) λ_ _ _ q=>Ht q
theorem FG{f:M Bool}(ha:PT X a (tBo X.K B G0 f)):PT X (.UnaryOp .Not a pos) (tBo X.K B G0 (Ki f)):=ZS (Fa ha) λσ H Q q=>tM.map (R:=λ_ b c=>b=c) (λt=>!t) q λ_ v x e=>by rw[e]
def Zd(f:M D):M Bool:=UX f λx=>match x with | .bool t=>UK t|_=>λ_=>.bad
theorem FF{f:M D}(h:PE X e (tD X.K B G0 f))(he:∀whole,isTrue e X.env whole=(do let v ←whole;standAt e.pos;holding [v] (truthy v)):=by intro _;rfl):PT X e (tBo X.K B G0 (Zd f)):=
 ZS (Fd h he) λσ H Q q=>tM.one (R:=Rep X.K) q λv H2 G ρ x k r a=>by
  cases x with
  |bool t=>exact⟨t,r.bl_inv,aft.now (v:=t) a k rfl⟩
  |_=>exact a.elim
def Xn(f g:M D):M D:=UX f λx=>match x with | .bool true=>g | .bool false=>UK (.bool false)|_=>λ_=>.bad
def Yb(f g:M D):M D:=UX f λx=>match x with | .bool true=>UK (.bool true) | .bool false=>g|_=>λ_=>.bad
def TM(f:M D):M D:=UX f λx=>match x with | .bool t=>UK (.bool (!t))|_=>λ_=>.bad
theorem FE{f g:M D}(ha:PE X a (tD X.K B G0 f))(hb:PE X (.BoolOp .And (b::rest) pos) (tD X.K B G0 g)):PE X (.BoolOp .And (a::b::rest) pos) (tD X.K B G0 (Xn f g)):=
 U5 (GY ha hb) λσ H Q q=>tM.one (R:=Rep X.K) q λv H2 G ρ x k r a=>by
  cases x with
  |bool t=>
   refine⟨t,r.bl_inv,?_⟩;cases t with
   |true=>exact⟨G,ρ,k,a⟩
   |false=>exact aft.now a k (.bl false)
  |_=>exact a.elim
theorem Hr{f g:M D}(ha:PE X a (tD X.K B G0 f))(hb:PE X (.BoolOp .Or (b::rest) pos) (tD X.K B G0 g)):PE X (.BoolOp .Or (a::b::rest) pos) (tD X.K B G0 (Yb f g)):=
 U5 (Ld ha hb) λσ H Q q=>tM.one (R:=Rep X.K) q λv H2 G ρ x k r a=>by
  cases x with
  |bool t=>
   refine⟨t,r.bl_inv,?_⟩;cases t with
   |false=>exact⟨G,ρ,k,a⟩
   |true=>exact aft.now a k (.bl true)
  |_=>exact a.elim
theorem FD{op}{f:M D}(h:PE X a (tD X.K B G0 f)):PE X (.BoolOp op [a] pos) (tD X.K B G0 f):=GZ h
theorem FC{f:M D}(ha:PE X a (tD X.K B G0 f)):PE X (.UnaryOp .Not a pos) (tD X.K B G0 (TM f)):=
 U5 (GX ha) λσ H Q q=>tM.one (R:=Rep X.K) q λv H2 G ρ x k r a=>by
  cases x with
  |bool t=>exact⟨t,r.bl_inv,aft.now a k (.bl _)⟩
  |_=>exact a.elim
def mIf{α:Type}(f:M Bool)(g h:M α):M α:=UX f λt=>if t=true then g else h
theorem Bm{f:M Bool}{g h:M D}(hc:PT X c (tBo X.K B G0 f))(ha:PE X a (tD X.K B G0 g))(hb:PE X b (tD X.K B G0 h)):PE X (.IfExp c a b pos) (tD X.K B G0 (mIf f g h)):=
 U5 (Cc hc ha hb) λσ H Q q=>tM.one (R:=λ_ b c=>b=c) q λv H2 G ρ x k r a=>by
  have r:v=x:=r;subst r;cases v with
  |true=>exact⟨G,ρ,k,a⟩
  |false=>exact⟨G,ρ,k,a⟩
theorem FA{f:M D}{j p2}(ha:PE X a (tD X.K B G0 f)):PT X (.Compare a [.Is] [.Constant .none j p2] pos) (tBo X.K B G0 (UN isNon f)):=
 ZS (PP (PR ha)) λσ H Q q=>tM.one (R:=Rep X.K) q λv H2 G ρ x k r a=>⟨_,rfl,aft.now a k (by rw[r.isNon])⟩
theorem Dk{f:M D}{j p2}(ha:PE X a (tD X.K B G0 f)):PT X (.Compare a [.IsNot] [.Constant .none j p2] pos) (tBo X.K B G0 (UN (λd=>!isNon d) f)):=
 ZS (PP (OY ha)) λσ H Q q=>tM.one (R:=Rep X.K) q λv H2 G ρ x k r a=>⟨_,rfl,aft.now a k (by dsimp only;rw[r.isNon])⟩
theorem Fz{f:M D}{j p2}(ha:PE X a (tD X.K B G0 f)):PE X (.Compare a [.Is] [.Constant .none j p2] pos) (tD X.K B G0 (UN (λd=>.bool (isNon d)) f)):=
 U5 (PQ (PR ha)) λσ H Q q=>tM.one (R:=Rep X.K) q λv H2 G ρ x k r a=>aft.now a k (by dsimp only;rw[r.isNon];exact .bl _)
theorem Dj{f:M D}{j p2}(ha:PE X a (tD X.K B G0 f)):PE X (.Compare a [.IsNot] [.Constant .none j p2] pos) (tD X.K B G0 (UN (λd=>.bool (!isNon d)) f)):=
 U5 (PQ (OY ha)) λσ H Q q=>tM.one (R:=Rep X.K) q λv H2 G ρ x k r a=>aft.now a k (by dsimp only;rw[r.isNon];exact .bl _)
def UG:M (List D):=UK []
def UI(f:M D)(g:M (List D)):M (List D):=UX f λx=>UX g λxs=>UK (x::xs)
theorem Fy:PA X [] (tDs X.K B G0 UG):=paof Xp λσ H Q ⟨G,ρ,k,a⟩=>aft.now a k .nil
theorem tM.twoA{K:Frag}{σ:St}{H:Hp}{f:M D}{g:M (List D)}{β δ:Type}{S:Hp->δ->β->Prop}{k:D->List D->M β}{Q:δ->Hp->Prop}{P:V->List V->Hp->Prop}
  (h:tM K B G0 S (UX f λx=>UX g λy=>k x y) σ H Q)
  (i:∀v u H2 G ρ x y,EOk K B G0 G H2 σ ρ->Rep K G v x->Reps K G u y->aft K B G0 S (k x y ρ) G σ Q->P v u H2) :
  tD K B G0 f σ H (λv H1=>tDs K B G0 g σ H1 λu H2=>P v u H2):=by
 obtain⟨G,ρ,e,a⟩:=tM.bind2 (R:=Rep K) (R':=Reps K) OU h;refine⟨G,ρ,e,?_⟩;cases q:f ρ with
 |bad=>rw[q]at a;exact a.elim
 |ok d ρ1=>
  rw[q]at a;intro v G' H' e' s r;obtain⟨x,G2,ρ2,e2,a2⟩:=a v G' H' e' s r;refine⟨G2,ρ2,e2,?_⟩;cases q2:g ρ2 with
  |bad=>rw[q2]at a2;exact a2.elim
  |ok d3 ρ3=>rw[q2]at a2;intro u G3 H3 e3 s3 r3;obtain⟨G4,ρ4,y,e4,r4,r5,a5⟩:=a2 u G3 H3 e3 s3 r3;exact i v u H3 G4 ρ4 x y e4 r4 r5 a5
theorem Di{f:M D}{g:M (List D)}(ha:PE X e (tD X.K B G0 f))(hr:PA X es (tDs X.K B G0 g))(hs:Ul (e::es) X.env=(false,eval e X.env)::Ul es X.env:=by rfl) :
  PA X (e::es) (tDs X.K B G0 (UI f g)):=paof (Xk ha hr hs) λσ H Q q=>tM.twoA q λv u H2 G ρ x y k r1 r2 a=>aft.now a k (.cons r1 r2)
def Z9(f:M (List D)):M D:=UX f λxs=>if xs.length<=1000000 then UK (.tuple xs)else λ_=>.bad
def Kj(f:M (List D)):M D:=UX f λxs=>if xs.length<=1000000 then UK (.list xs)else λ_=>.bad
theorem Fx{x1}{f:M (List D)}(h:PA X es (tDs X.K B G0 f)):PE X (.Tuple es x1 pos) (tD X.K B G0 (Z9 f)):=
 U5 (GJ h) λσ H Q q=>tM.one (R:=Reps X.K) q λv H2 G ρ x k r a=>by
  split at a
  ·rename_i c;refine⟨by rw[r.length];exact QQ c lim,λp hp=>?_⟩;exact aft.done a k (Ext.new k.gh hp) (.tup (SqT.of Ky) (r.mono (KU (k.gh.free hp))))
  ·exact a.elim
theorem Fw{f:M (List D)}(h:PA X es (tDs X.K B G0 f)):PE X (.List es pos) (tD X.K B G0 (Kj f)):=
 U5 (PL h) λσ H Q q=>tM.one (R:=Reps X.K) q λv H2 G ρ x k r a=>by
  split at a
  ·rename_i c;refine⟨by rw[r.length];exact QQ c lim,λp hp=>?_⟩;exact aft.done a k (Ext.new k.gh hp) (.lst (SqL.of Ky) (r.mono (KU (k.gh.free hp))))
  ·exact a.elim
def oIx:D->D->Option D
 |.list xs,.int i=>atI xs i
 |.tuple xs,.int i=>atI xs i
 |.str z,.int i=>if z.length<=1000000 then(atI z.cps.toList i).map λc=>.str ⟨#[c]⟩else none
 |_,_=>none
theorem Reps.atI{K:Frag}{G:Hp}{vs:List V}{ds:List D}{i:Int}{d:D}(r:Reps K G vs ds)(h:L2.atI ds i=some d):∃v,L2.atI vs i=some v/\Rep K G v d:=by
 unfold L2.atI at h⊢;rw[r.length];cases z:ixN ds.length i with
 |none=>rw[z]at h;cases h
 |some j=>rw[z]at h;exact r.get (i:=j) h
theorem PD{K:Frag}{v u:V}{G H:Hp}{x y d:D}{Q:VK}(s:Same G H)(rx:Rep K G v x)(ry:Rep K G u y)(e:oIx x y=some d)(k:∀w,Rep K G w d->Q w H):rIx K v u H Q:=by
 unfold oIx at e;split at e
 ·obtain⟨l,vs,rfl,h1,r1⟩:=rx.lst_inv;obtain⟨w,e1,r2⟩:=r1.atI e;exact .inl ⟨l,vs,_,w,rfl,ry.int_inv,s.seq h1,e1,k w r2⟩
 ·obtain⟨l,vs,rfl,h1,r1⟩:=rx.tup_inv;obtain⟨w,e1,r2⟩:=r1.atI e;exact .inr (.inl ⟨l,vs,_,w,rfl,ry.int_inv,Z5 s h1,e1,k w r2⟩)
 ·split at e
  ·rename_i z i hz;cases q:L2.atI z.cps.toList i with
   |none=>rw[q]at e;cases e
   |some ch=>rw[q]at e;cases e;exact .inr (.inr ⟨z,i,ch,rx.str_inv,ry.int_inv,QQ hz lim,q,k _ (.str _)⟩)
  ·cases e
 ·cases e
theorem Hq{f g:M D}(ha:PE X a (tD X.K B G0 f))(hb:PE X b (tD X.K B G0 g))(hs:Rw b):PE X (.Subscript a b pos) (tD X.K B G0 (UH oIx f g)):=
 U5 (Pu PK ha hb hs) λσ H Q q=>tM.two q λv u H2 G ρ x y k rx ry a=>by obtain⟨d,e,a⟩:=a.opt;exact PD k.gh rx ry e λw r=>a.now k r
def US(i:Nat)(g:M D):M D:=λρ=>match ρ[i]? with
 |some (some (.pub d))=>(UX g λy=>UY (oIx d y)) ρ
 |some (some (.own _))=>(UX g λy=>λρ'=>match ρ'[i]? with|some (some (.own ds))=>UY (oIx (.list ds) y) ρ'|_=>.bad) ρ
 |_=>.bad
theorem Fv{i:Nat}{g:M D}(ha:PE X a (KO i))(hb:PE X b (tD X.K B G0 g))(hs:Rw b):PE X (.Subscript a b pos) (tD X.K B G0 (US i g)):=
 U5 (Pu PK ha hb hs) λσ H Q ⟨G,ρ,k,a⟩=>by
  unfold US at a;cases q:ρ[i]? with
  |none=>rw[q]at a;exact a.elim
  |some o=>
   cases o with
   |none=>rw[q]at a;exact a.elim
   |some sl=>
    cases sl with
    |deep _ _=>rw[q]at a;exact a.elim
    |pub d=>
     rw[q]at a;obtain⟨v,h1,h2⟩:=k.pub i d q;refine⟨v,h1,G,ρ,k,?_⟩;dsimp only[UX]at a;cases z:g ρ with
     |bad=>rw[z]at a;exact a.elim
     |ok y ρ1=>rw[z]at a;intro u G' H' k' s' r';obtain⟨d',e',a'⟩:=aft.opt a;exact PD k'.gh (h2.mono s') r' e' λw r=>a' w G' H' k' s' r
    |own ds=>
     rw[q]at a;obtain⟨ad,vs,h1,h2,h3,h4,h5⟩:=k.own i ds q;refine⟨.ref ad,h1,G,ρ,k,?_⟩;dsimp only[UX]at a;cases z:g ρ with
     |bad=>rw[z]at a;exact a.elim
     |ok y ρ1=>
      rw[z]at a;dsimp only at a;intro u G' H' k' s' r';cases z2:ρ1[i]? with
      |none=>rw[z2]at a;exact a.elim
      |some o2=>
       cases o2 with
       |none=>rw[z2]at a;exact a.elim
       |some sl2=>
        cases sl2 with
        |deep _ _=>rw[z2]at a;exact a.elim
        |pub d2=>rw[z2]at a;exact a.elim
        |own es2=>
         rw[z2]at a;obtain⟨d',e',a'⟩:=aft.opt a;obtain⟨ad',vs',g1,g2,g3,g4,g5⟩:=k'.own i es2 z2;rw[h1]at g1;cases g1;unfold oIx at e';cases y with
         |int j=>obtain⟨w,e1,r2⟩:=g5.atI e';exact .inl ⟨ad,vs',j,w,rfl,r'.int_inv,SqL.of g4,e1,a' w G' H' k' s' r2⟩
         |_=>cases e'
def cutD(xs:List D)(lo hi:Option Int):List D:=(xs.drop (HT.sIx xs.length 0 lo)).take (HT.sIx xs.length xs.length hi-HT.sIx xs.length 0 lo)
theorem Reps.cut{K:Frag}{G:Hp}{vs:List V}{ds:List D}(r:Reps K G vs ds)(lo hi:Option Int):Reps K G (Yw vs lo hi) (cutD ds lo hi):=by unfold Yw cutD;rw[r.length];exact(r.drop _).take _
def Yn:D->Option (Option Int)
 |.int i=>some (some i)
 |_=>none
theorem Dh:PO X none (tOi X.K B G0 (UK none)):=poof EC λσ H Q ⟨G,ρ,k,a⟩=>aft.now a k rfl
theorem Dg{f:M D}(h:PE X e (tD X.K B G0 f)):PO X (some e) (tOi X.K B G0 (UX f λx=>UY (Yn x))):=poof (EB h) λσ H Q q=>tM.one (R:=Rep X.K) q λv H2 G ρ x k r a=>by
 cases x with
 |int i=>exact⟨i,r.int_inv,aft.now (v:=some i) a k rfl⟩
 |_=>exact a.elim
end
def Yc:List (D×D)->Bool
 |(.none,_)::_=>true
 |_=>false
def Yp:D->String
 |.none=> "NoneType"
 |.bool _=> "bool"
 |.int _=> "int"
 |.str _=> "str"
 |.list _=> "list"
 |.tuple _=> "tuple"
 |.dict kvs=>if Yc kvs=true then "" else "dict"
def Kg(d:D)(c:String):Bool:=Yp d==c || (Yp d == "bool" && c == "int")
def Tc:D->Bool
 |.dict kvs=>Yc kvs
 |_=>false
theorem nty{kvs:List (D×D)}{c:String}(h:(("dict" == c) || ("" == c))=false):Kg (.dict kvs) c=false:=by
 obtain⟨h1,h2⟩:=Bool.or_eq_false_iff.mp h
 show((if Yc kvs=true then "" else "dict")==c || ((if Yc kvs=true then "" else "dict") == "bool" && c == "int"))=false
 cases Yc kvs with
 |true=>rw[Qq rfl,h2];rfl
 |false=>rw[QG (by decide),h1];rfl
theorem PB{ks:List Key}{ds:List D}:Yp (.dict ((ks.map kD).zip ds)) = "dict" /\ Tc (.dict ((ks.map kD).zip ds))=false:=by
 cases ks with
 |nil=>exact⟨rfl,rfl⟩
 |cons k ks=>
  cases ds with
  |nil=>exact⟨rfl,rfl⟩
  |cons d ds=>cases k<;>exact⟨rfl,rfl⟩
theorem Fu(K:Frag)(d:D)(c:String)(nx:Tc d=false)(hc:c = "int" ∨ c = "bool" ∨ c = "str" ∨ c = "list" ∨ c = "tuple" ∨ c = "dict"):PySem.W.kitOne K (.type (Yp d)) (.type c)=some (Kg d c):=by
 cases d with
 |dict kvs=>
  have e:Yp (.dict kvs) = "dict" :=by
   have nx:Yc kvs=false:=nx
   show(if Yc kvs=true then "" else "dict")=_
   rw[nx];rfl
  unfold Kg;rw[e];rcases hc with rfl|rfl|rfl|rfl|rfl|rfl<;>rfl
 |_=>rcases hc with rfl|rfl|rfl|rfl|rfl|rfl<;>rfl
section
variable{X:Cx}{B G0:Hp}{e a b c:Ui}{pos:Pos}{es rest:List Ui}
def Z1(X:Cx)(f:Ud)(p:List D->Option D):Prop:=
 ∃r,ZN X f r/\∀vs G H ds d Q,Same G H->Reps X.K G vs ds->p ds=some d->(∀w G' H',Ext G H G' H'->Rep X.K G' w d->Q w H')->r vs H Q
def K1(p:List D->Option D)(f:M (List D)):M D:=UX f λxs=>UY (p xs)
theorem WM{x:Str}{p2:Pos}{id:String}{p:List D->Option D}{f:M (List D)}(hc:Z1 X (.builtin id) p)(hg:Gl X x)(hm:X.mg x=none)(hv:bootBuiltins x=some (.builtin id))(ha:PA X (e::es) (tDs X.K B G0 f))(hn:x ≠ "__name__" :=by decide)(hdb:(x==("__debug__" : Str))=false:=by decide)
  (he:Ul (e::es) X.env=(false,eval e X.env)::Ul es X.env:=by rfl) (hpl:(backTo pos (Ul es X.env)).any (·.1)=false:=by rfl):PE X (.Call (.Name x p2) (e::es) [] pos) (tD X.K B G0 (K1 p f)):=by
 obtain⟨r,h,i⟩:=hc;refine U5 (Tx h hg hm hv ha hn hdb he hpl) λσ H Q q=>tM.one (R:=Reps X.K) q λv H2 G ρ x k rr a=>?_
 obtain⟨d,e,a⟩:=a.opt;exact i v G H2 x d Q k.gh rr e λw G' H' ex rw=>a.done k ex rw
theorem BC{x:Str}{p2:Pos}{T:String}{p:List D->Option D}{f:M (List D)}(hc:Z1 X (.type T) p)(hg:Gl X x)(hm:X.mg x=none)(hv:bootBuiltins x=some (.type T))(ha:PA X (e::es) (tDs X.K B G0 f))(hn:x ≠ "__name__" :=by decide)(hdb:(x==("__debug__" : Str))=false:=by decide)
  (he:Ul (e::es) X.env=(false,eval e X.env)::Ul es X.env:=by rfl) (hpl:(backTo pos (Ul es X.env)).any (·.1)=false:=by rfl):PE X (.Call (.Name x p2) (e::es) [] pos) (tD X.K B G0 (K1 p f)):=by
 obtain⟨r,h,i⟩:=hc;refine U5 (TK h hg hm hv ha hn hdb he hpl) λσ H Q q=>tM.one (R:=Reps X.K) q λv H2 G ρ x k rr a=>?_
 obtain⟨d,e,a⟩:=a.opt;exact i v G H2 x d Q k.gh rr e λw G' H' ex rw=>a.done k ex rw
theorem Reps.nil_inv{K:Frag}{G:Hp}{vs:List V}(r:Reps K G vs []):vs=[]:=by cases r;rfl
theorem Reps.one_inv{K:Frag}{G:Hp}{vs:List V}{d:D}(r:Reps K G vs [d]):∃v,vs=[v]/\Rep K G v d:=by
 cases r with
 |cons h t=>cases t;exact⟨_,rfl,h⟩
theorem Reps.two_inv{K:Frag}{G:Hp}{vs:List V}{d d':D}(r:Reps K G vs [d,d']):∃v v',vs=[v,v']/\Rep K G v d/\Rep K G v' d':=by
 cases r with
 |cons h t=>obtain⟨v',rfl,r'⟩:=t.one_inv;exact⟨_,v',rfl,h,r'⟩
def U6:List D->Option D
 |[.list xs]=>some (.int xs.length)
 |[.tuple xs]=>some (.int xs.length)
 |[.str z]=>if z.length<=1000000 then some (.int z.length)else none
 |_=>none
theorem Pj:Z1 X (.builtin "len") U6:=by
 refine⟨_,Nx,λvs G H ds d Q s r e k=>?_⟩;unfold U6 at e;split at e
 ·cases e;obtain⟨v,rfl,q⟩:=r.one_inv;obtain⟨l,ws,rfl,h1,r1⟩:=q.lst_inv;exact⟨.ref l,ws.length,rfl,.inl ⟨ws,s.seq h1,rfl⟩,by rw[r1.length];exact k _ G H (.refl s) (.int _)⟩
 ·cases e;obtain⟨v,rfl,q⟩:=r.one_inv;obtain⟨l,ws,rfl,h1,r1⟩:=q.tup_inv;exact⟨.ref l,ws.length,rfl,.inr ⟨ws,Z5 s h1,rfl⟩,by rw[r1.length];exact k _ G H (.refl s) (.int _)⟩
 ·split at e
  ·rename_i z hz;cases e;obtain⟨v,rfl,q⟩:=r.one_inv;exact⟨.str z,z.length,by rw[q.str_inv],⟨QQ hz lim,rfl⟩,k _ G H (.refl s) (.int _)⟩
  ·cases e
 ·cases e
def TL:List D->Option D
 |[.int i,.int j]=>some (.int (if j > i then j else i))
 |_=>none
theorem Hn(hc:X.calm=true):Z1 X (.builtin "max") TL:=by
 refine⟨_,C0 hc,λvs G H ds d Q s r e k=>?_⟩;unfold TL at e;split at e
 ·cases e;obtain⟨v,v',rfl,r1,r2⟩:=r.two_inv;exact⟨_,_,by rw[r1.int_inv,r2.int_inv],k _ G H (.refl s) (.int _)⟩
 ·cases e
def KN(i:Nat):M D:=λρ=>match ρ[i]? with
 |some (some (.pub d))=>UY (U6 [d]) ρ
 |some (some (.own ds))=>.ok (.int ds.length) ρ
 |_=>.bad
theorem Df{i:Nat}{p2:Pos}(hg:Gl X "len")(hm:X.mg "len" = none)(ha:PE X e (KO i))(he:Ul [e] X.env=[(false,eval e X.env)]:=by rfl):PE X (.Call (.Name "len" p2) [e] [] pos) (tD X.K B G0 (KN i)):=by
 refine U5 (Tx Nx hg hm PySem.boot_len (Xk ha Xp (by rw[he];rfl)) (by decide) (by decide) (by rw[he];rfl) rfl) λσ H Q ⟨G,ρ,k,a⟩=>?_
 unfold KN at a;cases q:ρ[i]? with
 |none=>rw[q]at a;exact a.elim
 |some o=>
  cases o with
  |none=>rw[q]at a;exact a.elim
  |some sl=>
   cases sl with
   |deep _ _=>rw[q]at a;exact a.elim
   |pub d=>
    rw[q]at a;obtain⟨v,h1,h2⟩:=k.pub i d q;refine⟨v,h1,?_⟩;obtain⟨d',e',a'⟩:=aft.opt a;obtain⟨r,hr,ir⟩:=@Pj X;show ∃x n,[v]=[x]/\LenV X.K x H n/\Q (.int n) H;unfold U6 at e';split at e'
    ·rename_i xs he';injection he' with he1 he2;subst he1;cases e'
     obtain⟨l,ws,rfl,g1,r1⟩:=h2.lst_inv;exact⟨.ref l,ws.length,rfl,.inl ⟨ws,k.gh.seq g1,rfl⟩,by rw[r1.length];exact a'.now k (.int _)⟩
    ·rename_i xs he';injection he' with he1 he2;subst he1;cases e'
     obtain⟨l,ws,rfl,g1,r1⟩:=h2.tup_inv;exact⟨.ref l,ws.length,rfl,.inr ⟨ws,Z5 k.gh g1,rfl⟩,by rw[r1.length];exact a'.now k (.int _)⟩
    ·rename_i z he';injection he' with he1 he2;subst he1
     split at e'
     ·rename_i hz;cases e';exact⟨.str z,z.length,by rw[h2.str_inv],⟨QQ hz lim,rfl⟩,a'.now k (.int _)⟩
     ·cases e'
    ·cases e'
   |own ds=>rw[q]at a;obtain⟨ad,vs,h1,g2,g3,h4,h5⟩:=k.own i ds q;exact⟨.ref ad,h1,.ref ad,vs.length,rfl,.inl ⟨vs,SqL.of h4,rfl⟩,by rw[h5.length];exact aft.now a k (.int _)⟩
theorem Ft{pins:List (Ug×Obj)}{s:Ue}{σ:St}{G H:Hp}{v:V}{u:Ud}{d:D}{cv:Ud}{t:Bool}{A:Around}{E:Ud->Ue->Prop}{Q:Ud->Ue->Prop}(I:Inv X pins σ H s)(sg:Same G H)(r:Rep X.K G v d)(rv:RelV v u)(nx:Tc d=false)
  (ek:PySem.W.kitOne X.K (.type (Yp d)) cv=some t) (h:∀tk,Q (.bool t) {s with toks:=tk}):Uk (model X.prog X.w) A (call (.builtin "isinstance") [u,cv]) Q E s:=by
 cases r with
 |non=>cases rv;exact Jp PySem.W.kitx_none I.kIn True.intro ek (λz=>nomatch z) h
 |bl y=>cases rv;exact Jp PySem.W.kitx_bool I.kIn True.intro ek (λz=>nomatch z) h
 |int i=>obtain⟨t',rfl⟩:=rv;exact Jp PySem.W.kitx_int I.kIn True.intro ek (λz=>nomatch z) h
 |str y=>obtain⟨t',rfl⟩:=rv;exact Jp PySem.W.kitx_str I.kIn True.intro ek (λz=>nomatch z) h
 |lst hl _=>cases rv;obtain⟨its,r,⟨o,n,e,hc,_,hd⟩,hz⟩:=I.list (sg.seq hl);exact Jp PySem.W.kitx_list I.kIn ⟨o,e,hc⟩ ek (λz=>nomatch z) h
 |tup hl _=>cases rv;obtain⟨its,r,p,hz⟩:=I.tuple (Z5 sg hl);obtain⟨o,e,hc,_⟩:=p;exact Jp PySem.W.kitx_tuple I.kIn ⟨o,e,hc⟩ ek (λz=>nomatch z) h
 |@dic ad hd=>
  cases rv;obtain⟨_,_,vs,_,p⟩:=(show K2 X.prog X.w H s.heap ad (.dK [])from I.hok ad _ (sg _ _ hd))
  obtain⟨o,es,ep,h1,h2,_⟩:=p;exact Jp PySem.W.kitx_dict I.kIn ⟨o,h1,h2.1⟩ ek (λz=>nomatch z) h
 |exc _ _ _ _=>cases nx
 |@dct ad ks vs ds kvs e0 _ _ hd _=>
  cases rv;subst e0;rw[PB.1]at ek;obtain⟨_,_,vs,_,p⟩:=(show K2 X.prog X.w H s.heap ad (.dK (ks.zip _))from I.hok ad _ (sg _ _ hd))
  obtain⟨o,es,ep,h1,h2,_⟩:=p;exact Jp PySem.W.kitx_dict I.kIn ⟨o,h1,h2.1⟩ ek (λz=>nomatch z) h
 |@dtt ad ob ks vs ds kvs e0 _ hd _=>
  cases rv;subst e0;obtain⟨_,_,_,xs,_,o,es,ep,h1,h2,_⟩:=(show K2 X.prog X.w H s.heap ad (.frz ob (.dT (ks.zip _)))from I.hok ad _ (sg _ _ hd))
  exact Jp PySem.W.kitx_dict I.kIn ⟨o,h1,h2.1⟩ ek (λz=>nomatch z) h
theorem Fs(c:String)(hc:c = "int" ∨ c = "bool" ∨ c = "str" ∨ c = "list" ∨ c = "tuple" ∨ c = "dict"):typeOf (.type c)=pure (.type "type"):=by rcases hc with rfl|rfl|rfl|rfl|rfl|rfl<;>kernel_rfl
theorem De:ZN X (.builtin "isinstance") (λxs H Q=>∃v c G d,xs=[v,.ty c]/\Same G H/\Rep X.K G v d/\(c = "int" ∨ c = "bool" ∨ c = "str" ∨ c = "list" ∨ c = "tuple" ∨ c = "dict")/\Q (.bl (Kg d c)) H):=by
 intro pins s σ H xs us Q I r h;obtain⟨v,c,G,d,rfl,sg,rp,hc,q⟩:=h;obtain⟨u,w',rfl,r1,r2⟩:=SV r;cases (show w'=Value.type c from r2);by_cases nx:Tc d=true
 ·cases rp with
  |@exc a C dd bm nm vs ds ck hx hd rr=>
   refine Cm (LC I.ok.mod.kin) pins s σ H [.ref a,.ty c] [u,.type c] Q I r ⟨a,C,dd,bm,false,.ty c,false,rfl,⟨nm,ck⟩,sg _ _ hx,.inr ⟨c,rfl,Fs c hc,?_⟩,?_⟩
   ·rw[ck.ty];rcases hc with rfl|rfl|rfl|rfl|rfl|rfl<;>rfl
   ·have e:Kg (.dict [(.none,.tuple [.str nm,.list ds])]) c=false:=by rcases hc with rfl|rfl|rfl|rfl|rfl|rfl<;>rfl
    rw[e]at q;exact q
  |dct e _ _ _ _=>subst e;rw[PB.2]at nx;cases nx
  |dtt e _ _ _=>subst e;cases nx
  |_=>cases nx
 ·have nx:Tc d=false:=by simpa using nx
  exact Ft I sg rp r1 nx (Fu X.K d c nx hc) λtk=>⟨.bl _,H,I.tok tk,rfl,q⟩
theorem AY:bootBuiltins "isinstance" = some (.builtin "isinstance"):=by decide +kernel
theorem TH{f:M D}{p2 p3:Pos}{c:String}(hc:c = "int" ∨ c = "bool" ∨ c = "str" ∨ c = "list" ∨ c = "tuple" ∨ c = "dict")(hg:Gl X "isinstance")(hm:X.mg "isinstance" = none)(hg2:Gl X (Uy c))(hm2:X.mg (Uy c)=none)
  (hv2:bootBuiltins (Uy c)=some (.type c)) (ha:PE X e (tD X.K B G0 f)) (hn2:(Uy c) ≠ "__name__") (hd2:((Uy c)==("__debug__" : Str))=false)
  (hs:Ul [e,.Name (Uy c) p3] X.env=(false,eval e X.env)::Ul [.Name (Uy c) p3] X.env:=by rfl)
  (hs2:Ul [.Name (Uy c) p3] X.env=[(false,eval (.Name (Uy c) p3) X.env)]:=by rfl) :
  PE X (.Call (.Name "isinstance" p2) [e,.Name (Uy c) p3] [] pos) (tD X.K B G0 (UN (λd=>.bool (Kg d c)) f)):=by
 refine U5 (Tx De hg hm AY (Xk ha (Xk (EK (v:=.ty c) hg2 hm2 hv2 rfl hn2 hd2) Xp (by rw[hs2];rfl)) hs) (by decide) (by decide) hs (by rw[hs2];rfl)) λσ H Q q=>?_
 refine tM.one (R:=Rep X.K) q λv H2 G ρ x k r a=>?_
 exact⟨v,c,G,x,rfl,k.gh,r,hc,aft.now a k (.bl _)⟩
end
def spD(K:Frag)(n:Nat)(F:List D->Option D):Sp:=λvs H Q _=>∃G ds d,vs.length=n/\Same G H/\Reps K G vs ds/\F ds=some d/\∀v G' H',Ext G H G' H'->Rep K G' v d->Q v H'
section
variable{K:Frag}{B G0 G H:Hp}{σ:St}{ρ:UE}
theorem EOk.exit(k:EOk K B G0 G H σ ρ):Ext G0 B G H:=⟨k.bh,k.g0,k.gh,k.np⟩
theorem Zh{α:Type}{l:List α}{i:Nat}{x y:α}(h:(l.set i x)[i]?=some y):y=x:=by
 by_cases hl:i<l.length
 ·rw[QJ hl]at h;cases h;rfl
 ·rw[Q5 (by rw[Q3];omega)]at h;cases h
theorem DpOk.setOther{i:Nat}{x:Option V}{y:Option Sl}(k:DpOk K B G H σ ρ)(hy:∀s,y=some s->∃d,s=.pub d):DpOk K B G H (σ.set i x) (ρ.set i y):=by
 have nz:∀{m:Nat}{s:Sl},(ρ.set i y)[m]?=some (some s)->(∃d,s=.pub d)∨(ρ[m]?=some (some s)/\(σ.set i x)[m]?=σ[m]?):=λ{m s} q=>by
  by_cases z:i=m
  ·subst z;exact .inl (hy s (Zh q).symm)
  ·rw[Ql z]at q⊢;exact .inr ⟨q,rfl⟩
 refine k.map (λm p d q=>?_) (λm es q=>?_) λm p d v fp q s r w n=>⟨r,w⟩
 ·rcases nz q with ⟨_,e⟩|q
  ·cases e
  ·exact q
 ·rcases nz q with ⟨_,e⟩|q
  ·cases e
  ·exact⟨es,q⟩
theorem EOk.setPub{i:Nat}{v:V}{d:D}(k:EOk K B G0 G H σ ρ)(r:Rep K G v d)(hi:i<ρ.length):EOk K B G0 G H (σ.set i (some v)) (ρ.set i (some (.pub d))) where
 bh:=k.bh
 gh:=k.gh
 g0:=k.g0
 np:=k.np
 len:=by rw[Q3,Q3];exact k.len
 pub:=λj d' q=>by
  by_cases z:i=j
  ·subst z;have:=Zh q;cases this;exact⟨v,QJ (by rw[←k.len];exact hi),r⟩
  ·rw[Ql z]at q⊢;exact k.pub j d' q
 own:=λj ds q=>by
  by_cases z:i=j
  ·subst z;have:=Zh q;cases this
  ·rw[Ql z]at q⊢;exact k.own j ds q
 sep:=λj l c es fs q1 q2 s1 s2=>by
  have z1:i≠j:=λz=>by subst z;have:=Zh q1;cases this
  have z2:i≠l:=λz=>by subst z;have:=Zh q2;cases this
  rw[Ql z1]at q1 s1;rw[Ql z2]at q2 s2;exact k.sep j l c es fs q1 q2 s1 s2
 dp:=k.dp.setOther (λs e=>by cases e;exact⟨_,rfl⟩)
structure NewL(K:Frag)(B G H:Hp)(σ:St)(ρ:UE)(a:Ug)(vs:List V)(ds:List D):Prop where
 b:B a=none
 g:G a=none
 h:H a=some (.lst vs)
 r:Reps K G vs ds
 f:∀(j:Nat) es,ρ[j]?=some (some (.own es))->σ[j]?≠some (some (.ref a))
 dp:∀(j:Nat) p d v fp,ρ[j]?=some (some (.deep p d))->σ[j]?=some (some v)->RepO K G H p v d fp->a∉fp
theorem EOk.freshD{H':Hp}{a:Ug}(k:EOk K B G0 G H σ ρ)(e:Same H H')(ha:H a=none){G':Hp}{j:Nat}{p:Pat}{d:D}{v:V}{fp:List Ug}(q:ρ[j]?=some (some (.deep p d)))(s:σ[j]?=some (some v))(r:RepO K G' H' p v d fp):a∉fp:=λm=>by obtain⟨ω,k1,k2⟩:=k.dp;obtain⟨v',fp',s',r',n,w⟩:=k1 j p d q;rw[s]at s';cases s';have u:=r'.uniq e r;subst u;obtain⟨ws,hl⟩:=r'.isl a m;rw[ha]at hl;cases hl
theorem EOk.setOwn{i:Nat}{a:Ug}{vs:List V}{ds:List D}(k:EOk K B G0 G H σ ρ)(n:NewL K B G H σ ρ a vs ds)(hi:i<ρ.length):EOk K B G0 G H (σ.set i (some (.ref a))) (ρ.set i (some (.own ds))) where
 bh:=k.bh
 gh:=k.gh
 g0:=k.g0
 np:=k.np
 len:=by rw[Q3,Q3];exact k.len
 pub:=λj d' q=>by
  by_cases z:i=j
  ·subst z;have:=Zh q;cases this
  ·rw[Ql z]at q⊢;exact k.pub j d' q
 own:=λj es q=>by
  by_cases z:i=j
  ·subst z;have:=Zh q;cases this;exact⟨a,vs,QJ (by rw[←k.len];exact hi),n.b,n.g,n.h,n.r⟩
  ·rw[Ql z]at q⊢;exact k.own j es q
 sep:=λj l c es fs q1 q2 s1 s2=>by
  have hs:i<σ.length:=by rw[←k.len];exact hi
  by_cases z1:i=j
  ·subst z1;rw[QJ hs]at s1;cases s1;by_cases z2:i=l
   ·exact z2
   ·rw[Ql z2]at q2 s2;exact absurd s2 (n.f l fs q2)
  ·by_cases z2:i=l
   ·subst z2;rw[QJ hs]at s2;cases s2;rw[Ql z1]at q1 s1;exact absurd s1 (n.f j es q1)
   ·rw[Ql z1]at q1 s1;rw[Ql z2]at q2 s2;exact k.sep j l c es fs q1 q2 s1 s2
 dp:=by
  obtain⟨ω,k1,k2⟩:=k.dp;have hs:i<σ.length:=by rw[←k.len];exact hi
  refine⟨λb=>if b=a then i else ω b,λj p d q=>?_,λj es b q s=>?_⟩
  ·by_cases z:i=j
   ·subst z;have:=Zh q;cases this
   ·rw[Ql z]at q⊢;obtain⟨v,fp,s,r,nn,w⟩:=k1 j p d q;refine⟨v,fp,s,r,nn,λb m=>⟨(w b m).1,(w b m).2.1,?_⟩⟩;dsimp only;rw[QG (λz=>n.dp j p d v fp q s r (by rw[←z];exact m))];exact(w b m).2.2
  ·by_cases z:i=j
   ·subst z;rw[QJ hs]at s;cases s;dsimp only;rw[Qq rfl]
   ·rw[Ql z]at q s;dsimp only;rw[QG (λe=>n.f j es q (by rw[←e];exact s))];exact k2 j es b q s
theorem EOk.change{i:Nat}{a:Ug}{vs:List V}{ds es:List D}(k:EOk K B G0 G H σ ρ)(q:ρ[i]?=some (some (.own ds)))(ha:σ[i]?=some (some (.ref a)))(r:Reps K G vs es) :
  EOk K B G0 G (upd H a (.lst vs)) σ (ρ.set i (some (.own es))):=by
 obtain⟨a',ws,h1,h2,h3,h4,h5⟩:=k.own i ds q;rw[ha]at h1;cases h1;have hi:i<ρ.length:=(Qg.mp q).1;refine⟨λb o e=>?_,λb o e=>?_,k.g0,k.np,by rw[Q3];exact k.len,λj d' e=>?_,λj fs e=>?_,λj l c fs gs q1 q2 s1 s2=>?_,?_⟩
 ·rw[Kb (Zo e h2)];exact k.bh b o e
 ·rw[Kb (Zo e h3)];exact k.gh b o e
 ·by_cases z:i=j
  ·subst z;have:=Zh e;cases this
  ·rw[Ql z]at e;exact k.pub j d' e
 ·by_cases z:i=j
  ·subst z;have:=Zh e;cases this;exact⟨a,vs,ha,h2,h3,Ky,r⟩
  ·rw[Ql z]at e;obtain⟨c,us,g1,g2,g3,g4,g5⟩:=k.own j fs e;have zc:c≠a:=λw=>z (k.sep i j a ds fs q e ha (by rw[←w];exact g1))
   exact⟨c,us,g1,g2,g3,by rw[Kb zc];exact g4,g5⟩
 ·have f:∀{m:Nat}{ts:List D},(ρ.set i (some (Sl.own es)))[m]?=some (some (.own ts))->∃ts',ρ[m]?=some (some (.own ts')):=λ{m ts} e=>by
   by_cases z:i=m
   ·subst z;exact⟨ds,q⟩
   ·rw[Ql z]at e;exact⟨ts,e⟩
  obtain⟨f1,w1⟩:=f q1;obtain⟨f2,w2⟩:=f q2;exact k.sep j l c f1 f2 w1 w2 s1 s2
 ·refine k.dp.map (λj p d e=>?_) (λj fs e=>?_) λj p d v fp qj s rj w n=>⟨rj.upd (λ_ z=>by rw[h4]at z;cases z) (n i ds a q ha),w⟩
  ·by_cases z:i=j
   ·subst z;have:=Zh e;cases this
   ·rw[Ql z]at e;exact⟨e,rfl⟩
  ·by_cases z:i=j
   ·subst z;exact⟨ds,q,rfl⟩
   ·rw[Ql z]at e;exact⟨fs,e,rfl⟩
end
inductive Out where
 |nx (ρ:UE)|rt (d:D)|bk (ρ:UE)|ct (ρ:UE)|ex (ρ:UE) (d:D)|ro (ds:List D)|bad
abbrev SM:=UE->Out
section
variable(K:Frag)(B G0:Hp)(KX:XW)
def aftS(o:Out)(G1:Hp)(Dn:Ends):Prop:=
 match o with
 |.nx ρ=>∀σ G H,EOk K B G0 G H σ ρ->Same G1 G->Dn.nx σ H
 |.bk ρ=>∀σ G H,EOk K B G0 G H σ ρ->Same G1 G->Dn.bk σ H
 |.ct ρ=>∀σ G H,EOk K B G0 G H σ ρ->Same G1 G->Dn.ct σ H
 |.rt d=>∀v G H,Ext G0 B G H->Rep K G v d->Dn.rt v H
 |.ro ds=>∀a vs G H,Ext G0 B G H->B a=none->G a=none->H a=some (.lst vs)->Reps K G vs ds->Dn.rt (.ref a) H
 |.ex ρ d=>∀v σ G H,EOk K B G0 G H σ ρ->Same G1 G->Rep K G v d->KX v σ H
 |.bad=>False
def tS(g:SM):TS:=λDn σ H=>∃G ρ,EOk K B G0 G H σ ρ/\aftS K B G0 KX (g ρ) G Dn
def sB{α:Type}(f:M α)(g:α->SM):SM:=λρ=>match f ρ with | .ok a ρ'=>g a ρ' | .bad=>.bad
end
section
variable{X:Cx}{B G0:Hp}{KX:XW}{e a b c:Ui}{pos:Pos}{es rest:List Ui}{st:Stmt}{sts sts2:List Stmt}
theorem aftS.mono{K:Frag}{o:Out}{G G':Hp}{Dn:Ends}(e:Same G G')(h:aftS K B G0 KX o G Dn):aftS K B G0 KX o G' Dn:=by
 cases o with
 |nx ρ=>exact λσ G2 H2 k s=>h σ G2 H2 k (e.trans s)
 |bk ρ=>exact λσ G2 H2 k s=>h σ G2 H2 k (e.trans s)
 |ct ρ=>exact λσ G2 H2 k s=>h σ G2 H2 k (e.trans s)
 |rt d=>exact h
 |ro ds=>exact h
 |ex ρ d=>exact λv σ G2 H2 k s r=>h v σ G2 H2 k (e.trans s) r
 |bad=>exact h
theorem tS.bnd{K:Frag}{α γ:Type}{R:Hp->γ->α->Prop}{f:M α}{g:α->SM}{Dn:Ends}{σ:St}{H:Hp}{P:γ->Hp->Prop}(q:tS K B G0 KX (sB f g) Dn σ H)
  (i:∀v H' G' ρ' x,EOk K B G0 G' H' σ ρ'->R G' v x->aftS K B G0 KX (g x ρ') G' Dn->P v H'):tM K B G0 R f σ H P:=by
 obtain⟨G,ρ,k,a⟩:=q;refine⟨G,ρ,k,?_⟩;unfold sB at a;cases z:f ρ with
 |bad=>rw[z]at a;exact a.elim
 |ok d ρ1=>rw[z]at a;exact λv G' H' e s r=>i v H' G' ρ1 d e r (aftS.mono s a)
def sNx:SM:=λρ=>.nx ρ
def UJ(g h:SM):SM:=λρ=>match g ρ with | .nx ρ'=>h ρ'|o=>o
theorem Hm:PSs X [] (tS X.K B G0 KX sNx):=Pk EI λD σ H ⟨G,ρ,k,a⟩=>a σ G H k (.refl _)
theorem Fq{g h:SM}(h1:PS X st (tS X.K B G0 KX g))(h2:PSs X sts (tS X.K B G0 KX h)):PSs X (st::sts) (tS X.K B G0 KX (UJ g h)):=Pk (Cb h1 h2) λD σ H ⟨G,ρ,k,a⟩=>by
 refine⟨G,ρ,k,?_⟩;unfold UJ at a;cases z:g ρ with
 |nx ρ1=>rw[z]at a;exact λσ' G' H' k' s'=>⟨G',ρ1,k',aftS.mono s' a⟩
 |rt d=>rw[z]at a;exact a
 |ro ds=>rw[z]at a;exact a
 |bk ρ1=>rw[z]at a;exact a
 |ct ρ1=>rw[z]at a;exact a
 |ex ρ1 d=>rw[z]at a;exact a
 |bad=>rw[z]at a;exact a.elim
theorem Hl{g:SM}(h1:PS X st (tS X.K B G0 KX g)):PSs X [st] (tS X.K B G0 KX g):=EH h1
def YY:SM:=λ_=>.bad
theorem Dd:PS X st (tS X.K B G0 KX YY):=λ_ _ _ _ _ _ ⟨_,_,_,a⟩=>a.elim
def UV(f:M D):SM:=sB f λd _=>.rt d
theorem Hk{f:M D}(h:PE X e (tD X.K B G0 f)):PS X (.Return (some e) pos) (tS X.K B G0 KX (UV f)):=KZ (GW h) λD σ H q=>tS.bnd (R:=Rep X.K) q λv H' G' ρ' x k r a=>a v G' H' k.exit r
def YI(f:M D):SM:=sB f λ_ ρ=>.nx ρ
theorem Fp{f:M D}(h:PE X e (tD X.K B G0 f))(hs:swapsWith e none pos.line X.env=pure false:=by rfl):PS X (.Expr e pos) (tS X.K B G0 KX (YI f)):=KZ (Rz h hs) λD σ H q=>tS.bnd (R:=Rep X.K) q λv H' G' ρ' x k r a=>a σ G' H' k (.refl _)
def sIf(f:M Bool)(g h:SM):SM:=sB f λt=>if t=true then g else h
theorem L9{f:M Bool}{g h:SM}(hc:PT X c (tBo X.K B G0 f))(ha:PSs X sts (tS X.K B G0 KX g))(hb:PSs X sts2 (tS X.K B G0 KX h)):PS X (.If c sts sts2 pos) (tS X.K B G0 KX (sIf f g h)):=
 KZ (La hc ha hb) λD σ H q=>tS.bnd (R:=λ_ b c=>b=c) q λv H' G' ρ' x k r a=>by
  have r:v=x:=r;subst r;cases v with
  |true=>exact⟨G',ρ',k,a⟩
  |false=>exact⟨G',ρ',k,a⟩
def tG(K:Frag)(B G0:Hp)(s:D->UE->Option UE):TG:=λv σ H Q=>∃G ρ d ρ',EOk K B G0 G H σ ρ/\Rep K G v d/\s d ρ=some ρ'/\∀σ' G' H',EOk K B G0 G' H' σ' ρ'->Same G G'->Q σ' H'
def tGs(K:Frag)(B G0:Hp)(s:List D->UE->Option UE):TGs:=λv σ H Q=>∃G ρ d ρ',EOk K B G0 G H σ ρ/\Reps K G v d/\s d ρ=some ρ'/\∀σ' G' H',EOk K B G0 G' H' σ' ρ'->Same G G'->Q σ' H'
theorem pgof{t t':TG}(h:PG X e t)(i:∀v σ H Q,t' v σ H Q->t v σ H Q):PG X e t':=λpins s σ H v u Q I r q=>h pins s σ H v u Q I r (i v σ H Q q)
theorem Pi{t t':TGs}(h:PGs X es t)(i:∀v σ H Q,t' v σ H Q->t v σ H Q):PGs X es t':=λpins s σ H v u Q I r q=>h pins s σ H v u Q I r (i v σ H Q q)
def gN(i:Nat):D->UE->Option UE:=λd ρ=>if i<ρ.length then some (ρ.set i (some (.pub d)))else none
theorem O2{i:Nat}(h:PG X e (SW i)):PG X e (tG X.K B G0 (gN i)):=pgof h λv σ H Q ⟨G,ρ,d,ρ',k,r,e,q⟩=>by
 unfold gN at e;split at e
 ·rename_i hi;cases e;exact q _ G H (k.setPub r hi) (.refl _)
 ·cases e
def gN0:List D->UE->Option UE:=λd ρ=>match d with | []=>some ρ|_=>none
def gNC(s:D->UE->Option UE)(t:List D->UE->Option UE):List D->UE->Option UE:=λds ρ=>match ds with|d::r=>(s d ρ).bind (t r) | []=>none
theorem Hj:PGs X [] (tGs X.K B G0 gN0):=Pi EG λv σ H Q ⟨G,ρ,d,ρ',k,r,e,q⟩=>by
 cases r with
 |nil=>cases e;exact⟨rfl,q σ G H k (.refl _)⟩
 |cons _ _=>cases e
theorem Eg{s:D->UE->Option UE}{t:List D->UE->Option UE}(h1:PG X e (tG X.K B G0 s))(h2:PGs X es (tGs X.K B G0 t))
  (hs:(UB (e::es) X.env).map (·.2)=assign e X.env::(UB es X.env).map (·.2):=by rfl):PGs X (e::es) (tGs X.K B G0 (gNC s t)):=Pi (Ca h1 h2 hs) λv σ H Q ⟨G,ρ,d,ρ',k,r,e,q⟩=>by
 cases r with
 |nil=>cases e
 |@cons w dw ws dws rw rt=>
  unfold gNC at e;dsimp only at e;cases z:s dw ρ with
  |none=>rw[z]at e;cases e
  |some ρ1=>rw[z]at e;refine⟨w,ws,rfl,G,ρ,dw,ρ1,k,rw,z,λσ' G' H' k' s'=>?_⟩;exact⟨G',ρ1,dws,ρ',k',rt.mono s',e,λσ2 G2 H2 k2 s2=>q σ2 G2 H2 k2 (s'.trans s2)⟩
def gT(n:Nat)(t:List D->UE->Option UE):D->UE->Option UE:=λd ρ=>match d with | .tuple ds=>if ds.length=n then t ds ρ else none|_=>none
theorem Hi{k1:Nat}{t:List D->UE->Option UE}{n:Nat}(hc:X.calm=true)(h:PGs X es (tGs X.K B G0 t))
  (hn:(UB es X.env).length=n:=by rfl) (hst:(UB es X.env).findIdx? (·.1)=none:=by rfl):PG X (.Tuple es k1 pos) (tG X.K B G0 (gT n t)):=pgof (GV hc h hn hst) λv σ H Q ⟨G,ρ,d,ρ',k,r,e,q⟩=>by
 unfold gT at e;split at e
 ·split at e
  ·rename_i hl;obtain⟨ad,vs,rfl,h1,r1⟩:=r.tup_inv;exact⟨ad,vs,rfl,Z5 k.gh h1,by rw[r1.length];exact hl,G,ρ,_,ρ',k,r1,e,q⟩
  ·cases e
 ·cases e
def Zl(f:M D)(s:D->UE->Option UE):SM:=sB f λd ρ=>match s d ρ with|some ρ'=>.nx ρ'|none=>.bad
theorem Hg{tg:Ui}{f:M D}{s:D->UE->Option UE}(he:PE X e (tD X.K B G0 f))(hg:PG X tg (tG X.K B G0 s))(hs:swapsWithSole [tg] e pos.line X.env=pure false:=by rfl)(hw:swappedStores [tg] e X.env=pure none:=by rfl)
  (h1:(UB [tg] X.env).map (·.2)=[assign tg X.env]:=by rfl):PS X (.Assign [tg] e pos) (tS X.K B G0 KX (Zl f s)):=
 KZ (GU he hg hs hw h1) λD σ H q=>tS.bnd (R:=Rep X.K) q λv H' G' ρ' x k r a=>by
  cases z:s x ρ' with
  |none=>rw[z]at a;exact a.elim
  |some ρ2=>rw[z]at a;exact⟨G',ρ',x,ρ2,k,r,z,λσ2 G2 H2 k2 s2=>a σ2 G2 H2 k2 s2⟩
def UU(i:Nat)(f:M D):SM:=Zl f (gN i)
theorem Hf{i:Nat}{x:Str}{f:M D}{p2:Pos}(hN:X.N.Nodup)(hi:X.N[i]?=some x)(hx:Loc X.env.scope x)(he:PE X e (tD X.K B G0 f))(hs:swapsWith e (some (.Name x p2)) pos.line X.env=pure false:=by rfl)
  (hf:X.fn x=true∨X.env.scope.names.lookup x=some .local:=by first|exact .inl rfl|exact .inr rfl|assumption):PS X (.Assign [.Name x p2] e pos) (tS X.K B G0 KX (UU i f)):=
 KZ (Ri hN hi hx he hs hf) λD σ H q=>tS.bnd (R:=Rep X.K) q λv H' G' ρ' x k r a=>by
  unfold gN at a;split at a
  ·rename_i ρ2 hz;split at hz
   ·rename_i hi2;cases hz;exact a _ G' H' (k.setPub r hi2) (.refl _)
   ·cases hz
  ·exact a.elim
def tL(K:Frag)(B G0:Hp)(f:M (List D)):TE:=λσ H Q=>∃G ρ,EOk K B G0 G H σ ρ/\match f ρ with
 |.ok ds ρ'=>∀a vs G' H',EOk K B G0 G' H' σ ρ'->Same G G'->NewL K B G' H' σ ρ' a vs ds->Q (.ref a) H'
 |.bad=>False
def KP(i:Nat)(f:M (List D)):SM:=sB f λds ρ=>if i<ρ.length then .nx (ρ.set i (some (.own ds)))else .bad
theorem Ef{i:Nat}{x:Str}{f:M (List D)}{p2:Pos}(hN:X.N.Nodup)(hi:X.N[i]?=some x)(hx:Loc X.env.scope x)(he:PE X e (tL X.K B G0 f))(hs:swapsWith e (some (.Name x p2)) pos.line X.env=pure false:=by rfl)
  (hf:X.fn x=true∨X.env.scope.names.lookup x=some .local:=by first|exact .inl rfl|exact .inr rfl|assumption):PS X (.Assign [.Name x p2] e pos) (tS X.K B G0 KX (KP i f)):=
 KZ (Ri hN hi hx he hs hf) λD σ H ⟨G,ρ,k,a⟩=>by
  refine⟨G,ρ,k,?_⟩;unfold KP sB at a;cases z:f ρ with
  |bad=>rw[z]at a;exact a.elim
  |ok ds ρ1=>
   rw[z]at a;intro ad vs G' H' k' s' n;dsimp only at a;split at a
   ·rename_i hl;exact a _ G' H' (k'.setOwn n hl) s'
   ·exact a.elim
theorem NewL.of{K:Frag}{G H:Hp}{σ:St}{ρ:UE}{p:Ug}{vs:List V}{ds:List D}(k:EOk K B G0 G H σ ρ)(hp:H p=none)(r:Reps K G vs ds):NewL K B G (upd H p (.lst vs)) σ ρ p vs ds where
 b:=k.bh.free hp
 g:=k.gh.free hp
 h:=Ky
 r:=r
 f:=λj es q z=>by obtain⟨a,ws,h1,h2,h3,h4,h5⟩:=k.own j es q;rw[z]at h1;cases h1;rw[hp]at h4;cases h4
 dp:=λj pt d v fp q s rr=>k.freshD (KU hp) hp q s rr
theorem Ee{f:M (List D)}(h:PA X es (tDs X.K B G0 f)):PE X (.List es pos) (tL X.K B G0 (UX f λxs=>if xs.length<=1000000 then UK xs else λ_=>.bad)):=
 U5 (PL h) λσ H Q ⟨G,ρ,k,a⟩=>by
  refine⟨G,ρ,k,?_⟩;unfold UX at a;cases z:f ρ with
  |bad=>rw[z]at a;exact a.elim
  |ok ds ρ1=>
   rw[z]at a;dsimp only at a;intro v G' H' k' s' r;by_cases c:ds.length<=1000000
   ·rw[Qq c]at a;refine⟨by rw[r.length];exact QQ c lim,λp hp=>?_⟩;exact a p v G' _ (k'.ext (Ext.hid k'.gh hp)) s' (NewL.of k' hp r)
   ·rw[QG c]at a;exact a.elim
def KY(i:Nat)(f:M D):SM:=λρ0=>match ρ0[i]? with
 |some (some (.own _))=>sB f (λd ρ=>match ρ[i]? with
  |some (some (.own ds))=>if ds.length<1000000 then .nx (ρ.set i (some (.own (ds++[d]))))else .bad
  |_=>.bad) ρ0
 |_=>.bad
theorem He{i:Nat}{f:M D}{o:Ui}{apos cpos:Pos}(ho:PE X o (KO i))(he:PE X e (tD X.K B G0 f))
  (hbase:attributeBase o "append" X.env (eval o X.env)=eval o X.env:=by rfl)
  (hfew:((backTo cpos (Ul [e] X.env)).all (λx=>!x.1)&&(backToKw cpos (keywordEach [] X.env)).all (λx=>x.1.isSome)
   && decide ([e].length+([]:List Keyword).length+(if([]:List Keyword).isEmpty then 0 else 1)<30))=true:=by rfl)
  (hline:(apos.endLine==cpos.line)=true:=by rfl) (hs:Ul [e] X.env=[(false,eval e X.env)]:=by rfl)
  (hsw:swapsWith (.Call (.Attribute o "append" apos) [e] [] cpos) none pos.line X.env=pure false:=by rfl) :
  PS X (.Expr (.Call (.Attribute o "append" apos) [e] [] cpos) pos) (tS X.K B G0 KX (KY i f)):=
 KZ (Rz (V6 PySem.F.plainAttrs_list PySem.F.slot_list_append PySem.F.type_list_append Ms ho (Xk he Xp (by rw[hs];rfl)) hbase hfew hline (by rw[hs];rfl) rfl) hsw) λD σ H ⟨G,ρ,k,a⟩=>by
  unfold KY at a;cases q0:ρ[i]? with
  |none=>rw[q0]at a;exact a.elim
  |some o0=>
   cases o0 with
   |none=>rw[q0]at a;exact a.elim
   |some sl0=>
    cases sl0 with
    |deep _ _=>rw[q0]at a;exact a.elim
    |pub d=>rw[q0]at a;exact a.elim
    |own ds0=>
     rw[q0]at a;obtain⟨ad,vs0,h1,h2,h3,h4,h5⟩:=k.own i ds0 q0;refine⟨.ref ad,h1,.inl ⟨rfl,_,SqL.of h4⟩,G,ρ,k,?_⟩;unfold sB at a;cases z:f ρ with
     |bad=>rw[z]at a;exact a.elim
     |ok d ρ1=>
      rw[z]at a;dsimp only at a;intro v G' H' k' s' r';cases q:ρ1[i]? with
      |none=>rw[q]at a;exact a.elim
      |some o=>
       cases o with
       |none=>rw[q]at a;exact a.elim
       |some sl=>
        cases sl with
        |deep _ _=>rw[q]at a;exact a.elim
        |pub d=>rw[q]at a;exact a.elim
        |own ds=>
         rw[q]at a;dsimp only at a;split at a
         ·rename_i hl;obtain⟨ad',vs,g1,g2,g3,g4,g5⟩:=k'.own i ds q;rw[h1]at g1;cases g1;refine⟨ad,vs,v,rfl,rfl,g4,by rw[g5.length];exact QD hl lim,?_⟩;exact a σ G' _ (k'.change q h1 (g5.append (.cons r' .nil))) s'
         ·exact a.elim
end
structure Yi(K:Frag)(J:It)(ds:List D)(G1:Hp):Prop where
 go:∀i G H,Same G1 G->Same G H->i<ds.length->J.go i H
 stop:∀i G H,Same G1 G->Same G H->ds.length<=i->J.stop i H
 yld:∀i G H x H' d,Same G1 G->Same G H->ds[i]?=some d->J.yld i H x H'->∃G',Ext G H G' H'/\Rep K G' x d
def iD(K:Frag)(B G0:Hp)(f:M (List D)):TI:=λσ H R=>∃G ρ,EOk K B G0 G H σ ρ/\match f ρ with
 |.ok ds ρ'=>∀J G' H',EOk K B G0 G' H' σ ρ'->Same G G'->Yi K J ds G'->R J H'
 |.bad=>False
section
variable{X:Cx}{B G0:Hp}{KX:XW}{e a b c tg:Ui}{pos:Pos}{es rest:List Ui}{st:Stmt}{sts sts2:List Stmt}
theorem Ys{t t':TI}(h:PI X tg e t)(i:∀σ H R,t' σ H R->t σ H R):PI X tg e t':=λpins s σ H R I q=>h pins s σ H R I (i σ H R q)
theorem tM.toI{K:Frag}{α γ:Type}{R0:Hp->γ->α->Prop}{f:M α}{g:α->M (List D)}{σ:St}{H:Hp}{R:It->Hp->Prop}{P:γ->Hp->Prop}(q:iD K B G0 (UX f g) σ H R)
  (i:∀v H' G' ρ' x,EOk K B G0 G' H' σ ρ'->R0 G' v x->(match g x ρ' with
   |.ok ds ρ2=>∀J G2 H2,EOk K B G0 G2 H2 σ ρ2->Same G' G2->Yi K J ds G2->R J H2
   |.bad=>False)->P v H'):tM K B G0 R0 f σ H P:=by
 obtain⟨G,ρ,k,a⟩:=q;refine⟨G,ρ,k,?_⟩;unfold UX at a;cases z:f ρ with
 |bad=>rw[z]at a;exact a.elim
 |ok d ρ1=>
  rw[z]at a;intro v G' H' e s r;refine i v H' G' ρ1 d e r ?_;dsimp only at a;cases z2:g d ρ1 with
  |bad=>rw[z2]at a;exact a.elim
  |ok ds ρ2=>rw[z2]at a;exact λJ G2 H2 k2 s2 it=>a J G2 H2 k2 (s.trans s2) it
theorem BB{K:Frag}{G1:Hp}{ad:Ug}{vs:List V}{ds:List D}(h:SqL K G1 ad vs)(r:Reps K G1 vs ds):Yi K (Itl K ad) ds G1 where
 go:=λi G H s1 s2 hi=>by
  have hi':i<vs.length:=by rw[r.length];exact hi
  exact⟨vs,vs[i],(s1.trans s2).seq h,Qd hi'⟩
 stop:=λi G H s1 s2 hi=>⟨vs,(s1.trans s2).seq h,by rw[r.length];exact hi⟩
 yld:=λi G H x H' d s1 s2 e y=>by obtain⟨rfl,y⟩:=y;obtain⟨v,e1,r1⟩:=r.get e;have:=y vs ((s1.trans s2).seq h);rw[e1]at this;cases this;exact⟨G,.refl s2,r1.mono s1⟩
def Zv(lo hi:Int):List D:=(Uo (hi-lo).toNat).map λ(k:Nat)=>.int (lo+k)
theorem YM(lo hi:Int):(Zv lo hi).length=(hi-lo).toNat:=by unfold Zv;rw[Qb,QS]
theorem Mu{K:Frag}{G1:Hp}(lo hi:Int):Yi K (Itr lo (hi-lo).toNat) (Zv lo hi) G1 where
 go:=λi G H s1 s2 h=>by rw[YM]at h;exact h
 stop:=λi G H s1 s2 h=>by rw[YM]at h;exact h
 yld:=λi G H x H' d s1 s2 e y=>by
  obtain⟨rfl,rfl⟩:=y;unfold Zv at e;rw[Qf]at e;have hi:i<(Uo (hi-lo).toNat).length:=by refine Nat.lt_of_not_le λz=>?_;rw[Q5 z]at e;cases e
  rw[Qd hi,List.getElem_range]at e;cases e;exact⟨G,.refl s2,.int _⟩
def VC:List D->Option (List D)
 |[.int j]=>if j<=1000000 /\ -1000000<=j then some (Zv 0 j)else none
 |_=>none
def VA:List D->Option (List D)
 |[.int i,.int j]=>if j<=1000000 /\ -1000000<=j/\i<=1000000 /\ -1000000<=i then some (Zv i j)else none
 |_=>none
def YQ(f:M (List D)):M (List D):=UX f λx=>UY (VC x)
def Tb(f:M (List D)):M (List D):=UX f λx=>UY (VA x)
theorem Bl{f:M (List D)}{p2:Pos}(hg:Gl X "range")(hm:X.mg "range" = none)(ha:PA X [a] (tDs X.K B G0 f))(hs:Ul [a] X.env=[(false,eval a X.env)]:=by rfl) :
  PI X tg (.Call (.Name "range" p2) [a] [] pos) (iD X.K B G0 (YQ f)):=Ys (C4 hg hm ha hs) λσ H R q=>tM.toI (R0:=Reps X.K) q λv H' G' ρ' x k r a=>by
 cases z:VC x with
 |none=>rw[z]at a;exact a.elim
 |some ds=>
  rw[z]at a;unfold VC at z;split at z
  ·split at z
   ·rename_i j c;cases z;obtain⟨w,rfl,r'⟩:=r.one_inv;refine⟨j,by rw[r'.int_inv],by omega,by omega,?_⟩;have it:=Mu (K:=X.K) (G1:=G') 0 j;rw[Int.sub_zero]at it;exact a _ G' H' k (.refl _) it
   ·cases z
  ·cases z
theorem Bk{f:M (List D)}{p2:Pos}(hg:Gl X "range")(hm:X.mg "range" = none)(ha:PA X [a,b] (tDs X.K B G0 f))(hs:Ul [a,b] X.env=[(false,eval a X.env),(false,eval b X.env)]:=by rfl)(hs2:Ul [b] X.env=[(false,eval b X.env)]:=by rfl) :
  PI X tg (.Call (.Name "range" p2) [a,b] [] pos) (iD X.K B G0 (Tb f)):=Ys (C3 hg hm ha hs hs2) λσ H R q=>tM.toI (R0:=Reps X.K) q λv H' G' ρ' x k r a=>by
 cases z:VA x with
 |none=>rw[z]at a;exact a.elim
 |some ds=>
  rw[z]at a;unfold VA at z;split at z
  ·split at z
   ·rename_i i j c;cases z;obtain⟨w,w',rfl,r1,r2⟩:=r.two_inv;refine⟨i,j,by rw[r1.int_inv,r2.int_inv],⟨by omega,by omega,by omega,by omega⟩,?_⟩;exact a _ G' H' k (.refl _) (Mu i j)
   ·cases z
  ·cases z
def Zx(n:Nat):List D->List D
 |[]=>[]
 |d::r=>.tuple [.int n,d]::Zx (n+1) r
theorem Ym:∀(n:Nat)(ds:List D),(Zx n ds).length=ds.length
 |_,[]=>rfl
 |n,d::r=>by rw[Zx,QB,QB,Ym]
theorem RR:∀(n:Nat)(ds:List D)(i:Nat),(Zx n ds)[i]?=ds[i]?.map λd=>.tuple [.int ((n+i:Nat):Int),d]
 |_,[],i=>by simp[Zx]
 |n,d::r,0=>by simp[Zx]
 |n,d::r,i+1=>by
  rw[Zx,JK,JK,RR (n+1) r i];have:n+1+i=n+(i+1):=by omega
  rw[this]
theorem BA{K:Frag}{G1:Hp}{ad:Ug}{vs:List V}{ds:List D}(h:SqL K G1 ad vs)(r:Reps K G1 vs ds):Yi K (Ite K ad) (Zx 0 ds) G1 where
 go:=λi G H s1 s2 hi=>by
  rw[Ym]at hi;have hi':i<vs.length:=by rw[r.length];exact hi
  exact⟨vs,vs[i],(s1.trans s2).seq h,Qd hi'⟩
 stop:=λi G H s1 s2 hi=>by rw[Ym]at hi;exact⟨vs,(s1.trans s2).seq h,by rw[r.length];exact hi⟩
 yld:=λi G H x H' d s1 s2 e y=>by
  obtain⟨p,v,hp,rfl,y,rfl⟩:=y;rw[RR]at e;cases z:ds[i]? with
  |none=>rw[z]at e;cases e
  |some d0=>rw[z]at e;cases e;obtain⟨w,e1,r1⟩:=r.get z;have:=y vs ((s1.trans s2).seq h);rw[e1]at this;cases this;refine⟨upd G p (.tup [.int i,v]),Ext.new s2 hp,.tup (SqT.of Ky) (.cons ?_ (.cons ((r1.mono s1).mono (KU (s2.free hp))) .nil))⟩;rw[Jd];exact .int _
def Ta:List D->Option (List D)
 |[.list ds]=>some (Zx 0 ds)
 |_=>none
def YO(f:M (List D)):M (List D):=UX f λx=>UY (Ta x)
theorem Ed{f:M (List D)}{p2:Pos}{elts:List Ui}{x1}{tp:Pos}(hg:Gl X "enumerate")(hm:X.mg "enumerate" = none)(ha:PA X [a] (tDs X.K B G0 f))(hs:Ul [a] X.env=[(false,eval a X.env)]:=by rfl) :
  PI X (.Tuple elts x1 tp) (.Call (.Name "enumerate" p2) [a] [] pos) (iD X.K B G0 (YO f)):=Ys (ET hg hm ha hs) λσ H R q=>tM.toI (R0:=Reps X.K) q λv H' G' ρ' x k r a=>by
 cases z:Ta x with
 |none=>rw[z]at a;exact a.elim
 |some ds=>
  rw[z]at a;unfold Ta at z;split at z
  ·cases z;obtain⟨w,rfl,r'⟩:=r.one_inv;obtain⟨ad,vs,rfl,h1,r1⟩:=r'.lst_inv;exact⟨ad,vs,rfl,k.gh.seq h1,a _ G' H' k (.refl _) (BA h1 r1)⟩
  ·cases z
def Wm(s:D->UE->Option UE)(g:SM):List D->SM
 |[],ρ=>.nx ρ
 |d::r,ρ=>match s d ρ with
  |none=>.bad
  |some ρ1=>match g ρ1 with
   |.nx ρ2=>Wm s g r ρ2
   |.ct ρ2=>Wm s g r ρ2
   |.bk ρ2=>.nx ρ2
   |.rt d=>.rt d
   |.ro ds=>.ro ds
   |.ex ρ2 d=>.ex ρ2 d
   |.bad=>.bad
def Kd(f:M (List D))(s:D->UE->Option UE)(g:SM):SM:=sB f λds=>Wm s g ds
theorem Hd{iter:Ui}{body:List Stmt}{f:M (List D)}{s:D->UE->Option UE}{g:SM}(hp:PassesOwn (model X.prog X.w) X.A X.env X.xe)(hc:X.calm=true)(hi:PI X tg iter (iD X.K B G0 f))(hg:PG X tg (tG X.K B G0 s))(hb:PSs X body (tS X.K B G0 KX g))
  (hs:∀x,UC iter X.env x=pure x:=by intro _;rfl):PS X (.For tg iter body [] pos) (tS X.K B G0 KX (Kd f s g)):=
 KZ (GR hp hc hi hg hb hs) λDn σ H ⟨G,ρ,k,a⟩=>by
  refine⟨G,ρ,k,?_⟩;unfold Kd sB at a;cases z:f ρ with
  |bad=>rw[z]at a;exact a.elim
  |ok ds ρ1=>
   rw[z]at a;dsimp only at a⊢;intro J G1 H1 k1 s1 it;refine⟨λi m σ' H'=>m=ds.length-i/\∃G' ρ',EOk X.K B G0 G' H' σ' ρ'/\Same G1 G'/\aftS X.K B G0 KX (Wm s g (ds.drop i) ρ') G' Dn,⟨ds.length,by omega,G1,ρ1,k1,.refl _,by rw[List.drop_zero];exact aftS.mono s1 a⟩,?_⟩;rintro i m σ' H' ⟨rfl,G',ρ',k',s',a'⟩;by_cases hi:i<ds.length
   ·right;refine⟨it.go i G' H' s' k'.gh hi,λσ2 H2=>∃G2 ρ2,EOk X.K B G0 G2 H2 σ2 ρ2/\Same G1 G2/\aftS X.K B G0 KX (Wm s g (ds.drop (i+1)) ρ2) G2 Dn,λσ2 H2 h2=>⟨ds.length-(i+1),by omega,rfl,h2⟩,λx H2 y=>?_⟩
    obtain⟨G2,ex,rx⟩:=it.yld i G' H' x H2 ds[i] s' k'.gh (Qd hi) y;rw[JA hi,Wm]at a';cases z2:s ds[i] ρ' with
    |none=>rw[z2]at a';exact a'.elim
    |some ρ2=>
     rw[z2]at a';dsimp only at a';refine⟨G2,ρ',ds[i],ρ2,k'.ext ex,rx,z2,λσ3 G3 H3 k3 s3=>⟨G3,ρ2,k3,?_⟩⟩;have s13:Same G1 G3:=(s'.trans ex.g).trans s3;cases z3:g ρ2 with
     |nx ρ3=>rw[z3]at a';exact λσ4 G4 H4 k4 s4=>⟨G4,ρ3,k4,s13.trans s4,aftS.mono ((ex.g.trans s3).trans s4) a'⟩
     |ct ρ3=>rw[z3]at a';exact λσ4 G4 H4 k4 s4=>⟨G4,ρ3,k4,s13.trans s4,aftS.mono ((ex.g.trans s3).trans s4) a'⟩
     |bk ρ3=>rw[z3]at a';exact λσ4 G4 H4 k4 s4=>a' σ4 G4 H4 k4 ((ex.g.trans s3).trans s4)
     |rt d=>rw[z3]at a';exact a'
     |ro ds=>rw[z3]at a';exact a'
     |ex ρ3 d=>rw[z3]at a';exact λv σ4 G4 H4 k4 s4 r4=>a' v σ4 G4 H4 k4 ((ex.g.trans s3).trans s4) r4
     |bad=>rw[z3]at a';exact a'.elim
   ·left;rw[List.drop_eq_nil_of_le (by omega)]at a'
    exact⟨it.stop i G' H' s' k'.gh (by omega),a' σ' G' H' k' (.refl _)⟩
theorem Dc{k:Nat}{f:Ug}{fd:Uh}{ps:List Str}{F:List D->Option D}{g:M (List D)}{x:Str}{p2:Pos}{n:Nat}(FK:FnOk X.prog X.w X.K X.mg X.base CX0 k f fd ps (spD X.K n F))(hr:Room k X.A)(hg:Gl X x)(hm:X.mg x=some (.ref f))(hk:PySem.W.keepIn X.K (.ref f)=true)
  (hb:Wl X.K fd ps []) (ha:PA X (e::es) (tDs X.K B G0 g)) (hn:(e::es).length=n) (hdb:(x==("__debug__" : Str))=false:=by decide) (he:Ul (e::es) X.env=(false,eval e X.env)::Ul es X.env:=by rfl) (hpl:(backTo pos (Ul es X.env)).any (·.1)=false:=by rfl) :
  PE X (.Call (.Name x p2) (e::es) [] pos) (tD X.K B G0 (UX g λxs=>if xs.length=n then UY (F xs)else λ_=>.bad)):=
 U5 (EE FK hr hg hm hk hb .nil LK ha hdb he hpl) λσ H Q q=>tM.one (R:=Reps X.K) q λv H2 G ρ ds k r a=>by
  split at a
  ·rename_i hl;obtain⟨d,e,a⟩:=a.opt;exact⟨G,ds,d,by rw[Jh,r.length];exact hl,k.gh,by rw[Jh];exact r,e,λw G' H' ex rw=>a.done k ex rw⟩
  ·exact a.elim
end
def Yo(N:List Str)(ds:List D):UE:=(ds.map λd=>some (Sl.pub d))++Up (N.length-ds.length) none
theorem Db{K:Frag}{N:List Str}{G H:Hp}{vs:List V}{ds:List D}(s:Same G H)(r:Reps K G vs ds):EOk K H G G H (L2.YR N vs) (Yo N ds) where
 bh:=.refl _
 gh:=s
 g0:=.refl _
 np:=λ_ _ _ n=>n
 len:=by unfold L2.YR Yo;rw[Qj,Qj,Qb,Qb,QE,QE,r.length]
 pub:=λi d q=>by
  unfold Yo at q;unfold L2.YR;by_cases hi:i<ds.length
  ·rw[Qm (by rw[Qb];exact hi),Qf]at q;cases z:ds[i]? with
   |none=>rw[z]at q;cases q
   |some d'=>rw[z]at q;cases q;obtain⟨v,e1,r1⟩:=r.get z;refine⟨v,?_,r1⟩;rw[Qm (by rw[Qb,r.length];exact hi),Qf,e1];rfl
  ·rw[Qr (by rw[Qb];omega),Qw]at q;split at q<;>cases q
 own:=λi es q=>by
  unfold Yo at q;by_cases hi:i<ds.length
  ·rw[Qm (by rw[Qb];exact hi),Qf]at q;cases z:ds[i]? with
   |none=>rw[z]at q;cases q
   |some d'=>rw[z]at q;cases q
  ·rw[Qr (by rw[Qb];omega),Qw]at q;split at q<;>cases q
 sep:=λi j a es fs q _ _ _=>by
  unfold Yo at q;by_cases hi:i<ds.length
  ·rw[Qm (by rw[Qb];exact hi),Qf]at q;cases z:ds[i]? with
   |none=>rw[z]at q;cases q
   |some d'=>rw[z]at q;cases q
  ·rw[Qr (by rw[Qb];omega),Qw]at q;split at q<;>cases q
 dp:=by
  have key:∀{i:Nat}{s:Sl},(Yo N ds)[i]?=some (some s)->∃d,s=.pub d:=λ{i s} q=>by
   unfold Yo at q;by_cases hi:i<ds.length
   ·rw[Qm (by rw[Qb];exact hi),Qf]at q;cases z:ds[i]? with
    |none=>rw[z]at q;cases q
    |some d'=>rw[z]at q;cases q;exact⟨_,rfl⟩
   ·rw[Qr (by rw[Qb];omega),Qw]at q;split at q<;>cases q
  exact .of (λi p d q=>by obtain⟨_,e⟩:=key q;cases e) λi ds q=>by obtain⟨_,e⟩:=key q;cases e
def UZ(N:List Str)(g:SM)(ds:List D):Option D:=match g (Yo N ds)with
 |.rt d=>some d
 |.nx _=>some .none
 |_=>none
theorem okD{P:Uf}{w:World}{K:Frag}{mg:Str->Option Ud}{base:Heap}{x qual:Str}{st:Stmt}{f:Ug}{fd:Uh}{N ps:List Str}{k n:Nat}{g:SM}(F:Fun K x qual st f fd)(S:Tr N ps (Zr st))(hn:ps.length=n)
  (der:∀(cdv:Ud)(A:Around)(outer:List Env)(s:Ue)(H:Hp)(E:XK)(B G0:Hp),Room k (A.deeper (envOfC qual (Zr st) s.heap.objs.size f cdv)) ->
   PSs (Yd CX0 P w K mg base N qual (Zr st) f cdv A outer s H E).nox (Wz st) (tS K B G0 KX0 g)):FnOk P w K mg base CX0 (k+1) f fd ps (spD K n (UZ N g)):=by
 refine F.ok S (λvs H Q E h=>?_) (λcdv A outer s H vs Q E hr h=>?_)
 ·obtain⟨_,_,_,hl,_⟩:=h;rw[hl,hn]
 ·obtain⟨G,ds,d,hl,sg,r,hF,q⟩:=h;refine⟨_,der cdv A outer s H E H G hr,G,Yo N ds,Db sg r,?_⟩;unfold UZ at hF;cases z:g (Yo N ds)with
  |rt d'=>rw[z]at hF;cases hF;exact λv G' H' ex rr=>q v G' H' ex rr
  |nx ρ=>rw[z]at hF;cases hF;exact λσ' G' H' k' _=>q .non G' H' k'.exit .non
  |ro ds=>rw[z]at hF;cases hF
  |bk ρ=>rw[z]at hF;cases hF
  |ct ρ=>rw[z]at hF;cases hF
  |ex ρ d=>rw[z]at hF;cases hF
  |bad=>rw[z]at hF;cases hF
section
variable{X:Cx}{B G0:Hp}{e a b c tg:Ui}{pos:Pos}{es rest:List Ui}
def oNeg:D->Option D
 |.int i=>some (.int (-i))
 |_=>none
def ZX(f:M D):M D:=UX f λx=>UY (oNeg x)
theorem Ec{f:M D}(h:PE X a (tD X.K B G0 f)):PE X (.UnaryOp .USub a pos) (tD X.K B G0 (ZX f)):=
 U5 (LX GL h) λσ H Q q=>tM.one (R:=Rep X.K) q λv H2 G ρ x k r a=>by
  cases x with
  |int i=>exact⟨i,r.int_inv,aft.now a k (.int _)⟩
  |_=>exact a.elim
end
def Def(P:Uf)(w:World)(K:Frag)(mg:Str->Option Ud)(base:Heap)(x:Str)(k n:Nat)(F:List D->Option D):Prop:=
 ∃(f:Ug)(fd:Uh)(ps:List Str),mg x=some (.ref f)/\PySem.W.keepIn K (.ref f)=true/\Wl K fd ps []/\FnOk P w K mg base CX0 k f fd ps (spD K n F)
def UP(n:Nat)(F:List D->Option D)(g:M (List D)):M D:=UX g λxs=>if xs.length=n then UY (F xs)else λ_=>.bad
section
variable{X:Cx}{B G0:Hp}{e:Ui}{pos:Pos}{es:List Ui}
theorem Eb{k n:Nat}{F:List D->Option D}{g:M (List D)}{x:Str}{p2:Pos}(d:Def X.prog X.w X.K X.mg X.base x k n F)(hr:Room k X.A)(hg:Gl X x)(ha:PA X (e::es) (tDs X.K B G0 g))(hn:(e::es).length=n:=by rfl)
  (hdb:(x==("__debug__" : Str))=false:=by decide) (he:Ul (e::es) X.env=(false,eval e X.env)::Ul es X.env:=by rfl) (hpl:(backTo pos (Ul es X.env)).any (·.1)=false:=by rfl) :
  PE X (.Call (.Name x p2) (e::es) [] pos) (tD X.K B G0 (UP n F g)):=by
 obtain⟨f,fd,ps,h1,h2,h3,h4⟩:=d;exact Dc h4 hr hg h1 h2 h3 ha hn hdb he hpl
end
theorem Def.mk{P:Uf}{w:World}{K:Frag}{mg:Str->Option Ud}{base:Heap}{x:Str}{k n:Nat}{F:List D->Option D}{st:Stmt}{f:Ug}{fd:Uh}{ps:List Str}(hm:mg x=some (.ref f))(FU:Fun K x x st f fd)(hb:Wl K fd ps [])(ok:FnOk P w K mg base CX0 k f fd ps (spD K n F)) :
  Def P w K mg base x k n F:=⟨f,fd,ps,hm,FU.kp,hb,ok⟩
theorem Hc{K:Frag}{H:Hp}{a:Ug}{ns:List Int}{F:List D->Option D}{E:XK}(hS:SqL K H a (ns.map V.int))(h:F [.list (ns.map int)]=some (.bool true)):spD K 1 F [.ref a] H (λv _=>v=.bl true) E:=
 ⟨H,[.list (ns.map int)],.bool true,rfl,.refl _,.cons (.lst hS (Reps.ints ns)) .nil,h,λ_ _ _ _ r=>r.bl_inv⟩
end DL
namespace L2
open PySem PySem.Spec PyProof.Rows
theorem mem_of_lookup{x:Str}{k:NameKind}:∀{l:List (Str×NameKind)},l.lookup x=some k->(x,k)∈l
 |[],h=>by cases h
 |(y,j)::r,h=>by
  rw[QW]at h;split at h
  ·rename_i e;cases h;have:x=y:=by simpa using e
   rw[this];exact Qo
  ·exact Qu _ (mem_of_lookup h)
theorem Pb{env:Env}:∀(l:List (Str×NameKind))(acc:List (Str×Ug)),(∀y∈l,y.2=.free->∃c,env.cells.lookup y.1=some c) ->
  ∃cl,(forIn l acc (λx r=>if(x.2==NameKind.free)=true then(do let a ←cellOf env x.1;pure (ForInStep.yield ((x.1,a)::r)))else pure (ForInStep.yield r)):Sem (List (Str×Ug)))=pure cl /\
   (∀x c,cl.lookup x=some c->acc.lookup x=some c∨env.cells.lookup x=some c)/\(∀y∈l,y.2=.free->∃c,cl.lookup y.1=some c)/\(∀x c,acc.lookup x=some c->∃c',cl.lookup x=some c')
 |[],acc,_=>⟨acc,rfl,λ_ _ h=>.inl h,λ_ h=>absurd h (by simp),λx c h=>⟨c,h⟩⟩
 |(n,k)::r,acc,h=>by
  by_cases hk:k=.free
  ·subst hk;obtain⟨c,hc⟩:=h (n,.free) Qo rfl;obtain⟨cl,e,p1,p2,p3⟩:=Pb r ((n,c)::acc) λy hy=>h y (Qu _ hy)
   have hco:cellOf env n=pure c:=by unfold cellOf;rw[hc]
   have key:∀x c',((n,c)::acc).lookup x=some c'->acc.lookup x=some c'∨env.cells.lookup x=some c':=λx c' q=>by
    rw[QW]at q;split at q
    ·rename_i e1;cases q;have:x=n:=by simpa using e1
     subst this;exact .inr hc
    ·exact .inl q
   have own:((n,c)::acc).lookup n=some c:=by rw[List.lookup_cons];simp
   refine⟨cl,?_,λx c' q=>?_,λy hy hf=>?_,λx c' q=>?_⟩
   ·rw[List.forIn_cons];have:(if(((n,NameKind.free):Str×NameKind).2==NameKind.free)=true then(do let a ←cellOf env n;pure (ForInStep.yield ((n,a)::acc)))else pure (ForInStep.yield acc):Sem _)=pure (ForInStep.yield ((n,c)::acc)):=by rw[Qq (show((n,NameKind.free).snd==NameKind.free)=true from rfl),hco];rfl
    refine Eq.trans ?_ e;dsimp only at this⊢;rw[this];rfl
   ·rcases p1 x c' q with z|z
    ·exact key x c' z
    ·exact .inr z
   ·rcases QR.mp hy with z|z
    ·subst z;exact p3 n c own
    ·exact p2 y z hf
   ·by_cases hx:x=n
    ·subst hx;exact p3 x c own
    ·refine p3 x c' ?_;have hb:(x==n)=false:=by simpa using hx
     rw[QW,hb];exact q
  ·obtain⟨cl,e,p1,p2,p3⟩:=Pb r acc λy hy=>h y (Qu _ hy)
   refine⟨cl,?_,p1,λy hy hf=>?_,p3⟩
   ·rw[List.forIn_cons];have hb:(k==NameKind.free)=false:=by cases k<;>first|rfl|exact absurd rfl hk
    refine Eq.trans ?_ e;dsimp only;rw[hb,QG (by decide)];rfl
   ·rcases QR.mp hy with z|z
    ·subst z;exact absurd hf hk
    ·exact p2 y z hf
theorem MD{scope:Scope}{env:Env}(h:∀y∈scope.names,y.2=.free->∃c,env.cells.lookup y.1=some c) :
  ∃cl,closureFor scope env=pure cl/\(∀x c,cl.lookup x=some c->env.cells.lookup x=some c)/\∀y∈scope.names,y.2=.free->∃c,cl.lookup y.1=some c:=by
 obtain⟨cl,e,p1,p2,_⟩:=Pb scope.names [] h;refine⟨cl,?_,λx c q=>(p1 x c q).elim (λz=>by cases z) id,p2⟩;have e2:((forIn scope.names [] (λx r=>if(x.2==NameKind.free)=true then(do let a ←cellOf env x.1;pure (ForInStep.yield ((x.1,a)::r)))else pure (ForInStep.yield r)):Sem (List (Str×Ug))) >>= λs=>pure s)=pure cl:=by rw[e];rfl
 exact e2
theorem Mt{env:Env}{x:Str}{k:NameKind}:∀{names:List (Str×NameKind)},(names.map λ(n,k)=>if(k==NameKind.free&&env.scope.kind==.function&&env.kindOf n==some .cell)then(n,NameKind.cell)else(n,k)).lookup x=some k ->
  names.lookup x=some k∨(names.lookup x=some .free/\k=.cell)
 |[],h=>by cases h
 |(n,j)::r,h=>by
  have ih:=@Mt env x k r;have h:List.lookup x ((if(j==NameKind.free&&env.scope.kind==.function&&env.kindOf n==some .cell)=true then(n,NameKind.cell)else(n,j))::_)=some k:=h;cases hx:x==n with
  |true=>
   by_cases hc:(j==NameKind.free&&env.scope.kind==.function&&env.kindOf n==some .cell)=true
   ·rw[Qq hc]at h;simp only[QW,hx]at h⊢;cases h;simp only[Q2]at hc;have:j=.free:=by have:=hc.1.1;cases j<;>first|rfl|cases this
    subst this;exact .inr ⟨rfl,rfl⟩
   ·rw[QG hc]at h;simp only[QW,hx]at h⊢;exact .inl h
  |false=>
   by_cases hc:(j==NameKind.free&&env.scope.kind==.function&&env.kindOf n==some .cell)=true
   ·rw[Qq hc]at h;simp only[QW,hx]at h⊢;exact ih h
   ·rw[QG hc]at h;simp only[QW,hx]at h⊢;exact ih h
theorem MI{env:Env}{x:Str}:∀{names:List (Str×NameKind)},names.lookup x=some .free ->
  (names.map λ(n,k)=>if(k==NameKind.free&&env.scope.kind==.function&&env.kindOf n==some .cell)then(n,NameKind.cell)else(n,k)).lookup x=some .free ∨
  (names.map λ(n,k)=>if(k==NameKind.free&&env.scope.kind==.function&&env.kindOf n==some .cell)then(n,NameKind.cell)else(n,k)).lookup x=some .cell
 |[],h=>by cases h
 |(n,j)::r,h=>by
  have ih:=@MI env x r;show List.lookup x ((if(j==NameKind.free&&env.scope.kind==.function&&env.kindOf n==some .cell)=true then(n,NameKind.cell)else(n,j))::_)=_∨List.lookup x ((if(j==NameKind.free&&env.scope.kind==.function&&env.kindOf n==some .cell)=true then(n,NameKind.cell)else(n,j))::_)=_;cases hx:x==n with
  |true=>
   simp only[QW,hx]at h;cases h;by_cases hc:(NameKind.free==NameKind.free&&env.scope.kind==.function&&env.kindOf n==some .cell)=true
   ·rw[if_pos hc];simp[List.lookup_cons,hx]
   ·rw[if_neg hc];simp[List.lookup_cons,hx]
  |false=>
   simp only[QW,hx]at h;by_cases hc:(j==NameKind.free&&env.scope.kind==.function&&env.kindOf n==some .cell)=true
   ·rw[Qq hc];simp only[QW,hx];exact ih h
   ·rw[QG hc];simp only[QW,hx];exact ih h
theorem Mj{env:Env}{x:Str}:∀{names:List (Str×NameKind)},names.lookup x=some .globalImplicit ->
  (names.map λ(n,k)=>if(k==NameKind.free&&env.scope.kind==.function&&env.kindOf n==some .cell)then(n,NameKind.cell)else(n,k)).lookup x=some .globalImplicit
 |[],h=>by cases h
 |(n,j)::r,h=>by
  have ih:=@Mj env x r;show List.lookup x ((if(j==NameKind.free&&env.scope.kind==.function&&env.kindOf n==some .cell)=true then(n,NameKind.cell)else(n,j))::_)=_;cases hx:x==n with
  |true=>simp only[QW,hx]at h;cases h;rw[if_neg (by simp)];simp[List.lookup_cons,hx]
  |false=>
   simp only[QW,hx]at h;by_cases hc:(j==NameKind.free&&env.scope.kind==.function&&env.kindOf n==some .cell)=true
   ·rw[Qq hc];simp only[QW,hx];exact ih h
   ·rw[QG hc];simp only[QW,hx];exact ih h
def Cx.blk(X:Cx)(N':List Str)(scope:Scope)(cl:List (Str×Ug))(C:Ug)(s₀:Ue)(H₀:Hp)(ex:List Ug):Cx:=
 {X with N:=N',s₀:=s₀,H₀:=H₀,env:=compEnvC scope cl C X.env,outer:=X.stack,ex:=ex,fn:=λ_=>false,xe:=λ_ _=>False}
section
variable{X:Cx}{N':List Str}{scope:Scope}{cl:List (Str×Ug)}{C:Ug}{s₀:Ue}{H₀:Hp}{ex:List Ug}{x:Str}
theorem Ea(h:scope.names.lookup x=some .local∨scope.names.lookup x=some .free):Vis (X.blk N' scope cl C s₀ H₀ ex).env.scope x:=by
 rcases h with h|h
 ·exact .inl (lookup_relabel_local h)
 ·rcases MI (env:=X.env) h with z|z
  ·exact .inr (.inr z)
  ·exact .inr (.inl z)
theorem F9(h:scope.names.lookup x=some .local):Loc (X.blk N' scope cl C s₀ H₀ ex).env.scope x:=.inl (lookup_relabel_local h)
theorem Hb(h:scope.names.lookup x=some .local):(X.blk N' scope cl C s₀ H₀ ex).env.scope.names.lookup x=some .local:=lookup_relabel_local h
theorem HY(h:scope.names.lookup x=some .globalImplicit):Gl (X.blk N' scope cl C s₀ H₀ ex) x:=Mj h
end
def Tw(names:List (Str×NameKind))(N N2:List Str)(k:Nat):Bool:=
 N2.length==N.length+k&&(Uo N2.length).all λi=>match N2[i]? with
  |none=>true
  |some x=>match names.lookup x with
   |some .free=>N[i]?==some x
   |some .local=>decide (N.length<=i)&&decide (i<N.length+k)
   |some .cell=>false
   |_=>true
theorem AV{names:List (Str×NameKind)}{N N2:List Str}{k:Nat}(h:Tw names N N2 k=true) :
  N2.length=N.length+k/\∀(i:Nat) x,N2[i]?=some x->(names.lookup x=some .free->N[i]?=some x)/\(names.lookup x=some .local->N.length<=i/\i<N.length+k):=by
 unfold Tw at h;simp only[Q2,beq_iff_eq,Jb,QY]at h;refine⟨h.1,λi x e=>?_⟩;have hi:=(Qg.mp e).1;have:=h.2 i hi;rw[e]at this;refine⟨λq=>?_,λq=>?_⟩
 ·simp only[q]at this;simpa using this
 ·simp only[q]at this;simpa using this
theorem Inv.enter{X:Cx}{pins:List (Ug×Obj)}{σ:St}{H:Hp}{s3:Ue}(I:Inv X pins σ H s3){scope:Scope}{cl:List (Str×Ug)}{N2:List Str}{k:Nat}{h':Heap}{fp:List Ug}{t':Nat}{m0:Str->Option Ud}
  (hb:Tw scope.names X.N N2 k=true) (hkind:scope.kind=.function) (hcell:∀y∈scope.names,y.2≠.cell)
  (hfree:∀y∈scope.names,y.2=.free->X.env.scope.names.lookup y.1=some .cell∨X.env.scope.names.lookup y.1=some .free)
  (cl1:∀x c,cl.lookup x=some c->X.env.cells.lookup x=some c) (cl2:∀y∈scope.names,y.2=.free->∃c,cl.lookup y.1=some c)
  (hn:h'.Ns s3.heap.objs.size m0) (hk:∀b o,s3.heap.get? b=some o->h'.get? b=some o) (hf:∀b∈fp,KL X pins H b) (hfo:∀b∈fp,∃o,s3.heap.get? b=some o) :
  Inv (X.blk N2 scope cl s3.heap.objs.size s3 H fp) pins (σ++Up k none) H {s3 with heap:=h',toks:=t'}:=by
 obtain⟨hl,hN⟩:=AV hb;have lt:∀b o,s3.heap.get? b=some o->b≠s3.heap.objs.size:=λb o e=>QI (Qh e);have ofl:∀x,scope.names.lookup x=some .free->(x,NameKind.free)∈scope.names:=λx h=>mem_of_lookup h;have kinv:∀x kk,(X.blk N2 scope cl s3.heap.objs.size s3 H fp).env.scope.names.lookup x=some kk->scope.names.lookup x=some kk∨(scope.names.lookup x=some .free/\kk=.cell):=λx kk h=>Mt (env:=X.env) h
 have isfree:∀x,(X.blk N2 scope cl s3.heap.objs.size s3 H fp).env.scope.names.lookup x=some .cell∨(X.blk N2 scope cl s3.heap.objs.size s3 H fp).env.scope.names.lookup x=some .free->scope.names.lookup x=some .free:=λx h=>by
  rcases h with h|h
  ·rcases kinv x _ h with z|z
   ·exact absurd rfl (hcell _ (mem_of_lookup z))
   ·exact z.1
  ·rcases kinv x _ h with z|z
   ·exact z
   ·exact z.1
 have ok:(X.blk N2 scope cl s3.heap.objs.size s3 H fp).Ok:=
  {
   mod:=I.ok.mod
   kind:=hkind
   glob:=I.ok.glob
   blt:=I.ok.blt
   above:=Qp _
   inj:=λx y c a b=>I.ok.inj x y c (cl1 x c a) (cl1 y c b)
   has:=λx h=>cl2 (x,.free) (ofl x (isfree x h)) rfl
   cab:=λx c h=>by cases h
   hd:=I.ok.hd
   frames:=I.ok.frames
   stk:=.inl rfl
   exf:=λb hb=>⟨let ⟨o,e⟩:=hfo b hb;lt b o e,λx c e=>(hf b hb).2.2.2.2.1 x c (cl1 x c e)⟩
   bs:=I.bs
   bsz:=QQ I.ok.bsz I.sz
   noex:=λb o e hb=>by
    rcases(hf b hb).2.2.2.1 with z|z
    ·exact I.ok.noex b o e z
    ·exact absurd (QD (Qh e) (QQ I.ok.bsz z)) (Jc _)
   exfs:=λb hb hx=>by
    rcases QR.mp (I.stkSub b hx)with z|z
    ·exact(hf b hb).2.1 z
    ·exact(hf b hb).2.2.1 z
   funs:=I.stack
   frf:=I.stkFree}
 refine⟨ok,rfl,I.bare,Un.kept hk,⟨m0,hn,λi x v e1 e2 e3=>?_⟩,λx c e=>?_,I.hok.fresh (Qp _),λx c e=>I.freeC x c (cl1 x c e),λp hp=>?_,I.hok.kept hk,?_⟩
 ·have nl:scope.names.lookup x≠some .local:=λz=>by
   obtain⟨g1,g2⟩:=(hN i x e1).2 z;rw[←I.len]at g1 g2;rw[Qr g1,Qw]at e2;split at e2<;>cases e2
  have fr:scope.names.lookup x=some .free:=by
   rcases e3 with z|z|z
   ·rcases kinv x _ z with q|q
    ·exact absurd q nl
    ·cases q.2
   ·exact isfree x (.inl z)
   ·exact isfree x (.inr z)
  have eN:=(hN i x e1).1 fr;have hi:i<σ.length:=by rw[I.len];exact(Qg.mp eN).1
  rw[Qm hi]at e2;obtain⟨m,hm,hlk⟩:=I.loc;have hkd:=hfree _ (ofl x fr) rfl;obtain⟨u,r,l⟩:=hlk i x v eN e2 (.inr hkd);refine⟨u,r,.inr ⟨?_,?_⟩⟩
  ·rcases e3 with z|z|z
   ·rcases kinv x _ z with q|q
    ·exact absurd q nl
    ·cases q.2
   ·exact .inl z
   ·exact .inr z
  ·rcases l with l|⟨_,c,ec,z⟩
   ·have:X.env.scope.names.lookup x=some .local:=l.1;rcases hkd with q|q<;>(dsimp only at q;rw[this]at q;cases q)
   ·obtain⟨c',ec'⟩:=cl2 _ (ofl x fr) rfl;have:=cl1 _ _ ec';dsimp only at this ec';rw[ec]at this;cases this;obtain⟨o,ho,hd⟩:=z;exact⟨c,ec',o,hk c o ho,hd⟩
 ·obtain⟨v,o,ho,hd⟩:=I.cell x c (cl1 x c e);exact⟨v,o,hk c o ho,hd⟩
 ·obtain⟨e,n,ne,nf,d⟩:=I.pin p hp;refine⟨hk _ _ e,n,lt _ _ e,λz=>?_,d⟩;rcases QR.mp (I.stkSub _ z)with q|q
  ·exact ne q
  ·exact nf q
 ·rw[Qj,QE,I.len];exact hl.symm
abbrev nox:Ud->Ue->Prop:=λ_ _=>False
def WK(prog:Uf)(w:World)(A:Around)(tg:Ui)(ifs:List Ui)(env:Env)(it:Ud)(code:Code)(W:(Ue->Prop)->Ue->Prop):Prop:=
 ∀(R:Result->Ue->Prop)(I:Nat->Ue->Prop)(n:Nat)(s:Ue),I n s ->
  (∀n s,I n s->Uk (model prog w) A (pyNext it) (λr s₁=>match r with
   |none=>R (.ok .next) s₁
   |some v=>Uk (model prog w) A (letOwnedTupleGo tg it v) (λ_ s₁'=>Uk (model prog w) A (assign tg env v) (λ_ s₂=>
     Uk (model prog w) A (forIn ifs true λc r=>if r=true then do let ok ←isTrue c env (eval c env);pure (ForInStep.yield ok)else pure (ForInStep.yield r)) (λok s₃=>
      if ok=true then W (λs₅=>∃m,m<n/\I m s₅) s₃ else ∃m,m<n/\I m s₃) nox s₂) nox s₁') nox s₁) nox s)->codeAny (model prog w) A code R s
section
variable{prog:Uf}{w:World}{A:Around}{elt tg i:Ui}{ifs:List Ui}{gens:List Comprehension}{scope:Scope}{pos:Pos}{it acc:Ud}{env:Env}{j:Nat}
theorem Bj(hg:gens[j]?=some ⟨tg,i,ifs,0⟩)(hn:gens[j+1]?=none):WK prog w A tg ifs env it (.compLoop (.ListComp elt gens scope pos) j it acc env)
  (λQ s=>Uk (model prog w) A (eval elt env) (λx s₄=>Uk (model prog w) A (call (.builtin "list.append") [acc,x]) (λ_ s₅=>Q s₅) nox s₄) nox s):=by
 intro R I n s h turn;refine codeAny_loop rfl I (λn s hI=>?_) n h;show Uk _ A ((compTurn (.ListComp elt gens scope pos) j it acc env).onRaise (λx=>do noteFrame x env;theTreesLotGoes x)) _ _ s;refine wpAny_noted ?_;unfold compTurn;dsimp only;simp only[hg,hn];refine Qe (Q8 (Qe (QA (turn n s hI) (λr s₁ h₁=>?_) λ_ _ h'=>h'.elim)));cases r with
 |none=>exact Qk h₁
 |some v=>
  refine Qe (QA h₁ (λ_ s₁' h₁'=>?_) λ_ _ h'=>h'.elim);refine Qe (QA h₁' (λ_ s₂ h₂=>Qe (QA h₂ (λok s₃ h₃=>?_) λ_ _ h'=>h'.elim)) λ_ _ h'=>h'.elim);cases ok with
  |false=>exact Qk ⟨rfl,h₃⟩
  |true=>exact Qe (Qe (QA h₃ (λx s₄ h₄=>Qe (QA h₄ (λ_ s₅ h₅=>Qk (Qk ⟨rfl,h₅⟩)) λ_ _ h'=>h'.elim)) λ_ _ h'=>h'.elim))
theorem Bh{tg1 i1:Ui}{ifs1:List Ui}(hg:gens[j]?=some ⟨tg,i,ifs,0⟩)(hn:gens[j+1]?=some ⟨tg1,i1,ifs1,0⟩)(hs:∀x,UC i1 env x=pure x):WK prog w A tg ifs env it (.compLoop (.ListComp elt gens scope pos) j it acc env)
  (λQ s=>Uk (model prog w) A (eval i1 env) (λx s₄=>Uk (model prog w) A (pyIter x) (λit1 s₅=>codeAny (model prog w) A (.compStart (.ListComp elt gens scope pos) (j+1) it1 acc env)
   (λr s₆=>match r with | .ok _=>Q s₆ | .error _=>False) s₅) nox s₄) nox s):=by
 intro R I n s h turn;refine codeAny_loop rfl I (λn s hI=>?_) n h;show Uk _ A ((compTurn (.ListComp elt gens scope pos) j it acc env).onRaise (λx=>do noteFrame x env;theTreesLotGoes x)) _ _ s;refine wpAny_noted ?_;unfold compTurn;dsimp only;simp only[hg,hn];refine Qe (Q8 (Qe (QA (turn n s hI) (λr s₁ h₁=>?_) λ_ _ h'=>h'.elim)));cases r with
 |none=>exact Qk h₁
 |some v=>
  refine Qe (QA h₁ (λ_ s₁' h₁'=>?_) λ_ _ h'=>h'.elim);refine Qe (QA h₁' (λ_ s₂ h₂=>Qe (QA h₂ (λok s₃ h₃=>?_) λ_ _ h'=>h'.elim)) λ_ _ h'=>h'.elim);cases ok with
  |false=>exact Qk ⟨rfl,h₃⟩
  |true=>
   refine Qe (QA h₃ (λx s₄ h₄=>Qe (Q8 (Qe (wpAny_of_eq (hs x) (Qe (wpAny_holding (QA h₄ (λit1 s₅ h₅=>?_) λ_ _ h'=>h'.elim))))))) λ_ _ h'=>h'.elim);refine Qe (wpAny_runOwn (codeAny_mono h₅ λr s₆ h₆=>?_));cases r with
   |ok f=>exact Qk ⟨rfl,h₆⟩
   |error x=>exact h₆.elim
theorem AU{R:Result->Ue->Prop}{s:Ue}(hg:gens[j]?=some ⟨tg,i,ifs,0⟩)
  (h0:codeAny (model prog w) A (.compLoop (.ListComp elt gens scope pos) j it acc env) R s)
  (h:Uk (model prog w) A (pyIter it) (λit' s'=>codeAny (model prog w) A (.compLoop (.ListComp elt gens scope pos) j it' acc env) R s') nox s) :
  codeAny (model prog w) A (.compStart (.ListComp elt gens scope pos) j it acc env) R s:=by
 refine codeAny_of_tree ?_;show Uk _ _ ((compStart (.ListComp elt gens scope pos) j it acc env).onRaise (λx=>do noteFrame x env;standAt theWindowsPlace)) _ _ s;refine wpAny_notedAt ?_;unfold compStart;have hc:(clausesOf (.ListComp elt gens scope pos))[j]?=some ⟨tg,i,ifs,0⟩:=hg;simp only[hc];show Uk _ _ (ask >>= _) _ _ s;refine Qe (wpAny_askSetting (wpAny_ite ?_));split
 ·first
   |exact Qe (Qk (Qk (And.intro rfl h0)))
   |exact Qk (And.intro rfl h0)
 ·first
   |exact Qe (wpAny_rule (Qe (Q8 (Qe (QA h (λit' s' h'=>Qk (And.intro rfl h')) λ_ _ x=>x.elim)))))
   |(refine Qe (wpAny_rule ?_);show Uk _ _ (standAt _ >>= _) _ _ s;exact Qe (Q8 (Qe (QA h (λit' s' h'=>Qk (And.intro rfl h')) λ_ _ x=>x.elim))))
end
end L2
namespace DL
open PySem PySem.Spec L2
open PyProof.Rows hiding St
def Xb:Option Sl->Option Sl
 |some (.own _)=>none
 |some (.deep _ _)=>none
 |x=>x
def U8(ρ:UE):UE:=ρ.map Xb
theorem Bg{ρ:UE}{i:Nat}{d:D}(h:(U8 ρ)[i]?=some (some (.pub d))):ρ[i]?=some (some (.pub d)):=by
 unfold U8 at h;rw[Qf]at h;cases e:ρ[i]? with
 |none=>rw[e]at h;cases h
 |some o=>
  rw[e]at h;cases o with
  |none=>cases h
  |some sl=>cases sl with
   |pub d'=>cases h;rfl
   |own ds=>cases h
   |deep p d'=>cases h
theorem Xv{ρ:UE}{i:Nat}{ds:List D}(h:(U8 ρ)[i]?=some (some (.own ds))):False:=by
 unfold U8 at h;rw[Qf]at h;cases e:ρ[i]? with
 |none=>rw[e]at h;cases h
 |some o=>
  rw[e]at h;cases o with
  |none=>cases h
  |some sl=>cases sl with
   |pub d'=>cases h
   |own ds=>cases h
   |deep p d'=>cases h
theorem Pa{ρ:UE}{i:Nat}{p:Pat}{d:D}(h:(U8 ρ)[i]?=some (some (.deep p d))):False:=by
 unfold U8 at h;rw[Qf]at h;cases e:ρ[i]? with
 |none=>rw[e]at h;cases h
 |some o=>
  rw[e]at h;cases o with
  |none=>cases h
  |some sl=>cases sl<;>cases h
def Kq(s:D->UE->Option UE)(t:M Bool)(g:M D):List D->UE->List D->Option (List D)
 |[],_,es=>some es
 |d::r,ρ,es=>match s d ρ with
  |none=>none
  |some ρ1=>match t ρ1 with
   |.bad=>none
   |.ok b ρ2=>if b=true then(match g ρ2 with
     |.bad=>none
     |.ok e ρ3=>if es.length<1000000 then Kq s t g r (U8 ρ3) (es++[e])else none)
    else Kq s t g r (U8 ρ2) es
def Zb(f:M (List D))(k:Nat)(s:D->UE->Option UE)(t:M Bool)(g:M D):M (List D):=λρ=>match f ρ with
 |.bad=>.bad
 |.ok ds ρ1=>match Kq s t g ds (U8 ρ1++Up k none) []with
  |none=>.bad
  |some es=>.ok es ρ1
def ZK(X:Cx)(ifs:List Ui)(t:TT):Prop:=
 ∀(pins:List (Ug×Obj))(s:Ue)(σ:St)(H:Hp)(Q:Bool->Hp->Prop),Inv X pins σ H s->t σ H Q ->
  Uk (model X.prog X.w) X.A (forIn ifs true λc r=>if r=true then do let ok ←isTrue c X.env (eval c X.env);pure (ForInStep.yield ok)else pure (ForInStep.yield r)) (TP X pins σ Q) X.xe s
section
variable{X:Cx}{B G0:Hp}
theorem F8:ZK X [] (tBo X.K B G0 (UK true)):=λpins s σ H Q I ⟨G,ρ,k,a⟩=>wpAny_tests_nil ⟨H,I,a true G H k (.refl _) rfl⟩
theorem F7{c:Ui}{t:M Bool}(h:PT X c (tBo X.K B G0 t)):ZK X [c] (tBo X.K B G0 t):=λpins s σ H Q I q=>wpAny_tests_one (h pins s σ H Q I q)
theorem EOk.rebase{K:Frag}{G H:Hp}{σ:St}{ρ:UE}(k:EOk K B G0 G H σ ρ):EOk K H G G H σ (U8 ρ) where
 bh:=.refl _
 gh:=k.gh
 g0:=.refl _
 np:=λ_ _ _ n=>n
 len:=by unfold U8;rw[Qb];exact k.len
 pub:=λi d q=>k.pub i d (Bg q)
 own:=λi ds q=>(Xv q).elim
 sep:=λi j a ds es q=>(Xv q).elim
 dp:=.of (λ_ _ _ q=>Pa q) λ_ _ q=>Xv q
theorem EOk.more{K:Frag}{G H:Hp}{σ:St}{ρ:UE}(k:EOk K H G G H σ (U8 ρ))(n:Nat):EOk K H G G H (σ++Up n none) (U8 ρ++Up n none) where
 bh:=.refl _
 gh:=k.gh
 g0:=.refl _
 np:=λ_ _ _ n=>n
 len:=by rw[Qj,Qj,k.len,QE,QE]
 pub:=λi d q=>by
  by_cases hi:i<(U8 ρ).length
  ·rw[Qm hi]at q;rw[Qm (by rw[←k.len];exact hi)];exact k.pub i d q
  ·rw[Qr (Q0 hi),Qw]at q;split at q<;>cases q
 own:=λi ds q=>by
  by_cases hi:i<(U8 ρ).length
  ·rw[Qm hi]at q;exact(Xv q).elim
  ·rw[Qr (Q0 hi),Qw]at q;split at q<;>cases q
 sep:=λi j a ds es q=>by
  by_cases hi:i<(U8 ρ).length
  ·rw[Qm hi]at q;exact(Xv q).elim
  ·rw[Qr (Q0 hi),Qw]at q;split at q<;>cases q
 dp:=by
  refine .of (λi p d q=>?_) λi ds q=>?_
  ·by_cases hi:i<(U8 ρ).length
   ·rw[Qm hi]at q;exact Pa q
   ·rw[Qr (Q0 hi),Qw]at q;split at q<;>cases q
  ·by_cases hi:i<(U8 ρ).length
   ·rw[Qm hi]at q;exact Xv q
   ·rw[Qr (Q0 hi),Qw]at q;split at q<;>cases q
theorem EOk.beside{K:Frag}{G H:Hp}{σ:St}{ρ:UE}{a:Ug}{o:HO}(k:EOk K B G0 G H σ ρ)(hg:G a=none):EOk K (upd H a o) G G (upd H a o) σ (U8 ρ) where
 bh:=.refl _
 gh:=λb u e=>by rw[Kb (λz=>by subst z;rw[hg]at e;cases e)];exact k.gh b u e
 g0:=.refl _
 np:=λ_ _ _ n=>n
 len:=k.rebase.len
 pub:=k.rebase.pub
 own:=λi ds q=>(Xv q).elim
 sep:=λi j a ds es q=>(Xv q).elim
 dp:=.of (λ_ _ _ q=>Pa q) λ_ _ q=>Xv q
theorem lim1:1000000<=Uj:=lim
def SR:Option Sl->Option Sl
 |some (.own ds)=>some (.pub (.list ds))
 |some (.deep _ d)=>some (.pub d)
 |x=>x
def Zw(ρ:UE):UE:=ρ.map SR
theorem Bf{ρ:UE}{i:Nat}{d:D}(h:(Zw ρ)[i]?=some (some (.pub d))):ρ[i]?=some (some (.pub d))∨(∃ds,d=.list ds/\ρ[i]?=some (some (.own ds))) ∨ ∃p,ρ[i]?=some (some (.deep p d)):=by
 unfold Zw at h;rw[Qf]at h;cases e:ρ[i]? with
 |none=>rw[e]at h;cases h
 |some o=>
  rw[e]at h;cases o with
  |none=>cases h
  |some sl=>cases sl with
   |pub d'=>cases h;exact .inl rfl
   |own ds=>cases h;exact .inr (.inl ⟨ds,rfl,rfl⟩)
   |deep p d'=>cases h;exact .inr (.inr ⟨p,rfl⟩)
theorem RQ{ρ:UE}{i:Nat}{ds:List D}(h:(Zw ρ)[i]?=some (some (.own ds))):False:=by
 unfold Zw at h;rw[Qf]at h;cases e:ρ[i]? with
 |none=>rw[e]at h;cases h
 |some o=>
  rw[e]at h;cases o with
  |none=>cases h
  |some sl=>cases sl with
   |pub d'=>cases h
   |own ds=>cases h
   |deep p d'=>cases h
theorem Bz{ρ:UE}{i:Nat}{p:Pat}{d:D}(h:(Zw ρ)[i]?=some (some (.deep p d))):False:=by
 unfold Zw at h;rw[Qf]at h;cases e:ρ[i]? with
 |none=>rw[e]at h;cases h
 |some o=>
  rw[e]at h;cases o with
  |none=>cases h
  |some sl=>cases sl<;>cases h
def flat:D->Bool
 |.none=>true | .bool _=>true | .int _=>true | .str _=>true|_=>false
theorem Rep.flat{K:Frag}{G G':Hp}{v:V}{d:D}(r:Rep K G v d)(h:DL.flat d=true):Rep K G' v d:=by
 cases r with
 |non=>exact .non
 |bl b=>exact .bl b
 |int i=>exact .int i
 |str x=>exact .str x
 |lst _ _=>cases h
 |tup _ _=>cases h
 |dic _=>cases h
 |exc _ _ _ _=>cases h
 |dct _ _ _ _ _=>cases h
 |dtt _ _ _ _=>cases h
theorem Reps.flat{K:Frag}{G G':Hp}:∀{vs:List V}{ds:List D},Reps K G vs ds->ds.all DL.flat=true->Reps K G' vs ds
 |_,_,.nil,_=>.nil
 |_,_,.cons r t,h=>by rw[List.all_cons,Q2]at h;exact .cons (r.flat h.1) (Reps.flat t h.2)
theorem EOk.lend{K:Frag}{B G0 G H:Hp}{σ:St}{ρ:UE}{D:Ug}{o:HO}(k:EOk K B G0 G H σ ρ)(hD:H D=none)(n:Nat):EOk K (upd H D o) H H (upd H D o) (σ++Up n none) (Zw ρ++Up n none) where
 bh:=.refl _
 gh:=KU hD
 g0:=.refl _
 np:=λ_ _ _ n=>n
 len:=by unfold Zw;rw[Qj,Qj,Qb,k.len,QE,QE]
 pub:=λi d q=>by
  have hl:(Zw ρ).length=ρ.length:=by unfold Zw;rw[Qb]
  by_cases hi:i<(Zw ρ).length
  ·rw[Qm hi]at q;rw[Qm (by rw[←k.len,←hl];exact hi)];rcases Bf q with e|⟨ds,rfl,e⟩|⟨p,e⟩
   ·obtain⟨v,h1,h2⟩:=k.pub i d e;exact⟨v,h1,h2.mono k.gh⟩
   ·obtain⟨a,vs,h1,h2,h3,h4,h5⟩:=k.own i ds e;exact⟨.ref a,h1,.lst (SqL.of h4) (h5.mono k.gh)⟩
   ·obtain⟨ω,k1,k2⟩:=k.dp;obtain⟨v,fp,s,r,_⟩:=k1 i p d e;exact⟨v,s,r.rep k.gh⟩
  ·rw[Qr (Q0 hi),Qw]at q;split at q<;>cases q
 own:=λi ds q=>by
  by_cases hi:i<(Zw ρ).length
  ·rw[Qm hi]at q;exact(RQ q).elim
  ·rw[Qr (Q0 hi),Qw]at q;split at q<;>cases q
 sep:=λi j a ds es q=>by
  by_cases hi:i<(Zw ρ).length
  ·rw[Qm hi]at q;exact(RQ q).elim
  ·rw[Qr (Q0 hi),Qw]at q;split at q<;>cases q
 dp:=by
  refine .of (λi p d q=>?_) λi ds q=>?_
  ·by_cases hi:i<(Zw ρ).length
   ·rw[Qm hi]at q;exact Bz q
   ·rw[Qr (Q0 hi),Qw]at q;split at q<;>cases q
  ·by_cases hi:i<(Zw ρ).length
   ·rw[Qm hi]at q;exact RQ q
   ·rw[Qr (Q0 hi),Qw]at q;split at q<;>cases q
def WD(f:M (List D))(k:Nat)(s:D->UE->Option UE)(t:M Bool)(g:M D):M (List D):=λρ=>match f ρ with
 |.bad=>.bad
 |.ok ds ρ1=>match Kq s t g ds (Zw ρ1++Up k none) []with
  |none=>.bad
  |some es=>if es.all flat=true then .ok es ρ1 else .bad
end
def Xr(s:D->UE->Option UE)(t:M Bool)(g:M D):List D->UE->List D->Option (List D×UE)
 |[],ρ,es=>some (es,ρ)
 |d::r,ρ,es=>match s d ρ with
  |none=>none
  |some ρ1=>match t ρ1 with
   |.bad=>none
   |.ok b ρ2=>if b=true then(match g ρ2 with
     |.bad=>none
     |.ok e ρ3=>if es.length<1000000 then Xr s t g r (U8 ρ3) (es++[e])else none)
    else Xr s t g r (U8 ρ2) es
def YX(s0:D->UE->Option UE)(t0:M Bool)(f1:M (List D))(s1:D->UE->Option UE)(t1:M Bool)(g:M D):List D->UE->List D->Option (List D)
 |[],_,es=>some es
 |d::r,ρ,es=>match s0 d ρ with
  |none=>none
  |some ρ1=>match t0 ρ1 with
   |.bad=>none
   |.ok b ρ2=>if b=true then(match f1 ρ2 with
     |.bad=>none
     |.ok ds ρ3=>match Xr s1 t1 g ds (U8 ρ3) es with
      |none=>none
      |some (es',ρ4)=>YX s0 t0 f1 s1 t1 g r ρ4 es')
    else YX s0 t0 f1 s1 t1 g r (U8 ρ2) es
def Tq(f:M (List D))(k:Nat)(s:D->UE->Option UE)(t:M Bool)(f1:M (List D))(s1':D->UE->Option UE)(t1':M Bool)(g:M D):M (List D):=λρ=>match f ρ with
 |.bad=>.bad
 |.ok ds ρ1=>match YX s t f1 s1' t1' g ds (U8 ρ1++Up k none) []with
  |none=>.bad
  |some es=>.ok es ρ1
abbrev RdB:=UE->List D->Option (List D×UE)
def rL(g:M D):RdB:=λρ es=>match g ρ with
 |.bad=>none
 |.ok e ρ3=>if es.length<1000000 then some (es++[e],U8 ρ3)else none
def cT(s:D->UE->Option UE)(t:M Bool)(rd:RdB):List D->UE->List D->Option (List D×UE)
 |[],ρ,es=>some (es,ρ)
 |d::r,ρ,es=>match s d ρ with
  |none=>none
  |some ρ1=>match t ρ1 with
   |.bad=>none
   |.ok b ρ2=>if b=true then(match rd ρ2 es with
     |none=>none
     |some (es',ρ')=>cT s t rd r ρ' es')
    else cT s t rd r (U8 ρ2) es
def rN(f:M (List D))(s:D->UE->Option UE)(t:M Bool)(rd:RdB):RdB:=λρ es=>match f ρ with
 |.bad=>none
 |.ok ds ρ3=>cT s t rd ds (U8 ρ3) es
structure Left(Y:Cx)(D':Ug)(pins:List (Ug×Obj))(H G:Hp)(es':List D)(ρ':UE)(σ':St)(H' G':Hp)(vs':List V)(s':Ue):Prop where
 inv:Inv Y pins σ' H' s'
 eok:EOk Y.K H' G' G' H' σ' ρ'
 hh:∀a o,a≠D'->H a=some o->H' a=some o
 gg:Same G G'
 np:∀a(u:MO),a≠D'->H a=some u.ho->G a=none->G' a=none
 hd:H' D'=some (.lst vs')
 gd:G' D'=none
 rp:Reps Y.K G' vs' es'
def V9(Y:Cx)(D':Ug)(W:(Ue->Prop)->Ue->Prop)(rd:RdB):Prop:=
 ∀(pins:List (Ug×Obj))(sh:Ue)(σ:St)(B1 G1 H G:Hp)(ρ ρ':UE)(vs:List V)(es es':List D)(Q:Ue->Prop),
  Inv Y pins σ H sh->EOk Y.K B1 G1 G H σ ρ->B1 D'=some (.lst vs)->G1 D'=none->Reps Y.K G1 vs es->rd ρ es=some (es',ρ') ->
  (∀σ' H' G' vs' s',Left Y D' pins B1 G1 es' ρ' σ' H' G' vs' s'->Q s')->W Q sh
section
variable{Y:Cx}{D':Ug}
theorem Be{elt:Ui}{g:M D}(hx:Y.xe=nox)(he:∀B1 G1,PE Y elt (tD Y.K B1 G1 g)) :
  V9 Y D' (λQ s=>Uk (model Y.prog Y.w) Y.A (eval elt Y.env) (λx s₄=>Uk (model Y.prog Y.w) Y.A (call (.builtin "list.append") [.ref D',x]) (λ_ s₅=>Q s₅) nox s₄) nox s) (rL g):=by
 intro pins sh σ B1 G1 H G ρ ρ' vs es es' Q I k hD gD r z fin;unfold rL at z;cases zg:g ρ with
 |bad=>rw[zg]at z;cases z
 |ok e ρ4=>
 rw[zg]at z;dsimp only at z;split at z
 ·rename_i hle;cases z;have h:=he B1 G1 pins sh σ H (λv H8=>∃G8,EOk Y.K B1 G1 G8 H8 σ ρ4/\Rep Y.K G8 v e) I ⟨G,ρ,k,by unfold aft;rw[zg];exact λv G8 H8 k8 _ q=>⟨G8,k8,q⟩⟩;rw[hx]at h;refine thn h λev s8 ⟨v,H8,I8,rv,G8,k8,r8⟩=>?_;have h2:=Ms pins s8 σ H8 (.ref D') [v] (.ref D') [ev] (λ_ H9=>H9=upd H8 D' (.lst (vs++[v]))) I8 rfl (.cons rv .nil) ⟨D',vs,v,rfl,rfl,k8.bh _ _ hD,by have:=lim1;rw[r.length];omega,rfl⟩
  rw[hx]at h2;refine thn h2 λ_ s9 ⟨_,H9,I9,_,e9⟩=>?_;subst e9;have g8:=k8.np _ (.l _) hD gD;exact fin σ _ G8 _ s9 ⟨I9,k8.beside g8,λa o z q=>by rw[Kb z];exact k8.bh a o q,k8.g0,λa o _ q w=>k8.np a o q w,Ky,g8,(r.mono k8.g0).append (.cons r8 .nil)⟩
 ·cases z
theorem Nt{tg:Ui}{ifs:List Ui}{code:Code}{W:(Ue->Prop)->Ue->Prop}{s:D->UE->Option UE}{t:M Bool}{rd:RdB}{it:Ug}(hx:Y.xe=nox)(hc:Y.calm=true)(rule:WK Y.prog Y.w Y.A tg ifs Y.env (.ref it) code W)
  (hg:∀B1 G1,PG Y tg (tG Y.K B1 G1 s)) (ht:∀B1 G1,ZK Y ifs (tBo Y.K B1 G1 t)) (hb:V9 Y D' W rd)
  {pins:List (Ug×Obj)} {sh:Ue} {σ:St} {H G:Hp} {ρ ρF:UE} {fp:List Ug} {tn:Nat->Heap->Prop} {J:It} {ds es esF:List D} {vs:List V} {R:Result->Ue->Prop}
  (I:Inv Y pins σ H sh) (T:Turn Y.prog Y.w Y.K tg J fp it tn) (st:tn 0 sh.heap) (hf:∀b∈fp,KL Y pins H b)
  (k:EOk Y.K H G G H σ ρ) (its:Yi Y.K J ds G) (hD:H D'=some (.lst vs)) (gD:G D'=none) (r:Reps Y.K G vs es) (zl:cT s t rd ds ρ es=some (esF,ρF))
  (hfin:∀σ' H' G' vs' s',Left Y D' pins H G esF ρF σ' H' G' vs' s'->R (.ok .next) s'):codeAny (model Y.prog Y.w) Y.A code R sh:=by
 have stat:∀{H':Hp},(∀b∈fp,H' b=none)->∀b∈fp,KL Y pins H' b:=λhn b hb=>⟨hn b hb,(hf b hb).2⟩
 refine rule R (λn s'=>∃i σ' H' G' ρ' vs' es',n=ds.length-i/\tn i s'.heap/\(∀b∈fp,H' b=none)/\Left Y D' pins H G es' ρ' σ' H' G' vs' s'/\cT s t rd (ds.drop i) ρ' es'=some (esF,ρF)) ds.length sh
  ⟨0,σ,H,G,ρ,vs,es,rfl,st,λb hb=>(hf b hb).1,⟨I,k,λ_ _ _ q=>q,.refl _,λ_ _ _ _ n=>n,hD,gD,r⟩,by rw[List.drop_zero];exact zl⟩ ?_
 rintro n s' ⟨i,σ',H',G',ρ',vs',es',rfl,tn',fr',⟨I',k',sh',sg',np',hD',gD',r'⟩,zc⟩;by_cases hlt:i<ds.length
 ·rw[JA hlt,cT]at zc;cases zs:s ds[i] ρ' with
  |none=>rw[zs]at zc;cases zc
  |some ρ2=>
  rw[zs]at zc;dsimp only at zc;cases zt:t ρ2 with
  |bad=>rw[zt]at zc;cases zc
  |ok b ρ3=>
  rw[zt]at zc;dsimp only at zc;refine thn (T.item Y rfl rfl rfl hc i pins s' σ' H' nox I' (stat fr') tn' (its.go i G' H' sg' k'.gh hlt)) λrr s4 ⟨u,hr,h4⟩=>?_;subst hr;refine thn h4 λ_ s5 ⟨x,H5,I5,r5,y5,st5,fr5⟩=>?_
  obtain⟨G5,e5,rx⟩:=its.yld i G' H' x H5 ds[i] sg' k'.gh (Qd hlt) y5;have h6:=hg H' G' _ s5 σ' H5 x u (λσ6 H6=>∃G6,EOk Y.K H' G' G6 H6 σ6 ρ2) (I5.pinned (stat fr5) (T.obj _ _ st5)) r5 ⟨G5,ρ',ds[i],ρ2,k'.ext e5,rx,zs,λσ6 G6 H6 k6 _=>⟨G6,k6⟩⟩;rw[hx]at h6;refine thn h6 λ_ s6 ⟨σ6,H6,I6,G6,k6⟩=>?_;have h7:=ht H' G' _ s6 σ6 H6 (λc H7=>c=b/\∃G7,EOk Y.K H' G' G7 H7 σ6 ρ3) I6 ⟨G6,ρ2,k6,by unfold aft;rw[zt];exact λc G7 H7 k7 _ q=>⟨q,G7,k7⟩⟩
  rw[hx]at h7;refine thn h7 λok s7 ⟨H7,I7,hb7,G7,k7⟩=>?_;subst hb7
  have again:∀{H9:Hp}{σ9:St}{s9:Ue},Inv Y (pins++VN fp s5.heap) σ9 H9 s9->Inv Y pins σ9 H9 s9/\tn (i+1) s9.heap/\∀b∈fp,H9 b=none:=λ{H9 σ9 s9} I9=>by refine⟨I9.unpinned,T.keep _ _ _ st5 λb hb o e=>(I9.pin (b,o) (Qz _ (Qz _ (VU hb e)))).1,λb hb=>?_⟩;obtain⟨o,e,d⟩:=T.obj _ _ st5 b hb;exact(I9.pin (b,o) (Qz _ (Qz _ (VU hb e)))).2.1
  have lt:ds.length-(i+1)<ds.length-i:=Nat.sub_lt_sub_left hlt (Nat.lt_succ_self i);cases ok with
  |false=>rw[QG (by decide)]at zc⊢;obtain⟨J1,J2,J3⟩:=again I7;exact⟨_,lt,i+1,σ6,H7,G7,U8 ρ3,vs',es',rfl,J2,J3,⟨J1,k7.rebase,λa o z q=>k7.bh a o (sh' a o z q),sg'.trans k7.g0,λa o z q w=>k7.np a o (sh' a _ z q) (np' a o z q w),k7.bh _ _ hD',k7.np _ (.l _) hD' gD',r'.mono k7.g0⟩,zc⟩
  |true=>
   rw[Qq rfl]at zc⊢;cases ze:rd ρ3 es' with
   |none=>rw[ze]at zc;cases zc
   |some pr=>
   obtain⟨es1,ρ5⟩:=pr;rw[ze]at zc;refine hb _ s7 σ6 H' G' H7 G7 ρ3 ρ5 vs' es' es1 _ I7 k7 hD' gD' r' ze λσ9 H9 G9 vs9 s9 L=>?_
   obtain⟨J1,J2,J3⟩:=again L.inv;exact⟨_,lt,i+1,σ9,H9,G9,ρ5,vs9,es1,rfl,J2,J3,⟨J1,L.eok,λa o z q=>L.hh a o z (sh' a o z q),sg'.trans L.gg,λa o z q w=>L.np a o z (sh' a _ z q) (np' a o z q w),L.hd,L.gd,L.rp⟩,zc⟩
 ·rw[List.drop_eq_nil_of_le (Q0 hlt),cT]at zc;cases zc;refine thn (T.done Y rfl rfl rfl hc i pins s' σ' H' nox I' (stat fr') tn' (its.stop i G' H' sg' k'.gh (Q0 hlt))) λrr s4 ⟨hr,I6⟩=>?_
  subst hr;exact hfin σ' H' G' vs' s4 ⟨I6,k',sh',sg',np',hD',gD',r'⟩
theorem Bd{elt tg1 i1:Ui}{ifs1:List Ui}{gens:List Comprehension}{scope:Scope}{pos:Pos}{j:Nat}{W:Ud->(Ue->Prop)->Ue->Prop}{f:M (List D)}{s:D->UE->Option UE}{t:M Bool}{rd:RdB}(hx:Y.xe=nox)(hc:Y.calm=true)
  (hn:gens[j+1]?=some ⟨tg1,i1,ifs1,0⟩) (rule:∀it1,WK Y.prog Y.w Y.A tg1 ifs1 Y.env it1 (.compLoop (.ListComp elt gens scope pos) (j+1) it1 (.ref D') Y.env) (W it1))
  (hi:∀B1 G1,PI Y tg1 i1 (iD Y.K B1 G1 f)) (hg:∀B1 G1,PG Y tg1 (tG Y.K B1 G1 s)) (ht:∀B1 G1,ZK Y ifs1 (tBo Y.K B1 G1 t)) (hb:∀it1,V9 Y D' (W it1) rd) :
  V9 Y D' (λQ s=>Uk (model Y.prog Y.w) Y.A (eval i1 Y.env) (λx s₄=>Uk (model Y.prog Y.w) Y.A (pyIter x) (λit1 s₅=>codeAny (model Y.prog Y.w) Y.A (.compStart (.ListComp elt gens scope pos) (j+1) it1 (.ref D') Y.env)
   (λr s₆=>match r with | .ok _=>Q s₆ | .error _=>False) s₅) nox s₄) nox s) (rN f s t rd):=by
 intro pins sh σ B1 G1 H G ρ ρ' vs es es' Q I k hD gD r z fin;unfold rN at z;cases zf:f ρ with
 |bad=>rw[zf]at z;cases z
 |ok ds ρ3=>
 rw[zf]at z;have h:=hi B1 G1 pins sh σ H (λJ1 H8=>∃G8,EOk Y.K B1 G1 G8 H8 σ ρ3/\Yi Y.K J1 ds G8) I ⟨G,ρ,k,by rw[zf];exact λJ1 G8 H8 k8 _ q=>⟨G8,k8,q⟩⟩;rw[hx]at h;refine thn h λxv s8 h8=>thn h8 λitv s9 h9=>?_
 obtain⟨it1,fp1,tn1,J1,H9,rfl,I9,T1,st9,f9,G9,k9,its9⟩:=h9
 have loop:codeAny (model Y.prog Y.w) Y.A (.compLoop (.ListComp elt gens scope pos) (j+1) (.ref it1) (.ref D') Y.env) (λr s₆=>match r with | .ok _=>Q s₆ | .error _=>False) s9:=
  Nt hx hc (rule (.ref it1)) hg ht (hb _) I9 T1 st9 f9 k9.rebase its9 (k9.bh _ _ hD) (k9.np _ (.l _) hD gD) (r.mono k9.g0) z λσ' H' G' vs' s' L=>
   fin σ' H' G' vs' s' ⟨L.inv,L.eok,λa o z q=>L.hh a o z (k9.bh a o q),k9.g0.trans L.gg,λa o z q w=>L.np a o z (k9.bh a _ q) (k9.np a o q w),L.hd,L.gd,L.rp⟩
 exact AU hn loop (T1.self Y.A 0 _ _ _ st9 loop)
end
def V8(Y:Cx)(e:Ui)(j:Nat)(tg:Ui)(ifs:List Ui)(rd:RdB):Prop:=
 ∀(D':Ug)(it:Ud),∃W,WK Y.prog Y.w Y.A tg ifs Y.env it (.compLoop e j it (.ref D') Y.env) W/\V9 Y D' W rd
section
variable{Y:Cx}{elt tg i:Ui}{ifs:List Ui}{gens:List Comprehension}{scope:Scope}{pos:Pos}{j:Nat}
theorem Bc{g:M D}(hx:Y.xe=nox)(hg:gens[j]?=some ⟨tg,i,ifs,0⟩)(hn:gens[j+1]?=none)(he:∀B1 G1,PE Y elt (tD Y.K B1 G1 g)):V8 Y (.ListComp elt gens scope pos) j tg ifs (rL g):=
 λ_ _=>⟨_,Bj hg hn,Be hx he⟩
theorem Bb{tg1 i1:Ui}{ifs1:List Ui}{f:M (List D)}{s:D->UE->Option UE}{t:M Bool}{rd:RdB}(hx:Y.xe=nox)(hc:Y.calm=true)(hg:gens[j]?=some ⟨tg,i,ifs,0⟩)(hn:gens[j+1]?=some ⟨tg1,i1,ifs1,0⟩)(hs:∀x,UC i1 Y.env x=pure x)
  (hi:∀B1 G1,PI Y tg1 i1 (iD Y.K B1 G1 f)) (hgt:∀B1 G1,PG Y tg1 (tG Y.K B1 G1 s)) (ht:∀B1 G1,ZK Y ifs1 (tBo Y.K B1 G1 t)) (hb:V8 Y (.ListComp elt gens scope pos) (j+1) tg1 ifs1 rd):V8 Y (.ListComp elt gens scope pos) j tg ifs (rN f s t rd):=
 λD' _=>⟨_,Bh hg hn hs,Bd hx hc hn (λit1=>(Classical.choose_spec (hb D' it1)).1) hi hgt ht (λit1=>(Classical.choose_spec (hb D' it1)).2)⟩
end
def ZU(l:Bool)(ρ:UE):UE:=match l with|true=>Zw ρ|false=>U8 ρ
theorem L8{K:Frag}{B G0 G1 H2:Hp}{σ:St}{ρ1:UE}{D:Ug}(l:Bool)(k1:EOk K B G0 G1 H2 σ ρ1)(hfr:H2 D=none)(n:Nat) :
  ∃Gb,EOk K (upd H2 D (.lst [])) Gb Gb (upd H2 D (.lst [])) (σ++Up n none) (ZU l ρ1++Up n none)/\Same G1 Gb/\Gb D=none /\
   ∀(G' H':Hp) vs es,(l=true->es.all flat=true)->Same Gb G'->Same H2 H'->Same G' H'->(∀a(u:MO),H2 a=some u.ho->Gb a=none->G' a=none)->G' D=none->Reps K G' vs es->∃Gf,Ext G1 H2 Gf H'/\Gf D=none/\Reps K Gf vs es:=by
 have gD:G1 D=none:=k1.gh.free hfr;cases l with
 |false=>exact⟨G1,(k1.beside gD).more n,.refl _,gD,λG' H' vs es _ g h gh np d r=>⟨G',⟨h,g,gh,np⟩,d,r⟩⟩
 |true=>exact⟨H2,k1.lend hfr n,k1.gh,hfr,λG' H' vs es fl _ h _ _ _ r=>⟨G1,⟨h,.refl _,k1.gh.trans h,λ_ _ _ n=>n⟩,gD,r.flat (fl rfl)⟩⟩
def dCG(l:Bool)(f:M (List D))(k:Nat)(s:D->UE->Option UE)(t:M Bool)(rd:RdB):M (List D):=λρ=>match f ρ with
 |.bad=>.bad
 |.ok ds ρ1=>match cT s t rd ds (ZU l ρ1++Up k none) []with
  |none=>.bad
  |some (es,_)=>if l=true->es.all flat=true then .ok es ρ1 else .bad
theorem O1{l:Bool}{f:M (List D)}{k:Nat}{s:D->UE->Option UE}{t:M Bool}{rd:RdB}{ρ ρ':UE}{es:List D}(h:dCG l f k s t rd ρ=.ok es ρ'):∃ds ρF,f ρ=.ok ds ρ'/\cT s t rd ds (ZU l ρ'++Up k none) []=some (es,ρF)/\(l=true->es.all flat=true):=by
 unfold dCG at h;cases zf:f ρ with
 |bad=>rw[zf]at h;cases h
 |ok ds ρ1=>
 rw[zf]at h;dsimp only at h;cases zl:cT s t rd ds (ZU l ρ1++Up k none) []with
 |none=>rw[zl]at h;cases h
 |some pr=>
 obtain⟨esF,ρF⟩:=pr;rw[zl]at h;dsimp only at h;split at h
 ·rename_i hf;cases h;exact⟨ds,ρF,rfl,zl,hf⟩
 ·cases h
section
variable{X:Cx}{B G0:Hp}{KX:XW}
def ZY(X:Cx)(N2:List Str)(scope:Scope)(e tg:Ui)(ifs:List Ui)(s:D->UE->Option UE)(t:M Bool)(rd:RdB):Prop:=
 ∀(cl:List (Str×Ug))(C:Ug)(s₀:Ue)(H₀:Hp)(ex:List Ug),(∀B' G',PG (X.blk N2 scope cl C s₀ H₀ ex) tg (tG X.K B' G' s))/\(∀B' G',ZK (X.blk N2 scope cl C s₀ H₀ ex) ifs (tBo X.K B' G' t))/\V8 (X.blk N2 scope cl C s₀ H₀ ex) e 0 tg ifs rd
structure Vz(SC scope:Scope)(N1 N2:List Str)(k:Nat):Prop where
 b:Tw scope.names N1 N2 k=true
 kind:scope.kind=.function
 cell:∀y∈scope.names,y.2≠.cell
 names:∀y∈scope.names,y.2=.local->scope.names.lookup y.1=some .local
 free:∀y∈scope.names,y.2=.free->SC.names.lookup y.1=some .cell∨SC.names.lookup y.1=some .free
theorem Nr{l:Bool}{tg elt iter:Ui}{ifs:List Ui}{gs:List Comprehension}{scope:Scope}{pos pos':Pos}{N2:List Str}{k:Nat}{f:M (List D)}{s:D->UE->Option UE}{t:M Bool}{rd:RdB}{use:Option (Ud->Sem Unit)}{Qc:Ud->Ue->Prop}(hc:X.calm=true)
  (hi:PI X tg iter (iD X.K B G0 f)) (hblk:ZY X N2 scope (.ListComp elt (⟨tg,iter,ifs,0⟩::gs) scope pos) tg ifs s t rd) (hb:Vz X.env.scope scope X.N N2 k) (hs:∀x,UC iter X.env x=pure x)
  {pins:List (Ug×Obj)} {s0:Ue} {σ:St} {G H:Hp} {ρ ρ1 ρF:UE} {ds esF:List D} (I:Inv X pins σ H s0) (k0:EOk X.K B G0 G H σ ρ) (zf:f ρ=.ok ds ρ1) (zl:cT s t rd ds (ZU l ρ1++Up k none) []=some (esF,ρF)) (hfl:l=true->esF.all flat=true)
  (hfin:∀(C D:Ug)(vs:List V)(G' H':Hp)(s4:Ue)(m:Str->Option Ud),Inv X pins σ H' s4->s4.heap.Ns C m->H' C=none->C≠X.env.locals->X.s₀.heap.objs.size<=C->(∀x c,X.env.cells.lookup x=some c->c≠C)->(∀p∈X.pn++pins,p.1≠C) ->
   EOk X.K B G0 G' H' σ ρ1->Same G G'->NewL X.K B G' H' σ ρ1 D vs esF->compPost (model X.prog X.w) X.A X.xe use Qc (.ref D) C (.ok .next) s4) :
  Uk (model X.prog X.w) X.A (comprehension (.ListComp elt (⟨tg,iter,ifs,0⟩::gs) scope pos) scope X.env pos' (newList []) false (eval iter X.env) use) Qc X.xe s0:=by
 obtain⟨cl,hcl,cl1,cl2⟩:=MD (scope:=scope) (env:=X.env) λy hy hf=>I.ok.has y.1 (hb.free y hy hf)
 refine wpAny_comprehension_free (use:=use) rfl hs hcl hb.kind hb.names (thn (hi pins s0 σ H (λJ H1=>∃G1,EOk X.K B G0 G1 H1 σ ρ1/\Same G G1/\Yi X.K J ds G1) I ⟨G,ρ,k0,by rw[zf];exact λJ G1 H1 k1 s1 it=>⟨G1,k1,s1,it⟩⟩) λv s1 h1=>thn h1 λitv s2 h2=>?_);obtain⟨it,fp,tn,J,H2,rfl,I2,T,st2,f2,G1,k1,sg1,its⟩:=h2;refine wpAny_newObj_type (wpAny_newFunctionEnv hb.cell (by intro y hy;simp at hy) (λh₁ hns₁ hsb₁=>?_) hb.kind);dsimp only at hns₁ hsb₁⊢;have hfr:H2 s2.heap.objs.size=none:=I2.hok.fresh (Qp _)
 have I3:Inv X pins σ (upd H2 s2.heap.objs.size (.lst [])) {s2 with heap:=s2.heap.push {cls:=.type "list", dict:=none,data:=.seq ([]:List Ud).toArray}}:=
  I2.laid (t':=s2.toks) (λb u e=>Qi _ e) (Qp _) ⟨J6 _,[],0,.nil,Qx _ rfl⟩
 generalize hP:s2.heap.push {cls:=.type "list", dict:=none,data:=.seq ([]:List Ud).toArray}=P at I3 hns₁ hsb₁⊢;have old:∀b o,s2.heap.get? b=some o->P.get? b=some o:=λb o e=>hP ▸ Qi _ e;have kept:∀b o,P.get? b=some o->h₁.get? b=some o:=λb o e=>hsb₁.extBut b o (QI (Qh e)) (Qi _ e);have fpo:∀b∈fp,∃o,s2.heap.get? b=some o:=λb hb=>let ⟨o,e,_⟩:=T.obj _ _ st2 b hb;⟨o,e⟩
 have fpD:∀b∈fp,b≠s2.heap.objs.size:=λb hb=>let ⟨o,e⟩:=fpo b hb;QI (Qh e)
 have f3:∀b∈fp,KL X pins (upd H2 s2.heap.objs.size (.lst [])) b:=λb hb=>⟨by rw[Kb (fpD b hb)];exact(f2 b hb).1,(f2 b hb).2⟩
 have I4:=I3.enter (scope:=scope) (cl:=cl) (N2:=N2) (k:=k) (fp:=fp) (t':=s2.toks+([]:List (Str×Ud)).length) hb.b hb.kind hb.cell hb.free cl1 cl2 hns₁ kept f3 (λb hb=>let ⟨o,e⟩:=fpo b hb;⟨o,old b o e⟩);dsimp only at I4;obtain⟨Gb,kb,sgb,gbD,ex⟩:=L8 l k1 hfr k;have sH:Same H2 (upd H2 s2.heap.objs.size (.lst [])):=KU hfr;have hD3:upd H2 s2.heap.objs.size (.lst []) s2.heap.objs.size=some (.lst []):=Ky;generalize upd H2 s2.heap.objs.size (.lst [])=H3 at I3 I4 f3 kb sH hD3;generalize s2.heap.objs.size=D at *;have tn0:tn 0 h₁:=T.keep 0 _ _ st2 λb hb o e=>kept b o (old b o e)
 have stat:∀b∈fp,KL (X.blk N2 scope cl P.objs.size {s2 with heap:=P} H3 fp) pins H3 b:=λb hb=>by
  obtain⟨z0,z1,z2,z3,z4,z5⟩:=f3 b hb;obtain⟨o,e⟩:=fpo b hb;refine⟨z0,QI (Qh (old b o e)),λz=>?_,.inl hb,λx c q=>z4 x c (cl1 x c q),z5⟩;rcases QR.mp (I3.stkSub b z)with q|q
  ·exact z1 q
  ·exact z2 q
 have neD:∀a o,H2 a=some o->a≠D:=λa o q z=>by subst z;rw[hfr]at q;cases q
 obtain⟨hg,ht,hcl'⟩:=hblk cl P.objs.size {s2 with heap:=P} H3 fp;obtain⟨W,rule,body⟩:=hcl' D (.ref it)
 have loop:=Nt (Y:=X.blk N2 scope cl P.objs.size {s2 with heap:=P} H3 fp) (D':=D) (R:=compPost (model X.prog X.w) X.A X.xe use Qc (.ref D) P.objs.size) rfl hc rule hg ht body I4 T tn0 stat kb
  ⟨λi G H s1 s2 hi=>its.go i G H (sgb.trans s1) s2 hi,λi G H s1 s2 hi=>its.stop i G H (sgb.trans s1) s2 hi,λi G H x H' d s1 s2 e y=>its.yld i G H x H' d (sgb.trans s1) s2 e y⟩ hD3 gbD .nil zl λσ' H' G' vs' s4 L=>by
   obtain⟨m,hm,_⟩:=id L.inv.loc;have I7:Inv X pins σ H' s4:=I3.call' (ch:=fp) L.inv.os L.inv.base L.inv.hok L.inv.bare λb hb=>⟨(f3 b hb).2.2.2.1,(f3 b hb).2.1,(f3 b hb).2.2.2.2.1,(f3 b hb).2.2.2.2.2⟩
   obtain⟨Gf,eF,dF,rF⟩:=ex G' H' vs' esF hfl L.gg (λa o q=>L.hh a o (neD a o q) (sH a o q)) L.eok.gh (λa o q z=>L.np a o (neD a _ q) (sH a _ q) z) L.gd L.rp
   refine hfin P.objs.size D vs' Gf H' s4 m I7 hm L.inv.free (Jx I3.lt) I3.sz (λx c e z=>by obtain⟨_,q⟩:=I3.cell x c e;exact absurd q.lt (by rw[z];exact Jc _)) (λp hp z=>by have:=Qh (I3.pin p hp).1;exact absurd this (by rw[z];exact Jc _))
    (k1.ext eF) (sg1.trans eF.g) ⟨k1.bh.free hfr,dF,L.hd,rF,λj es' q z=>?_,λj pt d v fp q s r=>k1.freshD eF.h hfr q s r⟩
   obtain⟨a',ws,h1',h2',h3',h4',h5'⟩:=k1.own j es' q;rw[z]at h1';cases h1';rw[hfr]at h4';cases h4'
 exact codeAny_compStart_list loop (T.self X.A 0 _ _ _ tn0 loop)
theorem L7{l:Bool}{tg elt iter:Ui}{ifs:List Ui}{gs:List Comprehension}{scope:Scope}{pos:Pos}{N2:List Str}{k:Nat}{f:M (List D)}{s:D->UE->Option UE}{t:M Bool}{rd:RdB}(hc:X.calm=true)
  (hi:PI X tg iter (iD X.K B G0 f)) (hblk:ZY X N2 scope (.ListComp elt (⟨tg,iter,ifs,0⟩::gs) scope pos) tg ifs s t rd) (hb:Vz X.env.scope scope X.N N2 k) (hs:∀x,UC iter X.env x=pure x:=by intro _;rfl) :
  PE X (.ListComp elt (⟨tg,iter,ifs,0⟩::gs) scope pos) (tL X.K B G0 (dCG l f k s t rd)):=by
 intro pins s0 σ H Q I ⟨G,ρ,k0,a⟩;cases z:dCG l f k s t rd ρ with
 |bad=>rw[z]at a;exact a.elim
 |ok es ρ1=>
 rw[z]at a;obtain⟨ds,ρF,zf,zl,hfl⟩:=O1 z;rw[eval_ListComp];refine Nr hc hi hblk hb hs I k0 zf zl hfl λC D vs G' H' s4 m I7 hm hC hL hz hcl hp k' s' n=>?_
 exact⟨m,hm,λh' sb=>⟨.ref D,H',I7.turned (t':=s4.toks) (it:=C) (λb o hb e=>(sb.2 b hb).trans e) hC hL (.inr hz) hcl hp,rfl,a D vs G' H' k' s' n⟩⟩
theorem sD_g{l:Bool}{y:Str}{j:Nat}{py:Pos}{spos:Pos}{tg elt iter:Ui}{ifs:List Ui}{gs:List Comprehension}{scope:Scope}{pos:Pos}{N2:List Str}{k:Nat}{f:M (List D)}{s:D->UE->Option UE}{t:M Bool}{rd:RdB}(hN:X.N.Nodup)(hj:X.N[j]?=some y)(hy:X.env.scope.names.lookup y=some .local)(hc:X.calm=true)
  (hi:PI X tg iter (iD X.K B G0 f)) (hblk:ZY X N2 scope (.ListComp elt (⟨tg,iter,ifs,0⟩::gs) scope pos) tg ifs s t rd) (hb:Vz X.env.scope scope X.N N2 k) (hs:∀x,UC iter X.env x=pure x:=by intro _;rfl)
  (hsw:swapsWith (.ListComp elt (⟨tg,iter,ifs,0⟩::gs) scope pos) (some (.Name y py)) spos.line X.env=pure true:=by rfl) :
  PS X (.Assign [.Name y py] (.ListComp elt (⟨tg,iter,ifs,0⟩::gs) scope pos) spos) (tS X.K B G0 KX (KP j (dCG l f k s t rd))):=by
 intro pins s0 σ H Dn I ⟨G,ρ,k0,a⟩;unfold KP sB at a;cases z:dCG l f k s t rd ρ with
 |bad=>rw[z]at a;exact a.elim
 |ok es ρ1=>
 rw[z]at a;dsimp only at a;by_cases hl:j<ρ1.length
 ·rw[Qq hl]at a;obtain⟨ds,ρF,zf,zl,hfl⟩:=O1 z;rw[exec_Assign_Name_used _ _ _ _ hsw];refine Qe (Q8 (Qe ?_));show Uk _ X.A (do let _ ←comprehension (.ListComp elt (⟨tg,iter,ifs,0⟩::gs) scope pos) scope X.env _ (newList []) false (eval iter X.env) (some (assign (.Name y py) X.env))) _ _ s0;refine Qe (QA (Nr (use:=some (assign (.Name y py) X.env)) (Qc:=λ_ s'=>SP X pins Dn .next s') hc hi hblk hb hs I k0 zf zl hfl λC D vs G' H' s4 m I7 hm hC hL hz hcl hp k' s' n=>?_) (λ_ s' hq=>Qk (Qk hq)) λ_ _ e=>e);show Uk _ X.A (assign (.Name y py) X.env (.ref D)) _ _ s4;refine wpAny_assign_Name (Mp I7 hN hj (.inl hy) (v:=.ref D) rfl (λs5 I8 ⟨ad,sb,hx⟩=>?_) (.inr hy))
  have hCa:C≠ad:=by
   rcases hx with e|e
   ·rw[e];exact hL
   ·exact Ne.symm (hcl y ad e)
  refine⟨m,hm.sameBut sb hCa,λh' sb'=>⟨_,H',I8.turned (t':=s5.toks) (it:=C) (λb o hb e=>(sb'.2 b hb).trans e) hC hL (.inr hz) hcl hp,?_⟩⟩;exact a _ G' H' (k'.setOwn n hl) s'
 ·rw[QG hl]at a;exact a.elim
theorem L6{K:Frag}{f f':M (List D)}(h:∀ρ es ρ',f ρ=.ok es ρ'->f' ρ=.ok es ρ'){σ:St}{H:Hp}{Q:VK}(q:tL K B G0 f σ H Q):tL K B G0 f' σ H Q:=by
 obtain⟨G,ρ,k,a⟩:=q;refine⟨G,ρ,k,?_⟩;cases z:f ρ with
 |bad=>rw[z]at a;exact a.elim
 |ok es ρ'=>rw[z]at a;rw[h ρ es ρ' z];exact a
theorem HX{K:Frag}{f f':M (List D)}{j:Nat}(h:∀ρ es ρ',f ρ=.ok es ρ'->f' ρ=.ok es ρ'){Dn:_}{σ:St}{H:Hp}(q:tS K B G0 KX (KP j f) Dn σ H):tS K B G0 KX (KP j f') Dn σ H:=by
 obtain⟨G,ρ,k,a⟩:=q;refine⟨G,ρ,k,?_⟩;unfold KP sB at a⊢;cases z:f ρ with
 |bad=>rw[z]at a;exact a.elim
 |ok es ρ'=>rw[z]at a;rw[h ρ es ρ' z];exact a
end
theorem Sv{s:D->UE->Option UE}{t:M Bool}{g:M D}:∀{ds:List D}{ρ:UE}{es esF:List D},Kq s t g ds ρ es=some esF->∃ρF,cT s t (rL g) ds ρ es=some (esF,ρF)
 |[],ρ,es,esF,h=>by rw[Kq]at h;cases h;exact⟨ρ,rfl⟩
 |d::r,ρ,es,esF,h=>by
  rw[Kq]at h;rw[cT];cases zs:s d ρ with
  |none=>rw[zs]at h;cases h
  |some ρ1=>
  rw[zs]at h;dsimp only at h⊢;cases zt:t ρ1 with
  |bad=>rw[zt]at h;cases h
  |ok b ρ2=>
  rw[zt]at h;dsimp only at h⊢;cases b with
  |false=>exact Sv (ds:=r) h
  |true=>
   rw[Qq rfl]at h⊢;unfold rL;cases zg:g ρ2 with
   |bad=>rw[zg]at h;cases h
   |ok e ρ3=>
   rw[zg]at h;dsimp only at h⊢;split at h
   ·rename_i hl;rw[Qq hl];exact Sv (ds:=r) h
   ·cases h
theorem RP{s:D->UE->Option UE}{t:M Bool}{g:M D}:∀{ds:List D}{ρ:UE}{es:List D},Xr s t g ds ρ es=cT s t (rL g) ds ρ es
 |[],ρ,es=>rfl
 |d::r,ρ,es=>by
  rw[Xr,cT];cases s d ρ with
  |none=>rfl
  |some ρ1=>
  dsimp only;cases t ρ1 with
  |bad=>rfl
  |ok b ρ2=>
  dsimp only;cases b with
  |false=>exact RP (ds:=r)
  |true=>
   rw[Qq rfl,Qq rfl];unfold rL;cases g ρ2 with
   |bad=>rfl
   |ok e ρ3=>
   dsimp only;split
   ·exact RP (ds:=r)
   ·rfl
theorem R4{s s1:D->UE->Option UE}{t t1:M Bool}{f:M (List D)}{g:M D}:∀{ds:List D}{ρ:UE}{es esF:List D},YX s t f s1 t1 g ds ρ es=some esF->∃ρF,cT s t (rN f s1 t1 (rL g)) ds ρ es=some (esF,ρF)
 |[],ρ,es,esF,h=>by rw[YX]at h;cases h;exact⟨ρ,rfl⟩
 |d::r,ρ,es,esF,h=>by
  rw[YX]at h;rw[cT];cases zs:s d ρ with
  |none=>rw[zs]at h;cases h
  |some ρ1=>
  rw[zs]at h;dsimp only at h⊢;cases zt:t ρ1 with
  |bad=>rw[zt]at h;cases h
  |ok b ρ2=>
  rw[zt]at h;dsimp only at h⊢;cases b with
  |false=>exact R4 (ds:=r) h
  |true=>
   rw[Qq rfl]at h⊢;unfold rN;cases zg:f ρ2 with
   |bad=>rw[zg]at h;cases h
   |ok ds ρ3=>
   rw[zg]at h;dsimp only at h⊢;rw[←RP];cases zl:Xr s1 t1 g ds (U8 ρ3) es with
   |none=>rw[zl]at h;cases h
   |some pr=>rw[zl]at h;exact R4 (ds:=r) h
theorem Da{f:M (List D)}{k:Nat}{s:D->UE->Option UE}{t:M Bool}{g:M D}(ρ:UE)(es:List D)(ρ':UE)(h:Zb f k s t g ρ=.ok es ρ'):dCG false f k s t (rL g) ρ=.ok es ρ':=by
 unfold Zb at h;unfold dCG;cases zf:f ρ with
 |bad=>rw[zf]at h;cases h
 |ok ds ρ1=>
 rw[zf]at h;dsimp only[ZU]at h⊢;cases zl:Kq s t g ds (U8 ρ1++Up k none) []with
 |none=>rw[zl]at h;cases h
 |some esF=>
 rw[zl]at h;cases h;obtain⟨ρF,e⟩:=Sv zl;rw[e];exact Qq λz=>by cases z
theorem Ba{f:M (List D)}{k:Nat}{s:D->UE->Option UE}{t:M Bool}{g:M D}(ρ:UE)(es:List D)(ρ':UE)(h:WD f k s t g ρ=.ok es ρ'):dCG true f k s t (rL g) ρ=.ok es ρ':=by
 unfold WD at h;unfold dCG;cases zf:f ρ with
 |bad=>rw[zf]at h;cases h
 |ok ds ρ1=>
 rw[zf]at h;dsimp only[ZU]at h⊢;cases zl:Kq s t g ds (Zw ρ1++Up k none) []with
 |none=>rw[zl]at h;cases h
 |some esF=>
 rw[zl]at h;dsimp only at h;split at h
 ·rename_i hf;cases h;obtain⟨ρF,e⟩:=Sv zl;rw[e];exact Qq λ_=>hf
 ·cases h
theorem C9{f f1:M (List D)}{k:Nat}{s s1:D->UE->Option UE}{t t1:M Bool}{g:M D}(ρ:UE)(es:List D)(ρ':UE)(h:Tq f k s t f1 s1 t1 g ρ=.ok es ρ'):dCG false f k s t (rN f1 s1 t1 (rL g)) ρ=.ok es ρ':=by
 unfold Tq at h;unfold dCG;cases zf:f ρ with
 |bad=>rw[zf]at h;cases h
 |ok ds ρ1=>
 rw[zf]at h;dsimp only[ZU]at h⊢;cases zl:YX s t f1 s1 t1 g ds (U8 ρ1++Up k none) []with
 |none=>rw[zl]at h;cases h
 |some esF=>
 rw[zl]at h;cases h;obtain⟨ρF,e⟩:=R4 zl;rw[e];exact Qq λz=>by cases z
def Wt(q:Option NameKind->Bool)(SC scope:Scope)(N1 N2:List Str)(k:Nat):Bool:=
 Tw scope.names N1 N2 k&&decide (scope.kind=.function)&&scope.names.all λy=>match y.2 with
  |.cell=>false
  |.local=>decide (scope.names.lookup y.1=some .local)
  |.free=>q (SC.names.lookup y.1)
  |_=>true
def Vy:Option NameKind->Bool
 |some .cell=>true|some .free=>true|_=>false
theorem By{q:Option NameKind->Bool}{SC SC' scope:Scope}{N1 N2:List Str}{k:Nat}(h:Wt q SC scope N1 N2 k=true)(f:∀x,q (SC.names.lookup x)=true->SC'.names.lookup x=some .cell∨SC'.names.lookup x=some .free):Vz SC' scope N1 N2 k:=by
 unfold Wt at h;rw[Q2,Q2,Jb]at h;obtain⟨⟨h1,h2⟩,h3⟩:=h;refine⟨h1,Qa h2,λy hy e=>?_,λy hy e=>?_,λy hy e=>?_⟩
 ·have:=h3 y hy;rw[e]at this;cases this
 ·have:=h3 y hy;rw[e]at this;exact Qa this
 ·have:=h3 y hy;rw[e]at this;exact f _ this
theorem Rv{SC scope:Scope}{N1 N2:List Str}{k:Nat}(h:Wt Vy SC scope N1 N2 k=true):Vz SC scope N1 N2 k:=By h λx e=>by
 cases z:SC.names.lookup x with
 |none=>rw[z]at e;cases e
 |some y=>rw[z]at e;cases y<;>first|exact .inl rfl|exact .inr rfl|cases e
section
variable{X:Cx}{B G0:Hp}{KX:XW}
theorem L5{l:Bool}{tg elt iter:Ui}{ifs:List Ui}{gs:List Comprehension}{scope:Scope}{pos:Pos}{f:M (List D)}{s:D->UE->Option UE}{t:M Bool}{rd:RdB}{F:M (List D)}(SC:Scope)(N1 N2:List Str)(k:Nat)(le:∀ρ es ρ',F ρ=.ok es ρ'->dCG l f k s t rd ρ=.ok es ρ')(hc:X.calm=true)
  (hi:PI X tg iter (iD X.K B G0 f)) (hblk:ZY X N2 scope (.ListComp elt (⟨tg,iter,ifs,0⟩::gs) scope pos) tg ifs s t rd) (h1:X.env.scope=SC) (h2:X.N=N1) (hb:Wt Vy SC scope N1 N2 k=true) (hs:∀x,UC iter X.env x=pure x:=by intro _;rfl) :
  PE X (.ListComp elt (⟨tg,iter,ifs,0⟩::gs) scope pos) (tL X.K B G0 F):=
 U5 (L7 hc hi hblk (by rw[h1,h2];exact Rv hb) hs) λ_ _ _ q=>L6 le q
theorem sD_1{l:Bool}{y:Str}{j:Nat}{py:Pos}{spos:Pos}{tg elt iter:Ui}{ifs:List Ui}{gs:List Comprehension}{scope:Scope}{pos:Pos}{f:M (List D)}{s:D->UE->Option UE}{t:M Bool}{rd:RdB}{F:M (List D)}(SC:Scope)(N1 N2:List Str)(k:Nat)(le:∀ρ es ρ',F ρ=.ok es ρ'->dCG l f k s t rd ρ=.ok es ρ')(hN:X.N.Nodup)(hj:X.N[j]?=some y)(hy:X.env.scope.names.lookup y=some .local)(hc:X.calm=true)
  (hi:PI X tg iter (iD X.K B G0 f)) (hblk:ZY X N2 scope (.ListComp elt (⟨tg,iter,ifs,0⟩::gs) scope pos) tg ifs s t rd) (h1:X.env.scope=SC) (h2:X.N=N1) (hb:Wt Vy SC scope N1 N2 k=true) (hs:∀x,UC iter X.env x=pure x:=by intro _;rfl)
  (hsw:swapsWith (.ListComp elt (⟨tg,iter,ifs,0⟩::gs) scope pos) (some (.Name y py)) spos.line X.env=pure true:=by rfl) :
  PS X (.Assign [.Name y py] (.ListComp elt (⟨tg,iter,ifs,0⟩::gs) scope pos) spos) (tS X.K B G0 KX (KP j F)):=
 KZ (sD_g hN hj hy hc hi hblk (by rw[h1,h2];exact Rv hb) hs hsw) λ_ _ _ q=>HX le q
end
section
variable{X:Cx}{B G0:Hp}{e a b c tg:Ui}{pos:Pos}{es rest:List Ui}
theorem EOk.given{K:Frag}{G H:Hp}{σ:St}{ρ:UE}{a:Ug}{vs:List V}{ds:List D}(k:EOk K B G0 G H σ ρ)(n:NewL K B G H σ ρ a vs ds):EOk K B G0 (upd G a (.lst vs)) H σ ρ where
 bh:=k.bh
 gh:=λb u q=>by
  by_cases z:b=a
  ·subst z;rw[Ky]at q;cases q;exact n.h
  ·rw[Kb z]at q;exact k.gh b u q
 g0:=k.g0.trans (KU n.g)
 np:=λb o q z=>by
  have zb:b≠a:=λz=>by subst z;rw[n.b]at q;cases q
  rw[Kb zb];exact k.np b o q z
 len:=k.len
 pub:=λi d q=>let ⟨v,h1,h2⟩:=k.pub i d q;⟨v,h1,h2.mono (KU n.g)⟩
 own:=λi ds q=>by
  obtain⟨b,ws,h1,h2,h3,h4,h5⟩:=k.own i ds q;have zb:b≠a:=λz=>by subst z;exact n.f i ds q h1
  exact⟨b,ws,h1,h2,by rw[Kb zb];exact h3,h4,h5.mono (KU n.g)⟩
 sep:=k.sep
 dp:=k.dp.map (λ_ _ _ q=>⟨q,rfl⟩) (λ_ ds q=>⟨ds,q,rfl⟩) λi p d v fp q s r w nn=>⟨r.mono (KU n.g) (.refl _),λb m=>⟨(w b m).1,by rw[Kb (λz=>n.dp i p d v fp q s r (by rw[←z];exact m))];exact(w b m).2⟩⟩
theorem F6{f:M (List D)}(h:PE X e (tL X.K B G0 f)):PE X e (tD X.K B G0 (UN Uq f)):=
 U5 h λσ H Q ⟨G,ρ,k,a⟩=>by
  refine⟨G,ρ,k,?_⟩;unfold UN UX at a;cases z:f ρ with
  |bad=>rw[z]at a;exact a.elim
  |ok ds ρ1=>rw[z]at a;intro ad vs G' H' k' s' n;exact a (.ref ad) _ H' (k'.given n) (s'.trans (KU n.g)) (.lst (SqL.of Ky) (n.r.mono (KU n.g)))
theorem E9(hc:X.calm=true):ZN X (.builtin "all") (λxs H Q=>∃l,∃bs:List Bool,xs=[.ref l]/\SqL X.K H l (bs.map V.bl)/\Q (.bl (bs.all id)) H):=by
 intro pins s σ H xs us Q I rx h;obtain⟨l,bs,rfl,hq,q⟩:=h;obtain⟨u,rfl,ru⟩:=rx.one;cases ru;obtain⟨its,rv,p,hz⟩:=I.list hq;have hl:=p.isList;have hlt:l<s.heap.objs.size:=by obtain⟨_,e,_⟩:=id hl;exact Qh e
 have key:∀(i:Nat) v,its.toArray[i]?=some v->∃t,bs[i]?=some t/\v=.bool t:=λi v e=>by
  have e:its[i]?=some v:=by simpa using e
  have hi:i<bs.length:=by have:=(Qg.mp e).1;have h2:=rv.length;rw[Qb]at h2;omega
  obtain⟨u,e2,r2⟩:=rv.get (i:=i) (x:=.bl bs[i]) (by rw[Qf,Qd hi];rfl);rw[e]at e2;cases e2;exact⟨bs[i],Qd hi,r2⟩
 refine call_all_walk (Jw hl ?_)
 refine⟨s.heap.objs.size,[s.heap.objs.size,l],[s.heap.objs.size],its.toArray.size,_,_,λi=>(bs[i]?).getD true,rfl,Walks.list (A:=X.A.in1) (I.ok.hd hc) _ l (QI hlt) its.toArray,
  ⟨⟨_,Qx _ rfl,rfl,rfl⟩,hl.push _⟩,λi v s' Q' E' hP hQ=>?_,λh' tk hk=>?_⟩
 ·obtain⟨b,e,rfl⟩:=key i v hP;simp only[e,JL]at hQ;exact QZ hQ
 ·have hn:its.toArray.size=bs.length:=by have:=rv.length;rw[List.length_map]at this;simp;omega
  have e:((Uo its.toArray.size).all λi=>(bs[i]?).getD true)=bs.all id:=by
   rw[hn,Bool.eq_iff_iff,Jb,Jb];constructor
   ·intro h b hb;obtain⟨i,hi,e⟩:=List.getElem_of_mem hb;have:=h i (QY.mpr hi);simp only[Qd hi,JL,e]at this;exact this
   ·intro h i hi;have hi':=QY.mp hi;simp only[Qd hi',JL];exact h _ (Je hi')
  rw[e];exact⟨.bl (bs.all id),H,I.kept (t':=tk) λb x e=>hk b x (λhm=>by rw[Qy.mp hm]at e;exact Jc _ (Qh e)) (Qi _ e),rfl,q⟩
def Wy:List D->Option (List Bool)
 |[]=>some []
 |.bool b::r=>(Wy r).map (b :: ·)
 |_=>none
theorem MH{K:Frag}{G:Hp}:∀{vs:List V}{ds:List D}{bs:List Bool},Reps K G vs ds->Wy ds=some bs->vs=bs.map V.bl
 |_,_,bs,.nil,e=>by cases e;rfl
 |_,_,bs,.cons (d:=d) r t,e=>by
  cases d with
  |bool b=>
   unfold Wy at e;cases z:Wy _ with
   |none=>rw[z]at e;cases e
   |some cs=>rw[z]at e;cases e;rw[r.bl_inv,MH t z];rfl
  |_=>cases e
def Zn:List D->Option D
 |[.list ds]=>(Wy ds).map λbs=>.bool (bs.all id)
 |_=>none
theorem L4(hc:X.calm=true):Z1 X (.builtin "all") Zn:=by
 refine⟨_,E9 hc,λvs G H ds d Q s r e k=>?_⟩;unfold Zn at e;split at e
 ·rename_i ds;cases z:Wy ds with
  |none=>rw[z]at e;cases e
  |some bs=>rw[z]at e;cases e;obtain⟨v,rfl,q⟩:=r.one_inv;obtain⟨l,ws,rfl,h1,r1⟩:=q.lst_inv;have hw:=MH r1 z;subst hw;exact⟨l,bs,rfl,s.seq h1,k _ G H (.refl s) (.bl _)⟩
 ·cases e
def Its(x:Str):It:=⟨λi _=>i<x.cps.size,λi H v H'=>H'=H/\∃c,x.cps[i]?=some c/\v=.str ⟨#[c]⟩,λi _=>x.cps.size<=i⟩
theorem E8{P:Uf}{w:World}{K:Frag}{tg:Ui}(x:Str)(t:Tok)(it:Ug):Turn P w K tg (Its x) [it] it (λi h=>h.IsStrIter it (strIterType x) x t i) where
 mem:=by simp
 obj:=λi h st b hb=>by
  have e:b=it:=by simpa using hb
  subst e;obtain⟨o,e,c,d⟩:=st;exact⟨o,e,λv z=>by rw[d]at z;cases z⟩
 keep:=λi h h' st k=>by obtain⟨o,e,c,d⟩:=st;exact⟨o,k it (by simp) o e,c,d⟩
 item:=by
  intro X hP hw hK hc i pins s σ H E I hf st hg;subst hP hw hK;obtain⟨f0,f1,f2,f3,f4,f5⟩:=hf it (by simp);have hx:x.cps[i]?=some x.cps[i]:=JB hg
  have fin:∀h' tk(T:String),strIterType x=T->h'.IsStrIter it T x t (i+1)->Heap.SameBut it s.heap h'->["enumerate", "zip", "dict_itemiterator", "dict_reverseitemiterator", "odict_iterator", "itertools.zip_longest", "itertools.pairwise"].contains T=false ->
    ∃u,some (Value.str ⟨#[x.cps[i]]⟩ s.toks)=some u/\Uk (model X.prog X.w) X.A (letOwnedTupleGo tg (.ref it) u) (λ_ s2=>∃v H',Inv X pins σ H' s2/\RelV v u/\(Its x).yld i H v H'/\s2.heap.IsStrIter it (strIterType x) x t (i+1)/\∀b∈[it],H' b=none) E {s with heap:=h',toks:=tk}:=by
   intro h' tk T eT st' sb hn;have I1:Inv X pins σ H {s with heap:=h',toks:=tk}:=I.turned (t':=tk) (λb o hb e=>(sb.2 b hb).trans e) f0 f1 f3 f4 f5;obtain⟨o,e,c,d⟩:=id st';refine⟨_,rfl,TZ (s:={s with heap:=h',toks:=tk}) e c d hn ⟨.str ⟨#[x.cps[i]]⟩,H,I1,⟨_,rfl⟩,⟨rfl,_,hx,rfl⟩,by rw[eT];exact st',λb hb=>(hf b hb).1⟩⟩
  cases ha:x.cps.all (· < 128)with
  |true=>
   have eT:strIterType x = "str_ascii_iterator" :=by simp[strIterType,ha]
   rw[eT]at st;exact wpAny_pyNext_ascii_item st hx λh' st' sb=>fin h' _ _ eT st' sb (by decide)
  |false=>
   have eT:strIterType x = "str_iterator" :=by simp[strIterType,ha]
   rw[eT]at st;exact wpAny_pyNext_wide_item st hx λh' st' sb=>fin h' _ _ eT st' sb (by decide)
 done:=by
  intro X hP hw hK hc i pins s σ H E I hf st hg;subst hP hw hK;obtain⟨f0,f1,f2,f3,f4,f5⟩:=hf it (by simp);have hx:x.cps[i]?=none:=Array.getElem?_eq_none hg;cases ha:x.cps.all (· < 128)with
  |true=>
   have eT:strIterType x = "str_ascii_iterator" :=by simp[strIterType,ha]
   rw[eT]at st;exact wpAny_pyNext_ascii_end (I.ok.hd hc) st hx λh' eb=>⟨rfl,I.turned (t':=s.toks) (λb o hb e=>eb b o hb e) f0 f1 f3 f4 f5⟩
  |false=>
   have eT:strIterType x = "str_iterator" :=by simp[strIterType,ha]
   rw[eT]at st;exact wpAny_pyNext_wide_end (I.ok.hd hc) st hx λh' eb=>⟨rfl,I.turned (t':=s.toks) (λb o hb e=>eb b o hb e) f0 f1 f3 f4 f5⟩
 self:=λA i s Q E st h=>by
  cases ha:x.cps.all (· < 128)with
  |true=>
   have eT:strIterType x = "str_ascii_iterator" :=by simp[strIterType,ha]
   rw[eT]at st;exact wpAny_pyIter_striter_ascii st h
  |false=>
   have eT:strIterType x = "str_iterator" :=by simp[strIterType,ha]
   rw[eT]at st;exact wpAny_pyIter_striter_wide st h
def iAny(K:Frag)(tl:TE):TI:=λσ H R=>tl σ H λx H1=>(∃a,x=.ref a/\(∃xs,SqL K H1 a xs)/\R (Itl K a) H1)∨(∃a,x=.ref a/\(∃xs,SqT K H1 a xs)/\R (Itt K a) H1) ∨ ∃z,x=.str z/\R (Its z) H1
theorem HW{l:Ui}{tl:TE}(hl:PE X l tl):PI X tg l (iAny X.K tl):=by
 intro pins s σ H R I h;refine thn (hl pins s σ H _ I h) λv s1 ⟨x,H1,I1,r1,q1⟩=>?_
 have fpOk:∀b∈[s1.heap.objs.size],KL X pins H1 b:=λb hb=>by
  have e:b=s1.heap.objs.size:=by simpa using hb
  subst e;exact I1.fpOk (Qp _) (I1.hok.fresh (Qp _))
 rcases q1 with ⟨a,e,⟨xs,hq⟩,q⟩|⟨a,e,⟨xs,hq⟩,q⟩|⟨z,e,q⟩
 ·subst e;cases r1;obtain⟨its,rv,p,hz⟩:=I1.list hq;refine Jw p.isList ?_;exact⟨s1.heap.objs.size,[s1.heap.objs.size],_,_,H1,rfl,I1.kept (t':=s1.toks) λb o e=>Qi _ e,C5 a _,⟨_,Qx _ rfl,rfl,rfl⟩,fpOk,q⟩
 ·subst e;cases r1;obtain⟨its,rv,p,hz⟩:=I1.tuple hq;refine wpAny_pyIter_tuple p ?_;exact⟨s1.heap.objs.size,[s1.heap.objs.size],_,_,H1,rfl,I1.kept (t':=s1.toks) λb o e=>Qi _ e,BG a _,⟨_,Qx _ rfl,rfl,rfl⟩,fpOk,q⟩
 ·subst e;obtain⟨t,rfl⟩:=r1;refine wpAny_pyIter_strU ?_;exact⟨s1.heap.objs.size,[s1.heap.objs.size],_,_,H1,rfl,I1.kept (t':=s1.toks) λb o e=>Qi _ e,E8 z t _,⟨_,Qx _ rfl,rfl,rfl⟩,fpOk,q⟩
def Tp(z:Str):List D:=z.cps.toList.map λc=>.str ⟨#[c]⟩
def RA:D->Option (List D)
 |.list ds=>some ds
 |.tuple ds=>some ds
 |.str z=>some (Tp z)
 |_=>none
theorem AL{K:Frag}{G1:Hp}{ad:Ug}{vs:List V}{ds:List D}(h:SqT K G1 ad vs)(r:Reps K G1 vs ds):Yi K (Itt K ad) ds G1 where
 go:=λi G H s1 s2 hi=>by
  have hi':i<vs.length:=by rw[r.length];exact hi
  exact⟨vs,vs[i],Z5 (s1.trans s2) h,Qd hi'⟩
 stop:=λi G H s1 s2 hi=>⟨vs,Z5 (s1.trans s2) h,by rw[r.length];exact hi⟩
 yld:=λi G H x H' d s1 s2 e y=>by obtain⟨rfl,y⟩:=y;obtain⟨v,e1,r1⟩:=r.get e;have:=y vs (Z5 (s1.trans s2) h);rw[e1]at this;cases this;exact⟨G,.refl s2,r1.mono s1⟩
theorem C8{K:Frag}{G1:Hp}{z:Str}:Yi K (Its z) (Tp z) G1 where
 go:=λi G H s1 s2 hi=>by unfold Tp at hi;simpa[Its]using hi
 stop:=λi G H s1 s2 hi=>by unfold Tp at hi;simpa[Its]using hi
 yld:=λi G H x H' d s1 s2 e y=>by
  obtain⟨rfl,c,hc,rfl⟩:=y;unfold Tp at e;rw[Qf]at e;have:z.cps.toList[i]?=some c:=by simpa using hc
  rw[this]at e;cases e;exact⟨G,.refl s2,.str _⟩
def KF(f:M D):M (List D):=UX f λx=>UY (RA x)
theorem HV{f:M D}(h:PE X e (tD X.K B G0 f)):PI X tg e (iD X.K B G0 (KF f)):=Ys (HW h) λσ H R q=>tM.toI (R0:=Rep X.K) q λv H' G' ρ' x k r a=>by
 cases x with
 |list ds=>obtain⟨ad,vs,rfl,h1,r1⟩:=r.lst_inv;exact .inl ⟨ad,rfl,⟨vs,k.gh.seq h1⟩,a _ G' H' k (.refl _) (BB h1 r1)⟩
 |tuple ds=>obtain⟨ad,vs,rfl,h1,r1⟩:=r.tup_inv;exact .inr (.inl ⟨ad,rfl,⟨vs,Z5 k.gh h1⟩,a _ G' H' k (.refl _) (AL h1 r1)⟩)
 |str z=>have:=r.str_inv;subst this;exact .inr (.inr ⟨z,rfl,a _ G' H' k (.refl _) C8⟩)
 |_=>exact a.elim
def inS(i j:Str):Bool:=!(Builtin.Str.occurrences j i 0 j.length 1).isEmpty
def oInS:D->D->Option Bool
 |.str i,.str j=>some (inS i j)
 |_,_=>none
def Po:D->D->Option Bool
 |.str i,.str j=>some (!inS i j)
 |_,_=>none
theorem L1:OpB X (Um .In) oInS:=⟨_,C1,λv u G H x y d Q s rx ry e k=>by
 unfold oInS at e;split at e
 ·cases e;have:=rx.str_inv;subst this;have:=ry.str_inv;subst this;exact⟨_,_,rfl,rfl,k⟩
 ·cases e⟩
theorem HU:OpB X (Um .NotIn) Po:=⟨_,AQ,λv u G H x y d Q s rx ry e k=>by
 unfold Po at e;split at e
 ·cases e;have:=rx.str_inv;subst this;have:=ry.str_inv;subst this;exact⟨_,_,rfl,rfl,k⟩
 ·cases e⟩
theorem L0{x:Str}{i:Int}(hg:Gl X x)(hm:∃t,X.mg x=some (.int i t))(hd:(x==("__debug__" : Str))=false:=by decide):PE X (.Name x pos) (tD X.K B G0 (UK (.int i))):=by obtain⟨t,hm⟩:=hm;exact U5 (OZ (v:=.int i) hg hm ⟨t,rfl⟩ hd) λσ H Q ⟨G,ρ,k,a⟩=>aft.now a k (.int _)
end
section
variable{X:Cx}{B G0:Hp}{KX:XW}{e o a b c tg i:Ui}{pos p2:Pos}{es rest:List Ui}{te to ti:TE}
def HS(te to ti:TE):TS:=λD σ H=>te σ H λv H1=>to σ H1 λx H2=>ti σ H2 λk H3=>∃l xs n,x=.ref l/\H3 l=some (.lst xs)/\k=.int n/\0<=n/\n<xs.length/\D.nx σ (upd H3 l (.lst (xs.set n.toNat v)))
theorem E7(he:PE X e te)(ho:PE X o to)(hi:PE X i ti)(hs:swapsWith e (some (.Subscript o i p2)) pos.line X.env=pure false:=by rfl):PS X (.Assign [.Subscript o i p2] e pos) (HS te to ti):=by
 intro pins s σ H D I h;refine wpAny_Assign_Subscript (thn (he pins s σ H _ I h) λv s1 ⟨x,H1,I1,r1,q1⟩=>thn (ho pins s1 σ H1 _ I1 q1) λov s2 ⟨y,H2,I2,r2,q2⟩=>thn (hi pins s2 σ H2 _ I2 q2) λiv s3 ⟨k,H3,I3,r3,q3⟩=>?_) hs;obtain⟨l,xs,n,rfl,hl,rfl,h0,h1,q⟩:=q3;cases r2;obtain⟨t,rfl⟩:=r3;obtain⟨z,its,m,r,hlen,ee⟩:=I3.lstM hl
 refine PySem.W.ki_setAt (items:=its.toArray) (n:=m) ee h0 (by
                                  have:Uj<2 ^ 63:=by decide
                                  omega) (by simp;omega) ?_
 refine⟨σ,_,I3.lset (t':=s3.toks) (its:=its) (its':=its.set n.toNat v) (f:=(·.setIfInBounds n.toNat v)) hl ee (by simp) (r.set r1 n.toNat) (by rw[List.length_set];exact z),q⟩
def V7(j:Nat)(g f:M D):SM:=sB f λd ρ1=>match ρ1[j]? with
 |some (some (.own _))=>sB g (λy ρ2=>match y with
  |.int k=>(match ρ2[j]? with
   |some (some (.own ds))=>if 0<=k/\k<ds.length then .nx (ρ2.set j (some (.own (ds.set k.toNat d))))else .bad
   |_=>.bad)
  |_=>.bad) ρ1
 |_=>.bad
theorem F5{j:Nat}{f g:M D}(he:PE X e (tD X.K B G0 f))(ho:PE X o (KO j))(hi:PE X i (tD X.K B G0 g))(hs:swapsWith e (some (.Subscript o i p2)) pos.line X.env=pure false:=by rfl) :
  PS X (.Assign [.Subscript o i p2] e pos) (tS X.K B G0 KX (V7 j g f)):=
 KZ (E7 he ho hi hs) λD σ H q=>tS.bnd (R:=Rep X.K) q λv H1 G1 ρ1 d k r a=>by
  cases q0:ρ1[j]? with
  |none=>rw[q0]at a;exact a.elim
  |some o0=>
   cases o0 with
   |none=>rw[q0]at a;exact a.elim
   |some sl0=>
    cases sl0 with
    |deep _ _=>rw[q0]at a;exact a.elim
    |pub d=>rw[q0]at a;exact a.elim
    |own ds0=>
     rw[q0]at a;obtain⟨ad,vs0,h1,h2,h3,h4,h5⟩:=k.own j ds0 q0;refine⟨.ref ad,h1,G1,ρ1,k,?_⟩;dsimp only at a;unfold sB at a;cases z:g ρ1 with
     |bad=>rw[z]at a;exact a.elim
     |ok y ρ2=>
      rw[z]at a;dsimp only at a;intro kv G' H' k' s' r';cases y with
      |int n=>
       dsimp only at a;cases q:ρ2[j]? with
       |none=>rw[q]at a;exact a.elim
       |some oo=>
        cases oo with
        |none=>rw[q]at a;exact a.elim
        |some sl=>
         cases sl with
         |deep _ _=>rw[q]at a;exact a.elim
         |pub d=>rw[q]at a;exact a.elim
         |own ds=>
          rw[q]at a;dsimp only at a;split at a
          ·rename_i hn;obtain⟨ad',vs,g1,g2,g3,g4,g5⟩:=k'.own j ds q;rw[h1]at g1;cases g1;refine⟨ad,vs,n,rfl,g4,r'.int_inv,hn.1,by rw[g5.length];exact hn.2,?_⟩;exact a σ G' _ (k'.change q h1 (g5.set (r.mono s') n.toNat)) s'
          ·exact a.elim
      |_=>exact a.elim
def Yx(z:Str)(lo hi:Option Int):Str:=if(Builtin.Str.strSliceIndices lo hi 1 z.length).length=z.length then z else⟨((Builtin.Str.strSliceIndices lo hi 1 z.length).filterMap (z.cps[·]?)).toArray⟩
theorem HR:SlR X (λx lo hi H Q=>∃z,x=.str z/\(Yx z lo hi).length<=Uj/\Q (.str (Yx z lo hi)) H):=by
 intro pins s σ H x v vl vu lo hi sl Q I rx hs pl pu h;obtain⟨z,rfl,hz,q⟩:=h;obtain⟨t,rfl⟩:=rx;refine⟨"str", _,F.slot_str_getitem.lookup,typeIs_str s z t,?_⟩
 obtain⟨l,el,e1⟩:∃l:Option (Int×Tok),vl=partValue l/\l.map (·.1)=lo:=by
  cases pl with
  |none=>exact⟨none,rfl,rfl⟩
  |int k t'=>exact⟨some (k,t'),rfl,rfl⟩
 obtain⟨u,eu,e2⟩:∃u:Option (Int×Tok),vu=partValue u/\u.map (·.1)=hi:=by
  cases pu with
  |none=>exact⟨none,rfl,rfl⟩
  |int k t'=>exact⟨some (k,t'),rfl,rfl⟩
 subst el eu;refine wpAny_getItem_str_slice (l:=l) (u:=u) (st:=none) hs rfl ?_;unfold sliceMade slicePicked;rw[e1,e2];unfold Yx at hz q;by_cases hw:(Builtin.Str.strSliceIndices lo hi 1 z.length).length=z.length
 ·rw[Qq hw]at hz q;rw[if_pos (by simp[hw])];exact⟨.str z,H,I,⟨t,rfl⟩,q⟩
 ·rw[QG hw]at hz q;rw[if_neg (by simp[hw])];exact⟨hz,.str _,H,I.tok _,⟨_,rfl⟩,q⟩
end
section
variable{X:Cx}{B G0:Hp}{KX:XW}{e o a b c tg i:Ui}{pos p2:Pos}{es rest:List Ui}{te to ti:TE}
theorem pvb(i:Nat){x:Str}{pos:Pos}{N':List Str}{scope:Scope}{cl:List (Str×Ug)}{C:Ug}{s₀:Ue}{H₀:Hp}{ex:List Ug}(hN:N'[i]?=some x:=by rfl)
  (h:scope.names.lookup x=some .local∨scope.names.lookup x=some .free:=by first|exact .inl rfl|exact .inr rfl) (hd:(x==("__debug__" : Str))=false:=by decide) (hcd:(x==("__classdict__" : Str))=false:=by decide) :
  PE (X.blk N' scope cl C s₀ H₀ ex) (.Name x pos) (KO i):=PU hN (Ea h) hd hcd
def XF:D->Option Int->Option Int->Option D
 |.list xs,lo,hi=>some (.list (DL.cutD xs lo hi))
 |.str z,lo,hi=>if(Yx z lo hi).length<=1000000 then some (.str (Yx z lo hi))else none
 |_,_,_=>none
def ZW(f:M D)(lo hi:M (Option Int)):M D:=UX f λx=>UX lo λl=>UX hi λh=>UY (XF x l h)
theorem B6{lo hi:Option Ui}{f:M D}{l h:M (Option Int)}(he:PE X e (tD X.K B G0 f))(hl:PO X lo (tOi X.K B G0 l))(hu:PO X hi (tOi X.K B G0 h)) :
  PE X (.Subscript e (.Slice lo hi none p2) pos) (tD X.K B G0 (ZW f l h)):=
 U5 (Cq (Ey.or HR) he hl hu) λσ H Q q=>by
  refine tM.one (R:=Rep X.K) q λv H2 G ρ x k r a=>?_;refine tM.nx (R:=λ_ b c=>b=c) k a λl' H3 G3 ρ3 xl k3 s3 r3 a3=>?_;refine tM.nx (R:=λ_ b c=>b=c) k3 a3 λh' H4 G4 ρ4 xh k4 s4 r4 a4=>?_;have r3:l'=xl:=r3;have r4:h'=xh:=r4;subst r3 r4;unfold UY XF at a4
  cases x with
  |list xs=>obtain⟨ad,vs,rfl,h1,r1⟩:=((r.mono s3).mono s4).lst_inv;exact .inl ⟨ad,vs,rfl,k4.gh.seq h1,λp hp=>aft.done a4 k4 (Ext.new k4.gh hp) (.lst (SqL.of Ky) ((r1.cut l' h').mono (KU (k4.gh.free hp))))⟩
  |str z=>
   dsimp only at a4;have:=r.str_inv;subst this;by_cases hc:(Yx z l' h').length<=1000000
   ·rw[Qq hc]at a4;exact .inr ⟨z,rfl,QQ hc lim,aft.now a4 k4 (.str _)⟩
   ·rw[QG hc]at a4;exact a4.elim
  |_=>exact a4.elim
end
section
variable{X:Cx}{B G0:Hp}{e o a b c tg:Ui}{pos p2:Pos}{es rest:List Ui}{te to ti:TE}
def KG{β:Type}(p:D->D->Option β)(i:Nat)(g:M D):M β:=λρ=>match ρ[i]? with
 |some (some (.pub d))=>(UX g λy=>UY (p d y)) ρ
 |some (some (.own _))=>(UX g λy=>λρ'=>match ρ'[i]? with|some (some (.own ds))=>UY (p (.list ds) y) ρ'|_=>.bad) ρ
 |_=>.bad
theorem Pn{K:Frag}{σ:St}{H:Hp}{p:D->D->Option Bool}{r:R2}{i:Nat}{g:M D}{Q:Bool->Hp->Prop}{QV:VK}(hq:∀t H3,Q t H3->QV (.bl t) H3)(hr:∀v u G H x y d Q,Same G H->Rep K G v x->Rep K G u y->p x y=some d->Q (.bl d) H->r v u H Q)
  (q:tBo K B G0 (KG p i g) σ H Q):KO i σ H λx H1=>tD K B G0 g σ H1 λy H2=>r x y H2 QV:=by
 obtain⟨G,ρ,k,a⟩:=q;unfold KG at a;cases q:ρ[i]? with
 |none=>rw[q]at a;exact a.elim
 |some o=>
  cases o with
  |none=>rw[q]at a;exact a.elim
  |some sl=>
   cases sl with
   |deep _ _=>rw[q]at a;exact a.elim
   |pub d=>
    rw[q]at a;obtain⟨v,h1,h2⟩:=k.pub i d q;refine⟨v,h1,G,ρ,k,?_⟩;dsimp only[UX]at a;cases z:g ρ with
    |bad=>rw[z]at a;exact a.elim
    |ok y ρ1=>rw[z]at a;intro u G' H' k' s' r';obtain⟨d',e',a'⟩:=aft.opt a;exact hr v u G' H' d y d' _ k'.gh (h2.mono s') r' e' (hq _ _ (a' d' G' H' k' s' rfl))
   |own ds=>
    rw[q]at a;obtain⟨ad,vs,h1,h2,h3,h4,h5⟩:=k.own i ds q;refine⟨.ref ad,h1,G,ρ,k,?_⟩;dsimp only[UX]at a;cases z:g ρ with
    |bad=>rw[z]at a;exact a.elim
    |ok y ρ1=>
     rw[z]at a;dsimp only at a;intro u G' H' k' s' r';cases q1:ρ1[i]? with
     |none=>rw[q1]at a;exact a.elim
     |some oo=>
      cases oo with
      |none=>rw[q1]at a;exact a.elim
      |some sl1=>
       cases sl1 with
       |deep _ _=>rw[q1]at a;exact a.elim
       |pub d1=>rw[q1]at a;exact a.elim
       |own ds1=>
        rw[q1]at a;dsimp only at a;obtain⟨ad',ws,g1,g2,g3,g4,g5⟩:=k'.own i ds1 q1;rw[h1]at g1;cases g1;obtain⟨d',e',a'⟩:=aft.opt a;have sg:Same G' (upd G' ad (.lst ws)):=KU g3
        have sh:Same (upd G' ad (.lst ws)) H':=λb o q=>by
         by_cases z:b=ad
         ·subst z;rw[Ky]at q;cases q;exact g4
         ·rw[Kb z]at q;exact k'.gh b o q
        exact hr (.ref ad) u _ H' (.list ds1) y d' _ sh (.lst (SqL.of Ky) (g5.mono sg)) (r'.mono sg) e' (hq _ _ (a' d' G' H' k' s' rfl))
theorem F4{op:CmpOp}{p:D->D->Option Bool}{i:Nat}{g:M D}(o:OpB X (Um op) p)(ha:PE X a (KO i))(hb:PE X b (tD X.K B G0 g))(hm:behindInMarks op b=false) :
  PT X (.Compare a [op] [b] pos) (tBo X.K B G0 (KG p i g)):=by
 obtain⟨r,h,j⟩:=o;exact ZS (Ry h ha hb hm) λσ H Q q=>Pn (λt H3 z=>⟨t,rfl,z⟩) j q
theorem F3{op:CmpOp}{p:D->D->Option Bool}{i:Nat}{g:M D}(o:OpB X (Um op) p)(ha:PE X a (KO i))(hb:PE X b (tD X.K B G0 g))(hm:behindInMarks op b=false) :
  PE X (.Compare a [op] [b] pos) (tD X.K B G0 (UN Ur (KG p i g))):=by
 obtain⟨r,h,j⟩:=o;exact U5 (OW h ha hb hm) λσ H Q q=>Pn (λt H3 z=>z) j (tBo.val q)
end
end DL
namespace L2
open PySem PySem.Spec PyProof.Rows
def Itz(K:Frag)(a b:Ug):It:=
 ⟨λi H=>∃xs x ys y,SqL K H a xs/\xs[i]?=some x/\SqL K H b ys/\ys[i]?=some y,
  λi H v H'=>∃p x y,H p=none/\v=.ref p/\(∀xs,SqL K H a xs->xs[i]?=some x)/\(∀ys,SqL K H b ys->ys[i]?=some y)/\H'=upd H p (.tup [x,y]),
  λi H=>∃xs ys,SqL K H a xs/\SqL K H b ys/\(xs.length<=i∨ys.length<=i)⟩
theorem E6{P:Uf}{w:World}{K:Frag}{elts:List Ui}{x1}{tp:Pos}(a b z TI TO i1 i2:Ug)(Dz:ZipApart z TI TO i1 i2 a b) :
  Turn P w K (.Tuple elts x1 tp) (Itz K a b) [z,TI,TO,i1,i2] z (λi h=>IsZip h z TI TO .none/\IsPair h TI (.ref i1) (.ref i2)/\(∃c d,IsPair h TO c d)/\h.IsListIter i1 a i/\h.IsListIter i2 b i) where
 mem:=by simp
 obj:=λi h st c hc=>by
  obtain⟨h1,h2,⟨c0,d0,h3⟩,⟨o4,h4,_,d4⟩,⟨o5,h5,_,d5⟩⟩:=st;have hc':c=z∨c=TI∨c=TO∨c=i1∨c=i2:=by simpa using hc
  rcases hc' with rfl|rfl|rfl|rfl|rfl
  ·exact⟨_,h1,λv q=>by have q':Data.fields _=Data.cell v:=q;cases q'⟩
  ·exact⟨_,h2,λv q=>by have q':Data.seq _ _=Data.cell v:=q;cases q'⟩
  ·exact⟨_,h3,λv q=>by have q':Data.seq _ _=Data.cell v:=q;cases q'⟩
  ·exact⟨o4,h4,λv q=>by rw[d4]at q;cases q⟩
  ·exact⟨o5,h5,λv q=>by rw[d5]at q;cases q⟩
 keep:=λi h h' st k=>by obtain⟨h1,h2,⟨c0,d0,h3⟩,h4,h5⟩:=st;exact⟨k z (by simp) _ h1,k TI (by simp) _ h2,⟨c0,d0,k TO (by simp) _ h3⟩,h4.at λo q=>k i1 (by simp) o q,h5.at λo q=>k i2 (by simp) o q⟩
 item:=by
  intro X hP hw hK hc i pins s σ H E I hf st hg;subst hP hw hK;obtain⟨h1,h2,⟨c0,d0,h3⟩,h4,h5⟩:=st;obtain⟨xs,x,ys,y,hq,hx,hq',hy⟩:=hg;obtain⟨its,rv,p,hz⟩:=I.list hq;obtain⟨its',rv',p',hz'⟩:=I.list hq';obtain⟨u,hu,ru⟩:=rv.get hx;obtain⟨u',hu',ru'⟩:=rv'.get hy;refine wpAny_pyNext_zip_item Dz h1 h2 h3 h4 h5 p.isList p'.isList (x:=u) (y:=u') (by simpa using hu) (by simpa using hu') λh' g1 g3 g4 g5 gp gs gk=>?_
  refine⟨_,rfl,wpAny_letOwnedTupleGo_zip g1 λh2' gz sb=>?_⟩;have hzl:z<s.heap.objs.size:=Qh h1;have sb':Heap.SameBut z h' h2':=sb;have gp2:h2'.get? s.heap.objs.size=some {cls:=.type "tuple", data:=.seq #[u,u']}:=(sb'.2 _ (Jx hzl)).trans gp
  have kk:∀c o,c∉[z,TI,TO,i1,i2]->s.heap.get? c=some o->h2'.get? c=some o:=λc o hc q=>by
   have n1:c≠z:=λe=>hc (by simp[e])
   have n3:c≠TO:=λe=>hc (by simp[e])
   have n4:c≠i1:=λe=>hc (by simp[e])
   have n5:c≠i2:=λe=>hc (by simp[e])
   exact(sb'.2 c n1).trans (gk c o n1 n3 n4 n5 q)
  have hn:H s.heap.objs.size=none:=I.hok.fresh (Qp _)
  have I2:Inv X pins σ (upd H s.heap.objs.size (.tup [x,y])) {s with heap:=h2'}:=
   I.turnedNew (t':=s.toks) (fp:=[z,TI,TO,i1,i2]) hf kk (Qp _) ⟨by show 2<=Uj;decide,[u,u'],.cons ru (.cons ru' .nil),⟨_,gp2,rfl,_,rfl⟩⟩
  have gTI:IsPair h' TI (.ref i1) (.ref i2):=gk TI _ Dz.TIz Dz.TITO Dz.TIi1 Dz.TIi2 h2
  refine⟨.ref s.heap.objs.size,_,I2,rfl,⟨_,x,y,hn,rfl,λws hw=>by rw[I.list_inj hw hq];exact hx,λws hw=>by rw[I.list_inj hw hq'];exact hy,rfl⟩,
   ⟨gz,(sb'.2 _ Dz.TIz).trans gTI,⟨u,u',(sb'.2 _ Dz.TOz).trans g3⟩,g4.at λo q=>(sb'.2 _ Dz.i1z).trans q,g5.at λo q=>(sb'.2 _ Dz.i2z).trans q⟩,λc hc=>?_⟩
  have hlt:c<s.heap.objs.size:=by
   have hc':c=z∨c=TI∨c=TO∨c=i1∨c=i2:=by simpa using hc
   rcases hc' with rfl|rfl|rfl|rfl|rfl
   ·exact hzl
   ·exact Qh h2
   ·exact Qh h3
   ·obtain⟨o,ho,_⟩:=h4;exact Qh ho
   ·obtain⟨o,ho,_⟩:=h5;exact Qh ho
  rw[Kb (QI hlt)];exact(hf c hc).1
 done:=by
  intro X hP hw hK hc i pins s σ H E I hf st hg;subst hP hw hK;obtain⟨h1,h2,⟨c0,d0,h3⟩,h4,h5⟩:=st;obtain⟨xs,ys,hq,hq',hx⟩:=hg;obtain⟨its,rv,p,hz⟩:=I.list hq;obtain⟨its',rv',p',hz'⟩:=I.list hq';have hl:=rv.length;have hl':=rv'.length;refine wpAny_pyNext_zip_end (I.ok.hd hc) Dz h1 h2 h3 h4 h5 p.isList p'.isList ?_ λh' eb=>⟨rfl,I.turnedL (t':=s.toks) hf λc o hb q=>eb c o (λe=>hb (by simp[e])) (λe=>hb (by simp[e])) (λe=>hb (by simp[e])) (λe=>hb (by simp[e])) q⟩
  rcases hx with hx|hx
  ·exact .inl (by simp;omega)
  ·exact .inr (by simp;omega)
 self:=λ_ _ _ _ _ st h=>wpAny_pyIter_zip st.1 h
section
variable{X:Cx}
def iZip(K:Frag)(ta:TA):TI:=λσ H R=>ta σ H λvs H1=>∃a b xs ys,vs=[.ref a,.ref b]/\SqL K H1 a xs/\SqL K H1 b ys/\R (Itz K a b) H1
theorem HQ{a b:Ui}{ta:TA}{p pos:Pos}{elts:List Ui}{x1}{tp:Pos}(hg:Gl X "zip")(hm:X.mg "zip" = none)(ha:PA X [a,b] ta)
  (hs:Ul [a,b] X.env=[(false,eval a X.env),(false,eval b X.env)]:=by rfl) (hs2:Ul [b] X.env=[(false,eval b X.env)]:=by rfl):PI X (.Tuple elts x1 tp) (.Call (.Name "zip" p) [a,b] [] pos) (iZip X.K ta):=by
 intro pins s σ H R I h;refine Call_ (Wu I hg hm boot_zip (Jl (thn (ha pos pins s σ H _ I h) λus s1 ⟨vs,H1,I1,r1,q1⟩=>?_) (by rw[hs,hs2]) (by rw[hs2];rfl)));obtain⟨l1,l2,xs,ys,e,hq,hq',q⟩:=q1;subst e;cases r1 with
 |cons r rr=>
  cases rr with
  |cons r' rr=>
   cases rr;cases (show _=Value.ref l1 from r);cases (show _=Value.ref l2 from r');obtain⟨its,rv,pl,hz⟩:=I1.list hq;obtain⟨its',rv',pl',hz'⟩:=I1.list hq';have n1:l1<s1.heap.objs.size:=by obtain⟨_,e,_⟩:=id pl.isList;exact Qh e
   have n2:l2<s1.heap.objs.size:=by obtain⟨_,e,_⟩:=id pl'.isList;exact Qh e
   have ne:∀i j:Nat,i≠j->s1.heap.objs.size+i≠s1.heap.objs.size+j:=λi j h e=>h (Nat.add_left_cancel e);have m1:∀m:Nat,l1≠s1.heap.objs.size+m:=λm=>QI (QD n1 (Nat.le_add_right _ _));have m2:∀m:Nat,l2≠s1.heap.objs.size+m:=λm=>QI (QD n2 (Nat.le_add_right _ _));refine call_zip_2 pl.isList pl'.isList λh' g1 g2 g3 g4 g5 gs kk=>?_;have I2:Inv X pins σ H1 {s1 with heap:=h'}:=I1.kept (t':=s1.toks) kk;refine wpAny_pyIter_zip g1 ?_
   refine⟨s1.heap.objs.size+4,[s1.heap.objs.size+4,s1.heap.objs.size+2,s1.heap.objs.size+3,s1.heap.objs.size,s1.heap.objs.size+1],_,_,H1,rfl,I2,
    E6 l1 l2 (s1.heap.objs.size+4) (s1.heap.objs.size+2) (s1.heap.objs.size+3) s1.heap.objs.size (s1.heap.objs.size+1) ⟨ne 2 4 (by decide),ne 3 4 (by decide),ne 0 4 (by decide),ne 1 4 (by decide),ne 2 3 (by decide),ne 2 0 (by decide),ne 2 1 (by decide),ne 3 0 (by decide),ne 3 1 (by decide),ne 0 1 (by decide),m1 4,m1 3,m1 0,m1 1,m2 4,m2 3,m2 0,m2 1⟩,⟨g1,g2,⟨_,_,g3⟩,g4,g5⟩,λc hc=>?_,q⟩
   have hc':s1.heap.objs.size<=c:=by
    have hc':c=s1.heap.objs.size+4∨c=s1.heap.objs.size+2∨c=s1.heap.objs.size+3∨c=s1.heap.objs.size∨c=s1.heap.objs.size+1:=by simpa using hc
    rcases hc' with rfl|rfl|rfl|rfl|rfl<;>first|exact Nat.le_add_right _ _|exact Qp _
   exact I1.fpOk hc' (I1.hok.fresh hc')
end
end L2
namespace DL
open PySem PySem.Spec L2
open PyProof.Rows hiding St
section
variable{X:Cx}{B G0:Hp}{e a b c tg:Ui}{pos:Pos}{es rest:List Ui}
def Zf(xs ys:List D):List D:=(xs.zip ys).map λp=>.tuple [p.1,p.2]
theorem C7{K:Frag}{G1:Hp}{a b:Ug}{vs ws:List V}{ds es:List D}(h:SqL K G1 a vs)(h':SqL K G1 b ws)(r:Reps K G1 vs ds)(r':Reps K G1 ws es):Yi K (Itz K a b) (Zf ds es) G1 where
 go:=λi G H s1 s2 hi=>by
  unfold Zf at hi;rw[Qb,List.length_zip]at hi;have hi1:i<vs.length:=by rw[r.length];omega
  have hi2:i<ws.length:=by rw[r'.length];omega
  exact⟨vs,vs[i],ws,ws[i],(s1.trans s2).seq h,Qd hi1,(s1.trans s2).seq h',Qd hi2⟩
 stop:=λi G H s1 s2 hi=>by unfold Zf at hi;rw[Qb,List.length_zip]at hi;refine⟨vs,ws,(s1.trans s2).seq h,(s1.trans s2).seq h',?_⟩;rw[r.length,r'.length];omega
 yld:=λi G H x H' d s1 s2 e y=>by
  obtain⟨p,u,v,hp,rfl,y1,y2,rfl⟩:=y;have z1:=y1 vs ((s1.trans s2).seq h);have z2:=y2 ws ((s1.trans s2).seq h');unfold Zf at e;rw[Qf]at e;cases q:(ds.zip es)[i]? with
  |none=>rw[q]at e;cases e
  |some pr=>rw[q]at e;cases e;rw[List.getElem?_zip_eq_some]at q;obtain⟨u',e1,r1⟩:=r.get q.1;obtain⟨v',e2,r2⟩:=r'.get q.2;rw[z1]at e1;rw[z2]at e2;cases e1;cases e2;exact⟨upd G p (.tup [u,v]),Ext.new s2 hp,.tup (SqT.of Ky) (.cons ((r1.mono s1).mono (KU (s2.free hp))) (.cons ((r2.mono s1).mono (KU (s2.free hp))) .nil))⟩
def Yt:List D->Option (List D)
 |[.list xs,.list ys]=>some (Zf xs ys)
 |_=>none
theorem E5{x l:List D}(h:Yt x=some l):∃xs ys,x=[.list xs,.list ys]/\l=Zf xs ys:=by
 unfold Yt at h;split at h
 ·cases h;exact⟨_,_,rfl,rfl⟩
 ·cases h
def Yv(f:M (List D)):M (List D):=UX f λx=>UY (Yt x)
theorem HP{f:M (List D)}{p2:Pos}{elts:List Ui}{x1}{tp:Pos}(hg:Gl X "zip")(hm:X.mg "zip" = none)(ha:PA X [a,b] (tDs X.K B G0 f))(hs:Ul [a,b] X.env=[(false,eval a X.env),(false,eval b X.env)]:=by rfl)(hs2:Ul [b] X.env=[(false,eval b X.env)]:=by rfl) :
  PI X (.Tuple elts x1 tp) (.Call (.Name "zip" p2) [a,b] [] pos) (iD X.K B G0 (Yv f)):=Ys (HQ hg hm ha hs hs2) λσ H R q=>tM.toI (R0:=Reps X.K) q λv H' G' ρ' x k r a=>by
 cases z:Yt x with
 |none=>rw[z]at a;exact a.elim
 |some l=>
  rw[z]at a;obtain⟨xs,ys,rfl,rfl⟩:=E5 z;cases r with
  |cons r1 rr=>
   cases rr with
   |cons r2 rr=>cases rr;obtain⟨l1,vs,rfl,h1,q1⟩:=r1.lst_inv;obtain⟨l2,ws,rfl,h2,q2⟩:=r2.lst_inv;exact⟨l1,l2,vs,ws,rfl,k.gh.seq h1,k.gh.seq h2,a _ G' H' k (.refl _) (C7 h1 h2 q1 q2)⟩
end
section
variable{X:Cx}{B G0:Hp}{e o a b c tg:Ui}{pos p2 p3:Pos}{es rest:List Ui}{te to ti:TE}
def oIn:D->D->Option Bool
 |.str i,.str j=>some (inS i j)
 |x,.list xs=>if x.canLay0=true/\Uu xs=true/\x.depth<=60 then some (xs.any λy=>Uw y x)else none
 |x,.tuple xs=>if x.canLay0=true/\Uu xs=true/\x.depth<=60 then some (xs.any λy=>Uw y x)else none
 |_,_=>none
def ZI(x y:D):Option Bool:=(oIn x y).map λt=>!t
def Yu(x y:D):Option Bool:=match y with
 |.list xs=>if x.canLay0=true/\Uu xs=true/\x.depth<=60 then some (xs.any λy=>Uw y x)else none
 |.tuple xs=>if x.canLay0=true/\Uu xs=true/\x.depth<=60 then some (xs.any λy=>Uw y x)else none
 |_=>none
theorem LZ(hu:X.A.units+64<cLine):OpB X (Um .In) Yu:=by
 refine⟨λv u H Q=>∃G x y d,Same G H/\Rep X.K G v x/\Rep X.K G u y/\Yu x y=some d/\Q (.bl d) H,?_,λv u G H x y d Q s rx ry e k=>⟨G,x,y,d,s,rx,ry,e,k⟩⟩;intro pins s σ H x y v u Q I rx ry ⟨G,dx,dy,d,sg,px,py,e,q⟩;unfold Yu at e;split at e
 ·split at e
  ·rename_i c;cases e;obtain⟨as,ra⟩:=Z7 I sg px rx c.1;obtain⟨bs,rb⟩:=Z7 I sg py ry (show Uu _=true from c.2.1);exact SeqAt.in_list_reads rb ra c.2.1 c.1 (by have:=c.2.2;omega) ⟨.bl _,H,I,rfl,q⟩
  ·cases e
 ·split at e
  ·rename_i c;cases e;obtain⟨as,ra⟩:=Z7 I sg px rx c.1;obtain⟨bs,rb⟩:=Z7 I sg py ry (show Uu _=true from c.2.1);exact SeqAt.in_tuple_reads rb ra c.2.1 c.1 (by have:=c.2.2;omega) ⟨.bl _,H,I,rfl,q⟩
  ·cases e
 ·cases e
theorem HN(hu:X.A.units+64<cLine):OpB X (Um .NotIn) (λx y=>(Yu x y).map λt=>!t):=by
 refine⟨λv u H Q=>∃G x y d,Same G H/\Rep X.K G v x/\Rep X.K G u y/\(Yu x y).map (λt=>!t)=some d/\Q (.bl d) H,?_,λv u G H x y d Q s rx ry e k=>⟨G,x,y,d,s,rx,ry,e,k⟩⟩;intro pins s σ H x y v u Q I rx ry ⟨G,dx,dy,d,sg,px,py,e,q⟩;unfold Yu at e;split at e
 ·split at e
  ·rename_i c;cases e;obtain⟨as,ra⟩:=Z7 I sg px rx c.1;obtain⟨bs,rb⟩:=Z7 I sg py ry (show Uu _=true from c.2.1);exact SeqAt.notIn_list_reads rb ra c.2.1 c.1 (by have:=c.2.2;omega) ⟨.bl _,H,I,rfl,q⟩
  ·cases e
 ·split at e
  ·rename_i c;cases e;obtain⟨as,ra⟩:=Z7 I sg px rx c.1;obtain⟨bs,rb⟩:=Z7 I sg py ry (show Uu _=true from c.2.1);exact SeqAt.notIn_tuple_reads rb ra c.2.1 c.1 (by have:=c.2.2;omega) ⟨.bl _,H,I,rfl,q⟩
  ·cases e
 ·cases e
theorem B_in(hu:X.A.units+64<cLine):OpB X (Um .In) oIn:=(L1.or (LZ hu)).congr λx y=>by cases x<;>cases y<;>rfl
theorem M6(hu:X.A.units+64<cLine):OpB X (Um .NotIn) ZI:=(HU.or (HN hu)).congr λx y=>by cases x<;>cases y<;>rfl
theorem Bx{tl th ts:TO}{lo hi:Option Ui}{st:Ui}(he:PE X e te)(hl:PO X lo tl)(hu:PO X hi th)(hst:PO X (some st) ts):PE X (.Subscript e (.Slice lo hi (some st) p2) pos)
  (λσ H Q=>te σ H λx H1=>tl σ H1 λl H2=>th σ H2 λu H3=>ts σ H3 λt H4=>∃a xs,x=.ref a/\SqL X.K H4 a xs/\l=none/\u=none/\t=some (-1)/\∀p,H4 p=none->Q (.ref p) (upd H4 p (.lst xs.reverse))):=by
 intro pins s σ H Q I h;refine Subscript_ (thn (he pins s σ H _ I h) λv s1 ⟨x,H1,I1,r1,q1⟩=>?_);refine wpAny_Slice (thn (hl pins s1 σ H1 _ I1 q1) λvl s2 ⟨l,H2,I2,pl,q2⟩=>thn (hu pins s2 σ H2 _ I2 q2) λvu s3 ⟨u,H3,I3,pu,q3⟩=>thn (hst pins s3 σ H3 _ I3 q3) λvt s4 ⟨t,H4,I4,pt,q4⟩=>?_);obtain⟨a,xs,rfl,hx,rfl,rfl,rfl,q⟩:=q4;cases r1;have I5:Inv X pins σ H4 {s4 with heap:=s4.heap.push {cls:=.type "slice", data:=.fields #[vl,vu,vt]}}:=I4.kept (t':=s4.toks) λb ob q=>Qi _ q
 obtain⟨its,r,ht,hz⟩:=I5.list hx;have hlen:=r.length;have hg:Uk (model X.prog X.w) X.A (getItem (.ref a) (.ref s4.heap.objs.size)) (EP X pins σ Q) X.xe {s4 with heap:=s4.heap.push {cls:=.type "slice", data:=.fields #[vl,vu,vt]}}:=by refine wpAny_getItem_list_slice ht.isList (Heap.IsSliceOf.new ..) pl pu pt (by simp) ?_ (by rw[List.size_toArray]<;>omega);rw[PySem.W.krv_pick];refine⟨.ref _,_,I5.laid (t':=s4.toks) (o:=.lst xs.reverse) (λb ob q=>Qi _ q) (Qp _) ?_,rfl,q _ (I5.hok.fresh (Qp _))⟩;exact⟨by rw[List.length_reverse];exact hz,its.reverse,0,r.reverse,Qx _ rfl⟩
 show Uk (model X.prog X.w) X.A (subscriptTail e (.Slice lo hi (some st) p2) (.ref a) (.ref s4.heap.objs.size)) (EP X pins σ Q) X.xe {s4 with heap:=s4.heap.push {cls:=.type "slice", data:=.fields #[vl,vu,vt]}};exact tail_any (ops:=[.ref a,.ref s4.heap.objs.size]) ht.isList.typeIs slot_list_getitem.lookup hg (by with_unfolding_all rfl)
def XG:D->Option Int->Option Int->Option Int->Option D
 |.list xs,none,none,some i=>if i = -1 then some (.list xs.reverse)else none
 |_,_,_,_=>none
def XR(f:M D)(lo hi st:M (Option Int)):M D:=UX f λx=>UX lo λl=>UX hi λh=>UX st λt=>UY (XG x l h t)
theorem F2{lo hi:Option Ui}{st:Ui}{f:M D}{l h t:M (Option Int)}(he:PE X e (tD X.K B G0 f))(hl:PO X lo (tOi X.K B G0 l))(hu:PO X hi (tOi X.K B G0 h))(hst:PO X (some st) (tOi X.K B G0 t)) :
  PE X (.Subscript e (.Slice lo hi (some st) p2) pos) (tD X.K B G0 (XR f l h t)):=
 U5 (Bx he hl hu hst) λσ H Q q=>by
  refine tM.one (R:=Rep X.K) q λv H2 G ρ x k r a=>?_;refine tM.nx (R:=λ_ b c=>b=c) k a λl' H3 G3 ρ3 xl k3 s3 r3 a3=>?_;refine tM.nx (R:=λ_ b c=>b=c) k3 a3 λh' H4 G4 ρ4 xh k4 s4 r4 a4=>?_;refine tM.nx (R:=λ_ b c=>b=c) k4 a4 λt' H5 G5 ρ5 xt k5 s5 r5 a5=>?_;have r3:l'=xl:=r3;have r4:h'=xh:=r4;have r5:t'=xt:=r5;subst r3 r4 r5
  cases x with
  |list xs=>
   cases l' with
   |some _=>exact a5.elim
   |none=>
   cases h' with
   |some _=>exact a5.elim
   |none=>
   cases t' with
   |none=>exact a5.elim
   |some i=>
   obtain⟨ad,vs,rfl,h1,r1⟩:=(((r.mono s3).mono s4).mono s5).lst_inv;by_cases hi:i = -1
   ·subst hi;exact⟨ad,vs,rfl,k5.gh.seq h1,rfl,rfl,rfl,λp hp=>aft.done a5 k5 (Ext.new k5.gh hp) (.lst (SqL.of Ky) (r1.reverse.mono (KU (k5.gh.free hp))))⟩
   ·unfold UY XG at a5;dsimp only at a5;rw[QG hi]at a5;exact a5.elim
  |_=>unfold UY XG at a5;exact a5.elim
def Xd:List D->Option (List D)
 |[.list xs]=>some xs
 |[.tuple xs]=>some xs
 |_=>none
theorem Mq{x l:List D}(h:Xd x=some l):x=[.list l]∨x=[.tuple l]:=by
 unfold Xd at h;split at h
 ·cases h;exact .inl rfl
 ·cases h;exact .inr rfl
 ·cases h
theorem R9:bootBuiltins "list" = some (.type "list"):=by decide +kernel
theorem E4{f:M (List D)}(hg:Gl X "list")(hm:X.mg "list" = none)(ha:PA X [a] (tDs X.K B G0 f))(he:Ul [a] X.env=(false,eval a X.env)::Ul [] X.env:=by rfl) :
  PE X (.Call (.Name "list" p2) [a] [] pos) (tL X.K B G0 (UX f λxs=>UY (Xd xs))):=
 U5 (TK MJ hg hm R9 ha (by decide) (by decide) he rfl) λσ H Q ⟨G,ρ,k,q⟩=>by
  refine⟨G,ρ,k,?_⟩;unfold UX at q;cases z:f ρ with
  |bad=>rw[z]at q;exact q.elim
  |ok xs ρ1=>
   rw[z]at q;dsimp only[UY]at q;intro vs G' H' k' s' r;cases z2:Xd xs with
   |none=>rw[z2]at q;exact q.elim
   |some l=>
    rw[z2]at q;rcases Mq z2 with rfl|rfl
    ·obtain⟨v,rfl,q1⟩:=r.one_inv;obtain⟨p,ws,rfl,h1,r1⟩:=q1.lst_inv;exact⟨p,ws,rfl,.inl (k'.gh.seq h1),λad hp=>q ad ws G' _ (k'.ext (Ext.hid k'.gh hp)) s' (NewL.of k' hp r1)⟩
    ·obtain⟨v,rfl,q1⟩:=r.one_inv;obtain⟨p,ws,rfl,h1,r1⟩:=q1.tup_inv;exact⟨p,ws,rfl,.inr (Z5 k'.gh h1),λad hp=>q ad ws G' _ (k'.ext (Ext.hid k'.gh hp)) s' (NewL.of k' hp r1)⟩
def To(i:Nat):M (List D):=λρ=>match ρ[i]? with
 |some (some (.pub d))=>UY (Xd [d]) ρ
 |some (some (.own ds))=>.ok ds ρ
 |_=>.bad
theorem Bw{i:Nat}(hg:Gl X "list")(hm:X.mg "list" = none)(ho:PE X a (KO i))(he:Ul [a] X.env=(false,eval a X.env)::Ul [] X.env:=by rfl) :
  PE X (.Call (.Name "list" p2) [a] [] pos) (tL X.K B G0 (To i)):=
 U5 (TK MJ hg hm R9 (Xk ho Xp he) (by decide) (by decide) he rfl) λσ H Q ⟨G,ρ,k,q⟩=>by
  unfold To at q;cases z:ρ[i]? with
  |none=>rw[z]at q;exact q.elim
  |some oo=>
   cases oo with
   |none=>rw[z]at q;exact q.elim
   |some sl=>
    cases sl with
    |deep _ _=>rw[z]at q;exact q.elim
    |own ds=>rw[z]at q;dsimp only at q;obtain⟨ad,vs,h1,h2,h3,h4,h5⟩:=k.own i ds z;exact⟨.ref ad,h1,ad,vs,rfl,.inl (SqL.of h4),λl hp=>q l vs G _ (k.ext (Ext.hid k.gh hp)) (.refl _) (NewL.of k hp h5)⟩
    |pub d=>
     rw[z]at q;dsimp only[UY]at q;obtain⟨v,h1,h2⟩:=k.pub i d z;cases z2:Xd [d]with
     |none=>rw[z2]at q;exact q.elim
     |some l=>
      rw[z2]at q;dsimp only at q;rcases Mq z2 with e|e
      ·cases e;obtain⟨p,ws,rfl,g1,r1⟩:=h2.lst_inv;exact⟨_,h1,p,ws,rfl,.inl (k.gh.seq g1),λad hp=>q ad ws G _ (k.ext (Ext.hid k.gh hp)) (.refl _) (NewL.of k hp r1)⟩
      ·cases e;obtain⟨p,ws,rfl,g1,r1⟩:=h2.tup_inv;exact⟨_,h1,p,ws,rfl,.inr (Z5 k.gh g1),λad hp=>q ad ws G _ (k.ext (Ext.hid k.gh hp)) (.refl _) (NewL.of k hp r1)⟩
def Td:List D->Option D
 |[.int i]=>some (.int i)
 |[.bool b]=>some (.int (if b then 1 else 0))
 |_=>none
theorem HM:Z1 X (.type "int") Td:=by
 refine⟨_,CZ,λvs G H ds d Q s r e k=>?_⟩;unfold Td at e;split at e
 ·cases e;obtain⟨v,rfl,q⟩:=r.one_inv;rw[q.int_inv];exact .inl ⟨_,rfl,k _ G H (.refl s) (.int _)⟩
 ·cases e;obtain⟨v,rfl,q⟩:=r.one_inv;rw[q.bl_inv];exact .inr ⟨_,rfl,k _ G H (.refl s) (.int _)⟩
 ·cases e
theorem M5{x:Str}{zs:List Str}(hg:Gl X x)(hm:∃ad o its n,X.mg x=some (.ref ad)/\X.K.lookup ad=some o/\o.cls=.type "tuple" /\ o.data=.seq its n/\its.size<=Uj/\Vals (zs.map V.str) its.toList)(hd:(x==("__debug__" : Str))=false:=by decide) :
  PE X (.Name x pos) (tD X.K B G0 (UK (.tuple (zs.map Us)))):=by
 obtain⟨ad,o,its,n,hm,h1,h2,h3,h4,h5⟩:=hm;refine U5 (OZ (v:=.ref ad) hg hm rfl hd) λσ H Q ⟨G,ρ,k,a⟩=>aft.now a k (.tup (.inr ⟨o,its,n,h1,h2,h3,h4,h5⟩) ?_)
 have:∀zs:List Str,Reps X.K G (zs.map V.str) (zs.map Us):=λzs=>by
  induction zs with
  |nil=>exact .nil
  |cons z r ih=>exact .cons (.str _) ih
 exact this zs
end
section
variable{X:Cx}{B G0:Hp}{e o a b c tg:Ui}{pos p2 p3 p4:Pos}{es rest:List Ui}{te to ti:TE}
theorem Xw:∀{ns:List Int}{us:List Ud},Vals (ns.map V.int) us->PyProof.Rows.IntsAre us ns
 |[],_,.nil=>.nil
 |n::ns,_,.cons h t=>by obtain⟨tk,rfl⟩:=h;exact .cons n tk (Xw t)
def Zk(ns:List Int):Nat:=(PyProof.Rows.firstMet (λi=>ns.getD i 0) ns.length).length
theorem Bv(hc:X.calm=true):ZN X (.type "set") (λxs H Q=>∃l,∃ns:List Int,xs=[.ref l]/\SqL X.K H l (ns.map V.int)/\ns.length+1<4096/\∀S p,H p=none->Q (.ref p) (upd H p (.set S (Zk ns)))):=by
 intro pins s σ H xs us Q I rx h;obtain⟨l,ns,rfl,hq,hb,q⟩:=h;obtain⟨u,rfl,ru⟩:=rx.one;cases ru;obtain⟨its,rv,p,hz⟩:=I.list hq;have hi:=Xw rv;have hn:its.toArray.size=ns.length:=by have:=rv.length;rw[List.length_map]at this;simp;omega
 refine call_set_list (I.ok.hd hc) p.isList (ns:=ns) (by simpa using hi) (by rw[hn];exact hb) λh' tk hS hk=>?_
 rw[hn]at hS;refine⟨.ref s.heap.objs.size,_,I.laid (t':=tk) (λb o e=>hk b o (Qh e) e) (Qp _) (show K2 X.prog X.w _ h' _ (.set _ (Zk ns))from hS),rfl,q _ _ (I.hok.fresh (Qp _))⟩
theorem NY:ZN X (.builtin "len") (λxs H Q=>∃p S n,xs=[.ref p]/\H p=some (.set S n)/\Q (.int n) H):=by
 intro pins s σ H xs us Q I rx h;obtain⟨p,S,n,rfl,hp,q⟩:=h;obtain⟨u,rfl,ru⟩:=rx.one;cases ru;obtain⟨o,es,ep,t,h1,h2,h3,h4,h5,h6,h7,h8⟩:=(show s.heap.SetOf (intKind X.prog X.w) p S n from I.hok p _ hp)
 have hsb:scanBound=4096:=rfl;refine call_len_set h1 h2 h3 h7 (by omega) ?_;rw[h8];exact⟨.int n,H,I.tok _,⟨_,rfl⟩,q⟩
def Zu:List D->Option (List Int)
 |[]=>some []
 |.int i::r=>(Zu r).map (i :: ·)
 |_=>none
theorem VW{K:Frag}{G:Hp}:∀{vs:List V}{ds:List D}{ns:List Int},Reps K G vs ds->Zu ds=some ns->vs=ns.map V.int
 |_,_,ns,.nil,e=>by cases e;rfl
 |_,_,ns,.cons (d:=d) r t,e=>by
  cases d with
  |int b=>
   unfold Zu at e;cases z:Zu _ with
   |none=>rw[z]at e;cases e
   |some cs=>rw[z]at e;cases e;rw[r.int_inv,VW t z];rfl
  |_=>cases e
theorem VY(ns:List Int):Zu (ns.map int)=some ns:=by
 induction ns with
 |nil=>rfl
 |cons b r ih=>rw[Qv,Zu,ih];rfl
def Xx:List D->Option D
 |[.list ds]=>(match Zu ds with
  |some ns=>if ns.length+1<4096 then some (.int (Zk ns))else none
  |none=>none)
 |_=>none
theorem AK{xs:List D}{d:D}(h:Xx xs=some d):∃ds ns,xs=[.list ds]/\Zu ds=some ns/\ns.length+1<4096/\d=.int (Zk ns):=by
 unfold Xx at h;split at h
 ·rename_i ds;cases z:Zu ds with
  |none=>rw[z]at h;cases h
  |some ns=>
   rw[z]at h;dsimp only at h;split at h
   ·rename_i c;cases h;exact⟨ds,ns,rfl,z,c,rfl⟩
   ·cases h
 ·cases h
theorem Bu:bootBuiltins "set" = some (.type "set"):=by decide +kernel
theorem B5{f:M (List D)}(hc:X.calm=true)(hg:Gl X "len")(hm:X.mg "len" = none)(hg2:Gl X "set")(hm2:X.mg "set" = none)(ha:PA X [a] (tDs X.K B G0 f))(he:Ul [a] X.env=(false,eval a X.env)::Ul [] X.env:=by rfl)
  (he2:Ul [.Call (.Name "set" p2) [a] [] p3] X.env=(false,eval (.Call (.Name "set" p2) [a] [] p3) X.env)::Ul [] X.env:=by rfl) :
  PE X (.Call (.Name "len" p4) [.Call (.Name "set" p2) [a] [] p3] [] pos) (tD X.K B G0 (K1 Xx f)):=
 U5 (Tx NY hg hm boot_len (Xk (TK (Bv hc) hg2 hm2 Bu ha (by decide) (by decide) he rfl) Xp he2) (by decide) (by decide) he2 rfl) λσ H Q q=>tM.one (R:=Reps X.K) q λvs H2 G ρ x k r a=>by obtain⟨d,e,a⟩:=a.opt;obtain⟨ds,ns,rfl,z,c,rfl⟩:=AK e;obtain⟨v,rfl,q1⟩:=r.one_inv;obtain⟨l,ws,rfl,h1,r1⟩:=q1.lst_inv;have:=VW r1 z;subst this;refine⟨l,ns,rfl,k.gh.seq h1,c,λS p hp=>⟨p,S,Zk ns,rfl,Ky,?_⟩⟩;exact aft.done a k (Ext.hid k.gh hp) (.int _)
end
end DL
namespace L2
open PySem PySem.Spec PyProof.Rows
end L2
namespace DL
open PySem PySem.Spec L2
open PyProof.Rows hiding St
end DL
namespace L2
open PySem PySem.Spec PyProof.Rows
section
variable{prog:Uf}{w:World}{A:Around}{E:Ud->Ue->Prop}{s:Ue}{M:Model}{env:Env}
theorem F1{pos:Pos}{T:String}{args:List (Bool×Sem Ud)}{kws:List (Option Str×Sem Ud)}{Q:Ud->Ue->Prop}(hp:args.any (·.1)=false)(hk:kws.any (·.1.isNone)=false)
  (h:Uk M A (evalArgs (.type T) true args kws) (λa s1=>Uk M A (call (.type T) a.pos a.kw) Q E s1) E s):Uk M A (callWith pos (.type T) [] args kws) Q E s:=by
 unfold callWith;refine Qe (wpAny_holding (QA h (λa s1 h1=>Qe (Q8 ?_)) λ_ _ z=>z));simp only[hp,hk,Bool.false_or];refine Qe (Qk ?_);exact Qe (QA h1 (λr s2 hr=>Qe (wpAny_holding (wpAny_point (Qk hr)))) λ_ _ z=>z)
theorem E3(l:Ug)(t:Tok)(items:Array Ud)(n:Nat)(dct:Option Ug)(sl:Array (Option Ud)) :
  Meets (Builtin.«enumerate.__new__» ⟨[.type "enumerate", .ref l],[("start", .int 1 t)]⟩) (λ_ R s=>s.heap.get? l=some ⟨.type "list", dct,.seq items n,sl⟩ /\
   R (.ok (.ret (.ref (s.heap.push {cls:=.type "list_iterator", data:=.fields #[.ref l,.int 0 0]}).objs.size))) {s with heap:=(s.heap.push {cls:=.type "list_iterator", data:=.fields #[.ref l,.int 0 0]}).push {cls:=.type "enumerate", data:=.fields #[.none,.bool false,.ref s.heap.objs.size,rawInt 1,.none,.none]}}):=
 .of_wp λprog w A R s h=>by
  obtain⟨hp,g,d,tk,os⟩:=s;obtain⟨hl,h⟩:=h;have hsub:=sub_enumerate;have hL:Heap.IsList (Shared.heap ⟨hp,g,d,tk,os⟩) l items:=⟨_,hl,rfl,n,rfl⟩
  wp_walk using AutoSeq1.wpAny_loadPart' hl
  refine wpAny_stack_any λst=>(Qk ?_);split
  ·rename_i c _ _ _ _ _;cases (c==Value.type "enumerate")<;>(wp_walk using(AutoSeq1.wpAny_loadPart' hl),(Jw hL))<;>exact⟨_,rfl,h⟩
  ·(wp_walk using(AutoSeq1.wpAny_loadPart' hl),(Jw hL));exact⟨_,rfl,h⟩
theorem AM{T newId initId:String}{Bn Bi:Builtin}{args:List Ud}{kw:List (Str×Ud)}{S:PySem.Spec}{Q Q1:Ud->Ue->Prop}(ft:TypeCalled T newId initId)
  (hct:checkTypeCall T ⟨args,kw⟩=pure ()) (hcn:checkBuiltinCall newId ⟨.type T::args,kw⟩=pure ()) (eN:entryFor table newId=some Bn) (eI:entryFor table initId=some Bi)
  (g:Meets (Bn ⟨.type T::args,kw⟩) S) (h:S A.in1 (wants Q1 E) s)
  (hnext:∀obj s1,Q1 obj s1->s1.TypeIs obj T/\argsOk initId ⟨obj::args,kw⟩/\∃Si,Meets (Bi ⟨obj::args,kw⟩) Si/\Si A.in1 (wants (λr s2=>r=.none/\Q obj s2) E) s1) :
  Uk (model prog w) A (call (.type T) args kw) Q E s:=by
 obtain⟨c,tl,hmro⟩:=ft.mro;have hmade:=ft.made;have hsub:=ft.sub;refine wpAny_call (codeAny_of_tree ?_);show Uk _ _ (callAny (.type T) _) _ _ _;refine Qk ⟨Code.quiet_builtin _ (by decide +kernel),(codeAny_builtin F.entry_type_call ?_)⟩;rw[Around.under_plain (weight_type_call_type T args kw) (units_type_call_type T args kw)];have h1:=ft.notType;have h2:=ft.canCreate
 repeat' (any_goals (first|wp_step|assumption))
 refine codeAny_mono (codeAny_call_builtin ft.plain eN (wpAny_of_eq hcn (g prog w A.in1 _ s h))) λr s1 hr=>?_
 match r,hr with
 |.error e,hr=>exact hr
 |.ok (.ret obj),hr=>
  obtain⟨hT,hok,Si,gi,hsi⟩:=hnext _ _ hr;have hli:=ft.init.lookup;have hbi:=ft.init.bind obj
  repeat' (any_goals (first|wp_step|assumption))
  refine codeAny_mono (codeAny_call_builtin ft.init.plain eI (ft.init.check _ _ _ _ _ _ _ _ hT hok (gi prog w A.in1 _ s1 hsi))) λr2 s2 hr2=>?_
  match r2,hr2 with
  |.error e,hr2=>exact hr2
  |.ok (.ret r),hr2=>
   obtain⟨rfl,hq⟩:=hr2
   repeat' (any_goals (first|wp_step|assumption))
  |.ok .next,hr2=>exact hr2.elim
  |.ok .brk,hr2=>exact hr2.elim
  |.ok .cont,hr2=>exact hr2.elim
 |.ok .next,hr=>exact hr.elim
 |.ok .brk,hr=>exact hr.elim
 |.ok .cont,hr=>exact hr.elim
theorem AJ{T newId:String}{self:Ud}{rest:List Ud}{kw:List (Str×Ud)}(hl:typeLookup (.type T) "__init__" = pure (some (.builtin "object.__init__")))
  (hm:Bind.madeBy (.type T)=pure (some newId)) (hne:(some newId != some "object.__new__")=true) :
  Meets (Builtin.«object.__init__» ⟨self::rest,kw⟩) (λ_ R s=>s.TypeIs self T/\R (.ok (.ret .none)) s):=by
 refine .of_wp λprog w A R s hs=>?_
 obtain⟨hT,hq⟩:=hs;cases rest with
 |nil=>
  cases kw with
  |nil=>exact Qk ⟨_,rfl,hq⟩
  |cons k kw=>(repeat' (any_goals (first|wp_step|assumption)));exact⟨_,rfl,hq⟩
 |cons a rest=>(repeat' (any_goals (first|wp_step|assumption)));exact⟨_,rfl,hq⟩
theorem AI(a:Ud)(t:Tok):checkTypeCall "enumerate" ⟨[a],[("start", .int 1 t)]⟩=pure ():=by kernel_rfl
theorem B4(a:Ud)(t:Tok):checkBuiltinCall "enumerate.__new__" ⟨[.type "enumerate", a],[("start", .int 1 t)]⟩=pure ():=by kernel_rfl
theorem AH(o a:Ud)(t:Tok):argsOk "object.__init__" ⟨[o,a],[("start", .int 1 t)]⟩:=by unfold argsOk;kernel_rfl
theorem B3{l:Ug}{items:Array Ud}{t:Tok}{Q:Ud->Ue->Prop}(hL:s.heap.IsList l items)
  (h:∀h',IsEnum h' (s.heap.objs.size+1) s.heap.objs.size 1 .none->h'.IsListIter s.heap.objs.size l 0->(∀b o,s.heap.get? b=some o->h'.get? b=some o)->Q (.ref (s.heap.objs.size+1)) {s with heap:=h'}) :
  Uk (model prog w) A (call (.type "enumerate") [.ref l] [("start", .int 1 t)]) Q E s:=by
 obtain⟨⟨c,dct,dt,sl⟩,hl,hc,n,hd⟩:=hL;replace hc:c=.type "list" :=hc;replace hd:dt=.seq items n:=hd;subst hc hd;have hz:(s.heap.push {cls:=.type "list_iterator", data:=.fields #[.ref l,.int 0 0]}).objs.size=s.heap.objs.size+1:=Heap.size_push ..;have he:IsEnum ((s.heap.push {cls:=.type "list_iterator", data:=.fields #[.ref l,.int 0 0]}).push {cls:=.type "enumerate", data:=.fields #[.none,.bool false,.ref s.heap.objs.size,rawInt 1,.none,.none]}) (s.heap.objs.size+1) s.heap.objs.size 1 .none:=by rw[←hz];exact Qx _ rfl
 refine AM F.called_enumerate (AI _ t) (B4 _ t) F.entry_enumerate_new F.entry_object_init (E3 l t items n dct sl) (Q1:=λobj s1=>s1.TypeIs obj "enumerate" /\ Q obj s1) ⟨hl,?_⟩ λobj s1 hq=>
  ⟨hq.1,AH obj _ t,_,AJ F.called_enumerate.init.lookup F.called_enumerate.made (by decide),hq.1,rfl,hq.2⟩
 show _/\_;rw[hz];exact⟨⟨_,he,rfl⟩,h _ he ⟨_,Qi _ (Qx _ rfl),rfl,rfl⟩ λb o x=>Qi _ (Qi _ x)⟩
end
section
variable{prog:Uf}{w:World}{A:Around}{E:Ud->Ue->Prop}{s:Ue}
theorem Bt{en it l:Ug}{i:Nat}{j:Int}{items:Array Ud}{x old:Ud}{Q:Option Ud->Ue->Prop}(st:IsEnum s.heap en it j old)(li:s.heap.IsListIter it l i)(ls:s.heap.IsList l items)
  (at_:items[i]?=some x) (ne:en≠it)
  (k:∀h',IsEnumOut h' en it (j+1) x s.heap.objs.size->h'.IsListIter it l (i+1)->h'.get? s.heap.objs.size=some {cls:=.type "tuple", data:=.seq #[.int j s.toks,x]}->(∀b o,b≠en->b≠it->s.heap.get? b=some o->h'.get? b=some o) ->
   Q (some (.ref s.heap.objs.size)) {s with heap:=h',toks:=s.toks+1}):Uk (model prog w) A (pyNext (.ref en)) Q E s:=by
 have ty:s.TypeIs (.ref en) "enumerate" :=⟨_,st,rfl⟩
 have lt:en<s.heap.objs.size:=Qh st;unfold pyNext;refine Qe (wpAny_attempt (wpAny_callSpecial?_slot (name:=Uy "__next__") ty F.slot_enumerate_next (wpAny_call_entry F.slot_enumerate_next ty F.entry_enumerate_next ?_ (F.args_enumerate_next_1 _))));show Uk _ _ (field (.ref en) 2 >>= _) _ _ s;refine Qe (wpAny_field st rfl (x:=.ref it) rfl ?_);refine Qe (wpAny_nextOf_list_item li ls at_ λm1 li1 c1=>?_);have c1:Heap.SameBut it s.heap m1:=c1;have st1:IsEnum m1 en it j old:=(c1.2 en ne).trans st;show Uk _ _ (field (.ref en) 3 >>= _) _ _ {s with heap:=m1};refine Qe (wpAny_field st1 rfl (x:=rawInt j) rfl ?_);show Uk _ _ (field (.ref en) 4 >>= _) _ _ {s with heap:=m1};refine Qe (wpAny_field st1 rfl (x:=.none) rfl ?_);show Uk _ _ (mkInt j >>= _) _ _ {s with heap:=m1};refine Qe (wpAny_mkInt ?_);show Uk _ _ (setField (.ref en) 3 (rawInt (j+1)) >>= _) _ _ {s with heap:=m1,toks:=s.toks+1};refine wpAny_bind (wpAny_setField_rec st1 (by simp) λm2 st2 c2=>?_);have c2:Heap.SameBut en m1 m2:=c2;have st2:IsEnum m2 en it (j+1) old:=st2;show Uk _ _ (setField (.ref en) 4 .none >>= _) _ _ {s with heap:=m2,toks:=s.toks+1};refine wpAny_bind (wpAny_setField_rec st2 (by simp) λm3 st3 c3=>?_);have c3:Heap.SameBut en m2 m3:=c3;have st3:IsEnum m3 en it (j+1) old:=st3;show Uk _ _ (newTuple [.int j s.toks,x] >>= _) _ _ {s with heap:=m3,toks:=s.toks+1};refine Qe (wpAny_newTuple ?_);have z3:m3.objs.size=s.heap.objs.size:=c3.1.trans (c2.1.trans c1.1);have st4:IsEnum (m3.push {cls:=.type "tuple", data:=.seq #[.int j s.toks,x]}) en it (j+1) old:=Qi _ (show IsEnum m3 en it (j+1) old from st3);have tp4:(m3.push {cls:=.type "tuple", data:=.seq #[.int j s.toks,x]}).get? s.heap.objs.size=some {cls:=.type "tuple", data:=.seq #[.int j s.toks,x]}:=by rw[←z3];exact Qx _ rfl
 have kp4:∀b o,b≠en->b≠it->s.heap.get? b=some o->(m3.push {cls:=.type "tuple", data:=.seq #[.int j s.toks,x]}).get? b=some o:=λb o n1 n2 q=>Qi _ ((c3.2 b n1).trans ((c2.2 b n1).trans ((c1.2 b n2).trans q)))
 have li4:(m3.push {cls:=.type "tuple", data:=.seq #[.int j s.toks,x]}).IsListIter it l (i+1):=by obtain⟨o,q,r⟩:=li1;exact⟨o,Qi _ ((c3.2 it (Ne.symm ne)).trans ((c2.2 it (Ne.symm ne)).trans q)),r⟩
 generalize m3.push {cls:=.type "tuple", data:=.seq #[.int j s.toks,x]}=m4 at st4 tp4 kp4 li4;show Uk _ _ (Builtin.SmallTypes.ownedTupleIsFree (.ref en) >>= _) _ _ {s with heap:=m4,toks:=s.toks+1};rw[z3];refine Qe ?_;unfold Builtin.SmallTypes.ownedTupleIsFree Builtin.SmallTypes.ownedTupleHandOut;refine Qe (wpAny_field st4 rfl (x:=.none) rfl (Qk ?_));simp only[if_true];refine wpAny_bind (wpAny_rule (wpAny_bind (wpAny_field st4 rfl (x:=old) rfl (wpAny_bind (wpAny_setField_rec st4 (by simp) λm5 st5 c5=>?_)))));have c5:Heap.SameBut en m4 m5:=c5;have st5:IsEnum m5 en it (j+1) x:=st5;refine wpAny_bind (wpAny_bind (wpAny_setField_rec st5 (by simp) λm6 st6 c6=>?_));have c6:Heap.SameBut en m5 m6:=c6;have st6:IsEnumOut m6 en it (j+1) x s.heap.objs.size:=st6;refine wpAny_setField_rec st6 (by simp) λm7 st7 c7=>?_
 have c7:Heap.SameBut en m6 m7:=c7;have st7:IsEnumOut m7 en it (j+1) x s.heap.objs.size:=st7;have up:∀b,b≠en->m7.get? b=m4.get? b:=λb n=>(c7.2 b n).trans ((c6.2 b n).trans (c5.2 b n));refine Qe (wpAny_letGo (Qk ⟨_,rfl,Qk (k m7 st7 ?_ ((up _ (Jx lt)).trans tp4) λb o n1 n2 q=>(up b n1).trans (kp4 b o n1 n2 q))⟩))
 obtain⟨o,q,r⟩:=li4;exact⟨o,(up it (Ne.symm ne)).trans q,r⟩
theorem Bs{en it l:Ug}{i:Nat}{j:Int}{items:Array Ud}{old:Ud}{Q:Option Ud->Ue->Prop}(hh:A.handled=none)(st:IsEnum s.heap en it j old)(li:s.heap.IsListIter it l i)(ls:s.heap.IsList l items)
  (at_:items[i]?=none) (k:∀h',Heap.ExtBut it s.heap h'->Q none {s with heap:=h'}):Uk (model prog w) A (pyNext (.ref en)) Q E s:=by
 have ty:s.TypeIs (.ref en) "enumerate" :=⟨_,st,rfl⟩
 unfold pyNext;refine Qe (wpAny_attempt (wpAny_callSpecial?_slot (name:=Uy "__next__") ty F.slot_enumerate_next (wpAny_call_entry F.slot_enumerate_next ty F.entry_enumerate_next ?_ (F.args_enumerate_next_1 _))));show Uk _ _ (field (.ref en) 2 >>= _) _ _ s;refine Qe (wpAny_field st rfl (x:=.ref it) rfl (Qe (m:=Builtin.SmallTypes.nextOf (.ref it)) (wpAny_nextOf_list_end hh li ls at_ λh' z c y=>?_)));obtain⟨o,q,t⟩:=y;exact Qe (wpAny_isInstance (T:= "StopIteration") (b:=true) ⟨o,q,t⟩ isSubtype_stop (Qk (k _ c)))
end
def Vx(K:Frag)(a:Ug):It:=
 ⟨λi H=>∃xs x,SqL K H a xs/\xs[i]?=some x,
  λi H v H'=>∃p x,H p=none/\v=.ref p/\(∀xs,SqL K H a xs->xs[i]?=some x)/\H'=upd H p (.tup [.int (1+(i:Int)),x]),
  λi H=>∃xs,SqL K H a xs/\xs.length<=i⟩
theorem B2{P:Uf}{w:World}{K:Frag}{elts:List Ui}{x1}{tp:Pos}(a e it:Ug)(hne:e≠it) :
  Turn P w K (.Tuple elts x1 tp) (Vx K a) [e,it] e (λi h=>(∃old,IsEnum h e it (1+(i:Int)) old)/\h.IsListIter it a i) where
 mem:=by simp
 obj:=λi h st b hb=>by
  obtain⟨⟨old,he⟩,o,ho,c,d⟩:=st;have hb':b=e∨b=it:=by simpa using hb
  rcases hb' with rfl|rfl
  ·exact⟨_,he,λv z=>by have z':Data.fields _=Data.cell v:=z;cases z'⟩
  ·exact⟨o,ho,λv z=>by rw[d]at z;cases z⟩
 keep:=λi h h' st k=>by obtain⟨⟨old,he⟩,hi⟩:=st;exact⟨⟨old,k e (by simp) _ he⟩,hi.at λo q=>k it (by simp) o q⟩
 item:=by
  intro X hP hw hK hc i pins s σ H E I hf st hg;subst hP hw hK;obtain⟨⟨old,he⟩,hi⟩:=st;obtain⟨xs,x,hq,hx⟩:=hg;obtain⟨its,rv,p,hz⟩:=I.list hq;obtain⟨u,hu,ru⟩:=rv.get hx;refine Bt he hi p.isList (x:=u) (by simpa using hu) hne λh1 out hi1 ht kk=>?_
  refine⟨_,rfl,wpAny_letOwnedTupleGo_enum out λh2 he2 hs2=>?_⟩;have hel:e<s.heap.objs.size:=Qh he;have hs2':Heap.SameBut e h1 h2:=hs2;have ht2:h2.get? s.heap.objs.size=some {cls:=.type "tuple", data:=.seq #[.int (1+(i:Int)) s.toks,u]}:=(hs2'.2 _ (Jx hel)).trans ht
  have kk2:∀b o,b∉[e,it]->s.heap.get? b=some o->h2.get? b=some o:=λb o hb q=>by
   have hbe:b≠e:=λz=>hb (by simp[z])
   have hbi:b≠it:=λz=>hb (by simp[z])
   exact(hs2'.2 b hbe).trans (kk b o hbe hbi q)
  have hn:H s.heap.objs.size=none:=I.hok.fresh (Qp _)
  have I2:Inv X pins σ (upd H s.heap.objs.size (.tup [.int (1+(i:Int)),x])) {s with heap:=h2,toks:=s.toks+1}:=
   I.turnedNew (fp:=[e,it]) hf kk2 (Qp _) ⟨by show 2<=Uj;decide,[.int (1+(i:Int)) s.toks,u],.cons ⟨_,rfl⟩ (.cons ru .nil),⟨_,ht2,rfl,_,rfl⟩⟩
  refine⟨.ref s.heap.objs.size,_,I2,rfl,⟨_,x,hn,rfl,λys hy=>by rw[I.list_inj hy hq];exact hx,rfl⟩,⟨⟨u,?_⟩,?_⟩,λb hb=>?_⟩
  ·have e2:(1+((i+1:Nat):Int))=1+(i:Int)+1:=by omega
   rw[e2];exact he2
  ·exact hi1.at λo q=>(hs2'.2 it (Ne.symm hne)).trans q
  ·have hlt:b<s.heap.objs.size:=by
    have hb':b=e∨b=it:=by simpa using hb
    rcases hb' with rfl|rfl
    ·exact hel
    ·obtain⟨o,ho,_⟩:=hi;exact Qh ho
   rw[Kb (QI hlt)];exact(hf b hb).1
 done:=by intro X hP hw hK hc i pins s σ H E I hf st hg;subst hP hw hK;obtain⟨⟨old,he⟩,hi⟩:=st;obtain⟨xs,hq,hx⟩:=hg;obtain⟨its,rv,p,hz⟩:=I.list hq;have hl:=rv.length;exact Bs (I.ok.hd hc) he hi p.isList (by simp;omega) λh' eb=>⟨rfl,I.turnedL (t':=s.toks) hf λb o hb q=>eb b o (λz=>hb (by simp[z])) q⟩
 self:=λ_ _ _ _ _ st h=>by obtain⟨⟨old,he⟩,_⟩:=st;exact wpAny_pyIter_enum he h
section
variable{X:Cx}
theorem E2{a:Ui}{ta:TA}{p pos k1 k2:Pos}{j}{elts:List Ui}{x1}{tp:Pos}(hg:Gl X "enumerate")(hm:X.mg "enumerate" = none)(ha:PA X [a] ta)
  (hs:backTo pos (Ul [a] X.env)=(false,eval a X.env)::backTo pos (Ul [] X.env):=by rfl) (hpl:(backTo pos (Ul [a] X.env)).any (·.1)=false:=by rfl) :
  PI X (.Tuple elts x1 tp) (.Call (.Name "enumerate" p) [a] [⟨some "start", .Constant (.int 1) j k1,k2⟩] pos) (λσ H R=>ta σ H λvs H1=>∃a xs,vs=[.ref a]/\SqL X.K H1 a xs/\R (Vx X.K a) H1):=by
 intro pins s σ H R I h;refine wpAny_Call_Name_kw (Wu I hg hm boot_enumerate (F1 hpl rfl ?_));rw[hs];refine evalArgs_kwB rfl ?_;rw[←hs];refine thn (ha pos pins s σ H _ I h) λus s1 ⟨vs,H1,I1,r1,q1⟩=>?_;refine kws_cons (wpAny_Constant_int (kws_nil ?_))
 obtain⟨l,xs,e,hq,q⟩:=q1;subst e;cases r1 with
 |cons r rr=>
  cases rr;cases (show _=Value.ref l from r);have I1':=I1.tok (s1.toks+1);obtain⟨its,rv,pl,hz⟩:=I1'.list hq;refine B3 pl.isList λh' he hi kk=>?_;have I2:Inv X pins σ H1 {s1 with heap:=h',toks:=s1.toks+1}:=I1'.kept (t':=s1.toks+1) kk;refine wpAny_pyIter_enum he ?_
  refine⟨s1.heap.objs.size+1,[s1.heap.objs.size+1,s1.heap.objs.size],_,_,H1,rfl,I2,B2 l _ _ (Nat.succ_ne_self _),⟨⟨_,he⟩,hi⟩,λb hb=>?_,q⟩;have hb':b=s1.heap.objs.size+1∨b=s1.heap.objs.size:=by simpa using hb
  rcases hb' with rfl|rfl
  ·exact I1.fpOk (JO _) (I1.hok.fresh (JO _))
  ·exact I1.fpOk (Qp _) (I1.hok.fresh (Qp _))
end
end L2
namespace DL
open PySem PySem.Spec L2
open PyProof.Rows hiding St
section
variable{X:Cx}{B G0:Hp}{e a b c tg:Ui}{pos:Pos}{es rest:List Ui}
theorem AG{K:Frag}{G1:Hp}{ad:Ug}{vs:List V}{ds:List D}(h:SqL K G1 ad vs)(r:Reps K G1 vs ds):Yi K (Vx K ad) (Zx 1 ds) G1 where
 go:=λi G H s1 s2 hi=>by
  rw[Ym]at hi;have hi':i<vs.length:=by rw[r.length];exact hi
  exact⟨vs,vs[i],(s1.trans s2).seq h,Qd hi'⟩
 stop:=λi G H s1 s2 hi=>by rw[Ym]at hi;exact⟨vs,(s1.trans s2).seq h,by rw[r.length];exact hi⟩
 yld:=λi G H x H' d s1 s2 e y=>by
  obtain⟨p,v,hp,rfl,y1,rfl⟩:=y;have z1:=y1 vs ((s1.trans s2).seq h);rw[RR]at e;cases q:ds[i]? with
  |none=>rw[q]at e;cases e
  |some dd=>
   rw[q]at e;cases e;obtain⟨v',e1,r1⟩:=r.get q;rw[z1]at e1;cases e1;refine⟨upd G p (.tup [.int (1+(i:Int)),v]),Ext.new s2 hp,.tup (SqT.of Ky) (.cons ?_ (.cons ((r1.mono s1).mono (KU (s2.free hp))) .nil))⟩;have:((1+i:Nat):Int)=1+(i:Int):=by omega
   rw[this];exact .int _
def VM:List D->Option (List D)
 |[.list ds]=>some (Zx 1 ds)
 |_=>none
def Sb(f:M (List D)):M (List D):=UX f λx=>UY (VM x)
theorem B0{x l:List D}(h:VM x=some l):∃ds,x=[.list ds]/\l=Zx 1 ds:=by
 unfold VM at h;split at h
 ·cases h;exact⟨_,rfl,rfl⟩
 ·cases h
theorem E1{f:M (List D)}{p2 k1 k2:Pos}{j}{elts:List Ui}{x1}{tp:Pos}(hg:Gl X "enumerate")(hm:X.mg "enumerate" = none)(ha:PA X [a] (tDs X.K B G0 f))
  (hs:backTo pos (Ul [a] X.env)=(false,eval a X.env)::backTo pos (Ul [] X.env):=by rfl) (hpl:(backTo pos (Ul [a] X.env)).any (·.1)=false:=by rfl) :
  PI X (.Tuple elts x1 tp) (.Call (.Name "enumerate" p2) [a] [⟨some "start", .Constant (.int 1) j k1,k2⟩] pos) (iD X.K B G0 (Sb f)):=Ys (E2 hg hm ha hs hpl) λσ H R q=>tM.toI (R0:=Reps X.K) q λv H' G' ρ' x k r a=>by
 cases z:VM x with
 |none=>rw[z]at a;exact a.elim
 |some l=>rw[z]at a;obtain⟨ds,rfl,rfl⟩:=B0 z;obtain⟨v,rfl,q⟩:=r.one_inv;obtain⟨l,ws,rfl,h1,r1⟩:=q.lst_inv;exact⟨l,ws,rfl,k.gh.seq h1,a _ G' H' k (.refl _) (AG h1 r1)⟩
end
section
variable{X:Cx}
def most:List Int->Int
 |[]=>0
 |[n]=>n
 |n::r=>if most r > n then most r else n
theorem Su:∀{ns:List Int},0<ns.length->most ns∈ns
 |[n],_=>List.mem_singleton.2 rfl
 |n::m::r,_=>by
  have ih:=Su (ns:=m::r) (Nat.succ_pos _);unfold most;split
  ·exact Qu _ ih
  ·exact Qo ..
theorem Sg:∀{ns:List Int}{a:Int},a∈ns->a<=most ns
 |[n],a,h=>by rw[List.mem_singleton.1 h];exact Jv _
 |n::m::r,a,h=>by
  have ih:∀b,b∈m::r->b<=most (m::r):=λb hb=>Sg hb;unfold most;rcases QR.1 h with e|h
  ·subst e;split<;>omega
  ·have:=ih a h;split<;>omega
theorem O5{ns:List Int}{M:Int}(h1:M∈ns)(h2:∀a,a∈ns->a<=M):most ns=M:=
 J4 (h2 _ (Su (Jy h1))) (Sg h1)
theorem Br(hc:X.calm=true):ZN X (.builtin "max") (λxs H Q=>∃l,∃ns:List Int,xs=[.ref l]/\SqL X.K H l (ns.map V.int)/\0<ns.length/\Q (.int (most ns)) H):=by
 intro pins s σ H xs us Q I rx h;obtain⟨l,ns,rfl,hq,hb,q⟩:=h;obtain⟨u,rfl,ru⟩:=rx.one;cases ru;obtain⟨its,rv,p,hz⟩:=I.list hq;have hi:=Xw rv;obtain⟨ys,e⟩:=hi.allInts.items;have hns:ns=ys.toList.map (·.1):=by rw[←hi.numsOf,←nums_intItems,←e]
 have hsz:0<ys.size:=by rw[hns,Qb,Jo]at hb;exact hb
 have hl:=p.isList;rw[e]at hl;refine max_intList (I.ok.hd hc) hl hsz λv h' tk hv hk=>?_
 obtain⟨t,rfl⟩:=intItems_at hv;obtain⟨h1,h2⟩:=argBest_gt (numAt ys) (ys.size-1);refine⟨.int (most ns),H,I.kept hk,⟨t,?_⟩,q⟩;rw[O5 (M:=_) ?_ ?_]
 ·rw[hns,numAt_eq];exact getD_mem (by rw[Qb,Jo];omega)
 ·intro a ha;rw[hns]at ha;obtain⟨j,hj,rfl⟩:=mem_getD ha;rw[Qb,Jo]at hj;rw[←numAt_eq];exact h2 j (by omega)
def Xm:List D->Option D
 |[.list ds]=>(match Zu ds with
  |some ns=>if 0<ns.length then some (.int (most ns))else none
  |none=>none)
 |_=>none
theorem Bq{xs:List D}{d:D}(h:Xm xs=some d):∃ds ns,xs=[.list ds]/\Zu ds=some ns/\0<ns.length/\d=.int (most ns):=by
 unfold Xm at h;split at h
 ·rename_i ds;cases z:Zu ds with
  |none=>rw[z]at h;cases h
  |some ns=>
   rw[z]at h;dsimp only at h;split at h
   ·rename_i c;cases h;exact⟨ds,ns,rfl,z,c,rfl⟩
   ·cases h
 ·cases h
theorem HL(hc:X.calm=true):Z1 X (.builtin "max") Xm:=by refine⟨_,Br hc,λvs G H ds d Q s r e k=>?_⟩;obtain⟨ds,ns,rfl,z,c,rfl⟩:=Bq e;obtain⟨v,rfl,q1⟩:=r.one_inv;obtain⟨l,ws,rfl,h1,r1⟩:=q1.lst_inv;have:=VW r1 z;subst this;exact⟨l,ns,rfl,s.seq h1,c,k _ G H (.refl s) (.int _)⟩
theorem RE{ns:List Int}(h:0<ns.length):Xm [.list (ns.map .int)]=some (.int (most ns)):=by unfold Xm;simp only[VY,Qq h]
end
section
variable{X:Cx}{B G0:Hp}{e o:Ui}{es:List Ui}
theorem AF{h:Heap}{vs:List Ud}{xs:List D}{as:List Ug}{d:D}(rs:ReadsAll h vs xs as)(hxs:Uu xs=true) :
  vs.countP (λy=>Uw (SeqAt.readOf h y) d)=xs.countP (λy=>Uw y d):=by
 have key:xs=vs.map (SeqAt.readOf h):=(SeqAt.readsAll_map xs vs as hxs rs).symm;rw[key,List.countP_map];rfl
def Ws(y x:D):Option D:=match y with
 |.list ds=>if x.canLay0=true/\Uu ds=true/\x.depth<=60 then some (.int (ds.countP λy=>Uw y x))else none
 |_=>none
theorem EZ(hu:X.A.units+64<cLine):MtR X "list.count" (λv vs H Q=>∃G u y x d,vs=[u]/\Same G H/\Rep X.K G v y/\Rep X.K G u x/\Ws y x=some (.int d)/\Q (.int d) H):=by
 intro pins s σ H x xs v us Q I rx rs h;obtain⟨G,u,dy,dx,d,rfl,sg,py,px,e,q⟩:=h;obtain⟨w,rfl,rw'⟩:=rs.one;unfold Ws at e;split at e
 ·rename_i ds;split at e
  ·rename_i c;obtain⟨bs,rb⟩:=Z7 I sg py rx (show Uu _=true from c.2.1);obtain⟨as,ra⟩:=Z7 I sg px rw' c.1;cases rb with
   |list h1 h2 h3 h4=>rename_i l ob its cs n;obtain⟨cls,dd,data,sl⟩:=ob;simp only at h2 h3;subst h2 h3;refine call_meets F.slot_list_count ⟨_,h1,rfl⟩ F.entry_list_count (F.args_list_count_2 _ _) (SeqAt.list_countAt _ _ _ dd sl _ (λy=>Uw (SeqAt.readOf s.heap y) dx)) ⟨h1,SeqAt.items_eqAt h4 ra c.2.1 c.1 (by have:=c.2.2;omega),?_⟩;rw[AF h4 c.2.1];cases e;exact⟨.int _,H,I.tok _,⟨_,rfl⟩,q⟩
  ·cases e
 ·cases e
def Sf(y:D)(xs:List D):Option D:=match xs with
 |[x]=>Ws y x
 |_=>none
theorem AE{ds xs:List D}{d:D}(h:Sf (.list ds) xs=some d):∃x n,xs=[x]/\d=.int n/\Ws (.list ds) x=some (.int n):=by
 unfold Sf at h;split at h
 ·rename_i x;have h':=h;unfold Ws at h;dsimp only at h;split at h
  ·cases h;exact⟨x,_,rfl,rfl,h'⟩
  ·cases h
 ·cases h
def VL(f:M D)(g:M (List D)):M D:=UX f λy=>UX g λxs=>UY (match y with | .list ds=>Sf (.list ds) xs|_=>none)
theorem CH{apos cpos:Pos}{f:M D}{g:M (List D)}(hu:X.A.units+64<cLine)(ho:PE X o (tD X.K B G0 f))(ha:PA X (e::es) (tDs X.K B G0 g))
  (hbase:attributeBase o "count" X.env (eval o X.env)=eval o X.env:=by rfl)
  (hfew:((backTo cpos (Ul (e::es) X.env)).all (λx=>!x.1)&&(backToKw cpos (keywordEach [] X.env)).all (λx=>x.1.isSome)
   && decide ((e::es).length+([]:List Keyword).length+(if([]:List Keyword).isEmpty then 0 else 1)<30))=true:=by rfl)
  (hline:(apos.endLine==cpos.line)=true:=by rfl) (hs:Ul (e::es) X.env=(false,eval e X.env)::Ul es X.env:=by rfl) (hplain:(backTo cpos (Ul es X.env)).any (·.1)=false:=by rfl) :
  PE X (.Call (.Attribute o "count" apos) (e::es) [] cpos) (tD X.K B G0 (VL f g)):=
 U5 (V6 F.plainAttrs_list F.slot_list_count F.type_list_count (EZ hu) ho ha hbase hfew hline hs hplain) λσ H Q q=>by
  refine tM.one (R:=Rep X.K) q λv H2 G ρ y k r a=>?_
  cases y with
  |list ds=>
   obtain⟨l,ws,rfl,h1,r1⟩:=r.lst_inv;refine⟨.inl ⟨rfl,ws,k.gh.seq h1⟩,?_⟩;refine tM.nx (R:=Reps X.K) k a λxs H3 G3 ρ3 es k3 s3 r3 a3=>?_
   obtain⟨d,e,a3⟩:=a3.opt;obtain⟨x,n,rfl,rfl,e'⟩:=AE e;obtain⟨u,rfl,ru⟩:=r3.one_inv;exact⟨G3,u,.list ds,x,n,rfl,k3.gh,r.mono s3,ru,e',aft.now a3 k3 (.int _)⟩
  |_=>
   unfold UX at a;cases z:g ρ with
   |bad=>rw[z]at a;exact a.elim
   |ok xs ρ1=>rw[z]at a;exact a.elim
theorem Nq{f:M D}{g:M (List D)}{ρ ρ1 ρ2:UE}{ds:List D}{x d:D}(h1:f ρ=.ok (.list ds) ρ1)(h2:g ρ1=.ok [x] ρ2)(h3:Ws (.list ds) x=some d):VL f g ρ=.ok d ρ2:=by unfold VL UX;rw[h1];dsimp only;rw[h2];dsimp only[Sf];rw[h3];rfl
end
section
variable{prog:Uf}{w:World}{A:Around}{R:Result->Ue->Prop}{h0:Heap}{l I S:Ug}{rs:List (Ug×List Ud)}
def Yz(h h':Heap):Prop:=∀b o,h.get? b=some o->h'.get? b=some o
def Ls1(h:Heap)(a:Ug)(its:List Ud)(sl:Array (Option Ud)):Prop:=∃n,h.get? a=some {cls:=.type "list", dict:=none,data:=.seq its.toArray n,slots:=sl}
def Ls(h:Heap)(a:Ug)(its:List Ud):Prop:=∃n sl,h.get? a=some {cls:=.type "list", dict:=none,data:=.seq its.toArray n,slots:=sl}
theorem Ls.kept{h h':Heap}{a:Ug}{its:List Ud}(x:Ls h a its)(k:Yz h h'):Ls h' a its:=by obtain⟨n,sl,e⟩:=x;exact⟨n,sl,k _ _ e⟩
theorem BZ(hh:A.in1.handled=none)(hI:h0.objs.size<=I)(hS:h0.objs.size<=S)(hIS:S≠I)(hl:h0.IsList l (rs.map λp=>Value.ref p.1).toArray)(hr:∀p∈rs,Ls h0 p.1 p.2) :
  ∀(k i:Nat)(s:Ue)(t:Ug)(acc:List Ud)(c:Nat)(sl:Array (Option Ud)),rs.length-i=k->i<=rs.length->Yz h0 s.heap->s.heap.IsListIter I l i ->
   s.heap.get? S=some {cls:=.type "list", dict:=none,data:=.seq #[.ref t] c,slots:=#[]}->t≠S->t≠I->Ls1 s.heap t acc sl->acc.length+((rs.drop i).map (·.2)).flatten.length<=Uj ->
   (∀p h' tk sl',Yz h0 h'->Ls1 h' p (acc++((rs.drop i).map (·.2)).flatten) sl'->(p=t/\i=rs.length/\sl'=sl∨h0.objs.size<=p/\sl'=#[])->R (.ok (.ret (.ref p))) {s with heap:=h',toks:=tk}) ->
   codeAny (model prog w) A (.builtin "sum.loop" ⟨[.ref I,.ref S,rawInt 2,rawInt 0],[]⟩) R s:=by
 intro k;induction k with
 |zero=>
  intro i s t acc c sl hk hi hK hit hSS htS htI ht hz hR;have hin:i=rs.length:=by omega
  subst hin;refine codeAny_builtin F.entry_sum_loop ?_;rw[Around.under_plainId F.plain_sum_loop _];show Uk _ A.in1 (seqItems? (.ref S) >>= _) _ _ s;refine Qe (wpAny_seqItems hSS rfl ?_);show Uk _ A.in1 (tryCatch (pyNext (.ref I)) _ >>= _) _ _ s;have hl':s.heap.IsList l (rs.map λp=>Value.ref p.1).toArray:=by obtain⟨o,e,r⟩:=hl;exact⟨o,hK _ _ e,r⟩
  refine wpAny_bind (wpAny_tryCatch (wpAny_pyNext_list_end hh hit hl' (by simp) λh' ex=>?_));refine Qk (hR t h' s.toks sl (λb o e=>?_) ?_ (.inl ⟨rfl,rfl,rfl⟩))
  ·exact ex b o (QI (QD (Qh e) hI)) (hK b o e)
  ·obtain⟨n,e⟩:=ht;rw[List.drop_length,List.map_nil,List.flatten_nil,Jh];exact⟨n,ex _ _ htI e⟩
 |succ k ih=>
  intro i s t acc c sl hk hi hK hit hSS htS htI ht hz hR;have hlt:i<rs.length:=by omega
  refine codeAny_builtin F.entry_sum_loop ?_;rw[Around.under_plainId F.plain_sum_loop _];show Uk _ A.in1 (seqItems? (.ref S) >>= _) _ _ s;refine Qe (wpAny_seqItems hSS rfl ?_);show Uk _ A.in1 (tryCatch (pyNext (.ref I)) _ >>= _) _ _ s;have hl':s.heap.IsList l (rs.map λp=>Value.ref p.1).toArray:=by obtain⟨o,e,r⟩:=hl;exact⟨o,hK _ _ e,r⟩
  refine wpAny_bind (wpAny_tryCatch (wpAny_pyNext_list_item (x:=.ref (rs[i]'hlt).1) hit hl' (by simp[hlt]) λh' hit' sb=>?_));show Uk _ A.in1 ((holding [Value.ref (rs[i]'hlt).1] (binaryOp .Add (.ref t) (.ref (rs[i]'hlt).1))).attempt >>= _) _ _ _;refine Qe (wpAny_attempt (wpAny_holding ?_));have hm:rs[i]'hlt∈rs:=Je hlt;have hd:rs.drop i=rs[i]'hlt::rs.drop (i+1):=JA hlt;have hK':Yz h0 h':=λb o e=>(sb.2 b (QI (QD (Qh e) hI))).trans (hK b o e)
  obtain⟨n1,e1⟩:=ht;have e1':=(sb.2 t htI).trans e1;obtain⟨n2,s2,e2⟩:=(hr _ hm).kept hK';have hSS':=(sb.2 S hIS).trans hSS;rw[hd,Qv,QP,Qj]at hz;refine concat_meets ⟨_,e1',rfl⟩ ⟨_,e2,rfl⟩ noFill_list_add seq_list_add PySem.F.slot_list_add PySem.F.entry_list_add (PySem.F.args_list_add_2 _ _) (list_addW t _ acc.toArray _ n1 n2 none none sl s2 (by rw[QO,QO];omega)) ⟨e1',e2,?_⟩;have hlS:S<h'.objs.size:=Qh hSS';have hlI:I<h'.objs.size:=by obtain⟨o,e,_⟩:=hit';exact Qh e
  have ea:acc.toArray++(rs[i]'hlt).2.toArray=(acc++(rs[i]'hlt).2).toArray:=by simp
  rw[ea];have hP:∀b o,h'.get? b=some o->(h'.push {cls:=Value.type "list", data:=Data.seq (acc++(rs[i]'hlt).2).toArray}).get? b=some o:=λb o e=>Qi _ e
  have hS1:=hP _ _ hSS';have hNew:(h'.push {cls:=Value.type "list", data:=Data.seq (acc++(rs[i]'hlt).2).toArray}).get? h'.objs.size=some {cls:=Value.type "list", data:=Data.seq (acc++(rs[i]'hlt).2).toArray}:=Qx _ rfl;show Uk _ A.in1 (updateSeq S (λ_=>#[.ref h'.objs.size]) >>= _) _ _ _;refine Qe (wpAny_updateSeq hS1 rfl ?_);have hS2:=Heap.get?_update_self (Obj.mapSeq λ_=>#[Value.ref h'.objs.size]) hS1 rfl;refine Qe (wpAny_letGo ?_);refine Qe (wpAny_updateSeq hS2 rfl (Qk ⟨plainId_quiet F.plain_sum_loop _,?_⟩));have oth:∀b o,b≠S->(h'.push {cls:=Value.type "list", data:=Data.seq (acc++(rs[i]'hlt).2).toArray}).get? b=some o->(((h'.push {cls:=Value.type "list", data:=Data.seq (acc++(rs[i]'hlt).2).toArray}).update S (Obj.mapSeq λx=>#[Value.ref h'.objs.size])).update S (Obj.mapSeq λx=>#[Value.ref h'.objs.size])).get? b=some o:=λb o hb e=>(Heap.get?_update_other _ _ (Ne.symm hb)).trans ((Heap.get?_update_other _ _ (Ne.symm hb)).trans e)
  refine ih (i+1) _ h'.objs.size (acc++(rs[i]'hlt).2) _ #[] (by omega) hlt ?_ ?_ (Heap.get?_update_self _ hS2 rfl) (Jx hlS) (Jx hlI) ?_ (by rw[Qj];omega) λp h'' tk sl' hk'' hp hq=>?_
  ·exact λb o e=>oth b o (QI (QD (Qh e) hS)) (hP b o (hK' b o e))
  ·obtain⟨o,e,r⟩:=hit';exact⟨o,oth I o (Ne.symm hIS) (hP I o e),r⟩
  ·exact⟨_,oth _ _ (Jx hlS) hNew⟩
  ·refine hR p h'' tk sl' hk'' ?_ (.inr ?_)
   ·rw[hd,Qv,QP,←Jm];exact hp
   ·rcases hq with ⟨rfl, -,e⟩|hq
    ·exact⟨Nat.le_of_lt (Nat.lt_of_le_of_lt hS hlS),e⟩
    ·exact hq
end
section
variable{prog:Uf}{w:World}{A:Around}{E:Ud->Ue->Prop}{s:Ue}{l z:Ug}{rs:List (Ug×List Ud)}
theorem CG(a b:Ud):argsOk "sum" ⟨[a,b],[]⟩:=by unfold argsOk;kernel_rfl
theorem BY{Q:Ud->Ue->Prop}(hh:A.handled=none)(hl:s.heap.IsList l (rs.map λp=>Value.ref p.1).toArray)(hr:∀p∈rs,Ls s.heap p.1 p.2)(hz:Ls s.heap z [])(hb:(rs.map (·.2)).flatten.length<=Uj)
  (h:∀p h' tk sl',Yz s.heap h'->Ls1 h' p (rs.map (·.2)).flatten sl'->(p=z/\rs=[]∨s.heap.objs.size<=p/\sl'=#[])->Q (.ref p) {s with heap:=h',toks:=tk}) :
  Uk (model prog w) A (call (.builtin "sum") [.ref l,.ref z]) Q E s:=by
 refine call_function_tree F.kind_sum F.plain_sum F.entry_sum (CG _ _) ?_;unfold Builtin.«sum»;simp only[QB,QN];rw[QG (by decide)];refine Qe (wpAny_of_eq (show Builtin.Builtins.bindParams "sum" ["start"] 0 ⟨[.ref z],[]⟩=pure [some (.ref z)]from rfl) ?_);refine Qe (Jw hl ?_);refine Qe (Qk ?_);obtain⟨n,sl,ez⟩:=id hz;have ty:∀h:Heap,h.get? z=some {cls:=.type "list", dict:=none,data:=.seq [].toArray n,slots:=sl}->({s with heap:=h}:Ue).TypeIs (.ref z) "list" :=λh e=>⟨_,e,rfl⟩
 have ez':(s.heap.push {cls:=.type "list_iterator", data:=.fields #[.ref l,.int 0 0]}).get? z=_:=Qi _ ez;simp only[List.forIn_cons,List.forIn_nil];refine Qe (Qe (Qe (wpAny_isInstance (T:= "list") (b:=false) (ty _ ez') F.sub_list_str ?_)));simp only[JP,if_false];refine Qk (Qe (Qe (wpAny_isInstance (T:= "list") (b:=false) (ty _ ez') F.sub_list_bytes ?_)));simp only[JP,if_false];refine Qk (Qe (Qe (wpAny_isInstance (T:= "list") (b:=false) (ty _ ez') F.sub_list_bytearray ?_)));simp only[JP,if_false];refine Qk (Qk ?_);refine Qe (wpAny_newObj_type ?_);have hzs:=Qh ez;have s1:(s.heap.push {cls:=.type "list_iterator", data:=.fields #[.ref l,.int 0 0]}).objs.size=s.heap.objs.size+1:=Heap.size_push ..;have k2:Yz s.heap ((s.heap.push {cls:=.type "list_iterator", data:=.fields #[.ref l,.int 0 0]}).push {cls:=.type "list", data:=.seq #[.ref z]}):=λb o e=>Qi _ (Qi _ e)
 refine Qk ⟨plainId_quiet F.plain_sum_loop _,BZ (h0:=s.heap) (l:=l) (I:=s.heap.objs.size) (S:=(s.heap.push {cls:=.type "list_iterator", data:=.fields #[.ref l,.int 0 0]}).objs.size) (rs:=rs) hh (Qp _) (by rw[s1];exact JO _) (by rw[s1];exact Nat.succ_ne_self _) hl hr rs.length 0 _ z [] 0 sl rfl (J6 _)
  k2 ⟨_,Heap.get?_push_of_some _ (Heap.get?_push_size _ rfl),rfl,rfl⟩ (Heap.get?_push_size _ rfl) (by rw[s1];exact Nat.ne_of_lt (Nat.lt_succ_of_lt hzs)) (Nat.ne_of_lt hzs) ⟨n,k2 _ _ ez⟩ (by simpa using hb) λp h' tk sl' hk hp hq=>?_⟩
 exact h p h' tk sl' hk (by simpa using hp) (hq.imp (λe=>⟨e.1,List.eq_nil_of_length_eq_zero e.2.1.symm⟩) id)
end
section
variable{X:Cx}{pins:List (Ug×Obj)}{σ:St}{H:Hp}{s:Ue}
theorem Ox(I:Inv X pins σ H s):∀{rs:List (Ug×List V)},(∀p∈rs,SqL X.K H p.1 p.2) ->
  ∃ts:List (Ug×List Ud),(ts.map λp=>Value.ref p.1)=(rs.map λp=>Value.ref p.1)/\(∀p∈ts,Ls s.heap p.1 p.2)/\Vals (rs.map (·.2)).flatten (ts.map (·.2)).flatten
 |[],_=>⟨[],rfl,(λ_ h=>by cases h),(show Vals [] []from Paired.nil)⟩
 |p::rs,h=>by
  obtain⟨ts,e,hl,hv⟩:=Ox I λq hq=>h q (Qu _ hq)
  obtain⟨its,rv,⟨⟨c1,d1,t1,sl⟩,n,e1,ec,ed,et⟩,z⟩:=I.list (h p (Qo ..));simp only at ec ed et;subst ec ed et;refine⟨(p.1,its)::ts,by rw[Qv,Qv,e],λq hq=>?_,?_⟩
  ·rcases QR.1 hq with rfl|hq
   ·exact⟨n,sl,e1⟩
   ·exact hl q hq
  ·rw[Qv,Qv,QP,QP];exact rv.append hv
theorem NX:∀{as:List Ug}{us:List Ud},Vals (as.map V.ref) us->us=as.map Value.ref
 |[],_,.nil=>rfl
 |a::as,_,.cons h t=>by cases h;rw[NX t];rfl
theorem CF(hc:X.calm=true):ZN X (.builtin "sum") (λxs H Q=>∃l z,∃rs:List (Ug×List V),xs=[.ref l,.ref z]/\SqL X.K H l (rs.map λp=>V.ref p.1)/\(∀p∈rs,SqL X.K H p.1 p.2)/\SqL X.K H z []/\(rs.map (·.2)).flatten.length<=Uj /\
  (rs=[]->Q (.ref z) H)/\∀p,H p=none->Q (.ref p) (upd H p (.lst (rs.map (·.2)).flatten))):=by
 intro pins s σ H xs us Q I rx h;obtain⟨l,z,rs,rfl,hq,hr,hz,hb,q0,q⟩:=h;obtain⟨u,u',rfl,ru,ru'⟩:=SV rx;cases ru;cases ru';obtain⟨its,rv,pl, -⟩:=I.list hq;obtain⟨ts,e,hl,hv⟩:=Ox I hr;have ei:its=ts.map λp=>Value.ref p.1:=by rw[e];have:=NX (as:=rs.map (·.1)) (us:=its) (by rw[QT];exact rv);rw[this,QT];rfl
 subst ei;obtain⟨zi,rz,⟨⟨c1,d1,t1,sl⟩,n,e1,ec,ed,et⟩, -⟩:=I.list hz;cases rz;simp only at ec ed et;subst ec ed et;have hlen:=hv.length;refine BY (I.ok.hd hc) pl.isList hl ⟨n,sl,e1⟩ (by omega) λp h' tk sl' hk hp hq=>?_
 rcases hq with ⟨rfl,rfl⟩|⟨hp',rfl⟩
 ·have hr0:rs=[]:=by
   cases rs with
   |nil=>rfl
   |cons a b=>cases e
  exact⟨.ref _,H,I.kept hk,rfl,q0 hr0⟩
 ·obtain⟨m,ep⟩:=hp;exact⟨.ref p,_,I.laid (t':=tk) hk hp' (show K2 X.prog X.w _ h' _ (.lst _)from⟨hb,_,m,hv,ep⟩),rfl,q p (I.hok.fresh hp')⟩
def Xq:List D->Option (List (List D))
 |[]=>some []
 |.list xs::r=>(Xq r).map (xs :: ·)
 |_=>none
theorem MC{K:Frag}{G:Hp}:∀{vs:List V}{ds:List D}{ls:List (List D)},Reps K G vs ds->Xq ds=some ls ->
  ∃rs:List (Ug×List V),vs=(rs.map λp=>V.ref p.1)/\(∀p∈rs,SqL K G p.1 p.2)/\Reps K G (rs.map (·.2)).flatten ls.flatten/\rs.length=ls.length
 |_,_,ls,.nil,e=>by cases e;exact⟨[],rfl,(λ_ h=>by cases h),.nil,rfl⟩
 |_,_,ls,.cons (d:=d) r t,e=>by
  cases d with
  |list xs=>
   unfold Xq at e;cases z:Xq _ with
   |none=>rw[z]at e;cases e
   |some cs=>
    rw[z]at e;cases e;obtain⟨rs,rfl,h1,h2,h3⟩:=MC t z;obtain⟨a,ws,rfl,h,rr⟩:=r.lst_inv;refine⟨(a,ws)::rs,rfl,λp hp=>?_,?_,JW (· + 1) h3⟩
    ·rcases QR.1 hp with rfl|hp
     ·exact h
     ·exact h1 p hp
    ·rw[Qv,QP,QP];exact rr.append h2
  |_=>cases e
theorem BX(ls:List (List D)):Xq (ls.map Uq)=some ls:=by
 induction ls with
 |nil=>rfl
 |cons b r ih=>rw[Qv,Xq,ih];rfl
def VG:List D->Option D
 |[.list ds,.list []]=>(match Xq ds with
  |some ls=>if ls.flatten.length<=1000000 then some (.list ls.flatten)else none
  |none=>none)
 |_=>none
theorem CD{xs:List D}{d:D}(h:VG xs=some d):∃ds ls,xs=[.list ds,.list []]/\Xq ds=some ls/\ls.flatten.length<=1000000/\d=.list ls.flatten:=by
 unfold VG at h;split at h
 ·rename_i ds;cases z:Xq ds with
  |none=>rw[z]at h;cases h
  |some ls=>
   rw[z]at h;dsimp only at h;split at h
   ·rename_i c;cases h;exact⟨ds,ls,rfl,z,c,rfl⟩
   ·cases h
 ·cases h
theorem HK(hc:X.calm=true):Z1 X (.builtin "sum") VG:=by
 refine⟨_,CF hc,λvs G H ds d Q s r e k=>?_⟩;obtain⟨ds,ls,rfl,z,c,rfl⟩:=CD e;obtain⟨v,v',rfl,q1,q2⟩:=r.two_inv;obtain⟨l,ws,rfl,h1,r1⟩:=q1.lst_inv;obtain⟨a,ws2,rfl,h2,r2⟩:=q2.lst_inv;have:=r2.nil_inv;subst this;obtain⟨rs,rfl,g1,g2,g3⟩:=MC r1 z;refine⟨l,a,rs,rfl,s.seq h1,λp hp=>s.seq (g1 p hp),s.seq h2,?_,λe0=>?_,λp hp=>?_⟩
 ·rw[g2.length];exact QQ c lim
 ·subst e0;have:ls=[]:=List.eq_nil_of_length_eq_zero g3.symm;subst this;exact k _ G H (.refl s) (.lst h2 .nil)
 ·exact k _ _ _ (.new s hp) (.lst (SqL.of Ky) (g2.mono (KU (s.free hp))))
end
section
variable{X:Cx}
def ZF(ns:List Int):List Int:=ns.mergeSort λa b=>decide (a<=b)
theorem YL(ns:List Int):(ZF ns).Perm ns:=List.mergeSort_perm ..
theorem CC(ns:List Int):(ZF ns).Pairwise (· <= ·):=by have:=List.pairwise_mergeSort (le:=λa b:Int=>decide (a<=b)) (by intro a b c;simp;omega) (by intro a b;simp;omega) ns;exact this.imp (by simp)
theorem Ow:∀{a b:List Int},a.Perm b->a.Pairwise (· <= ·)->b.Pairwise (· <= ·)->a=b
 |[],b,p,_,_=>by rw[List.nil_perm.1 p]
 |x::a,[],p,_,_=>by have:=p.length_eq;simp at this
 |x::a,y::b,p,ha,hb=>by
  have hx:y<=x:=by
   rcases QR.1 (p.mem_iff.1 (Qo ..))with e|e
   ·exact Int.le_of_eq e.symm
   ·exact(Jj.1 hb).1 x e
  have hy:x<=y:=by
   rcases QR.1 (p.mem_iff.2 (Qo ..))with e|e
   ·exact Int.le_of_eq e.symm
   ·exact(Jj.1 ha).1 y e
  have e:=J4 hy hx;subst e;rw[Ow (List.Perm.cons_inv p) (Jj.1 ha).2 (Jj.1 hb).2]
theorem NW:∀{us:List Ud}{ns:List Int},PyProof.Rows.IntsAre us ns->Vals (ns.map V.int) us
 |_,_,.nil=>Paired.nil
 |_,_,.cons n t h=>Paired.cons ⟨t,rfl⟩ (NW h)
theorem BW:ZN X (.builtin "sorted") (λxs H Q=>∃l,∃ns:List Int,xs=[.ref l]/\SqL X.K H l (ns.map V.int)/\ns.length<64/\∀p,H p=none->Q (.ref p) (upd H p (.lst ((ZF ns).map V.int)))):=by
 intro pins s σ H xs us Q I rx h;obtain⟨l,ns,rfl,hq,hb,q⟩:=h;obtain⟨u,rfl,ru⟩:=rx.one;cases ru;obtain⟨its,rv,p,hz⟩:=I.list hq;have hi:=Xw rv;have hn:its.length=ns.length:=by have:=rv.length;rw[Qb]at this;omega
 refine sorted_ints p.isList hi (by omega) λout ns' a1 a2 a3=>?_
 obtain⟨e,he⟩:=sortedAll_at s.heap its out;have en:ns'=ZF ns:=Ow (a2.trans (YL ns).symm) a3 (CC ns);subst en;refine⟨.ref (s.heap.objs.size+1),_,I.laid (t':=s.toks) (λb o=>sortedAll_old) (JO _) (show K2 X.prog X.w _ _ _ (.lst ((ZF ns).map V.int))from⟨?_,out.toList,e,NW a1,he⟩),rfl,q _ (I.hok.fresh (JO _))⟩;rw[Qb,(YL ns).length_eq];rw[Qb]at hz;exact hz
def VJ:List D->Option D
 |[.list ds]=>(match Zu ds with
  |some ns=>if ns.length<64 then some (.list ((ZF ns).map .int))else none
  |none=>none)
 |_=>none
theorem BV{xs:List D}{d:D}(h:VJ xs=some d):∃ds ns,xs=[.list ds]/\Zu ds=some ns/\ns.length<64/\d=.list ((ZF ns).map .int):=by
 unfold VJ at h;split at h
 ·rename_i ds;cases z:Zu ds with
  |none=>rw[z]at h;cases h
  |some ns=>
   rw[z]at h;dsimp only at h;split at h
   ·rename_i c;cases h;exact⟨ds,ns,rfl,z,c,rfl⟩
   ·cases h
 ·cases h
theorem NV{K:Frag}{G:Hp}:∀ns:List Int,Reps K G (ns.map V.int) (ns.map int)
 |[]=>.nil
 |n::r=>.cons (.int n) (NV r)
theorem F0:Z1 X (.builtin "sorted") VJ:=by refine⟨_,BW,λvs G H ds d Q s r e k=>?_⟩;obtain⟨ds,ns,rfl,z,c,rfl⟩:=BV e;obtain⟨v,rfl,q1⟩:=r.one_inv;obtain⟨l,ws,rfl,h1,r1⟩:=q1.lst_inv;have:=VW r1 z;subst this;exact⟨l,ns,rfl,s.seq h1,c,λp hp=>k _ _ _ (.new s hp) (.lst (SqL.of Ky) (NV _))⟩
theorem CB{ns:List Int}(h:ns.length<64):VJ [.list (ns.map .int)]=some (.list ((ZF ns).map .int)):=by unfold VJ;simp only[VY,Qq h]
end
@[simp] theorem mBind_ok{α β:Type}{f:M α}{k:α->M β}{ρ ρ':UE}{x:α}(h:f ρ=.ok x ρ'):UX f k ρ=k x ρ':=by unfold UX;rw[h]
theorem NU{s:D->UE->Option UE}{g:SM}{P:Nat->UE->Prop}{R:Out->Prop}:∀(ds:List D)(n:Nat)(ρ:UE),P n ρ ->
  (∀i d ρ,ds[i]?=some d->P (n+i) ρ->∃ρ1,s d ρ=some ρ1/\((∃ρ2,(g ρ1=.nx ρ2∨g ρ1=.ct ρ2)/\P (n+i+1) ρ2)∨(∃x,g ρ1=.rt x/\R (.rt x))∨(∃ρ2,g ρ1=.bk ρ2/\R (.nx ρ2))∨(∃ρ2 x,g ρ1=.ex ρ2 x/\R (.ex ρ2 x)) ∨ ∃x,g ρ1=.ro x/\R (.ro x)))->(∀ρ,P (n+ds.length) ρ->R (.nx ρ))->R (Wm s g ds ρ)
 |[],n,ρ,h,_,f=>f ρ h
 |d::r,n,ρ,h,st,f=>by
  obtain⟨ρ1,e1,e2⟩:=st 0 d ρ rfl h;rw[Wm,e1];dsimp only;rcases e2 with ⟨ρ2,e2,h2⟩|⟨x,e2,h2⟩|⟨ρ2,e2,h2⟩|⟨ρ2,x,e2,h2⟩|⟨x,e2,h2⟩
  ·have goal:=NU (R:=R) r (n+1) ρ2 h2 (λi d' ρ3 q p=>by
    have e:n+1+i=n+(i+1):=by omega
    rw[e]at p⊢;exact st (i+1) d' ρ3 (by simpa using q) p) (λρ3 p=>f ρ3 (by
    have e:n+1+r.length=n+(d::r).length:=by rw[QB];omega
    rw[e]at p;exact p))
   rcases e2 with e2|e2<;>(rw[e2];exact goal)
  ·rw[e2];exact h2
  ·rw[e2];exact h2
  ·rw[e2];exact h2
  ·rw[e2];exact h2
theorem Wv{lo hi:Int}{i:Nat}{d:D}(h:(Zv lo hi)[i]?=some d):d=.int (lo+i)/\(i:Int)<hi-lo:=by have hl:i<(Zv lo hi).length:=(Qg.mp h).1;rw[YM]at hl;unfold Zv at h;rw[Qf,Qd (by rw[QS];exact hl),List.getElem_range]at h;cases h;exact⟨rfl,by omega⟩
theorem HJ{α:Type}{xs:List α}{i:Int}{v:α}(h0:0<=i)(h:xs[i.toNat]?=some v):atI xs i=some v:=by have:=KQ (xs:=xs) (j:=i.toNat) h;rw[Int.toNat_of_nonneg h0]at this;exact this
section
variable{α β:Type}{ρ ρ1 ρ2 ρ3 ρ':UE}{f g h:M D}
theorem UM{a:α}:UK a ρ=.ok a ρ:=rfl
theorem UQ:UG ρ=.ok [] ρ:=rfl
theorem Zj{o:Option α}{a:α}(h:o=some a):UY o ρ=.ok a ρ:=by subst h;rfl
theorem Kr{f:M α}{k:α->M β}{x:α}{r:Res β}(h:f ρ=.ok x ρ1)(h2:k x ρ1=r):UX f k ρ=r:=by unfold UX;rw[h];exact h2
theorem Kl{f:M α}{k:α->β}{x:α}(h:f ρ=.ok x ρ1):UN k f ρ=.ok (k x) ρ1:=by unfold UN UX;rw[h];rfl
theorem UF{i:Nat}{d:D}(h:ρ[i]?=some (some (.pub d))):UD i ρ=.ok d ρ:=by unfold UD;rw[h]
theorem ZG{i:Nat}{ds:List D}(h:ρ[i]?=some (some (.own ds)))(h2:ρ.set i (some (.pub (.list ds)))=ρ'):UD i ρ=.ok (.list ds) ρ':=by unfold UD;rw[h];subst h2;rfl
theorem UT{op:D->D->Option β}{x y:D}{r:β}(h1:f ρ=.ok x ρ1)(h2:g ρ1=.ok y ρ2)(h3:op x y=some r):UH op f g ρ=.ok r ρ2:=by unfold UH;exact Kr h1 (Kr h2 (Zj h3))
theorem UL{g:M (List D)}{x:D}{xs:List D}(h1:f ρ=.ok x ρ1)(h2:g ρ1=.ok xs ρ2):UI f g ρ=.ok (x::xs) ρ2:=by unfold UI;exact Kr h1 (Kr h2 rfl)
theorem Tl{g:M (List D)}{xs:List D}(h1:g ρ=.ok xs ρ1)(h2:xs.length<=1000000):Z9 g ρ=.ok (.tuple xs) ρ1:=by unfold Z9;exact Kr h1 (by rw[Qq h2];rfl)
theorem Zt{g:M (List D)}{xs:List D}(h1:g ρ=.ok xs ρ1)(h2:xs.length<=1000000):Kj g ρ=.ok (.list xs) ρ1:=by unfold Kj;exact Kr h1 (by rw[Qq h2];rfl)
theorem YW{g:M (List D)}{xs:List D}(h1:g ρ=.ok xs ρ1)(h2:xs.length<=1000000):(UX g λxs=>if xs.length<=1000000 then UK xs else λ_=>.bad) ρ=.ok xs ρ1:=
 Kr h1 (by rw[Qq h2];rfl)
theorem Ks{i:Nat}{d y r:D}(h:ρ[i]?=some (some (.pub d)))(h1:g ρ=.ok y ρ1)(h2:oIx d y=some r):US i g ρ=.ok r ρ1:=by unfold US;rw[h];exact Kr h1 (Zj h2)
theorem VI{i:Nat}{ds es:List D}{y r:D}(h:ρ[i]?=some (some (.own ds)))(h1:g ρ=.ok y ρ1)(h3:ρ1[i]?=some (some (.own es)))(h2:oIx (.list es) y=some r):US i g ρ=.ok r ρ1:=by unfold US;rw[h];exact Kr h1 (by rw[h3];exact Zj h2)
theorem Zi{p:List D->Option D}{g:M (List D)}{xs:List D}{r:D}(h1:g ρ=.ok xs ρ1)(h2:p xs=some r):K1 p g ρ=.ok r ρ1:=by unfold K1;exact Kr h1 (Zj h2)
theorem Ka{n:Nat}{F:List D->Option D}{g:M (List D)}{xs:List D}{r:D}(h1:g ρ=.ok xs ρ1)(h2:xs.length=n)(h3:F xs=some r):UP n F g ρ=.ok r ρ1:=by unfold UP;exact Kr h1 (by rw[Qq h2];exact Zj h3)
theorem Tk{i:Int}(h1:f ρ=.ok (.int i) ρ1):ZX f ρ=.ok (.int (-i)) ρ1:=by unfold ZX;exact Kr h1 rfl
theorem K4{i:Nat}{d r:D}(h:ρ[i]?=some (some (.pub d)))(h2:U6 [d]=some r):KN i ρ=.ok r ρ:=by unfold KN;rw[h];exact Zj h2
theorem FZ{i:Nat}{ds:List D}(h:ρ[i]?=some (some (.own ds))):KN i ρ=.ok (.int ds.length) ρ:=by unfold KN;rw[h]
theorem Wr{g:M (List D)}{i:Int}{r:List D}(h1:g ρ=.ok [.int i] ρ1)(h2:VC [.int i]=some r):YQ g ρ=.ok r ρ1:=by unfold YQ;exact Kr h1 (Zj h2)
theorem Ov{g:M (List D)}{i j:Int}{r:List D}(h1:g ρ=.ok [.int i,.int j] ρ1)(h2:VA [.int i,.int j]=some r):Tb g ρ=.ok r ρ1:=by unfold Tb;exact Kr h1 (Zj h2)
theorem Wq{g:M (List D)}{xs r:List D}(h1:g ρ=.ok xs ρ1)(h2:Ta xs=some r):YO g ρ=.ok r ρ1:=by unfold YO;exact Kr h1 (Zj h2)
theorem XA{i:Int}(h1:f ρ=.ok (.int i) ρ1):(UX f λx=>UY (Yn x)) ρ=.ok (some i) ρ1:=Kr h1 rfl
theorem Yl{f:M Bool}{t:Bool}(h1:f ρ=.ok t ρ1):Ki f ρ=.ok (!t) ρ1:=Kl h1
theorem YK{t:Bool}(h1:f ρ=.ok (.bool t) ρ1):Zd f ρ=.ok t ρ1:=by unfold Zd;exact Kr h1 rfl
theorem Pz{f g:M Bool}{t u:Bool}(h1:f ρ=.ok t ρ)(h2:t=true->g ρ=.ok u ρ):KJ f g ρ=.ok (t&&u) ρ:=by
 unfold KJ;refine Kr h1 ?_;cases t with
 |true=>rw[Qq rfl];exact h2 rfl
 |false=>rfl
theorem Pm{f g:M Bool}{t u:Bool}(h1:f ρ=.ok t ρ)(h2:t=false->g ρ=.ok u ρ):mOr f g ρ=.ok (t || u) ρ:=by
 unfold mOr;refine Kr h1 ?_;cases t with
 |false=>rw[QG (by decide)];exact h2 rfl
 |true=>rfl
theorem Xz{t u:Bool}(h1:f ρ=.ok (.bool t) ρ)(h2:t=true->g ρ=.ok (.bool u) ρ):Xn f g ρ=.ok (.bool (t&&u)) ρ:=by
 unfold Xn;refine Kr h1 ?_;cases t with
 |true=>exact h2 rfl
 |false=>rfl
theorem Tj{t u:Bool}(h1:f ρ=.ok (.bool t) ρ)(h2:t=false->g ρ=.ok (.bool u) ρ):Yb f g ρ=.ok (.bool (t || u)) ρ:=by
 unfold Yb;refine Kr h1 ?_;cases t with
 |false=>exact h2 rfl
 |true=>rfl
theorem FY{t:Bool}(h1:f ρ=.ok (.bool t) ρ1):TM f ρ=.ok (.bool (!t)) ρ1:=by unfold TM;exact Kr h1 rfl
theorem HI{f:M Bool}{g h:M α}{r:Res α}(h1:f ρ=.ok false ρ1)(h2:h ρ1=r):mIf f g h ρ=r:=by unfold mIf;exact Kr h1 (by rw[QG (by decide)];exact h2)
theorem M4{f:M Bool}{g h:M α}{t:Bool}{x y:α}(h1:f ρ=.ok t ρ1)(h2:g ρ1=.ok x ρ1)(h3:h ρ1=.ok y ρ1):mIf f g h ρ=.ok (if t=true then x else y) ρ1:=by
 unfold mIf;refine Kr h1 ?_;cases t with
 |true=>rw[Qq rfl,Qq rfl];exact h2
 |false=>rw[QG (by decide),QG (by decide)];exact h3
theorem Ss{p q:D->D->Option Bool}{x y z:D}{t u:Bool}(h1:f ρ=.ok x ρ)(h2:g ρ=.ok y ρ)(h3:p x y=some t)(h4:t=true->h ρ=.ok z ρ)(h5:t=true->q y z=some u):WE p q f g h ρ=.ok (t&&u) ρ:=by
 unfold WE;refine Kr h1 (Kr h2 (Kr (Zj h3) ?_));cases t with
 |true=>rw[Qq rfl];exact Kr (h4 rfl) (Zj (h5 rfl))
 |false=>rfl
theorem KM{i j:Int}:UW (.int i) (.int j)=some (.int (i+j)):=rfl
theorem Xu{x y:List D}(h:x.length+y.length<=1000000):UW (.list x) (.list y)=some (.list (x++y)):=by unfold UW;exact Qq h
theorem ZO{i j:Int}:Kt (.int i) (.int j)=some (.int (i-j)):=rfl
theorem TF{i j:Int}(h1 : -18446744073709551616<i)(h2:i<18446744073709551616):U9 (.int i) (.int j)=some (.int (i*j)):=by unfold U9 ZB;exact Qq (.inl ⟨by omega,by omega⟩)
theorem Xg{i j:Int}(h1 : -18446744073709551616<j)(h2:j<18446744073709551616):U9 (.int i) (.int j)=some (.int (i*j)):=by unfold U9 ZB;exact Qq (.inr ⟨by omega,by omega⟩)
theorem R8{x:List D}{k:Int}(h : -1000000<=k/\k<=1000000/\x.length*k.toNat<=1000000):U9 (.list x) (.int k)=some (.list (Up k.toNat x).flatten):=by unfold U9;exact Qq h
theorem Wp{i j:Int}(h:0<j):Zm (.int i) (.int j)=some (.int (i % j)):=by unfold Zm XN;exact Qq h
theorem Ou{i j:Int}(h:0<j)(h2:j<18446744073709551616):Y2 (.int i) (.int j)=some (.int (i / j)):=by unfold Y2 XQ;exact Qq ⟨h,h2⟩
theorem FX{i j:Int}(h:0<=j/\j<=1000000/\i.natAbs<2 ^ 64):Y1 (.int i) (.int j)=some (.int (i ^ j.toNat)):=by unfold Y1 XM;exact Qq h
theorem Py{p:Int->Int->Bool}{i j:Int}:oIB p (.int i) (.int j)=some (p i j):=rfl
theorem Wo{i j:Int}:oEq (.int i) (.int j)=some (decide (i=j)):=by unfold oEq;rw[if_pos ⟨rfl,rfl,by simp[Uv]⟩];congr 1
theorem Zc{xs:List D}:U6 [.list xs]=some (.int xs.length):=rfl
theorem Sr{xs:List D}:U6 [.tuple xs]=some (.int xs.length):=rfl
theorem FW{i j:Int}:TL [.int i,.int j]=some (.int (if j > i then j else i)):=rfl
theorem Wx{j:Int}(h1:j<=1000000)(h2 : -1000000<=j):VC [.int j]=some (Zv 0 j):=by unfold VC;exact Qq ⟨h1,h2⟩
theorem Np{i j:Int}(h1:j<=1000000)(h2 : -1000000<=j)(h3:i<=1000000)(h4 : -1000000<=i):VA [.int i,.int j]=some (Zv i j):=by unfold VA;exact Qq ⟨h1,h2,h3,h4⟩
theorem Ww{xs:List D}:Ta [.list xs]=some (Zx 0 xs):=rfl
theorem Ke{i:Nat}{d:D}(h1:f ρ=.ok d ρ1)(h2:i<ρ1.length)(h3:ρ1.set i (some (.pub d))=ρ'):UU i f ρ=.nx ρ':=by unfold UU Zl sB gN;rw[h1];dsimp only;rw[if_pos h2];subst h3;rfl
theorem Zz{i:Nat}{f:M (List D)}{ds:List D}(h1:f ρ=.ok ds ρ1)(h2:i<ρ1.length)(h3:ρ1.set i (some (.own ds))=ρ'):KP i f ρ=.nx ρ':=by unfold KP sB;rw[h1];dsimp only;rw[if_pos h2];subst h3;rfl
theorem YU{i:Nat}{d:D}{ds0 ds:List D}(h0:ρ[i]?=some (some (.own ds0)))(h1:f ρ=.ok d ρ1)(h2:ρ1[i]?=some (some (.own ds)))(h3:ds.length<1000000)(h4:ρ1.set i (some (.own (ds++[d])))=ρ'):KY i f ρ=.nx ρ':=by unfold KY sB;rw[h0];dsimp only;rw[h1];dsimp only;rw[h2];dsimp only;rw[if_pos h3];subst h4;rfl
theorem VH{d:D}{s:D->UE->Option UE}(h1:f ρ=.ok d ρ1)(h2:s d ρ1=some ρ'):Zl f s ρ=.nx ρ':=by unfold Zl sB;rw[h1];dsimp only;rw[h2]
theorem Xy{d:D}(h1:f ρ=.ok d ρ1):YI f ρ=.nx ρ1:=by unfold YI sB;rw[h1]
theorem UR{i:Nat}{d:D}(h:i<ρ.length)(h2:ρ.set i (some (.pub d))=ρ'):gN i d ρ=some ρ':=by unfold gN;rw[Qq h,h2]
theorem KE:gN0 [] ρ=some ρ:=rfl
theorem U3{s:D->UE->Option UE}{t:List D->UE->Option UE}{d:D}{r:List D}(h1:s d ρ=some ρ1)(h2:t r ρ1=some ρ'):gNC s t (d::r) ρ=some ρ':=by unfold gNC;dsimp only;rw[h1];exact h2
theorem KD{n:Nat}{t:List D->UE->Option UE}{ds:List D}(h1:ds.length=n)(h2:t ds ρ=some ρ'):gT n t (.tuple ds) ρ=some ρ':=by unfold gT;dsimp only;rw[if_pos h1];exact h2
structure Ho(g:SM)(ρ:UE)(Q:Out->Prop):Prop where
 out:Q (g ρ)
def M0(h:SM)(Q:Out->Prop):Out->Prop
 |.nx ρ'=>Ho h ρ' Q
 |o=>Q o
structure SQ(h:SM)(Q:Out->Prop)(o:Out):Prop where
 out:M0 h Q o
variable{Q:Out->Prop}{s t u:SM}
theorem Kp(h:Ho s ρ (SQ t Q)):Ho (UJ s t) ρ Q:=by
 have h:=h.out.out;constructor;unfold UJ;cases e:s ρ with
 |nx o=>rw[e]at h;exact h.out
 |_=>rw[e]at h;exact h
theorem U2(h1:s ρ=.nx ρ1)(h2:Ho t ρ1 Q):Ho (UJ s t) ρ Q:=by
 constructor;unfold UJ;rw[h1];exact h2.out
theorem Ze{o:Out}(h1:s ρ=o)(h2:Q o):Ho s ρ Q:=by constructor;rw[h1];exact h2
theorem KB(h:Q (.nx ρ)):Ho sNx ρ Q:=⟨h⟩
theorem Kk{o:UE}(h:Ho t o Q):SQ t Q (.nx o):=⟨h⟩
theorem ZQ{d:D}(h:Q (.rt d)):SQ t Q (.rt d):=⟨h⟩
theorem Kh{f:M Bool}{b:Bool}(h1:f ρ=.ok b ρ1)(h2:b=true->Ho s ρ1 Q)(h3:b=false->Ho t ρ1 Q):Ho (sIf f s t) ρ Q:=by
 constructor;unfold sIf sB;rw[h1];dsimp only
 cases b with
 |true=>rw[Qq rfl];exact(h2 rfl).out
 |false=>rw[QG (by decide)];exact(h3 rfl).out
theorem Kc{d:D}(h1:f ρ=.ok d ρ1)(h2:Q (.rt d)):Ho (UV f) ρ Q:=by constructor;unfold UV sB;rw[h1];exact h2
theorem Ot{P:Out->Prop}(h:Ho s ρ P)(k:∀o,P o->Q o):Ho s ρ Q:=⟨k _ h.out⟩
def MZ(I:UE->Prop)(Q:Out->Prop):Out->Prop
 |.nx ρ | .ct ρ=>I ρ
 |.bk ρ=>Q (.nx ρ)
 |.rt d=>Q (.rt d)
 |.ex ρ d=>Q (.ex ρ d)
 |.ro ds=>Q (.ro ds)
 |.bad=>False
structure Xl(I:UE->Prop)(Q:Out->Prop)(o:Out):Prop where
 out:MZ I Q o
theorem K3{I:UE->Prop}(h:I ρ):Xl I Q (.nx ρ):=⟨h⟩
theorem RD{I:UE->Prop}{d:D}(h:Q (.rt d)):Xl I Q (.rt d):=⟨h⟩
theorem Zg{f:M (List D)}{tg:D->UE->Option UE}{ds:List D}(I:Nat->UE->Prop)(h1:f ρ=.ok ds ρ1)(h0:I 0 ρ1)
  (hst:∀i d ρ,ds[i]?=some d->I i ρ->∃ρ2,tg d ρ=some ρ2/\Ho s ρ2 (Xl (I (i+1)) Q)) (hend:∀ρ,I ds.length ρ->Q (.nx ρ)):Ho (Kd f tg s) ρ Q:=by
 constructor;unfold Kd sB;rw[h1];dsimp only
 refine NU (P:=I) (R:=Q) ds 0 ρ1 h0 (λi d ρ e p=>?_) (λρ p=>hend ρ (by rw[Jd]at p;exact p));rw[Jd]at p;obtain⟨ρ2,e2,q⟩:=hst i d ρ e p;refine⟨ρ2,e2,?_⟩;rw[Jd];have q:=q.out.out;cases z:s ρ2 with
 |nx o=>rw[z]at q;exact .inl ⟨o,.inl rfl,q⟩
 |ct o=>rw[z]at q;exact .inl ⟨o,.inr rfl,q⟩
 |rt o=>rw[z]at q;exact .inr (.inl ⟨o,rfl,q⟩)
 |bk o=>rw[z]at q;exact .inr (.inr (.inl ⟨o,rfl,q⟩))
 |ex o x=>rw[z]at q;exact .inr (.inr (.inr (.inl ⟨o,x,rfl,q⟩)))
 |ro o=>rw[z]at q;exact .inr (.inr (.inr (.inr ⟨o,rfl,q⟩)))
 |bad=>rw[z]at q;exact q.elim
theorem YT{N:List Str}{ds:List D}{P:D->Prop}(h0:Yo N ds=ρ)(h:Ho s ρ λo=>∃d,o=.rt d/\P d):∃d,UZ N s ds=some d/\P d:=by subst h0;obtain⟨d,e,p⟩:=h.out;refine⟨d,?_,p⟩;unfold UZ;rw[e]
theorem KW{N:List Str}{ds:List D}{d:D}(h0:Yo N ds=ρ)(h:Ho s ρ λo=>o=.rt d):UZ N s ds=some d:=by obtain⟨d',e,p⟩:=YT (P:=λx=>x=d) h0 (Ot h λo e=>⟨d,e,rfl⟩);rw[e,p]
end
section
variable{α β:Type}{ρ ρ1 ρ2 ρ3 ρ':UE}{f g h:M D}
theorem Sa{l u:M (Option Int)}{x r:D}{a b:Option Int}(h1:f ρ=.ok x ρ1)(h2:l ρ1=.ok a ρ2)(h3:u ρ2=.ok b ρ3)(h4:XF x a b=some r):ZW f l u ρ=.ok r ρ3:=by unfold ZW;exact Kr h1 (Kr h2 (Kr h3 (Zj h4)))
theorem Ti{f g:M Bool}(h1:f ρ=.ok true ρ1):mOr f g ρ=.ok true ρ1:=by unfold mOr;exact Kr h1 rfl
theorem Yk{f g:M Bool}{u:Bool}(h1:f ρ=.ok false ρ1)(h2:g ρ1=.ok u ρ2):mOr f g ρ=.ok u ρ2:=by unfold mOr;exact Kr h1 (by rw[QG (by decide)];exact h2)
theorem Os{f g:M Bool}(h1:f ρ=.ok false ρ1):KJ f g ρ=.ok false ρ1:=by unfold KJ;exact Kr h1 rfl
theorem Oq{f g:M Bool}{u:Bool}(h1:f ρ=.ok true ρ1)(h2:g ρ1=.ok u ρ2):KJ f g ρ=.ok u ρ2:=by unfold KJ;exact Kr h1 (by rw[Qq rfl];exact h2)
theorem Z3{c:String}{d:D}{t:Bool}(h:f ρ=.ok d ρ1)(ht:(!Kg d c)=t):Ki (Zd (UN (λd=>.bool (Kg d c)) f)) ρ=.ok t ρ1:=by subst ht;exact Yl (YK (Kl (k:=λd=>Ur (Kg d c)) h))
theorem K7{x:D}{r:List D}(h1:f ρ=.ok x ρ1)(h2:RA x=some r):KF f ρ=.ok r ρ1:=by unfold KF;exact Kr h1 (Zj h2)
theorem Zq{p:D->D->Option β}{i:Nat}{d y:D}{r:β}(h:ρ[i]?=some (some (.pub d)))(h1:g ρ=.ok y ρ1)(h2:p d y=some r):KG p i g ρ=.ok r ρ1:=by unfold KG;rw[h];exact Kr h1 (Zj h2)
theorem EY{p:D->D->Option β}{i:Nat}{ds es:List D}{y:D}{r:β}(h:ρ[i]?=some (some (.own ds)))(h1:g ρ=.ok y ρ1)(h3:ρ1[i]?=some (some (.own es)))(h2:p (.list es) y=some r):KG p i g ρ=.ok r ρ1:=by unfold KG;rw[h];exact Kr h1 (by rw[h3];exact Zj h2)
theorem ZE{f:M (List D)}{k:Nat}{s:D->UE->Option UE}{t:M Bool}{ds es:List D}(h1:f ρ=.ok ds ρ1)(h2:Kq s t g ds (U8 ρ1++Up k none) []=some es):Zb f k s t g ρ=.ok es ρ1:=by unfold Zb;rw[h1];dsimp only;rw[h2]
theorem Xh{s:D->UE->Option UE}{t:M Bool}(p:D->Bool)(q:D->D)(I:UE->Prop):∀(ds:List D)(ρ:UE)(es:List D),(∀d∈ds,∀ρ,I ρ->∃ρ1,s d ρ=some ρ1/\t ρ1=.ok (p d) ρ1/\(p d=true->g ρ1=.ok (q d) ρ1)/\I (U8 ρ1))->I ρ->es.length+ds.length<=1000000 ->
  Kq s t g ds ρ es=some (es++(ds.filter p).map q)
 |[],ρ,es,_,_,_=>by rw[Kq];simp
 |d::r,ρ,es,st,h0,hz=>by
  obtain⟨ρ1,e1,e2,e3,h1⟩:=st d Qo ρ h0;have ih:=λes' hz'=>Xh p q I r (U8 ρ1) es' (λd' hd=>st d' (Qu _ hd)) h1 hz';rw[QB]at hz;rw[Kq,e1];dsimp only;rw[e2];dsimp only
  cases hp:p d with
  |true=>rw[Qq rfl,e3 hp];dsimp only;rw[Qq (by omega),ih _ (by rw[Qj,QU];omega),List.filter_cons_of_pos hp,Qv,Jm];rfl
  |false=>rw[QG (by decide),ih _ (by omega),List.filter_cons_of_neg (by rw[hp];decide)]
theorem Op{j:Nat}{d:D}{k:Int}{ds0 ds:List D}(h1:f ρ=.ok d ρ1)(h0:ρ1[j]?=some (some (.own ds0)))(h2:g ρ1=.ok (.int k) ρ2)(h3:ρ2[j]?=some (some (.own ds)))(h4:0<=k/\k<ds.length)(h5:ρ2.set j (some (.own (ds.set k.toNat d)))=ρ'):V7 j g f ρ=.nx ρ':=by unfold V7 sB;rw[h1];dsimp only;rw[h0];dsimp only;rw[h2];dsimp only;rw[h3];dsimp only;rw[if_pos h4];subst h5;rfl
theorem Sq{xs:List D}{a b:Option Int}:XF (.list xs) a b=some (.list (DL.cutD xs a b)):=rfl
theorem Zp{xs:List D}:RA (.list xs)=some xs:=rfl
theorem AD(bs:List Bool):Wy (bs.map Ur)=some bs:=by
 induction bs with
 |nil=>rfl
 |cons b r ih=>rw[Qv,Wy,ih];rfl
theorem Oo{bs:List Bool}:Zn [.list (bs.map Ur)]=some (.bool (bs.all id)):=by unfold Zn;dsimp only;rw[AD];rfl
end
section
variable{α β:Type}{ρ ρ1 ρ2 ρ3 ρ4 ρ':UE}{f g h:M D}{s:SM}
theorem Rc{g:M (List D)}{xs r:List D}(h1:g ρ=.ok xs ρ1)(h2:Yt xs=some r):Yv g ρ=.ok r ρ1:=by unfold Yv;exact Kr h1 (Zj h2)
theorem HH{l u t:M (Option Int)}{xs:List D}(h1:f ρ=.ok (.list xs) ρ1)(h2:l ρ1=.ok none ρ2)(h3:u ρ2=.ok none ρ3)(h4:t ρ3=.ok (some (-1)) ρ4):XR f l u t ρ=.ok (.list xs.reverse) ρ4:=by unfold XR;exact Kr h1 (Kr h2 (Kr h3 (Kr h4 (Zj (by unfold XG;exact Qq rfl)))))
theorem EX{i:Nat}{d:D}{ds:List D}(h:ρ[i]?=some (some (.pub d)))(h2:Xd [d]=some ds):To i ρ=.ok ds ρ:=by unfold To;rw[h];exact Zj h2
theorem Th{N:List Str}{ds:List D}(h0:Yo N ds=ρ)(h:Ho s ρ λo=>∃ρ',o=.nx ρ'):UZ N s ds=some .none:=by subst h0;obtain⟨ρ',e⟩:=h.out;unfold UZ;rw[e]
theorem Xj{i j:Int}:oNe (.int i) (.int j)=some (!decide (i=j)):=by unfold oNe;rw[if_pos ⟨rfl,rfl,by simp[Uv]⟩];congr 1
theorem DG{xs:List Int}{j:Nat}{v:Int}:(xs.map int).set j (.int v)=(xs.set j v).map int:=by rw[List.map_set]
theorem RC{xs:List Int}{a b:Int}(ha:0<=a)(hb:0<=b)(hl:b<=xs.length):DL.cutD (xs.map int) (some a) (some b)=((xs.drop a.toNat).take (b.toNat-a.toNat)).map int:=by
 unfold DL.cutD HT.sIx;dsimp only;rw[QG (by omega),QG (by omega),Qb,List.map_take,List.map_drop];have e2:min b.toNat xs.length=b.toNat:=by omega
 rw[e2];by_cases hab:a.toNat<=xs.length
 ·have e1:min a.toNat xs.length=a.toNat:=by omega
  rw[e1]
 ·have e3:b.toNat-a.toNat=0:=by omega
  have e4:b.toNat-min a.toNat xs.length=0:=by omega
  rw[e3,e4,JJ,JJ]
theorem CA{xs ys:List Int}:Zf (xs.map int) (ys.map int)=(xs.zip ys).map λp=>.tuple [.int p.1,.int p.2]:=by unfold Zf;rw[List.zip_map,QT];rfl
end
section
variable{ρ ρ1:UE}
theorem DF{g:M (List D)}{xs r:List D}(h1:g ρ=.ok xs ρ1)(h2:VM xs=some r):Sb g ρ=.ok r ρ1:=by unfold Sb;exact Kr h1 (Zj h2)
theorem Cz{xs:List D}:VM [.list xs]=some (Zx 1 xs):=rfl
end
section
variable{X:Cx}{B G0:Hp}{KX:XW}{e o a b c tg i:Ui}{pos p2:Pos}{es rest:List Ui}
def Yj(f:M Bool)(g:SM):Nat->SM
 |0,_=>.bad
 |n+1,ρ=>match f ρ with
  |.bad=>.bad
  |.ok t ρ1=>if t=true then(match g ρ1 with
   |.nx ρ2=>Yj f g n ρ2
   |.ct ρ2=>Yj f g n ρ2
   |.bk ρ2=>.nx ρ2
   |.rt d=>.rt d
   |.ro ds=>.ro ds
   |.ex ρ2 d=>.ex ρ2 d
   |.bad=>.bad)else .nx ρ1
theorem DE{body:List Stmt}{f:M Bool}{g:SM}(n:Nat)(hp:PassesOwn (model X.prog X.w) X.A X.env X.xe)(hc:PT X c (tBo X.K B G0 f))(hb:PSs X body (tS X.K B G0 KX g)):PS X (.While c body [] pos) (tS X.K B G0 KX (Yj f g n)):=
 KZ (D9 hp hc hb) λDn σ H ⟨G,ρ,k,a⟩=>by
  refine⟨λm σ' H'=>∃G' ρ',EOk X.K B G0 G' H' σ' ρ'/\aftS X.K B G0 KX (Yj f g m ρ') G' Dn,⟨n,G,ρ,k,a⟩,?_⟩;rintro m σ' H' ⟨G',ρ',k',a'⟩;cases m with
  |zero=>exact a'.elim
  |succ m=>
   rw[Yj]at a';refine⟨G',ρ',k',?_⟩;cases z:f ρ' with
   |bad=>rw[z]at a';exact a'.elim
   |ok t ρ1=>
    rw[z]at a';dsimp only at a';intro v G1 H1 k1 s1 e1;subst e1;cases v with
    |false=>rw[QG Jt]at a'⊢;exact a' _ G1 H1 k1 s1
    |true=>
     rw[Qq rfl]at a'⊢;refine⟨λσ2 H2=>∃G2 ρ2,EOk X.K B G0 G2 H2 σ2 ρ2/\aftS X.K B G0 KX (Yj f g m ρ2) G2 Dn,λσ2 H2 h2=>⟨m,Nat.lt_succ_self m,h2⟩,G1,ρ1,k1,?_⟩;cases z2:g ρ1 with
     |nx ρ2=>rw[z2]at a';exact λσ4 G4 H4 k4 s4=>⟨G4,ρ2,k4,aftS.mono (s1.trans s4) a'⟩
     |ct ρ2=>rw[z2]at a';exact λσ4 G4 H4 k4 s4=>⟨G4,ρ2,k4,aftS.mono (s1.trans s4) a'⟩
     |bk ρ2=>rw[z2]at a';exact λσ4 G4 H4 k4 s4=>a' σ4 G4 H4 k4 (s1.trans s4)
     |rt d=>rw[z2]at a';exact a'
     |ro ds=>rw[z2]at a';exact a'
     |ex ρ2 d=>rw[z2]at a';exact λv σ4 G4 H4 k4 s4 r4=>a' v σ4 G4 H4 k4 (s1.trans s4) r4
     |bad=>rw[z2]at a';exact a'.elim
def Yq(op:Int->Int->Option D)(j:Nat)(f:M D):SM:=λρ=>match ρ[j]? with
 |some (some (.pub (.int a)))=>sB f (λy ρ1=>match y with
  |.int b=>(match op a b with
   |some d=>if j<ρ1.length then .nx (ρ1.set j (some (.pub d)))else .bad
   |none=>.bad)
  |_=>.bad) ρ
 |_=>.bad
def IpD(X:Cx)(op:Operator)(p:Int->Int->Option D):Prop:=∃ti,PIp X op ti/\∀i j d,p i j=some d->∃v:V,(∀G,Rep X.K G v d)/\∀H(Q:VK),Q v H->ti (.int i) (.int j) H Q
theorem FV:IpD X .Mult ZB:=⟨_,EF,λi j d e=>by
 unfold ZB at e;split at e
 ·rename_i h;cases e;exact⟨_,λ_=>.int _,λH Q q=>⟨i,j,rfl,rfl,h,q⟩⟩
 ·cases e⟩
theorem HG{j:Nat}{x:Str}{op:Operator}{p:Int->Int->Option D}{f:M D}{pos':Pos}(hN:X.N.Nodup)(hi:X.N[j]?=some x)(hx:Loc X.env.scope x)(ho:IpD X op p)(he:PE X e (tD X.K B G0 f))(hf:X.fn x=true∨X.env.scope.names.lookup x=some .local:=by first|exact .inl rfl|exact .inr rfl|assumption) :
  PS X (.AugAssign (.Name x pos') op e pos) (tS X.K B G0 KX (Yq p j f)):=by
 obtain⟨ti,hti,hp⟩:=ho;refine KZ (GT hN hi hx he hti hf) λDn σ H ⟨G,ρ,k,a⟩=>?_;unfold Yq at a
 cases q:ρ[j]? with
 |none=>rw[q]at a;exact a.elim
 |some o0=>
  cases o0 with
  |none=>rw[q]at a;exact a.elim
  |some sl=>
   cases sl with
   |deep _ _=>rw[q]at a;exact a.elim
   |own ds=>rw[q]at a;exact a.elim
   |pub d0=>
    rw[q]at a;cases d0 with
    |int i0=>
     dsimp only at a;obtain⟨v,h1,h2⟩:=k.pub j _ q;cases h2.int_inv;refine⟨.int i0,h1,G,ρ,k,?_⟩;unfold sB at a;cases z:f ρ with
     |bad=>rw[z]at a;exact a.elim
     |ok y ρ1=>
      rw[z]at a;dsimp only at a;intro u G1 H1 k1 s1 r1;cases y with
      |int i1=>
       cases r1.int_inv;dsimp only at a;cases w:p i0 i1 with
       |none=>rw[w]at a;exact a.elim
       |some d=>
        rw[w]at a;dsimp only at a;split at a
        ·rename_i hl;obtain⟨v',rv,hq⟩:=hp i0 i1 d w;exact hq H1 _ (a _ G1 H1 (k1.setPub (rv G1) hl) s1)
        ·exact a.elim
      |_=>exact a.elim
    |_=>exact a.elim
def Wi(ρ:UE)(j:Nat):Option (List D):=match ρ[j]? with
 |some (some (.own ds))=>some ds
 |_=>none
theorem R3{ρ:UE}{j:Nat}{ds:List D}(h:Wi ρ j=some ds):ρ[j]?=some (some (.own ds)):=by
 unfold Wi at h;split at h
 ·rename_i es e;cases h;exact e
 ·cases h
theorem No{ρ:UE}{j:Nat}{ds:List D}(h:ρ[j]?=some (some (.own ds))):Wi ρ j=some ds:=by unfold Wi;rw[h]
def Y0(j:Nat)(f:M (List D)):SM:=λρ=>match Wi ρ j with
 |none=>.bad
 |some _=>sB f (λes ρ1=>match Wi ρ1 j with
  |some ds=>if ds.length+es.length<=1000000 then .nx (ρ1.set j (some (.own (ds++es))))else .bad
  |none=>.bad) ρ
theorem HF{j:Nat}{f:M (List D)}{apos cpos:Pos}(ho:PE X o (KO j))(he:PE X e (tL X.K B G0 f))
  (hbase:attributeBase o "extend" X.env (eval o X.env)=eval o X.env:=by rfl)
  (hfew:((backTo cpos (Ul [e] X.env)).all (λx=>!x.1)&&(backToKw cpos (keywordEach [] X.env)).all (λx=>x.1.isSome)
   && decide ([e].length+([]:List Keyword).length+(if([]:List Keyword).isEmpty then 0 else 1)<30))=true:=by rfl)
  (hline:(apos.endLine==cpos.line)=true:=by rfl) (hs:Ul [e] X.env=[(false,eval e X.env)]:=by rfl)
  (hsw:swapsWith (.Call (.Attribute o "extend" apos) [e] [] cpos) none pos.line X.env=pure false:=by rfl) :
  PS X (.Expr (.Call (.Attribute o "extend" apos) [e] [] cpos) pos) (tS X.K B G0 KX (Y0 j f)):=
 KZ (Rz (V6 PySem.F.plainAttrs_list PySem.F.slot_list_extend PySem.F.type_list_extend CW ho (Xk he Xp (by rw[hs];rfl)) hbase hfew hline (by rw[hs];rfl) rfl) hsw) λD σ H ⟨G,ρ,k,a⟩=>by
  unfold Y0 at a;cases q0:Wi ρ j with
  |none=>rw[q0]at a;exact a.elim
  |some ds0=>
  rw[q0]at a;dsimp only at a;obtain⟨ad,vs0,h1,h2,h3,h4,h5⟩:=k.own j ds0 (R3 q0);refine⟨.ref ad,h1,.inl ⟨rfl,_,SqL.of h4⟩,G,ρ,k,?_⟩;unfold sB at a;cases z:f ρ with
  |bad=>rw[z]at a;exact a.elim
  |ok es ρ1=>
  rw[z]at a;dsimp only at a;intro b zs G1 H1 k1 s1 n1;cases q1:Wi ρ1 j with
  |none=>rw[q1]at a;exact a.elim
  |some ds=>
  rw[q1]at a;dsimp only at a;split at a
  ·rename_i hl;obtain⟨ad1,vs,g1,g2,g3,g4,g5⟩:=k1.own j ds (R3 q1);rw[h1]at g1;cases g1;refine⟨ad,b,vs,zs,rfl,rfl,g4,n1.h,by rw[g5.length,n1.r.length];exact QQ hl lim,?_⟩;exact a σ G1 _ (k1.change (R3 q1) h1 (g5.append n1.r)) s1
  ·exact a.elim
end
section
variable{X:Cx}{B G0:Hp}{e o a b c tg i:Ui}{pos p2:Pos}{es rest:List Ui}
theorem Cy(hc:X.calm=true):ZN X (.builtin "sum") (λxs H Q=>∃l,∃ns:List Int,xs=[.ref l]/\SqL X.K H l (ns.map V.int)/\Q (.int ns.sum) H):=by
 intro pins s σ H xs us Q I rx h;obtain⟨l,ns,rfl,hq,q⟩:=h;obtain⟨u,rfl,ru⟩:=rx.one;cases ru;obtain⟨its,rv,p,hz⟩:=I.list hq;have hi:=Xw rv;obtain⟨ys,e⟩:=hi.allInts.items;have hns:ns=ys.toList.map (·.1):=by rw[←hi.numsOf,←nums_intItems,←e]
 have hl:=p.isList;rw[e]at hl;refine sum_intListG (I.ok.hd hc) hl λh' tk t' hk=>?_
 have e2:preSum (numAt ys) ys.size=ns.sum:=by rw[preSum_eq,List.take_of_length_le (by simp),hns]
 rw[e2];exact⟨.int ns.sum,H,I.kept hk,⟨t',rfl⟩,q⟩
def WC:List D->Option D
 |[.list ds]=>(Zu ds).map λns=>.int ns.sum
 |_=>none
theorem Cw{xs:List D}{d:D}(h:WC xs=some d):∃ds ns,xs=[.list ds]/\Zu ds=some ns/\d=.int ns.sum:=by
 unfold WC at h;split at h
 ·rename_i ds;cases z:Zu ds with
  |none=>rw[z]at h;cases h
  |some ns=>rw[z]at h;cases h;exact⟨ds,ns,rfl,z,rfl⟩
 ·cases h
theorem HE(hc:X.calm=true):Z1 X (.builtin "sum") WC:=by refine⟨_,Cy hc,λvs G H ds d Q s r e k=>?_⟩;obtain⟨ds,ns,rfl,z,rfl⟩:=Cw e;obtain⟨v,rfl,q1⟩:=r.one_inv;obtain⟨l,ws,rfl,h1,r1⟩:=q1.lst_inv;have:=VW r1 z;subst this;exact⟨l,ns,rfl,s.seq h1,k _ G H (.refl s) (.int _)⟩
theorem Nn{ns:List Int}:WC [.list (ns.map .int)]=some (.int ns.sum):=by unfold WC;dsimp only;rw[VY];rfl
theorem Cv:MtR X "list.index" (λv vs H Q=>∃l k,∃ns:List Int,v=.ref l/\vs=[.int k]/\SqL X.K H l (ns.map V.int)/\PyData.layable0 (.list (ns.map .int))=true/\k∈ns/\Q (.int (ns.idxOf k:Nat)) H):=by intro pins s σ H x vs v us Q I rx rv h;obtain⟨l,k,ns,rfl,rfl,hq,hl,hk,q⟩:=h;cases rx;obtain⟨u,rfl,ru⟩:=rv.one;obtain⟨t,rfl⟩:=ru;obtain⟨its,rv,p,hz⟩:=I.list hq;exact index_list_ints p.isList (Xw rv) hl hk ⟨.int _,H,I.tok _,⟨_,rfl⟩,q⟩
def VR(y:D)(xs:List D):Option D:=match y,xs with
 |.list ds,[.int k]=>(match Zu ds with
  |some ns=>if PyData.layable0 (.list (ns.map .int))=true/\k∈ns then some (.int (ns.idxOf k:Nat))else none
  |none=>none)
 |_,_=>none
theorem Ar{ds xs:List D}{d:D}(h:VR (.list ds) xs=some d):∃k ns,xs=[.int k]/\Zu ds=some ns/\PyData.layable0 (.list (ns.map .int))=true/\k∈ns/\d=.int (ns.idxOf k:Nat):=by
 unfold VR at h;split at h
 ·rename_i ds' k e1;cases e1;cases z:Zu ds with
  |none=>rw[z]at h;cases h
  |some ns=>
   rw[z]at h;dsimp only at h;split at h
   ·rename_i c;cases h;exact⟨k,ns,rfl,rfl,c.1,c.2,rfl⟩
   ·cases h
 ·cases h
def T9(f:M D)(g:M (List D)):M D:=UX f λy=>UX g λxs=>UY (match y with | .list ds=>VR (.list ds) xs|_=>none)
theorem Cu{apos cpos:Pos}{f:M D}{g:M (List D)}(ho:PE X o (tD X.K B G0 f))(ha:PA X (e::es) (tDs X.K B G0 g))
  (hbase:attributeBase o "index" X.env (eval o X.env)=eval o X.env:=by rfl)
  (hfew:((backTo cpos (Ul (e::es) X.env)).all (λx=>!x.1)&&(backToKw cpos (keywordEach [] X.env)).all (λx=>x.1.isSome)
   && decide ((e::es).length+([]:List Keyword).length+(if([]:List Keyword).isEmpty then 0 else 1)<30))=true:=by rfl)
  (hline:(apos.endLine==cpos.line)=true:=by rfl) (hs:Ul (e::es) X.env=(false,eval e X.env)::Ul es X.env:=by rfl) (hplain:(backTo cpos (Ul es X.env)).any (·.1)=false:=by rfl) :
  PE X (.Call (.Attribute o "index" apos) (e::es) [] cpos) (tD X.K B G0 (T9 f g)):=
 U5 (V6 F.plainAttrs_list F.slot_list_index F.type_list_index Cv ho ha hbase hfew hline hs hplain) λσ H Q q=>by
  refine tM.one (R:=Rep X.K) q λv H2 G ρ y k r a=>?_
  cases y with
  |list ds=>
   obtain⟨l,ws,rfl,h1,r1⟩:=r.lst_inv;refine⟨.inl ⟨rfl,ws,k.gh.seq h1⟩,?_⟩;refine tM.nx (R:=Reps X.K) k a λxs H3 G3 ρ3 es k3 s3 r3 a3=>?_
   obtain⟨d,e,a3⟩:=a3.opt;obtain⟨x,ns,rfl,z,hl,hk,rfl⟩:=Ar e;obtain⟨u,rfl,ru⟩:=r3.one_inv;have:=VW r1 z;subst this;exact⟨l,x,ns,rfl,by rw[ru.int_inv],k3.gh.seq (s3.seq h1),hl,hk,aft.now a3 k3 (.int _)⟩
  |_=>
   unfold UX at a;cases z:g ρ with
   |bad=>rw[z]at a;exact a.elim
   |ok xs ρ1=>rw[z]at a;exact a.elim
theorem DD{f:M D}{g:M (List D)}{ρ ρ1 ρ2:UE}{ds:List D}{x d:D}(h1:f ρ=.ok (.list ds) ρ1)(h2:g ρ1=.ok [x] ρ2)(h3:VR (.list ds) [x]=some d):T9 f g ρ=.ok d ρ2:=by unfold T9 UX;rw[h1];dsimp only;rw[h2];dsimp only;rw[h3];rfl
end
end DL
namespace DL
open PySem PySem.Spec PySem.W PyProof.Rows
def U1{α:Type}(lt:Nat->Nat->Bool):KasT α->α
 |.ret a=>a
 |.ask i j k=>U1 lt (k (lt i j))
theorem VX{α β:Type}{lt:Nat->Nat->Bool}{f:α->KasT β}:∀t:KasT α,U1 lt (t.bind f)=U1 lt (f (U1 lt t))
 |.ret _=>rfl
 |.ask i j k=>by show U1 lt ((k (lt i j)).bind f)=_;rw[VX];rfl
section
variable{key:Nat->Int}{p:Array Nat}
def KA(key:Nat->Int)(p:Array Nat)(i:Nat):Int:=key (p.getD i 0)
def srt(key:Nat->Int)(p:Array Nat)(m:Nat):Prop:=∀i j,i<=j->j<m->KA key p i<=KA key p j
def dsc(key:Nat->Int)(p:Array Nat)(m:Nat):Prop:=∀i j,i<=j->j<m->KA key p j<=KA key p i
abbrev kl(key:Nat->Int)(i j:Nat):Bool:=decide (key i<key j)
theorem NT{k d i:Nat}(hk:k<p.size)(hd:d<=k):KA key (bubble p k d) i=if i=k-d then KA key p k else if k-d<i/\i<=k then KA key p (i-1)else KA key p i:=by
 unfold KA;simp only[Q7];rw[getElem?_bubble hk d hd]
 repeat' split
 all_goals rfl
theorem Tg{i j k:Nat}(hj:j<=p.size):KA key (kas_rev p i j) k=if i<=k/\k<j then KA key p (i+j-1-k)else KA key p k:=by
 unfold KA kas_rev;simp only[Q7];rw[getElem?_mirror_all hj]
 split<;>rfl
theorem WN{i j:Nat}:(kas_rev p i j).size=p.size:=mirror_size _ _ _ _
theorem Xs{i j:Nat}:(kas_rev p i j).Perm p:=mirror_perm _ _ _ _
theorem RB:∀(f n:Nat),1<=n->srt key p n->srt key p (U1 (kl key) (kas_asc p f n))/\n<=U1 (kl key) (kas_asc p f n)/\U1 (kl key) (kas_asc p f n)<=n+f /\
  (U1 (kl key) (kas_asc p f n)<n+f->KA key p (U1 (kl key) (kas_asc p f n))<KA key p (U1 (kl key) (kas_asc p f n)-1))
 |0,n,h1,hs=>⟨hs,Qp _,Qp _,λh=>absurd h (Jc _)⟩
 |f+1,n,h1,hs=>by
  unfold kas_asc U1;cases c:kl key (p.getD n 0) (p.getD (n-1) 0)with
  |true=>dsimp only;rw[Qq rfl];exact⟨hs,Qp _,by show n<=n+(f+1);omega,λ_=>Qa c⟩
  |false=>
   dsimp only;rw[QG (by decide)];have hle:KA key p (n-1)<=KA key p n:=Uc.mp (Jz c)
   obtain⟨a1,a2,a3,a4⟩:=RB f (n+1) (by omega) (λi j hij hj=>by
    by_cases hjn:j=n
    ·subst hjn;by_cases hin:i=j
     ·subst hin;exact Jv _
     ·exact Int.le_trans (hs i (j-1) (by omega) (by omega)) hle
    ·exact hs i j hij (by omega))
   exact⟨a1,by omega,by omega,λh=>a4 (by omega)⟩
def eqs(key:Nat->Int)(p:Array Nat)(n q:Nat):Prop:=∀i,n-1-q<=i->i<n->KA key p i=KA key p (n-1)
theorem SI:∀(f:Nat)(p:Array Nat)(n q:Nat),1<=n->q+1<=n->n+f<=p.size->dsc key p n->eqs key p n q ->
  let r:=U1 (kl key) (kas_desc f p n q)
  r.1.Perm p/\r.1.size=p.size/\dsc key r.1 r.2.1/\eqs key r.1 r.2.1 r.2.2/\r.2.2+1<=r.2.1/\n<=r.2.1/\r.2.1<=n+f
 |0,p,n,q,h1,hq,hz,hd,he=>⟨J5 _,rfl,hd,he,hq,Qp _,Qp _⟩
 |f+1,p,n,q,h1,hq,hz,hd,he=>by
  intro r;have hr:r=U1 (kl key) (kas_desc (f+1) p n q):=rfl;unfold kas_desc U1 at hr;cases c:kl key (p.getD n 0) (p.getD (n-1) 0)with
  |true=>
   rw[c]at hr;(try dsimp only at hr);rw[if_pos rfl]at hr;have hlt:KA key p n<KA key p (n-1):=Qa c
   have ext:∀p':Array Nat,(∀i,KA key p' i=KA key p i)->dsc key p' (n+1)/\eqs key p' (n+1) 0:=λp' hp=>⟨λi j hij hj=>by
     rw[hp,hp];by_cases hjn:j=n
     ·subst hjn;by_cases hin:i=j
      ·subst hin;exact Jv _
      ·exact Int.le_trans (Int.le_of_lt hlt) (hd i (j-1) (by omega) (by omega))
     ·exact hd i j hij (by omega),λi hi1 hi2=>by
     have:i=n:=by omega
     subst this;rfl⟩
   by_cases hq0:q > 0
   ·rw[Qq hq0]at hr
    have same:∀i,KA key (kas_rev p (n-(q+1)) n) i=KA key p i:=λi=>by
     rw[Tg (by omega)];split
     ·rw[he _ (by omega) (by omega),he i (by omega) (by omega)]
     ·rfl
    obtain⟨d1,e1⟩:=ext _ same;obtain⟨a1,a2,a3,a4,a5,a6,a7⟩:=SI f (kas_rev p (n-(q+1)) n) (n+1) 0 (by omega) (by omega) (by rw[WN];omega) d1 e1;rw[←hr]at a1 a2 a3 a4 a5 a6 a7;exact⟨a1.trans Xs,a2.trans WN,a3,a4,a5,by omega,by omega⟩
   ·rw[QG hq0]at hr;obtain⟨d1,e1⟩:=ext p λ_=>rfl
    obtain⟨a1,a2,a3,a4,a5,a6,a7⟩:=SI f p (n+1) 0 (by omega) (by omega) (by omega) d1 e1;rw[←hr]at a1 a2 a3 a4 a5 a6 a7;exact⟨a1,a2,a3,a4,a5,by omega,by omega⟩
  |false=>
   rw[c]at hr;(try dsimp only at hr);rw[if_neg (by decide)]at hr;unfold U1 at hr;have hle:KA key p (n-1)<=KA key p n:=Uc.mp (Jz c);cases d:kl key (p.getD (n-1) 0) (p.getD n 0)with
   |true=>rw[d]at hr;(try dsimp only at hr);rw[if_pos rfl]at hr;unfold U1 at hr;rw[hr];exact⟨J5 _,rfl,hd,he,hq,Qp _,by show n<=n+(f+1);omega⟩
   |false=>
    rw[d]at hr;(try dsimp only at hr);rw[if_neg (by decide)]at hr;have hge:KA key p n<=KA key p (n-1):=Uc.mp (Jz d)
    obtain⟨a1,a2,a3,a4,a5,a6,a7⟩:=SI f p (n+1) (q+1) (by omega) (by omega) (by omega) (λi j hij hj=>by
     by_cases hjn:j=n
     ·subst hjn;by_cases hin:i=j
      ·subst hin;exact Jv _
      ·exact Int.le_trans hge (hd i (j-1) (by omega) (by omega))
     ·exact hd i j hij (by omega)) (λi hi1 hi2=>by
     have e0:KA key p n=KA key p (n-1):=J4 hge hle;show KA key p i=KA key p (n+1-1);rw[Nat.add_sub_cancel,e0];by_cases hin:i=n
     ·subst hin;exact e0
     ·exact he i (by omega) (by omega))
    rw[←hr]at a1 a2 a3 a4 a5 a6 a7;exact⟨a1,a2,a3,a4,a5,by omega,by omega⟩
theorem Mi{n nrem:Nat}(h1:1<=n)(hn:n<=nrem)(hz:nrem<=p.size)(hd:dsc key p n) :
  let r:=U1 (kl key) (kas_tail3 n nrem p)
  r.2.Perm p/\r.2.size=p.size/\srt key r.2 r.1/\1<=r.1/\r.1<=nrem:=by
 intro r;have hr:r=U1 (kl key) (kas_tail3 n nrem p):=rfl;unfold kas_tail3 at hr;rw[VX]at hr;have hs:srt key (kas_rev p 0 n) n:=λi j hij hj=>by rw[Tg (by omega),Tg (by omega),Qq (by omega),Qq (by omega)];exact hd _ _ (by omega) (by omega)
 obtain⟨a1,a2,a3,_⟩:=RB (key:=key) (p:=kas_rev p 0 n) (nrem-n) n h1 hs;rw[hr];exact⟨Xs,WN,a1,by show 1<=U1 _ _;omega,by show U1 _ _<=_;omega⟩
theorem MF{n nrem:Nat}(h1:1<=n)(hn:n+1<=nrem)(hz:nrem<=p.size)(hd:dsc key p (n+1)) :
  let r:=U1 (kl key) (kas_descPart n nrem p)
  r.2.Perm p/\r.2.size=p.size/\srt key r.2 r.1/\1<=r.1/\r.1<=nrem:=by
 intro r;have hr:r=U1 (kl key) (kas_descPart n nrem p):=rfl;unfold kas_descPart at hr;rw[VX]at hr
 obtain⟨a1,a2,a3,a4,a5,a6,a7⟩:=SI (key:=key) (nrem-(n+1)) p (n+1) 0 (by omega) (by omega) (by omega) hd (λi hi1 hi2=>by
  have:i=n:=by omega
  subst this;rfl)
 generalize U1 (kl key) (kas_desc (nrem-(n+1)) p (n+1) 0)=d at hr a1 a2 a3 a4 a5 a6 a7;obtain⟨p1,n1,q1⟩:=d;dsimp only at hr a1 a2 a3 a4 a5 a6 a7;by_cases hq:q1 > 0
 ·rw[Qq hq]at hr
  have same:∀i,KA key (kas_rev p1 (n1-(q1+1)) n1) i=KA key p1 i:=λi=>by
   rw[Tg (by omega)];split
   ·rw[a4 _ (by omega) (by omega),a4 i (by omega) (by omega)]
   ·rfl
  obtain⟨b1,b2,b3,b4,b5⟩:=Mi (key:=key) (p:=kas_rev p1 (n1-(q1+1)) n1) (n:=n1) (nrem:=nrem) (by omega) (by omega) (by rw[WN];omega) (λi j hij hj=>by rw[same,same];exact a3 i j hij hj);rw[hr];exact⟨(b1.trans Xs).trans a1,(b2.trans WN).trans a2,b3,b4,b5⟩
 ·rw[QG hq]at hr;obtain⟨b1,b2,b3,b4,b5⟩:=Mi (key:=key) (p:=p1) (n:=n1) (nrem:=nrem) (by omega) (by omega) (by omega) a3;rw[hr];exact⟨b1.trans a1,b2.trans a2,b3,b4,b5⟩
theorem BU{nrem:Nat}(h1:1<=nrem)(hz:nrem<=p.size) :
  let r:=U1 (kl key) (kas_count nrem p)
  r.2.Perm p/\r.2.size=p.size/\srt key r.2 r.1/\1<=r.1/\r.1<=nrem:=by
 intro r;have hr:r=U1 (kl key) (kas_count nrem p):=rfl;unfold kas_count at hr;rw[VX]at hr
 obtain⟨a1,a2,a3,a4⟩:=RB (key:=key) (p:=p) (nrem-1) 1 (Qp _) (λi j hij hj=>by
  have:i=j:=by omega
  subst this;exact Jv _)
 generalize U1 (kl key) (kas_asc p (nrem-1) 1)=n at hr a1 a2 a3 a4;by_cases hn:(n==nrem)=true
 ·rw[Qq hn]at hr;unfold U1 at hr;rw[hr];exact⟨J5 _,rfl,a1,a2,by show n<=nrem;omega⟩
 ·rw[QG hn]at hr;have hne:n≠nrem:=by simpa using hn
  have hlt:=a4 (by omega);by_cases hn1:n > 1
  ·rw[Qq hn1]at hr;unfold U1 at hr;cases c:kl key (p.getD 0 0) (p.getD (n-1) 0)with
   |true=>rw[c]at hr;(try dsimp only at hr);rw[if_pos rfl]at hr;unfold U1 at hr;rw[hr];exact⟨J5 _,rfl,a1,a2,by show n<=nrem;omega⟩
   |false=>
    rw[c]at hr;(try dsimp only at hr);rw[if_neg (by decide)]at hr;have hge:KA key p (n-1)<=KA key p 0:=Uc.mp (Jz c);have all:∀i,i<n->KA key p i=KA key p 0:=λi hi=>J4 (Int.le_trans (a1 i (n-1) (by omega) (by omega)) hge) (a1 0 i (by omega) hi)
    have same:∀i,KA key (kas_rev p 0 n) i=KA key p i:=λi=>by
     rw[Tg (by omega)];split
     ·rw[all _ (by omega),all i (by omega)]
     ·rfl
    obtain⟨b1,b2,b3,b4,b5⟩:=MF (key:=key) (p:=kas_rev p 0 n) (n:=n) (nrem:=nrem) a2 (by omega) (by rw[WN];exact hz) (λi j hij hj=>by
     rw[same,same];by_cases hjn:j=n
     ·subst hjn;by_cases hin:i=j
      ·subst hin;exact Jv _
      ·rw[all i (by omega)];rw[all (j-1) (by omega)]at hlt;exact Int.le_of_lt hlt
     ·rw[all i (by omega),all j (by omega)];exact Jv _)
    rw[hr];exact⟨b1.trans Xs,b2.trans WN,b3,b4,b5⟩
  ·rw[QG hn1]at hr;have:n=1:=by omega
   subst this
   obtain⟨b1,b2,b3,b4,b5⟩:=MF (key:=key) (p:=p) (n:=1) (nrem:=nrem) (Qp _) (by omega) hz (λi j hij hj=>by
    by_cases hij2:i=j
    ·subst hij2;exact Jv _
    ·have h0:i=0:=by omega
     have h1:j=1:=by omega
     subst h0;subst h1;exact Int.le_of_lt hlt)
   rw[hr];exact⟨b1,b2,b3,b4,b5⟩
theorem R7{k:Nat}(hs:srt key p k):∀(f l r:Nat),l<=r->r<=k->r-l<=f->(∀i,i<l->KA key p i<=KA key p k)->(∀i,r<=i->i<k->KA key p k<KA key p i) ->
  let m:=U1 (kl key) (kas_place p k f l r)
  m<=k/\(∀i,i<m->KA key p i<=KA key p k)/\(∀i,m<=i->i<k->KA key p k<KA key p i)
 |0,l,r,hlr,hrk,hf,h1,h2=>⟨by show l<=k;omega,h1,λi (hi:l<=i)=>h2 i (by omega)⟩
 |f+1,l,r,hlr,hrk,hf,h1,h2=>by
  intro m;have hm:m=U1 (kl key) (kas_place p k (f+1) l r):=rfl;unfold kas_place at hm;by_cases hge:l ≥ r
  ·rw[Qq hge]at hm;unfold U1 at hm;rw[hm];exact⟨by omega,h1,λi hi=>h2 i (by omega)⟩
  ·rw[QG hge]at hm;unfold U1 at hm;cases c:kl key (p.getD k 0) (p.getD ((l+r) / 2) 0)with
   |true=>rw[c]at hm;(try dsimp only at hm);rw[if_pos rfl]at hm;rw[hm];have hlt:KA key p k<KA key p ((l+r) / 2):=Qa c;exact R7 hs f l ((l+r) / 2) (by omega) (by omega) (by omega) h1 λi hi hik=>Int.lt_of_lt_of_le hlt (hs _ _ hi hik)
   |false=>rw[c]at hm;(try dsimp only at hm);rw[if_neg (by decide)]at hm;rw[hm];have hle:KA key p ((l+r) / 2)<=KA key p k:=Uc.mp (Jz c);exact R7 hs f ((l+r) / 2+1) r (by omega) hrk (by omega) (λi hi=>Int.le_trans (hs i ((l+r) / 2) (by omega) (by omega)) hle) h2
theorem Nm:∀(f:Nat)(p:Array Nat)(k:Nat),k+f<=p.size->srt key p k->let r:=U1 (kl key) (kas_bin f p k);r.Perm p/\r.size=p.size/\srt key r (k+f)
 |0,p,k,_,hs=>⟨J5 _,rfl,hs⟩
 |f+1,p,k,hz,hs=>by
  intro r;have hr:r=U1 (kl key) (kas_bin (f+1) p k):=rfl;unfold kas_bin at hr;rw[VX]at hr;obtain⟨a1,a2,a3⟩:=R7 (key:=key) hs k 0 k (J6 _) (Qp _) (by omega) (λi hi=>by omega) (λi h1 h2=>by omega);generalize U1 (kl key) (kas_place p k k 0 k)=l at hr a1 a2 a3;have hk:k<p.size:=by omega
  obtain⟨b1,b2,b3⟩:=Nm f (bubble p k (k-l)) (k+1) (by rw[bubble_size];omega) (λi j hij hj=>by
   rw[NT hk (by omega),NT hk (by omega),show k-(k-l)=l by omega];by_cases hi:i=l
   ·rw[Qq hi];by_cases hjl:j=l
    ·rw[Qq hjl];exact Jv _
    ·rw[QG hjl,Qq (by omega)];exact Int.le_of_lt (a3 (j-1) (by omega) (by omega))
   ·rw[QG hi];by_cases hi2:l<i/\i<=k
    ·rw[Qq hi2,QG (show ¬j=l by omega),Qq (by omega)];exact hs _ _ (by omega) (by omega)
    ·rw[QG hi2];by_cases hjl:j=l
     ·rw[Qq hjl];exact a2 i (by omega)
     ·rw[QG hjl];split
      ·exact hs _ _ (by omega) (by omega)
      ·exact hs _ _ (by omega) (by omega))
  rw[hr];exact⟨b1.trans (bubble_perm _ _ _),b2.trans (bubble_size _ _ _),by rw[show k+(f+1)=k+1+f by omega];exact b3⟩
theorem Ct{n:Nat}(h1:1<=n):let r:=U1 (kl key) (kas_sort n);r.Perm (List.toArray (Uo n))/\r.size=n/\srt key r n:=by
 intro r;have hr:r=U1 (kl key) (kas_sort n):=rfl;unfold kas_sort at hr;rw[VX]at hr;have hsz:(List.toArray (Uo n)).size=n:=by simp
 obtain⟨a1,a2,a3,a4,a5⟩:=BU (key:=key) (p:=List.toArray (Uo n)) (nrem:=n) h1 (by rw[hsz];exact Qp _);generalize U1 (kl key) (kas_count n (List.toArray (Uo n)))=d at hr a1 a2 a3 a4 a5;by_cases hlt:d.1<n
 ·rw[Qq hlt]at hr;have hmax:max d.1 1=d.1:=by omega
  rw[hmax]at hr;obtain⟨b1,b2,b3⟩:=Nm (key:=key) (n-d.1) d.2 d.1 (by omega) a3;rw[hr];exact⟨b1.trans a1,by omega,by rw[show d.1+(n-d.1)=n by omega]at b3;exact b3⟩
 ·rw[QG hlt]at hr;unfold U1 at hr;rw[hr];exact⟨a1,by omega,by rw[show d.1=n by omega]at a3;exact a3⟩
def Asks{α:Type}(N:Nat)(R:α->Prop):KasT α->Prop
 |.ret a=>R a
 |.ask i j k=>i<N/\j<N/\∀b,Asks N R (k b)
theorem Asks.bind{α β:Type}{N:Nat}{R:α->Prop}{S:β->Prop}{f:α->KasT β}(hf:∀a,R a->Asks N S (f a)):∀{t:KasT α},Asks N R t->Asks N S (t.bind f)
 |.ret a,h=>hf a h
 |.ask _ _ k,⟨h1,h2,h3⟩=>⟨h1,h2,λb=>Asks.bind hf (h3 b)⟩
theorem Nl{α:Type}{lt:Nat->Nat->Bool}{cmp:Nat->Nat->(Bool->Ue->Prop)->Ue->Prop}{s:Ue}{N:Nat}{R:α->Prop}(hc:∀i j C,i<N->j<N->C (lt i j) s->cmp i j C s):∀(t:KasT α)(Q:α->Ue->Prop),Asks N R t->Q (U1 lt t) s->t.kasWp cmp Q s
 |.ret _,_,_,h=>h
 |.ask i j k,Q,⟨h1,h2,h3⟩,h=>hc i j _ h1 h2 (Nl hc (k (lt i j)) Q (h3 _) h)
def bnd(N:Nat)(p:Array Nat):Prop:=∀i,p.getD i 0<N
theorem VQ{N:Nat}{p q:Array Nat}(hN:0<N)(h:bnd N p)(e:q.Perm p):bnd N q:=λi=>by
 rw[Q7];cases z:q[i]? with
 |none=>exact hN
 |some v=>have hm:v∈q:=Array.mem_of_getElem? z;have hm2:v∈p:=e.mem_iff.mp hm;obtain⟨j,hj,e2⟩:=Array.mem_iff_getElem.mp hm2;have:=h j;rw[Q7,JB hj,e2]at this;exact this
section
variable{N:Nat}(hN:0<N)
include hN
theorem RO{p:Array Nat}(h:bnd N p):∀(f n:Nat),Asks N (λ_=>True) (kas_asc p f n)
 |0,_=>trivial
 |f+1,n=>⟨h _,h _,λb=>by
  cases b with
  |true=>(try dsimp only);rw[if_pos rfl];trivial
  |false=>(try dsimp only);rw[if_neg (by decide)];exact RO h f (n+1)⟩
theorem SH:∀(f:Nat)(p:Array Nat)(n q:Nat),bnd N p->Asks N (λr=>bnd N r.1) (kas_desc f p n q)
 |0,p,_,_,h=>h
 |f+1,p,n,q,h=>⟨h _,h _,λb=>by
  cases b with
  |true=>
   dsimp only;rw[Qq rfl];split
   ·exact SH f _ _ _ (VQ hN h Xs)
   ·exact SH f _ _ _ h
  |false=>
   dsimp only;rw[QG (by decide)];refine⟨h _,h _,λb=>?_⟩;cases b with
   |true=>(try dsimp only);rw[if_pos rfl];exact h
   |false=>(try dsimp only);rw[if_neg (by decide)];exact SH f _ _ _ h⟩
theorem Mh{p:Array Nat}{n nrem:Nat}(h:bnd N p):Asks N (λr=>bnd N r.2) (kas_tail3 n nrem p):=
 Asks.bind (N:=N) (R:=λ_=>True) (S:=λr:Nat×Array Nat=>bnd N r.2) (f:=λm=>.ret (m,kas_rev p 0 n)) (λ_ _=>VQ (p:=p) (q:=kas_rev p 0 n) hN h Xs) (RO hN (VQ hN h Xs) _ _)
theorem ME{p:Array Nat}{n nrem:Nat}(h:bnd N p):Asks N (λr=>bnd N r.2) (kas_descPart n nrem p):=
 Asks.bind (λr hr=>by
  split
  ·exact Mh hN (VQ hN hr Xs)
  ·exact Mh hN hr) (SH hN _ _ _ _ h)
theorem BS{p:Array Nat}{nrem:Nat}(h:bnd N p):Asks N (λr=>bnd N r.2) (kas_count nrem p):=
 Asks.bind (R:=λ_=>True) (λn _=>by
  split
  ·exact h
  ·split
   ·refine⟨h _,h _,λb=>?_⟩;cases b with
    |true=>(try dsimp only);rw[if_pos rfl];exact h
    |false=>(try dsimp only);rw[if_neg (by decide)];exact ME hN (VQ hN h Xs)
   ·exact ME hN h) (RO hN h _ _)
theorem R6{p:Array Nat}(h:bnd N p)(k:Nat):∀(f l r:Nat),Asks N (λ_=>True) (kas_place p k f l r)
 |0,_,_=>trivial
 |f+1,l,r=>by
  unfold kas_place;split
  ·trivial
  ·refine⟨h _,h _,λb=>?_⟩;cases b with
   |true=>(try dsimp only);rw[if_pos rfl];exact R6 h k f _ _
   |false=>(try dsimp only);rw[if_neg (by decide)];exact R6 h k f _ _
theorem Nk:∀(f:Nat)(p:Array Nat)(k:Nat),bnd N p->Asks N (λ_=>True) (kas_bin f p k)
 |0,_,_,_=>trivial
 |f+1,p,k,h=>Asks.bind (R:=λ_=>True) (λl _=>Nk f _ _ (VQ hN h (bubble_perm _ _ _))) (R6 hN h k _ _ _)
end
theorem Cs{n:Nat}(hn:0<n):Asks n (λ_=>True) (kas_sort n):=by
 have hb:bnd n (List.toArray (Uo n)):=λi=>by
  rw[Q7];by_cases hi:i<n
  ·simp[hi]
  ·simp[hi,hn]
 refine Asks.bind (λr hr=>?_) (BS hn hb);split
 ·exact Nk hn _ _ _ hr
 ·trivial
end
def Kf(q:Int×Int):Int:=q.1*10000000+q.2
def okP(q:Int×Int):Prop:=-1000000<=q.2/\q.2<=1000000
theorem FT{x y:Int×Int}(hx:okP x)(hy:okP y):Kf x<Kf y ↔ (x.1<y.1∨x.1=y.1/\x.2<y.2):=by unfold Kf okP at *;omega
theorem DC{x y:Int×Int}(hx:okP x)(hy:okP y)(h:Kf x=Kf y):x=y:=by
 unfold Kf okP at *;have h1:x.1=y.1:=by omega
 have h2:x.2=y.2:=by omega
 exact Prod.ext h1 h2
section
variable{prog:Uf}{w:World}{A:Around}{E:Ud->Ue->Prop}{s:Ue}
def T8(h:Heap)(v:Ud)(q:Int×Int):Prop:=∃a t u o n,v=.ref a/\h.get? a=some o/\o.cls=.type "tuple" /\ o.data=.seq #[.int q.1 t,.int q.2 u] n
theorem FS{x y:Ud}{p q:Int×Int}{Q:Bool->Ue->Prop}(hx:T8 s.heap x p)(hy:T8 s.heap y q)(h:Q (decide (p.1<q.1∨p.1=q.1/\p.2<q.2)) s):Uk (model prog w) A (keyLt' (tuples' true) x y) Q E s:=by
 obtain⟨a,t,u,o,n,rfl,e1,c1,d1⟩:=hx;obtain⟨b,t',u',o',n',rfl,e2,c2,d2⟩:=hy;refine kat_lt e1 d1 e2 d2 ?_;show KatLex prog w A true _ Q [(Value.int p.1 t,Value.int q.1 t'),(Value.int p.2 u,Value.int q.2 u')] 0 s;refine kat_cons (wpAny_eqBool_int ?_);by_cases h1:p.1=q.1
 ·have e:(p.1==q.1)=true:=by simpa using h1
  rw[e];refine kat_yes (kat_cons (wpAny_eqBool_int ?_));by_cases h2:p.2=q.2
  ·have e:(p.2==q.2)=true:=by simpa using h2
   rw[e];refine kat_yes (kat_nil ?_);have:decide (p.1<q.1∨p.1=q.1/\p.2<q.2)=false:=QC (by omega);rw[this]at h;exact h
  ·have e:(p.2==q.2)=false:=by simpa using h2
   rw[e];refine kat_no (kat_one _ _ (PyProof.Rows.lt_int ?_))
   have:decide (p.1<q.1∨p.1=q.1/\p.2<q.2)=decide (p.2<q.2):=by
    by_cases z:p.2<q.2
    ·rw[QM z,QM (.inr ⟨h1,z⟩)]
    ·rw[QC z,QC (by omega)]
   rw[this]at h;exact h
 ·have e:(p.1==q.1)=false:=by simpa using h1
  rw[e];refine kat_no (oneLt_int ?_)
  have:decide (p.1<q.1∨p.1=q.1/\p.2<q.2)=decide (p.1<q.1):=by
   by_cases z:p.1<q.1
   ·rw[QM z,QM (.inl z)]
   ·rw[QC z,QC (by omega)]
  rw[this]at h;exact h
def ZP(h:Heap):List Ud->LP->Prop
 |[],[]=>True
 |v::vs,q::qs=>T8 h v q/\ZP h vs qs
 |_,_=>False
theorem ZP.get{h:Heap}:∀{vs:List Ud}{qs:LP},ZP h vs qs->vs.length=qs.length/\∀(i:Nat)(hi:i<vs.length),T8 h (vs.getD i .none) (qs.getD i (0,0))
 |[],[],_=>⟨rfl,λi hi=>absurd hi (JT _)⟩
 |v::vs,q::qs,⟨h1,h2⟩=>by
  obtain⟨e,f⟩:=ZP.get h2;refine⟨by simp[e],λi hi=>?_⟩;cases i with
  |zero=>exact h1
  |succ i=>exact f i (by simpa using hi)
theorem ZP.tups{h:Heap}:∀{vs:List Ud}{qs:LP},ZP h vs qs->∃fs:List Ud,KatTups h vs fs/\fs.length=vs.length/\∀v∈fs,∃i t,v=.int i t
 |[],[],_=>⟨[],trivial,rfl,λ_ h=>by cases h⟩
 |v::vs,q::qs,⟨hp,h2⟩=>by
  obtain⟨a,t,u,o,n,rfl,e1,c1,d1⟩:=hp;obtain⟨fs,f1,f2,f3⟩:=ZP.tups h2;refine⟨.int q.1 t::fs,.cons e1 c1 d1 rfl f1,by simp[f2],λv hv=>?_⟩;rcases QR.mp hv with rfl|hv
  ·exact⟨_,_,rfl⟩
  ·exact f3 v hv
theorem ZP.mono{h h':Heap}(k:∀b o,h.get? b=some o->h'.get? b=some o):∀{vs:List Ud}{qs:LP},ZP h vs qs->ZP h' vs qs
 |[],[],_=>trivial
 |v::vs,q::qs,⟨hp,h2⟩=>by obtain⟨a,t,u,o,n,rfl,e1,c1,d1⟩:=hp;exact⟨⟨a,t,u,o,n,rfl,k _ _ e1,c1,d1⟩,ZP.mono k h2⟩
def TX(qs:LP)(π:List Nat):Prop:=π.Perm (Uo qs.length)/\(π.map λi=>qs.getD i (0,0)).Pairwise λx y=>Kf x<=Kf y
theorem A0{a:Ug}{vs:List Ud}{qs:LP}{n:Nat}{P:Fin->Ue->Prop}(ho:s.heap.get? a=some (seqObj "list" vs.toArray n))
  (hp:ZP ((s.heap.update a (Obj.mapSeq λ_=>#[]))) vs qs) (hq:∀q∈qs,okP q) (h64:vs.length<64)
  (h:∀π:List Nat,TX qs π->P (.done (.ret .none)) {s with heap:=sortedHeap s.heap a vs (List.toArray (π.map λi=>vs.getD i .none))}) :
  Uk (model prog w) A (Builtin.«list.sort» ⟨[.ref a],[]⟩) P E s:=by
 obtain⟨hl,hget⟩:=hp.get;rw[list_sort_plain];have ha:a<s.heap.objs.size:=Qh ho;refine Qe (listItems_at ho rfl ?_);refine Qe (listUpdate_at ho rfl ?_);obtain⟨e1,ho1⟩:∃e1,(s.heap.update a (Obj.mapSeq λ_=>#[])).get? a=some (seqObj "list" #[] e1):=⟨_,get?_update_seq ho (λ_=>#[])⟩
 refine Qe (seqEpoch_at ho1 rfl ?_);refine Qe (wpAny_newTuple ?_);refine Qe (wpAny_newList ?_);refine wpAny_holding ?_;have ho6:(((s.heap.update a (Obj.mapSeq λ_=>#[])).push (seqObj "tuple" vs.toArray 0)).push (seqObj "list" #[] 0)).get? a=some (seqObj "list" #[] e1):=by rw[Heap.get?_push_ne _ _ _ (by rw[size_push',Heap.size_update];exact QI (Nat.lt_succ_of_lt ha)),Heap.get?_push_ne _ _ _ (by rw[Heap.size_update];exact QI ha)];exact ho1
 have hp6:ZP (((s.heap.update a (Obj.mapSeq λ_=>#[])).push (seqObj "tuple" vs.toArray 0)).push (seqObj "list" #[] 0)) vs qs:=hp.mono λb o e=>Qi _ (Qi _ e)
 show Uk (model prog w) A _ P E {s with heap:=((s.heap.update a (Obj.mapSeq λ_=>#[])).push (seqObj "tuple" vs.toArray 0)).push (seqObj "list" #[] 0)};dsimp only;have hsz:vs.toArray.size=vs.length:=by simp
 by_cases h2:vs.toArray.size<2
 ·rw[Qq h2,Qq h2];refine Qe (Qk ?_);rw[StateT.run_pure];refine Qe (Qk ?_);dsimp only;refine Qe (seqEpoch_at ho6 rfl ?_);refine Qe (listUpdate_at ho6 rfl ?_ (hsz2:=by rw[Array.size_map];show(pairsOf vs).size<=_;rw[pairsOf_size,sizeLine_eq];omega));simp only[bne_self_eq_false,JP,if_false]
  have hid:(arrOf (SortSt.mk' general' (vs.toArray.zip vs.toArray) #[] 7 none)).map (·.2)=List.toArray ((Uo vs.length).map λi=>vs.getD i .none):=by
   show(vs.toArray.zip vs.toArray).map (·.2)=_
   apply Array.toList_inj.mp;apply List.ext_getElem?;intro i;simp only[Array.toList_map,Array.toList_zip,Qf,List.getElem?_zip_eq_some];by_cases hi:i<vs.length
   ·simp[List.getElem?_zip_eq_some,hi,List.getElem?_range]
   ·simp[hi]
  rw[hid];refine Qk (h (Uo vs.length) ⟨by rw[hl],?_⟩);rw[List.pairwise_map];rw[hsz]at h2
  rcases(show vs.length=0∨vs.length=1 by omega)with z|z<;>rw[z]
  ·exact .nil
  ·exact List.pairwise_singleton _ _
 ·rw[QG h2,QG h2];rw[hsz]at h2;obtain⟨fs,f1,f2,f3⟩:=hp6.tups;refine Qe (kat_kind (T:=.type "int") f1 (by omega) (λv hv=>by obtain⟨i,t,rfl⟩:=f3 v hv;exact(show Looks _ _ (pure (Value.type "int")) _ from .now)) rfl ?_)
  refine Qe (QA (kat_run (ks:=vs) (G:=λp s'=>s' = {s with heap:=((s.heap.update a (Obj.mapSeq λ_=>#[])).push (seqObj "tuple" vs.toArray 0)).push (seqObj "list" #[] 0)}/\p=U1 (kl λi=>Kf (qs.getD i (0,0))) (kas_sort vs.length))
   (Q:=λst' s'=>s' = {s with heap:=((s.heap.update a (Obj.mapSeq λ_=>#[])).push (seqObj "tuple" vs.toArray 0)).push (seqObj "list" #[] 0)}/\failedOf st'=none/\arrOf st'=(U1 (kl λi=>Kf (qs.getD i (0,0))) (kas_sort vs.length)).map (kas_item (vs.toArray.zip vs.toArray)))
   rfl (by omega) h64 (λp st' s' a1 a2 a3 a4=>⟨a4.1,a3,by rw[a2,a4.2]⟩) ?_) ?_ λ_ _ e=>e)
  ·refine Nl (N:=vs.length) (R:=λ_=>True) (lt:=kl λi=>Kf (qs.getD i (0,0))) (λi j C hi hj hC=>?_) _ _ (Cs (by omega)) ⟨rfl,rfl⟩;refine FS (ZP.get hp6 |>.2 i hi) (ZP.get hp6 |>.2 j hj) ?_;have oi:okP (qs.getD i (0,0)):=hq _ (by rw[QH,Qd (by omega)];exact Je _);have oj:okP (qs.getD j (0,0)):=hq _ (by rw[QH,Qd (by omega)];exact Je _);have e:decide ((qs.getD i (0,0)).1<(qs.getD j (0,0)).1∨(qs.getD i (0,0)).1=(qs.getD j (0,0)).1/\(qs.getD i (0,0)).2<(qs.getD j (0,0)).2)=kl (λi=>Kf (qs.getD i (0,0))) i j:=by unfold kl;exact decide_eq_decide.mpr (FT oi oj).symm
   rw[e];exact hC
  ·rintro⟨⟨⟩,st'⟩ s' ⟨rfl,hf,har⟩;dsimp only;obtain⟨b1,b2,b3⟩:=Ct (key:=λi=>Kf (qs.getD i (0,0))) (n:=vs.length) (by omega);generalize U1 (kl λi=>Kf (qs.getD i (0,0))) (kas_sort vs.length)=p at har b1 b2 b3;have hout:=kat_snds (ks:=vs) (vs:=vs) rfl har;have hsz2:((arrOf st').map (·.2)).size=vs.length:=by rw[hout,QO,Qb,Jo,b2]
   refine Qe (seqEpoch_at ho6 rfl ?_);refine Qe (listUpdate_at ho6 rfl ?_ (hsz2:=by rw[hsz2,sizeLine_eq];omega));rw[hf];simp only[bne_self_eq_false,JP,if_false];rw[hout];refine Qk (h p.toList ⟨?_,?_⟩)
   ·have:=Array.perm_iff_toList_perm.mp b1;rw[←hl];exact this
   ·rw[List.pairwise_map,List.pairwise_iff_getElem];intro i j hi hj hij;rw[Jo,b2]at hi hj;have:=b3 i j (by omega) hj;unfold KA at this;rw[Q7,Q7,JB (by omega),JB (by omega)]at this;simpa using this
end
section
variable{prog:Uf}{w:World}{A:Around}{E:Ud->Ue->Prop}{s:Ue}
theorem Au{l:Ug}{vs:List Ud}{qs:LP}{Q:Ud->Ue->Prop}(hl:s.heap.IsList l vs.toArray)(hp:ZP s.heap vs qs)(hq:∀q∈qs,okP q)(h64:vs.length<64)
  (h:∀π:List Nat,TX qs π->Q (.ref (s.heap.objs.size+1)) {s with heap:=sortedAll s.heap vs (List.toArray (π.map λi=>vs.getD i .none))}) :
  Uk (model prog w) A (call (.builtin "sorted") [.ref l]) Q E s:=by
 refine Calls.call_function_entry kind_sorted plain_sorted entry_sorted (args_sorted1 _) ?_;unfold Builtin.«sorted»;refine Qe (m:=checkCount "sorted" 1 1 _) (Qk ?_);refine Qe (collect_list hl ?_);refine Qe (wpAny_newList ?_);have hsz:((s.heap.push (seqObj "list" #[] 0)).update s.heap.objs.size (Obj.mapSeq (· ++ vs.toArray))).objs.size=s.heap.objs.size+1:=by rw[Heap.size_update,size_push']
 have hoL:(((s.heap.push (seqObj "list" #[] 0)).update s.heap.objs.size (Obj.mapSeq (· ++ vs.toArray))).push (seqObj "list" vs.toArray 0)).get? (s.heap.objs.size+1)=some (seqObj "list" vs.toArray 0):=by rw[←hsz];exact Qx _ rfl
 show Uk _ _ _ _ _ {s with heap:=((s.heap.push (seqObj "list" #[] 0)).update s.heap.objs.size (Obj.mapSeq (· ++ vs.toArray))).push (seqObj "list" vs.toArray 0)};rw[hsz];refine Qe (wpAny_holding (wpAny_call_entry slot_list_sort ⟨_,hoL,rfl⟩ entry_list_sort (A0 (qs:=qs) hoL (hp.mono λb o e=>?_) hq h64 λπ a1=>⟨_,rfl,?_⟩) (args_list_sort _)))
 ·have hlt:b<s.heap.objs.size:=Qh e;dsimp only;have hlt':(b:Nat)<s.heap.objs.size:=hlt;rw[Heap.get?_update_ne _ _ _ _ (QI (Nat.lt_succ_of_lt hlt')),Heap.get?_push_ne _ _ _ (by rw[hsz];exact QI (Nat.lt_succ_of_lt hlt')),Heap.get?_update_ne _ _ _ _ (QI hlt),Heap.get?_push_ne _ _ _ (QI hlt)];exact e
 ·exact Qk ⟨_,rfl,h π a1⟩
end
end DL
namespace DL
open PySem PySem.Spec L2
open PyProof.Rows hiding St
section
variable{X:Cx}
theorem Nj{pins:List (Ug×Obj)}{s:Ue}{σ:St}{H:Hp}(I:Inv X pins σ H s):∀{as:List Ug}{us:List Ud}{qs:LP},Vals (as.map V.ref) us->as.length=qs.length->(∀(i:Nat) a q,as[i]?=some a->qs[i]?=some q->SqT X.K H a [.int q.1,.int q.2])->ZP s.heap us qs
 |[],_,[],.nil,_,_=>trivial
 |a::as,_,q::qs,.cons r t,hl,h=>by refine⟨?_,Nj I t (by simpa using hl) λi a q h1 h2=>h (i+1) a q (by simpa using h1) (by simpa using h2)⟩;cases r;obtain⟨its,rv,⟨o,e,c,n,d⟩,_⟩:=I.tuple (h 0 a q rfl rfl);obtain⟨u,v,rfl,r1,r2⟩:=rv.two;obtain⟨t1,rfl⟩:=r1;obtain⟨t2,rfl⟩:=r2;exact⟨a,t1,t2,o,n,rfl,e,c,by simpa using d⟩
theorem NS{as:List Ug}{us:List Ud}(r:Vals (as.map V.ref) us):∀(π:List Nat),(∀i∈π,i<as.length)->Vals (π.map λi=>V.ref (as.getD i 0)) (π.map λi=>us.getD i .none)
 |[],_=>.nil
 |i::π,h=>by
  refine .cons ?_ (NS r π λj hj=>h j (Qu _ hj));have hi:=h i Qo;have e:(as.map V.ref)[i]?=some (.ref (as.getD i 0)):=by rw[List.getElem?_map,List.getElem?_eq_getElem hi];simp[List.getD,List.getElem?_eq_getElem hi]
  obtain⟨u,e2,ru⟩:=r.get e;simp only[List.getD,e2,JL];exact ru
theorem BR:ZN X (.builtin "sorted") (λxs H Q=>∃l,∃as:List Ug,∃qs:LP,xs=[.ref l]/\SqL X.K H l (as.map V.ref)/\as.length=qs.length/\(∀(i:Nat) a q,as[i]?=some a->qs[i]?=some q->SqT X.K H a [.int q.1,.int q.2])/\(∀q∈qs,okP q)/\qs.length<64 /\
  ∀π p,TX qs π->H p=none->Q (.ref p) (upd H p (.lst (π.map λi=>V.ref (as.getD i 0))))):=by
 intro pins s σ H xs us Q I rx h;obtain⟨l,as,qs,rfl,hq,hl,ht,ho,hb,q⟩:=h;obtain⟨u,rfl,ru⟩:=rx.one;cases ru;obtain⟨its,rv,p,hz⟩:=I.list hq;have hn:its.length=qs.length:=by have:=rv.length;rw[Qb]at this;omega
 refine Au (qs:=qs) p.isList (Nj I rv hl ht) ho (by omega) λπ hπ=>?_
 obtain⟨e,he⟩:=sortedAll_at s.heap its (List.toArray (π.map λi=>its.getD i .none));have hπl:∀i∈π,i<as.length:=λi hi=>by have:=hπ.1.mem_iff.mp hi;rw[QY]at this;omega
 refine⟨.ref (s.heap.objs.size+1),_,I.laid (t':=s.toks) (λb o=>sortedAll_old) (JO _) (show K2 X.prog X.w _ _ _ (.lst (π.map λi=>V.ref (as.getD i 0)))from⟨?_,_,e,NS rv π hπl,he⟩),rfl,q π _ hπ (I.hok.fresh (JO _))⟩;rw[Qb,hπ.1.length_eq,QS];rw[Qb]at hz;omega
def T7:D->Option (Int×Int)
 |.tuple [.int a,.int b]=>some (a,b)
 |_=>none
def VP:List D->Option LP
 |[]=>some []
 |d::r=>(T7 d).bind λq=>(VP r).map (q :: ·)
def ZV(q:Int×Int):D:=.tuple [.int q.1,.int q.2]
theorem Cr{d:D}{q:Int×Int}(h:T7 d=some q):d=ZV q:=by
 unfold T7 at h;split at h
 ·cases h;rfl
 ·cases h
theorem MB:∀{ds:List D}{qs:LP},VP ds=some qs->ds=qs.map ZV
 |[],qs,h=>by cases h;rfl
 |d::r,qs,h=>by
  unfold VP at h;cases z:T7 d with
  |none=>rw[z]at h;cases h
  |some q=>
   rw[z]at h;cases z2:VP r with
   |none=>rw[z2]at h;cases h
   |some qs'=>rw[z2]at h;cases h;rw[Cr z,MB z2];rfl
def V2(qs:LP):LP:=qs.mergeSort λx y=>decide (Kf x<=Kf y)
theorem BQ(qs:LP):(V2 qs).Perm qs:=List.mergeSort_perm ..
theorem CO(qs:LP):(V2 qs).Pairwise λx y=>Kf x<=Kf y:=by have:=List.pairwise_mergeSort (le:=λx y:Int×Int=>decide (Kf x<=Kf y)) (by intro a b c;simp;omega) (by intro a b;simp;omega) qs;exact this.imp (by simp)
theorem Ni:∀{a b:LP},(∀x∈a,okP x)->a.Perm b->a.Pairwise (λx y=>Kf x<=Kf y)->b.Pairwise (λx y=>Kf x<=Kf y)->a=b
 |[],b,_,p,_,_=>by rw[List.nil_perm.1 p]
 |x::a,[],_,p,_,_=>by have:=p.length_eq;simp at this
 |x::a,y::b,ok,p,ha,hb=>by
  have hx:Kf y<=Kf x:=by
   rcases QR.1 (p.mem_iff.1 (Qo ..))with e|e
   ·rw[e];exact Jv _
   ·exact(Jj.1 hb).1 x e
  have hy:Kf x<=Kf y:=by
   rcases QR.1 (p.mem_iff.2 (Qo ..))with e|e
   ·rw[e];exact Jv _
   ·exact(Jj.1 ha).1 y e
  have oky:okP y:=ok y (p.mem_iff.2 (Qo ..));have e:=DC (ok x (Qo ..)) oky (J4 hy hx);subst e;rw[Ni (λz hz=>ok z (Qu _ hz)) (List.Perm.cons_inv p) (Jj.1 ha).2 (Jj.1 hb).2]
theorem DB{qs:LP}{π:List Nat}(ok:∀q∈qs,okP q)(h:TX qs π):(π.map λi=>qs.getD i (0,0))=V2 qs:=by
 have hp:(π.map λi=>qs.getD i (0,0)).Perm qs:=by
  have h1:=h.1.map λi=>qs.getD i (0,0)
  have e:(Uo qs.length).map (λi=>qs.getD i (0,0))=qs:=by
   apply List.ext_getElem?;intro i;rw[Qf];by_cases hi:i<qs.length
   ·rw[List.getElem?_range hi,List.getElem?_eq_getElem hi];simp[List.getD,List.getElem?_eq_getElem hi]
   ·rw[Q5 (by rw[QS];omega),Q5 (by omega)];rfl
  rw[e]at h1;exact h1
 exact Ni (λx hx=>ok x (hp.mem_iff.mp hx)) (hp.trans (BQ qs).symm) h.2 (CO qs)
def okPB(q:Int×Int):Bool:=decide (-1000000<=q.2/\q.2<=1000000)
def T6:List D->Option D
 |[.list ds]=>(match VP ds with
  |some qs=>if qs.length<64/\qs.all okPB=true then some (.list ((V2 qs).map ZV))else none
  |none=>none)
 |_=>none
theorem BP{xs:List D}{d:D}(h:T6 xs=some d):∃qs:LP,xs=[.list (qs.map ZV)]/\qs.length<64/\(∀q∈qs,okP q)/\d=.list ((V2 qs).map ZV):=by
 unfold T6 at h;split at h
 ·rename_i ds;cases z:VP ds with
  |none=>rw[z]at h;cases h
  |some qs=>
   rw[z]at h;dsimp only at h;split at h
   ·rename_i c;cases h;exact⟨qs,by rw[MB z],c.1,λq hq=>(show -1000000<=q.2/\q.2<=1000000 from Qa (Jb.mp c.2 q hq)),rfl⟩
   ·cases h
 ·cases h
theorem NR{K:Frag}{G:Hp}:∀{vs:List V}{qs:LP},Reps K G vs (qs.map ZV)->∃as:List Ug,vs=as.map V.ref/\as.length=qs.length/\∀(i:Nat) a q,as[i]?=some a->qs[i]?=some q->SqT K G a [.int q.1,.int q.2]
 |_,[],.nil=>⟨[],rfl,rfl,λi a q h=>by simp at h⟩
 |_,q::qs,.cons r t=>by
  obtain⟨as,rfl,hl,h⟩:=NR t;obtain⟨a,ws,rfl,h1,r1⟩:=r.tup_inv;cases r1 with
  |cons ra rb=>
   obtain⟨v,rfl,rb'⟩:=rb.one_inv;refine⟨a::as,rfl,by simp[hl],λi a' q' e1 e2=>?_⟩;cases i with
   |zero=>cases e1;cases e2;rw[ra.int_inv,rb'.int_inv]at h1;exact h1
   |succ i=>exact h i a' q' (by simpa using e1) (by simpa using e2)
theorem DA{K:Frag}{G:Hp}{a:Ug}{q:Int×Int}(h:SqT K G a [.int q.1,.int q.2]):Rep K G (.ref a) (ZV q):=.tup h (.cons (.int _) (.cons (.int _) .nil))
theorem NQ{K:Frag}{G:Hp}{as:List Ug}{qs:LP}(hl:as.length=qs.length)(h:∀(i:Nat) a q,as[i]?=some a->qs[i]?=some q->SqT K G a [.int q.1,.int q.2]):∀π:List Nat,(∀i∈π,i<qs.length)->Reps K G (π.map λi=>V.ref (as.getD i 0)) ((π.map λi=>qs.getD i (0,0)).map ZV)
 |[],_=>.nil
 |i::π,hb=>by
  refine .cons ?_ (NQ hl h π λj hj=>hb j (Qu _ hj));have hi:=hb i Qo;refine DA (h i _ _ ?_ ?_)
  ·rw[List.getElem?_eq_getElem (by omega)];simp[List.getD,List.getElem?_eq_getElem (show i<as.length by omega)]
  ·rw[List.getElem?_eq_getElem hi];simp[List.getD,List.getElem?_eq_getElem hi]
theorem Eo:Z1 X (.builtin "sorted") T6:=by refine⟨_,BR,λvs G H ds d Q s r e k=>?_⟩;obtain⟨qs,rfl,h64,ok,rfl⟩:=BP e;obtain⟨v,rfl,q1⟩:=r.one_inv;obtain⟨l,ws,rfl,h1,r1⟩:=q1.lst_inv;obtain⟨as,rfl,hl,ht⟩:=NR r1;refine⟨l,as,qs,rfl,s.seq h1,hl,λi a q e1 e2=>Z5 s (ht i a q e1 e2),ok,h64,λπ p hπ hp=>?_⟩;have hb:∀i∈π,i<qs.length:=λi hi=>QY.mp (hπ.1.mem_iff.mp hi);have rr:=(NQ hl ht π hb).mono (KU (s.free hp):Same G (upd G p (.lst (π.map λi=>V.ref (as.getD i 0)))));rw[DB ok hπ]at rr;exact k _ _ _ (Ext.new s hp) (.lst (SqL.of Ky) rr)
theorem Z1.or{f:Ud}{p q:List D->Option D}(h1:Z1 X f p)(h2:Z1 X f q):Z1 X f (λxs=>(p xs).orElse λ_=>q xs):=by
 obtain⟨r1,c1,k1⟩:=h1;obtain⟨r2,c2,k2⟩:=h2;refine⟨λxs H Q=>r1 xs H Q∨r2 xs H Q,λpins s σ H xs us Q I rx h=>?_,λvs G H ds d Q s r e k=>?_⟩
 ·rcases h with h|h
  ·exact c1 pins s σ H xs us Q I rx h
  ·exact c2 pins s σ H xs us Q I rx h
 ·dsimp only at e;cases z:p ds with
  |some d'=>rw[z]at e;cases e;exact .inl (k1 vs G H ds _ Q s r z k)
  |none=>rw[z]at e;exact .inr (k2 vs G H ds _ Q s r e k)
def TW(xs:List D):Option D:=(VJ xs).orElse λ_=>T6 xs
theorem HD:Z1 X (.builtin "sorted") TW:=F0.or Eo
theorem BO{ns:List Int}(h:ns.length<64):TW [.list (ns.map .int)]=some (.list ((ZF ns).map .int)):=by unfold TW;rw[CB h];rfl
end
section
variable{X:Cx}{B G0:Hp}{e o a b c tg:Ui}{pos p2:Pos}{es rest:List Ui}{te to ti:TE}
def WB{β:Type}(p:D->D->Option β)(f:M D)(j:Nat):M β:=UX f λx=>λρ=>match ρ[j]? with
 |some (some (.pub d))=>UY (p x d) ρ
 |some (some (.own ds))=>UY (p x (.list ds)) ρ
 |_=>.bad
theorem MY{K:Frag}{σ:St}{H:Hp}{p:D->D->Option Bool}{r:R2}{j:Nat}{f:M D}{Q:Bool->Hp->Prop}{QV:VK}(hq:∀t H3,Q t H3->QV (.bl t) H3)
  (hr:∀v u G H x y d Q,Same G H->Rep K G v x->Rep K G u y->p x y=some d->Q (.bl d) H->r v u H Q)
  (q:tBo K B G0 (WB p f j) σ H Q):tD K B G0 f σ H λx H1=>KO j σ H1 λy H2=>r x y H2 QV:=by
 refine tM.one (R:=Rep K) q λv H2 G ρ x k rx a=>?_
 cases z:ρ[j]? with
 |none=>rw[z]at a;exact a.elim
 |some o=>
  cases o with
  |none=>rw[z]at a;exact a.elim
  |some sl=>
   cases sl with
   |deep _ _=>rw[z]at a;exact a.elim
   |pub d=>rw[z]at a;dsimp only at a;obtain⟨d',e',a'⟩:=aft.opt a;obtain⟨u,h1,h2⟩:=k.pub j d z;exact⟨u,h1,hr v u G H2 x d d' _ k.gh rx h2 e' (hq _ _ (a' d' G H2 k (.refl _) rfl))⟩
   |own ds=>rw[z]at a;dsimp only at a;obtain⟨d',e',a'⟩:=aft.opt a;obtain⟨ad,vs,h1,h2,h3,h4,h5⟩:=k.own j ds z;exact⟨.ref ad,h1,hr v (.ref ad) H2 H2 x (.list ds) d' _ (.refl _) (rx.mono k.gh) (.lst (SqL.of h4) (h5.mono k.gh)) e' (hq _ _ (a' d' G H2 k (.refl _) rfl))⟩
theorem En{op:CmpOp}{p:D->D->Option Bool}{j:Nat}{f:M D}(o:OpB X (Um op) p)(ha:PE X a (tD X.K B G0 f))(hb:PE X b (KO j))(hm:behindInMarks op b=false) :
  PT X (.Compare a [op] [b] pos) (tBo X.K B G0 (WB p f j)):=by
 obtain⟨r,h,i⟩:=o;exact ZS (Ry h ha hb hm) λσ H Q q=>MY (λt H3 z=>⟨t,rfl,z⟩) i q
theorem RN{β:Type}{p:D->D->Option β}{f:M D}{j:Nat}{ρ ρ1:UE}{x:D}{ds:List D}{r:β}(h1:f ρ=.ok x ρ1)(h2:ρ1[j]?=some (some (.own ds)))(h3:p x (.list ds)=some r):WB p f j ρ=.ok r ρ1:=by unfold WB;exact Kr h1 (by rw[h2];exact Zj h3)
end
end DL
namespace HT
open PySem PyProof.Rows
end HT
namespace DL
open PySem PySem.Spec L2
open PyProof.Rows hiding St
end DL
namespace DL
open PySem
theorem lz0{P:List Ud->Prop}{us:List Ud}(hl:us.length=0)(h:P []):P us:=by
 cases us with
 |nil=>exact h
 |cons a r=>cases hl
theorem lzS{P:List Ud->Prop}{us:List Ud}{n:Nat}(hl:us.length=n+1)(h:∀a r,r.length=n->P (a::r)):P us:=by
 cases us with
 |nil=>cases hl
 |cons a r=>exact h a r (Nat.succ.inj hl)
theorem lz1{P:List Ud->Prop}{us:List Ud}(hl:us.length=1)(h:∀a,P [a]):P us:=lzS hl λa r e=>lz0 (P:=λr=>P (a::r)) e (h a)
theorem lz2{P:List Ud->Prop}{us:List Ud}(hl:us.length=2)(h:∀a b,P [a,b]):P us:=lzS hl λa r e=>lz1 (P:=λr=>P (a::r)) e (h a)
theorem lz3{P:List Ud->Prop}{us:List Ud}(hl:us.length=3)(h:∀a b c,P [a,b,c]):P us:=lzS hl λa r e=>lz2 (P:=λr=>P (a::r)) e (h a)
theorem lz4{P:List Ud->Prop}{us:List Ud}(hl:us.length=4)(h:∀a b c d,P [a,b,c,d]):P us:=lzS hl λa r e=>lz3 (P:=λr=>P (a::r)) e (h a)
theorem lz5{P:List Ud->Prop}{us:List Ud}(hl:us.length=5)(h:∀a b c d e,P [a,b,c,d,e]):P us:=lzS hl λa r e=>lz4 (P:=λr=>P (a::r)) e (h a)
theorem bz1{fd:Uh}{ps:List Str}{us:List Ud}(hl:us.length=1)(h:∀a,bindArgs fd {pos:=[a]}=pure (ps.zip [a])):bindArgs fd {pos:=us}=pure (ps.zip us):=lz1 (P:=λus=>bindArgs fd {pos:=us}=pure (ps.zip us)) hl h
theorem bz2{fd:Uh}{ps:List Str}{us:List Ud}(hl:us.length=2)(h:∀a b,bindArgs fd {pos:=[a,b]}=pure (ps.zip [a,b])):bindArgs fd {pos:=us}=pure (ps.zip us):=lz2 (P:=λus=>bindArgs fd {pos:=us}=pure (ps.zip us)) hl h
theorem bz3{fd:Uh}{ps:List Str}{us:List Ud}(hl:us.length=3)(h:∀a b c,bindArgs fd {pos:=[a,b,c]}=pure (ps.zip [a,b,c])):bindArgs fd {pos:=us}=pure (ps.zip us):=lz3 (P:=λus=>bindArgs fd {pos:=us}=pure (ps.zip us)) hl h
theorem bz4{fd:Uh}{ps:List Str}{us:List Ud}(hl:us.length=4)(h:∀a b c d,bindArgs fd {pos:=[a,b,c,d]}=pure (ps.zip [a,b,c,d])):bindArgs fd {pos:=us}=pure (ps.zip us):=lz4 (P:=λus=>bindArgs fd {pos:=us}=pure (ps.zip us)) hl h
theorem bz5{fd:Uh}{ps:List Str}{us:List Ud}(hl:us.length=5)(h:∀a b c d e,bindArgs fd {pos:=[a,b,c,d,e]}=pure (ps.zip [a,b,c,d,e])):bindArgs fd {pos:=us}=pure (ps.zip us):=lz5 (P:=λus=>bindArgs fd {pos:=us}=pure (ps.zip us)) hl h
end DL
namespace DL
open PySem PySem.Spec L2
open PyProof.Rows hiding St
def whole(h:Heap):Frag:=(Uo h.objs.size).filterMap λa=>(h.get? a).map λo=>(a,o)
theorem NP{g:Ug->Option Obj}{x:Ug}:∀l:List Ug,(l.filterMap λa=>(g a).map λo=>(a,o)).lookup x=if x∈l then g x else none
 |[]=>rfl
 |y::l=>by
  have ih:=NP (g:=g) (x:=x) l;by_cases e:x=y
  ·subst e;rw[Qq Qo];cases z:g x with
   |none=>rw[List.filterMap_cons_none (by rw[z];rfl),ih,z];split<;>rfl
   |some o=>rw[List.filterMap_cons_some (by rw[z];rfl),QW,beq_self_eq_true]
  ·have m:(x∈y::l)=(x∈l):=by simp[List.mem_cons,e]
   have b:(x==y)=false:=by simpa using e
   have ih':(if x∈y::l then g x else none)=_:=(by simp only[m];exact ih.symm)
   rw[ih'];cases z:g y with
   |none=>rw[List.filterMap_cons_none (by rw[z];rfl)]
   |some o=>rw[List.filterMap_cons_some (by rw[z];rfl),QW,b]
theorem TB{h:Heap}{a:Ug}:(whole h).lookup a=h.get? a:=by
 unfold whole;rw[NP];split
 ·rfl
 ·rename_i n;cases z:h.get? a with
  |none=>rfl
  |some o=>exact absurd (QY.mpr (Qh z)) n
theorem Dy(h:Heap):(whole h).In h:=λa o e=>by rw[TB]at e;exact e
def MX(st:Stmt):Option DefRec:=match st with
 |.FunctionDef name a b _ _ _ sc _ _ pos=>some ⟨name,a,b,sc,pos⟩
 |_=>none
def Rg(st:Stmt):Option Str:=match st with
 |.FunctionDef name _ _ _ _ _ _ _ _ _=>some name
 |_=>none
def MW(st:Stmt):Pos:=match st with
 |.FunctionDef _ _ _ _ _ _ _ _ _ pos=>pos
 |_=>⟨0,0,0,0⟩
abbrev K5(p:Uf)(i:Nat):Stmt:=p.main.body.getD i (.Pass ⟨0,0,0,0⟩)
def Tf(p:Uf)(ix:List Nat):List DefRec:=ix.filterMap λi=>MX (K5 p i)
section
variable{p q:Uf}{loose:List Str}{mean:ExcName->Option Ud}{mg mb:Str->Option Ud}{h:Heap}{w:World}
theorem Px{ix:List Nat}(T:Top q loose mean mg mb h)(e:recsOf q=Tf p ix)(i:Nat)(x:Str)(hi:ix.contains i=true)(hn:Rg (K5 p i)=some x):∃f fd,mg x=some (.ref f)/\Fun (whole h) x x (K5 p i) f fd:=by
 cases hs:K5 p i with
 |FunctionDef name a b _ _ _ sc _ _ pos=>
  rw[hs]at hn;cases hn;have hd:(⟨x,a,b,sc,pos⟩:DefRec)∈recsOf q:=by rw[e];exact List.mem_filterMap.mpr ⟨i,by simpa using hi,by rw[hs];rfl⟩
  obtain⟨f,⟨oc,od,dt,osl⟩,pm,cd,doc,h1,h2,h3,h4⟩:=T.fn _ hd;have h3:dt=_:=h3;subst h3;refine⟨f,_,h1,⟨⟨oc,od,.none,doc,pm,_,cd,_,osl,rfl,by rw[TB];exact h2,?_⟩,?_⟩⟩
  ·obtain⟨c,⟨_,_,dc,_⟩,vs,t,rfl,g1,g2,g3⟩:=h4;have g2:dc=_:=g2;subst g2;unfold PySem.W.codeIn;dsimp only;rw[TB,g1];dsimp only;have g4:vs.toList[1]?=some (.str x t):=by rw[Array.getElem?_toList];exact g3
   cases hv:vs.toList with
   |nil=>rw[hv]at g4;cases g4
   |cons v0 r=>
    rw[hv]at g4;cases r with
    |nil=>cases g4
    |cons v1 r=>cases g4;exact beq_self_eq_true _
  ·unfold PySem.W.keepIn;dsimp only;rw[TB,h2]
 |_=>rw[hs]at hn;cases hn
theorem CN{K:Frag}{x qual y:Str}{st:Stmt}{f:Ug}{fd:Uh}(F:Fun K x qual st f fd)
  (hb:∀(kV doc pm:Ud)(an:Option Ug)(cdv ct v:Ud),bindArgs (PySem.W.fnOf x qual (VS st) (Wz st) (Zr st) .none kV doc pm an cdv ct) ⟨[v],[]⟩=pure [(y,v)]) (s:Ue) (v:Ud):BindsTo s fd ⟨[v],[]⟩ [(y,v)]:=by
 obtain⟨oc,od,kV,doc,pm,an,cdv,ct,osl,rfl,lk,hcd⟩:=F.ex;exact .of_eq (hb kV doc pm an cdv ct v)
def TV(q:Uf)(loose:List Str)(x:Str):Bool:=
 !startupNames.contains x && !loose.contains x && !((recsOf q).map (·.name)).contains x && !((litsOf q).map (·.1)).contains x && !((clssOf q loose).map (·.name)).contains x
theorem Z6(T:Top q loose mean mg mb h){xs:List Str}(e:xs.all (TV q loose)=true){x:Str}(hx:x∈xs):mg x=none:=by have:=Jb.mp e x hx;unfold TV at this;simp only[Q2,Bool.not_eq_true',List.contains_eq_mem,decide_eq_false_iff_not]at this;exact T.free x this.1.1.1.1 this.1.1.1.2 this.1.1.2 this.1.2 this.2
theorem SG(T:Top q loose mean mg mb h){x:Str}{i:Int}(e:valOf q x=some (.int i)):∃t,mg x=some (.int i t):=by obtain⟨v,h1,h2⟩:=T.const x _ e;have:=h2 h;cases this;exact⟨_,h1⟩
theorem Pl:∀{vs:List Ud}{ss:List Str},StrsAre vs ss->Vals (ss.map V.str) vs
 |_,_,.nil=>.nil
 |_,_,.cons y t r=>.cons ⟨t,rfl⟩ (Pl r)
theorem CM(B:Tables q w mg h){x:Str}{ss:List Str}(e:tupStrsOf q x=some ss)(hl:ss.length<=1000) :
  ∃ad o its n,mg x=some (.ref ad)/\(whole h).lookup ad=some o/\o.cls=.type "tuple" /\ o.data=.seq its n/\its.size<=Uj/\Vals (ss.map V.str) its.toList:=by
 obtain⟨a,vs,h1,⟨o,h2,h3,n,h4⟩,h5⟩:=B.tupS x ss e;have r:=Pl h5;refine⟨a,o,_,n,h1,by rw[TB];exact h2,h3,h4,?_,r⟩;have:=r.length;rw[Qb]at this;have l:(1000:Nat)<=Uj:=by decide
 rw[QO];omega
end
def scOk(sc:Scope)(N gl:List Str):Bool:=(N.all λx=>match sc.names.lookup x with|some .local=>true|some .cell=>true|_=>false)&&gl.all λx=>match sc.names.lookup x with|some .globalImplicit=>true|_=>false
def fnB(sc:Scope)(N gl:List Str):Bool:=decide (sc.kind=.function) && !sc.isCoroutine && !sc.isGenerator&&decide N.Nodup&&(sc.names.all λy=>match y.2 with | .free=>false|_=>true)&&scOk sc N gl
structure FnNm(sc:Scope)(N gl:List Str):Prop where
 kind:sc.kind=.function
 co:sc.isCoroutine=false
 gen:sc.isGenerator=false
 nd:N.Nodup
 nofree:∀y∈sc.names,y.2≠.free
 nm:∀x∈N,sc.names.lookup x=some .local∨sc.names.lookup x=some .cell
 gl:∀x∈gl,sc.names.lookup x=some .globalImplicit
theorem Kv{sc:Scope}{N gl:List Str}(H:fnB sc N gl=true):FnNm sc N gl:=by
 unfold fnB scOk at H;simp only[Q2,Jn,Bool.not_eq_true',Jb]at H;obtain⟨⟨⟨⟨⟨h1,h2⟩,h3⟩,h4⟩,h5⟩,h6,h7⟩:=H;refine⟨h1,h2,h3,h4,λy hy e=>?_,λx hx=>?_,λx hx=>?_⟩
 ·have:=h5 y hy;rw[e]at this;cases this
 ·have:=h6 x hx;split at this
  ·rename_i e;exact .inl e
  ·rename_i e;exact .inr e
  ·cases this
 ·have:=h7 x hx;split at this
  ·rename_i e;exact e
  ·cases this
section
variable{sc:Scope}{N gl:List Str}{x:Str}
theorem fq(H:FnNm sc N gl)(n:Nat):Tr N (N.take n) sc:=⟨H.kind,H.co,H.gen,H.nd,by rw[Ju,List.take_eq_take_iff];omega,λx hx=>H.nm x (List.mem_of_mem_take hx),H.nofree⟩
theorem lq(H:FnNm sc N gl)(i:Nat)(h:N[i]?=some x:=by rfl):L2.Loc sc x:=H.nm x (Qn h)
theorem pq{X:Cx}{pos:Pos}(H:FnNm X.env.scope X.N gl)(i:Nat)(h:X.N[i]?=some x:=by rfl)(hd:(x==("__debug__" : Str))=false:=by decide)(hc:(x==("__classdict__" : Str))=false:=by decide):PE X (.Name x pos) (KO i):=
 PU h ((H.nm x (Qn h)).elim .inl λz=>.inr (.inl z)) hd hc
end
theorem Kz{q p:Uf}{loose:List Str}{mean:ExcName->Option Ud}{mg mb:Str->Option Ud}{h:Heap}{ix:List Nat}(P:Uf)(w:World)(base:Heap){ps:List Str}{k n:Nat}{F:List D->Option D}(T:Top q loose mean mg mb h)(e:recsOf q=Tf p ix)(i:Nat)(x:Str)(hi:ix.contains i=true)(hn:Rg (K5 p i)=some x)
  (ok:∀{f:Ug}{fd:Uh},Fun (whole h) x x (K5 p i) f fd->FnOk P w (whole h) mg base CX0 k f fd ps (spD (whole h) n F))
  (hb:∀(kV doc pm:Ud)(an:Option Ug)(cdv ct:Ud)(us:List Ud),us.length=ps.length->bindArgs (PySem.W.fnOf x x (VS (K5 p i)) (Wz (K5 p i)) (Zr (K5 p i)) .none kV doc pm an cdv ct) ⟨us,[]⟩=pure (ps.zip us)):Def P w (whole h) mg base x k n F:=by
 obtain⟨f,fd,m,FU⟩:=Px T e i x hi hn;exact Def.mk m FU (FU.binds hb) (ok FU)
section
variable{X:Cx}{B G0:Hp}{e:Ui}{pos:Pos}{es:List Ui}
theorem pdf{k kk n:Nat}{F:List D->Option D}{g:M (List D)}{x:Str}{p2:Pos}(d:Def X.prog X.w X.K X.mg X.base x k n F)(hr:Room kk X.A)(hg:Gl X x)(ha:PA X (e::es) (tDs X.K B G0 g))(hk:k<=kk:=by decide)(hn:(e::es).length=n:=by rfl)
  (hdb:(x==("__debug__" : Str))=false:=by decide) (he:Ul (e::es) X.env=(false,eval e X.env)::Ul es X.env:=by rfl) (hpl:(backTo pos (Ul es X.env)).any (·.1)=false:=by rfl) :
  PE X (.Call (.Name x p2) (e::es) [] pos) (tD X.K B G0 (UP n F g)):=Eb d (hr.mono hk) hg ha hn hdb he hpl
end
theorem MV{q p:Uf}{loose:List Str}{mean:ExcName->Option Ud}{mg mb:Str->Option Ud}{h:Heap}{ix:List Nat}{P:Uf}{w:World}{k:Nat}{F:List D->Option D}{y:Str}{fa:Ug}(T:Top q loose mean mg mb h)(e:recsOf q=Tf p ix)(i:Nat)(x:Str)(hi:ix.contains i=true)(hn:Rg (K5 p i)=some x)(hfa:mg x=some (.ref fa))
  (hb:∀(kV doc pm:Ud)(an:Option Ug)(cdv ct v:Ud),bindArgs (PySem.W.fnOf x x (VS (K5 p i)) (Wz (K5 p i)) (Zr (K5 p i)) .none kV doc pm an cdv ct) ⟨[v],[]⟩=pure [(y,v)])
  (ok:∀(base:Heap){f:Ug}{fd:Uh},Fun (whole h) x x (K5 p i) f fd->FnOk P w (whole h) mg base CX0 k f fd [y] (spD (whole h) 1 F)) :
  ∃fd:Uh,(∀(s:Ue)(v:Ud),BindsTo s fd ⟨[v],[]⟩ [(y,v)])/\∀base:Heap,FnOk P w (whole h) mg base CX0 k fa fd [y] (spD (whole h) 1 F):=by
 obtain⟨f,fd,m,FU⟩:=Px T e i x hi hn;cases hfa.symm.trans m;exact⟨fd,CN FU hb,λbase=>ok base FU⟩
theorem Dx{l:PySem.W.OpenLaw}{n k:Nat}{q:Uf}{loose:List Str}{XP:(Str->Option Ud)->Heap->Prop}{YP:World->Heap->Prop}{d:DefRec}{F:List D->Option D}{x:Str}
  (hn:l.most=some n) (hn2:n<=Uj) (hdf:d.params.defaults=[]) (hr:Room k callerA)
  (hF:∀(w:World)(s₀:Ue)(mg mb:Str->Option Ud)(fa:Ug)(h:Heap),PySem.W.Ground q loose [] XP w s₀ mg mb h->mg d.name=some (.ref fa) ->
   ∃fd:Uh,(∀(s:Ue)(u:Ud),BindsTo s fd ⟨[u],[]⟩ [(x,u)])/\∀base:Heap,FnOk l.prog w (whole h) mg base CX0 k fa fd [x] (spD (whole h) 1 F))
  (hl:∀ns:List Int,ns.length<=n->F [.list (ns.map int)]=some (.bool true)) :
  PySem.W.WalkO q loose XP YP l.row.toRowW d [] (λf vs=>PySem.call f vs):=by
 refine Att.attach_call hn hdf λw s₀ s₁ mg mb fa o pm cd doc a vs ns G Y ho hd hcd hmg hobj hints hlen hg=>?_
 obtain⟨fd,hb,hF⟩:=hF w s₀ mg mb fa _ G hmg;exact Cp (Dy _) G.T.g G.T.b G.T.builtins G.T.nolimit hg hobj hints (QQ hlen hn2) hr (λbase _ _=>hF base) hb (λH hO hS=>Hc hS (hl ns hlen)) λH e s' z=>z
section
variable{α β:Type}{ρ ρ1 ρ2 ρ3 ρ':UE}{f:M D}{s t:SM}{Q:Out->Prop}{d:D}{ds fs:List D}{nm x:Str}{o:Out}
theorem Dw{c:String}{t:Bool}(h:f ρ=.ok d ρ1)(ht:Kg d c=t):UN (λd=>Ur (Kg d c)) f ρ=.ok (Ur t) ρ1:=by subst ht;exact Kl (k:=λd=>Ur (Kg d c)) h
theorem HC{c:String}{kvs:List (D×D)}(h:f ρ=.ok (.dict kvs) ρ1)(hc:(("dict" == c) || ("" == c))=false:=by decide):UN (λd=>Ur (Kg d c)) f ρ=.ok (Ur false) ρ1:=Dw h (nty hc)
theorem OL{c:String}{kvs:List (D×D)}(h:f ρ=.ok (.dict kvs) ρ1)(hc:(("dict" == c) || ("" == c))=false:=by decide):Ki (Zd (UN (λd=>.bool (Kg d c)) f)) ρ=.ok true ρ1:=Z3 h (by rw[nty hc];rfl)
end
end DL
namespace L2
open PySem PySem.Spec PyProof.Rows
end L2
namespace DL
open PySem PySem.Spec L2
open PyProof.Rows hiding St
def Z0:D->Option Key
 |.int i=>some (.inl i)
 |.str x=>some (.inr x)
 |_=>none
section
variable{K:Frag}{B G0 G H:Hp}{σ:St}{ρ:UE}
theorem NK{d:D}{k:Key}(h:Z0 d=some k):d=kD k:=by
 cases d with
 |int i=>cases h;rfl
 |str x=>cases h;rfl
 |_=>cases h
theorem Rep.key_inv{v:V}{k:Key}(r:Rep K G v (kD k)):v=kV k:=by
 cases k with
 |inl i=>exact r.int_inv
 |inr x=>exact r.str_inv
theorem EOk.under{p:Ug}(k:EOk K B G0 G H σ ρ)(hp:H p=none):EOk K (upd B p (.dK [])) G0 G (upd H p (.dK [])) σ ρ where
 bh:=λb o q=>by
  by_cases z:b=p
  ·subst z;rw[Ky]at q⊢;exact q
  ·rw[Kb z]at q⊢;exact k.bh b o q
 gh:=k.gh.trans (KU hp)
 g0:=k.g0
 np:=λa u q n=>by
  by_cases z:a=p
  ·subst z;exact k.gh.free hp
  ·rw[Kb z]at q;exact k.np a u q n
 len:=k.len
 pub:=k.pub
 own:=λi ds q=>by obtain⟨a,vs,h1,h2,h3,h4,h5⟩:=k.own i ds q;have z:a≠p:=Zo h4 hp;exact⟨a,vs,h1,by rw[Kb z];exact h2,h3,by rw[Kb z];exact h4,h5⟩
 sep:=k.sep
 dp:=k.dp.map (λ_ _ _ q=>⟨q,rfl⟩) (λ_ ds q=>⟨ds,q,rfl⟩) λi pt d v fp q s r w n=>⟨r.mono (.refl _) (KU hp),λb m=>let ⟨_,hl⟩:=r.isl b m;⟨by rw[Kb (Zo hl hp)];exact(w b m).1,(w b m).2⟩⟩
end
section
variable{X:Cx}{B G0:Hp}{KX:XW}{e o a b c:Ui}{pos p2:Pos}{es rest:List Ui}
theorem Tv(k:Key):Z0 (kD k)=some k:=by cases k<;>rfl
end
end DL
namespace DL
open PySem PySem.Spec L2 PySem.SeqAt PySem.AutoSeq1
open PyProof.Rows hiding St
end DL
namespace DL
open PySem PySem.Spec L2
open PyProof.Rows hiding St
end DL
namespace L2
open PySem PySem.Spec PyProof.Rows
end L2
namespace DL
open PySem PySem.Spec L2
open PyProof.Rows hiding St
end DL
namespace L2
open PySem PySem.Spec PyProof.Rows
end L2
namespace DL
open PySem PySem.Spec L2
open PyProof.Rows hiding St
end DL
namespace L2
open PySem PySem.Spec PyProof.Rows
end L2
namespace DL
open PySem PySem.Spec L2
open PyProof.Rows hiding St
end DL
namespace L2
open PySem PySem.Spec PyProof.Rows
end L2
namespace DL
open PySem PySem.Spec L2
open PyProof.Rows hiding St
end DL
namespace L2
open PySem PySem.Spec PyProof.Rows
end L2
namespace DL
open PySem PySem.Spec L2
open PyProof.Rows hiding St
theorem Rf{α:Type}(a:α):[a].Nodup:=by simp
section
variable{K:Frag}{B G0 G H:Hp}{σ:St}{ρ:UE}
structure NewT(K:Frag)(B G H:Hp)(σ:St)(ρ:UE)(pt:Pat)(v:V)(d:D)(fp:List Ug):Prop where
 r:RepO K G H pt v d fp
 nd:fp.Nodup
 b:∀a∈fp,B a=none/\G a=none
 f:∀a∈fp,∀(j:Nat) es,ρ[j]?=some (some (.own es))->σ[j]?≠some (some (.ref a))
 dp:∀a∈fp,∀(j:Nat) p d v fp',ρ[j]?=some (some (.deep p d))->σ[j]?=some (some v)->RepO K G H p v d fp'->a∉fp'
theorem EOk.setDeep{i:Nat}{pt:Pat}{v:V}{d:D}{fp:List Ug}(k:EOk K B G0 G H σ ρ)(n:NewT K B G H σ ρ pt v d fp)(hi:i<ρ.length):EOk K B G0 G H (σ.set i (some v)) (ρ.set i (some (.deep pt d))) where
 bh:=k.bh
 gh:=k.gh
 g0:=k.g0
 np:=k.np
 len:=by rw[Q3,Q3];exact k.len
 pub:=λj d' q=>by
  by_cases z:i=j
  ·subst z;have:=Zh q;cases this
  ·rw[Ql z]at q⊢;exact k.pub j d' q
 own:=λj es q=>by
  by_cases z:i=j
  ·subst z;have:=Zh q;cases this
  ·rw[Ql z]at q⊢;exact k.own j es q
 sep:=λj l c es fs q1 q2 s1 s2=>by
  have z1:i≠j:=λz=>by subst z;have:=Zh q1;cases this
  have z2:i≠l:=λz=>by subst z;have:=Zh q2;cases this
  rw[Ql z1]at q1 s1;rw[Ql z2]at q2 s2;exact k.sep j l c es fs q1 q2 s1 s2
 dp:=by
  obtain⟨ω,k1,k2⟩:=k.dp;have hs:i<σ.length:=by rw[←k.len];exact hi
  refine⟨λb=>if b∈fp then i else ω b,λj p d' q=>?_,λj es b q s=>?_⟩
  ·by_cases z:i=j
   ·subst z;have:=Zh q;cases this;exact⟨v,fp,QJ hs,n.r,n.nd,λa m=>⟨(n.b a m).1,(n.b a m).2,Qq m⟩⟩
   ·rw[Ql z]at q⊢;obtain⟨v',fp',s,r,nn,w⟩:=k1 j p d' q;refine⟨v',fp',s,r,nn,λb m=>⟨(w b m).1,(w b m).2.1,?_⟩⟩;dsimp only;rw[QG (λz=>n.dp b z j p d' v' fp' q s r m)];exact(w b m).2.2
  ·by_cases z:i=j
   ·subst z;have:=Zh q;cases this
   ·rw[Ql z]at q s;dsimp only;rw[QG (λz=>n.f b z j es q s)];exact k2 j es b q s
theorem RepOl.leaf:∀{vs:List V}{ds:List D},Reps K G vs ds->RepOl K G H .leaf vs ds []
 |_,_,.nil=>.nil
 |_,_,.cons h t=>.cons (f1:=[]) (f2:=[]) (.leaf h) (RepOl.leaf t)
def TU(ρ:UE)(i:Nat):Option (Pat×D):=match ρ[i]? with
 |some (some (.own ds))=>some (.lst .leaf,.list ds)
 |some (some (.deep p d))=>some (p,d)
 |_=>none
theorem EOk.slots(k:EOk K B G0 G H σ ρ):∃ω:Ug->Nat,∀(i:Nat) p d,TU ρ i=some (p,d)->∃v fp,σ[i]?=some (some v)/\RepO K G H p v d fp/\fp.Nodup/\∀a∈fp,B a=none/\G a=none/\ω a=i:=by
 obtain⟨ω,k1,k2⟩:=k.dp;refine⟨ω,λi p d h=>?_⟩;unfold TU at h;split at h
 ·rename_i ds q;cases h;obtain⟨a,vs,h1,h2,h3,h4,h5⟩:=k.own i ds q;refine⟨.ref a,[a],h1,.lst h4 (.leaf h5),Rf a,λb m=>?_⟩;rw[Qy.mp m];exact⟨h2,h3,k2 i ds a q h1⟩
 ·rename_i p' d' q;cases h;exact k1 i p d q
 ·cases h
theorem EOk.mutD{j:Nat}{p:Pat}{d d':D}{v:V}{fp fp':List Ug}{a:Ug}{o:HO}(k:EOk K B G0 G H σ ρ)(hd:ρ[j]?=some (some (.deep p d)))(hv:σ[j]?=some (some v))(r:RepO K G H p v d fp)(ha:a∈fp)
  (r':RepO K G (upd H a o) p v d' fp') (nd':fp'.Nodup) (sub:∀b∈fp',b∈fp):EOk K B G0 G (upd H a o) σ (ρ.set j (some (.deep p d'))):=by
 obtain⟨ω,k1,k2⟩:=k.dp;obtain⟨v0,fp0,s0,r0,n0,w0⟩:=k1 j p d hd;rw[hv]at s0;cases s0;have e0:=r0.uniq (.refl _) r;subst e0;obtain⟨hb,hg,hw⟩:=w0 a ha;obtain⟨ws,hl⟩:=r.isl a ha;have nt:∀vs,H a≠some (.tup vs):=λvs z=>by rw[hl]at z;cases ws<;>cases z
 have hjl:j<ρ.length:=(Qg.mp hd).1;have nz:∀{m:Nat}{s:Sl},j≠m->(ρ.set j (some (.deep p d')))[m]?=some (some s)->ρ[m]?=some (some s):=λ{m s} z q=>by rw[Ql z]at q;exact q
 refine⟨λb u e=>?_,λb u e=>?_,k.g0,k.np,by rw[Q3];exact k.len,λm dm e=>?_,λm es e=>?_,λm l c es fs q1 q2 s1 s2=>?_,ω,λm pm dm e=>?_,λm es b e s=>?_⟩
 ·rw[Kb (Zo e hb)];exact k.bh b u e
 ·rw[Kb (Zo e hg)];exact k.gh b u e
 ·by_cases z:j=m
  ·subst z;have:=Zh e;cases this
  ·exact k.pub m dm (nz z e)
 ·by_cases z:j=m
  ·subst z;have:=Zh e;cases this
  ·have e:=nz z e;obtain⟨c,us,g1,g2,g3,g4,g5⟩:=k.own m es e;have zc:c≠a:=λw=>by subst w;exact z (hw.symm.trans (k2 m es c e g1))
   exact⟨c,us,g1,g2,g3,by rw[Kb zc];exact g4,g5⟩
 ·have z1:j≠m:=λz=>by subst z;have:=Zh q1;cases this
  have z2:j≠l:=λz=>by subst z;have:=Zh q2;cases this
  exact k.sep m l c es fs (nz z1 q1) (nz z2 q2) s1 s2
 ·by_cases z:j=m
  ·subst z;have:=Zh e;cases this;exact⟨v,fp',hv,r',nd',λb mb=>w0 b (sub b mb)⟩
  ·obtain⟨vm,fm,sm,rm,nm,wm⟩:=k1 m pm dm (nz z e);exact⟨vm,fm,sm,rm.upd nt (λmm=>z (hw.symm.trans (wm a mm).2.2)),nm,wm⟩
 ·have z:j≠m:=λz=>by subst z;have:=Zh e;cases this
  exact k2 m es b (nz z e) s
end
def tT(K:Frag)(B G0:Hp)(pt:Pat)(f:M D):TE:=λσ H Q=>∃G ρ,EOk K B G0 G H σ ρ/\match f ρ with
 |.ok d ρ'=>∀v fp G' H',EOk K B G0 G' H' σ ρ'->Same G G'->NewT K B G' H' σ ρ' pt v d fp->Q v H'
 |.bad=>False
def VF(i:Nat)(pt:Pat)(f:M D):SM:=sB f λd ρ=>if i<ρ.length then .nx (ρ.set i (some (.deep pt d)))else .bad
section
variable{X:Cx}{B G0:Hp}{KX:XW}{e o a b c:Ui}{pos:Pos}{es:List Ui}{st:Stmt}{sts:List Stmt}{pt:Pat}
theorem Em{i:Nat}{x:Str}{f:M D}{p2:Pos}(hN:X.N.Nodup)(hi:X.N[i]?=some x)(hx:Loc X.env.scope x)(he:PE X e (tT X.K B G0 pt f))(hs:swapsWith e (some (.Name x p2)) pos.line X.env=pure false:=by rfl)
  (hf:X.fn x=true∨X.env.scope.names.lookup x=some .local:=by first|exact .inl rfl|exact .inr rfl|assumption):PS X (.Assign [.Name x p2] e pos) (tS X.K B G0 KX (VF i pt f)):=
 KZ (Ri hN hi hx he hs hf) λD σ H ⟨G,ρ,k,a⟩=>by
  refine⟨G,ρ,k,?_⟩;unfold VF sB at a;cases z:f ρ with
  |bad=>rw[z]at a;exact a.elim
  |ok ds ρ1=>
   rw[z]at a;intro v fp G' H' k' s' n;dsimp only at a;split at a
   ·rename_i hl;exact a _ G' H' (k'.setDeep n hl) s'
   ·exact a.elim
end
section
variable{ρ ρ1 ρ2 ρ':UE}{pt:Pat}
theorem El{i:Nat}{f:M D}{d:D}(h1:f ρ=.ok d ρ1)(h2:i<ρ1.length)(h3:ρ1.set i (some (.deep pt d))=ρ'):VF i pt f ρ=.nx ρ':=by unfold VF sB;rw[h1];dsimp only;rw[if_pos h2];subst h3;rfl
end
def Yr(kvs:List (D×D))(k:Key)(d:D):List (D×D):=if kvs.any (λp=>decide (Z0 p.1=some k))then kvs.map (λp=>if Z0 p.1=some k then(p.1,d)else p)else kvs++[(kD k,d)]
def TR(j:Nat)(g f:M D):SM:=sB f λd ρ1=>match ρ1[j]? with
 |some (some (.deep .dic _))=>sB g (λy ρ2=>match Z0 y,ρ2[j]? with
  |some k,some (some (.deep .dic (.dict kvs)))=>if kvs.length<1000 then .nx (ρ2.set j (some (.deep .dic (.dict (Yr kvs k d)))))else .bad
  |_,_=>.bad) ρ1
 |_=>.bad
section
variable{K:Frag}{G:Hp}
theorem OK{k:Key}:∀{ks:List Key}{vs:List V}{ds:List D},Reps K G vs ds->((ks.map kD).zip ds).any (λp=>decide (Z0 p.1=some k))=(ks.zip vs).any λkv=>decide (kv.1=k)
 |[],_,_,_=>rfl
 |_::_,_,_,.nil=>rfl
 |k0::ks,_,_,.cons _ t=>by
  rw[Qv,Ja,Ja,JE,JE,OK t,Tv]
  congr 1
  by_cases e:k0=k
  ·subst e;simp
  ·simp[e]
theorem NJ{k:Key}{w:V}{d:D}(r:Rep K G w d):∀{ks:List Key}{vs:List V}{ds:List D},Reps K G vs ds->∃vs' ds',(ks.zip vs).map (λkv=>if kv.1=k then(kv.1,w)else kv)=ks.zip vs'/\((ks.map kD).zip ds).map (λp=>if Z0 p.1=some k then(p.1,d)else p)=(ks.map kD).zip ds'/\ds'.length=ds.length/\Reps K G vs' ds'
 |[],vs,ds,h=>⟨vs,ds,rfl,rfl,rfl,h⟩
 |_::_,_,_,.nil=>⟨[],[],rfl,rfl,rfl,.nil⟩
 |k0::ks,_,_,.cons (v:=v0) (d:=d0) h t=>by
  obtain⟨vs',ds',e1,e2,e3,e4⟩:=NJ r (ks:=ks) t;by_cases e:k0=k
  ·refine⟨w::vs',d::ds',?_,?_,by rw[QB,e3,QB],.cons r e4⟩
   ·rw[Ja,Qv,e1,Qq e,Ja]
   ·rw[Qv,Ja,Qv,e2,Qq (by rw[Tv,e]),Ja]
  ·refine⟨v0::vs',d0::ds',?_,?_,by rw[QB,e3,QB],.cons h e4⟩
   ·rw[Ja,Qv,e1,QG e,Ja]
   ·rw[Qv,Ja,Qv,e2,QG (by rw[Tv];exact λz=>e (Qt z)),Ja]
theorem Reps.snoc{w:V}{d:D}(r:Rep K G w d):∀{vs:List V}{ds:List D},Reps K G vs ds->Reps K G (vs++[w]) (ds++[d])
 |_,_,.nil=>.cons r .nil
 |_,_,.cons h t=>.cons h (Reps.snoc r t)
theorem Ek{k:Key}{w:V}{d:D}(r:Rep K G w d){ks:List Key}{vs:List V}{ds:List D}(h:Reps K G vs ds)(hl:ks.length=ds.length):∃(ks':List Key)(vs':List V)(ds':List D),Za (ks.zip vs) k w=ks'.zip vs'/\Yr ((ks.map kD).zip ds) k d=(ks'.map kD).zip ds'/\ks'.length=ds'.length/\Reps K G vs' ds':=by
 unfold Za Yr;rw[OK h];have hv:=h.length;split
 ·obtain⟨vs',ds',e1,e2,e3,e4⟩:=NJ r (k:=k) (ks:=ks) h;exact⟨ks,vs',ds',e1,e2,by rw[e3];exact hl,e4⟩
 ·refine⟨ks++[k],vs++[w],ds++[d],?_,?_,by rw[Qj,Qj,hl];rfl,h.snoc r⟩
  ·rw[List.zip_append (by omega)];rfl
  ·rw[QF,List.zip_append (by rw[Qb];omega)];rfl
end
section
variable{X:Cx}{B G0:Hp}{KX:XW}{e o i:Ui}{pos p2:Pos}
theorem HB{j:Nat}{f g:M D}(hu:X.A.units+64<cLine)(he:PE X e (tD X.K B G0 f))(ho:PE X o (KO j))(hi:PE X i (tD X.K B G0 g))(hs:swapsWith e (some (.Subscript o i p2)) pos.line X.env=pure false:=by rfl) :
  PS X (.Assign [.Subscript o i p2] e pos) (tS X.K B G0 KX (TR j g f)):=
 KZ (ES (by omega) ho hi he hs) λD σ H q=>tS.bnd (R:=Rep X.K) q λv H1 G1 ρ1 d k r a=>by
  split at a
  ·rename_i d0 q0;obtain⟨ω,ks1⟩:=k.slots;obtain⟨v0,fp0,hv0,r0,_,_⟩:=ks1 j .dic d0 (by unfold TU;rw[q0]);refine⟨v0,hv0,G1,ρ1,k,?_⟩;unfold sB at a;cases z:g ρ1 with
   |bad=>rw[z]at a;exact a.elim
   |ok y ρ2=>
    rw[z]at a;dsimp only at a;intro kv G' H' k' s' r';split at a
    ·rename_i ky kvs hk q2;split at a
     ·rename_i hlt;obtain⟨ω2,ks2⟩:=k'.slots;obtain⟨v2,fp2,hv2,r2,nd2,w2⟩:=ks2 j .dic (.dict kvs) (by unfold TU;rw[q2]);rw[hv0]at hv2;cases hv2;have ey:=NK hk;subst ey;have ekv:=r'.key_inv;subst ekv;cases r2 with
      |@dic ad ks vs ds _ e hl h rr=>
       obtain⟨ks',vs',ds',e1,e2,e3,e4⟩:=Ek (k:=ky) (r.mono s') rr hl;refine⟨ad,_,rfl,DPut.k h ?_,a σ G' _ (k'.mutD q2 hv0 (.dic e hl h rr) Qo (.dic (ks:=ks') (vs:=vs') (ds:=ds') (by rw[e];exact e2) e3 (by rw[Ky,e1]) e4) (Rf ad) λb m=>m) (s'.trans (.refl _))⟩;have:(ks.zip vs).length<=kvs.length:=by rw[e,List.length_zip,List.length_zip,Qb];have:=rr.length;omega
       exact Nat.lt_of_le_of_lt this (QD hlt (by decide))
     ·exact a.elim
    ·exact a.elim
  ·exact a.elim
theorem EOk.fillO{K:Frag}{B G0 G H:Hp}{σ:St}{ρ:UE}{p:Ug}{u:HO}(k:EOk K (upd B p (.dK [])) G0 G H σ ρ)(hb:B p=none)(h0:G0 p=none):EOk K B G0 G (upd H p u) σ ρ/\G p=none/\H p=some (.dK [])/\(∀(j:Nat) es,ρ[j]?=some (some (.own es))->σ[j]?≠some (some (.ref p))) /\
  ∀(j:Nat) pt d v fp',ρ[j]?=some (some (.deep pt d))->σ[j]?=some (some v)->RepO K G (upd H p u) pt v d fp'->p∉fp':=by
 have hG:G p=none:=k.np p (.k []) Ky h0;have hH:H p=some (.dK []):=k.bh p _ Ky;refine⟨⟨λb o q=>?_,λb o q=>?_,k.g0,λa w q n=>?_,k.len,k.pub,λi ds q=>?_,k.sep,k.dp.map (λ_ _ _ q=>⟨q,rfl⟩) (λ_ ds q=>⟨ds,q,rfl⟩) λi pt d v fp q s r w n=>?_⟩,hG,hH,λj es q s=>?_,λj pt d v fp' q s r=>?_⟩
 ·have z:b≠p:=Zo q hb;rw[Kb z];exact k.bh b o (by rw[Kb z];exact q)
 ·rw[Kb (Zo q hG)];exact k.gh b o q
 ·have z:a≠p:=Zo q hb;exact k.np a w (by rw[Kb z];exact q) n
 ·obtain⟨a,vs,h1,h2,h3,h4,h5⟩:=k.own i ds q;have z:a≠p:=λe=>by subst e;rw[Ky]at h2;cases h2
  exact⟨a,vs,h1,by rw[Kb z]at h2;exact h2,h3,by rw[Kb z];exact h4,h5⟩
 ·have zz:∀b∈fp,b≠p:=λb m e=>by subst e;have:=(w b m).1;rw[Ky]at this;cases this
  refine⟨r.upd (λ_ e=>by rw[hH]at e;cases e) (λm=>zz p m rfl),λb m=>?_⟩;obtain⟨w1,w2⟩:=w b m;rw[Kb (zz b m)]at w1;exact⟨w1,w2⟩
 ·obtain⟨a,vs,h1,h2,h3,h4,h5⟩:=k.own j es q;rw[h1]at s;cases s;rw[Ky]at h2;cases h2
 ·obtain⟨ω,k1,_⟩:=k.dp;obtain⟨v',fp,s',r',_,w⟩:=k1 j pt d q;rw[s]at s';cases s';have zz:p∉fp:=λm=>by have:=(w p m).1;rw[Ky]at this;cases this
  have e:=(r'.upd (o:=u) (λ_ e=>by rw[hH]at e;cases e) zz).uniq (.refl _) r;rw[←e];exact zz
theorem Dv:PE X (.Dict [] [] pos) (tT X.K B G0 .dic (UK (.dict []))):=U5 Cn λσ H Q ⟨G,ρ,k,a⟩ p hp=>by
 obtain⟨f1,f2,f3,f4,f5⟩:=(k.under hp).fillO (u:=.dK []) (k.bh.free hp) (k.g0.free (k.gh.free hp));have e:upd (upd H p (.dK [])) p (.dK [])=upd H p (.dK []):=by funext b;unfold upd;split<;>rfl
 rw[e]at f1 f5;exact a (.ref p) [p] _ _ f1 (.refl _) ⟨.dic (ks:=[]) (vs:=[]) (ds:=[]) rfl rfl Ky .nil,Rf p,λb m=>by rw[Qy.mp m];exact⟨k.bh.free hp,f2⟩,λb m=>by rw[Qy.mp m];exact f4,λb m=>by rw[Qy.mp m];exact f5⟩
theorem Gi{j:Nat}{g f:M D}{ρ ρ1 ρ2 ρ':UE}{d y e0:D}{k:Key}{kvs:List (D×D)}(h1:f ρ=.ok d ρ1)(q1:ρ1[j]?=some (some (.deep .dic e0)))(h2:g ρ1=.ok y ρ2)(hk:Z0 y=some k)(q2:ρ2[j]?=some (some (.deep .dic (.dict kvs))))(hl:kvs.length<1000)
  (h3:ρ2.set j (some (.deep .dic (.dict (Yr kvs k d))))=ρ'):TR j g f ρ=.nx ρ':=by
 unfold TR sB;rw[h1];dsimp only;rw[q1];dsimp only;rw[h2];dsimp only;rw[hk,q2];dsimp only;rw[Qq hl,h3]
end
end DL
namespace L2
open PySem PySem.Spec PyProof.Rows PySem.Calls PyProof.V
end L2
namespace DL
open PySem PySem.Spec L2
open PyProof.Rows hiding St
def tgN:Ui->List Str
 |.Name x _=>[x]
 |.Tuple [.Name x _] _ _=>[x]
 |.Tuple [.Name x _,.Name y _] _ _=>[x,y]
 |.Tuple [.Name x _,.Name y _,.Name z _] _ _=>[x,y,z]
 |.Tuple [.Name x _,.Name y _,.Name z _,.Name u _] _ _=>[x,y,z,u]
 |_=>[]
def adN(vs:List Str):List Str->List Str
 |[]=>vs
 |x::r=>adN (if vs.elem x then vs else vs++[x]) r
def WQ(vs:List Str):List Comprehension->List Str
 |[]=>vs
 |⟨tg,_,_,_⟩::r=>WQ (adN vs (tgN tg)) r
def dotN(x:Str):Str:=("." : Str)++x
def blN(N:List Str)(gs:List Comprehension):List Str:=N.map (λx=>if(WQ [] gs).elem x then dotN x else x)++WQ [] gs
def glN(sc:Scope):List Str:=sc.names.filterMap λy=>match y.2 with | .globalImplicit=>some y.1|_=>none
abbrev NmF(s:Stmt)(N:List Str):Prop:=FnNm (Zr s) N (glN (Zr s))
theorem mq{α:Type}{l:List α}{x:α}(n:Nat)(h:l[n]?=some x):x∈l:=Qn h
section
variable{sc:Scope}{N gl:List Str}{x:Str}
theorem gA(H:FnNm sc N gl)(h:gl.elem x=true):sc.names.lookup x=some .globalImplicit:=H.gl x (by simpa using h)
end
section
variable{X:Cx}{B G0:Hp}{KX:XW}{e e1 e2 o a b c i:Ui}{gl:List Str}{pos p2:Pos}{x:Str}{j:Nat}
theorem MU(H:FnNm X.env.scope X.N gl)(hi:X.N[j]?=some x:=by rfl)(hf:X.fn x=true∨X.env.scope.names.lookup x=some .local:=by first|exact .inl rfl|exact .inr rfl|assumption):PG X (.Name x pos) (tG X.K B G0 (gN j)):=O2 (OX H.nd hi (lq H j hi) hf)
theorem Gh{N':List Str}{scope:Scope}{cl:List (Str×Ug)}{C:Ug}{s₀:Ue}{H₀:Hp}{ex:List Ug}(hN:N'.Nodup:=by decide +kernel)(hi:N'[j]?=some x:=by rfl)(hl:scope.names.lookup x=some .local:=by rfl):PG (X.blk N' scope cl C s₀ H₀ ex) (.Name x pos) (tG X.K B G0 (gN j)):=O2 (OX hN hi (F9 hl) (.inr (Hb hl)))
theorem aSet{f:M D}(H:FnNm X.env.scope X.N gl)(he:PE X e (tD X.K B G0 f))(hi:X.N[j]?=some x:=by rfl)(hs:swapsWith e (some (.Name x p2)) pos.line X.env=pure false:=by rfl)
  (hf:X.fn x=true∨X.env.scope.names.lookup x=some .local:=by first|exact .inl rfl|exact .inr rfl|assumption):PS X (.Assign [.Name x p2] e pos) (tS X.K B G0 KX (UU j f)):=Hf H.nd hi (lq H j hi) he hs hf
theorem MT{f:M (List D)}(H:FnNm X.env.scope X.N gl)(he:PE X e (tL X.K B G0 f))(hi:X.N[j]?=some x:=by rfl)(hs:swapsWith e (some (.Name x p2)) pos.line X.env=pure false:=by rfl)
  (hf:X.fn x=true∨X.env.scope.names.lookup x=some .local:=by first|exact .inl rfl|exact .inr rfl|assumption):PS X (.Assign [.Name x p2] e pos) (tS X.K B G0 KX (KP j f)):=Ef H.nd hi (lq H j hi) he hs hf
theorem MS{f:M D}{pt:Pat}(H:FnNm X.env.scope X.N gl)(he:PE X e (tT X.K B G0 pt f))(hi:X.N[j]?=some x:=by rfl)(hs:swapsWith e (some (.Name x p2)) pos.line X.env=pure false:=by rfl)
  (hf:X.fn x=true∨X.env.scope.names.lookup x=some .local:=by first|exact .inl rfl|exact .inr rfl|assumption):PS X (.Assign [.Name x p2] e pos) (tS X.K B G0 KX (VF j pt f)):=Em H.nd hi (lq H j hi) he hs hf
theorem aAug{op:Operator}{p:Int->Int->Option D}{f:M D}{pos':Pos}(H:FnNm X.env.scope X.N gl)(ho:IpD X op p)(he:PE X e (tD X.K B G0 f))(hi:X.N[j]?=some x:=by rfl)(hf:X.fn x=true∨X.env.scope.names.lookup x=some .local:=by first|exact .inl rfl|exact .inr rfl|assumption):PS X (.AugAssign (.Name x pos') op e pos) (tS X.K B G0 KX (Yq p j f)):=HG H.nd hi (lq H j hi) ho he hf
theorem MR{l:Bool}{tg elt iter:Ui}{ifs:List Ui}{gs:List Comprehension}{scope:Scope}{f:M (List D)}{s:D->UE->Option UE}{t:M Bool}{rd:RdB}{F:M (List D)}{k:Nat}{SC:Scope}{N1:List Str}(H:FnNm SC N1 gl)(le:∀ρ es ρ',F ρ=.ok es ρ'->dCG l f k s t rd ρ=.ok es ρ')(hc:X.calm=true)
  (hi:PI X tg iter (iD X.K B G0 f)) (hblk:ZY X (blN N1 (⟨tg,iter,ifs,0⟩::gs)) scope (.ListComp elt (⟨tg,iter,ifs,0⟩::gs) scope pos) tg ifs s t rd) (hb:Wt Vy SC scope N1 (blN N1 (⟨tg,iter,ifs,0⟩::gs)) k=true) (h1:X.env.scope=SC:=by rfl) (h2:X.N=N1:=by rfl) (hs:∀x,UC iter X.env x=pure x:=by intro _;rfl) :
  PE X (.ListComp elt (⟨tg,iter,ifs,0⟩::gs) scope pos) (tL X.K B G0 F):=L5 _ _ _ k le hc hi hblk h1 h2 hb hs
theorem MQ{l:Bool}{y:Str}{py spos:Pos}{tg elt iter:Ui}{ifs:List Ui}{gs:List Comprehension}{scope:Scope}{f:M (List D)}{s:D->UE->Option UE}{t:M Bool}{rd:RdB}{F:M (List D)}{k:Nat}{SC:Scope}{N1:List Str}(H:FnNm SC N1 gl)(le:∀ρ es ρ',F ρ=.ok es ρ'->dCG l f k s t rd ρ=.ok es ρ')(hc:X.calm=true)
  (hi:PI X tg iter (iD X.K B G0 f)) (hblk:ZY X (blN N1 (⟨tg,iter,ifs,0⟩::gs)) scope (.ListComp elt (⟨tg,iter,ifs,0⟩::gs) scope pos) tg ifs s t rd) (hb:Wt Vy SC scope N1 (blN N1 (⟨tg,iter,ifs,0⟩::gs)) k=true) (hj:N1[j]?=some y:=by rfl) (hy:SC.names.lookup y=some .local:=by rfl) (h1:X.env.scope=SC:=by rfl) (h2:X.N=N1:=by rfl) (hs:∀x,UC iter X.env x=pure x:=by intro _;rfl)
  (hsw:swapsWith (.ListComp elt (⟨tg,iter,ifs,0⟩::gs) scope pos) (some (.Name y py)) spos.line X.env=pure true:=by rfl) :
  PS X (.Assign [.Name y py] (.ListComp elt (⟨tg,iter,ifs,0⟩::gs) scope pos) spos) (tS X.K B G0 KX (KP j F)):=sD_1 _ _ _ k le (h2 ▸ H.nd) (h2 ▸ hj) (h1 ▸ hy) hc hi hblk h1 h2 hb hs hsw
end
end DL
namespace DL
open PySem PySem.Spec L2
open PyProof.Rows hiding St
open Builtin Builtin.Str
end DL
namespace DL
open PySem PySem.Spec L2
open PyProof.Rows hiding St
end DL
namespace DL
open PySem PySem.Spec L2
open PyProof.Rows hiding St
open PySem.SeqRoads2 PySem.SeqAt
end DL
namespace DL
open PySem PySem.Spec L2
open PyProof.Rows hiding St
end DL
namespace L2
open PySem PySem.Spec PyProof.Rows
section
variable{prog:Uf}{w:World}{A:Around}{elt tg i:Ui}{ifs:List Ui}{gens:List Comprehension}{scope:Scope}{pos:Pos}{it acc:Ud}{env:Env}{j:Nat}
theorem BN(hg:gens[j]?=some ⟨tg,i,ifs,0⟩)(hn:gens[j+1]?=none):WK prog w A tg ifs env it (.compLoop (.SetComp elt gens scope pos) j it acc env)
  (λQ s=>Uk (model prog w) A (eval elt env) (λx s₄=>Uk (model prog w) A (call (.builtin "set.add") [acc,x]) (λ_ s₅=>Q s₅) nox s₄) nox s):=by
 intro R I n s h turn;refine codeAny_loop rfl I (λn s hI=>?_) n h;show Uk _ A ((compTurn (.SetComp elt gens scope pos) j it acc env).onRaise (λx=>do noteFrame x env;theTreesLotGoes x)) _ _ s;refine wpAny_noted ?_;unfold compTurn;dsimp only;simp only[hg,hn];refine Qe (Q8 (Qe (QA (turn n s hI) (λr s₁ h₁=>?_) λ_ _ h'=>h'.elim)));cases r with
 |none=>exact Qk h₁
 |some v=>
  refine Qe (QA h₁ (λ_ s₁' h₁'=>?_) λ_ _ h'=>h'.elim);refine Qe (QA h₁' (λ_ s₂ h₂=>Qe (QA h₂ (λok s₃ h₃=>?_) λ_ _ h'=>h'.elim)) λ_ _ h'=>h'.elim);cases ok with
  |false=>exact Qk ⟨rfl,h₃⟩
  |true=>exact Qe (Qe (QA h₃ (λx s₄ h₄=>Qe (Q8 (Qe (QA h₄ (λ_ s₅ h₅=>Qk (Qk ⟨rfl,h₅⟩)) λ_ _ h'=>h'.elim)))) λ_ _ h'=>h'.elim))
theorem CL{R:Result->Ue->Prop}{s:Ue}{target iter:Ui}{rest:List Comprehension}
  (h0:codeAny (model prog w) A (.compLoop (.SetComp elt (⟨target,iter,ifs,0⟩::rest) scope pos) 0 it acc env) R s)
  (h:Uk (model prog w) A (pyIter it) (λit' s'=>codeAny (model prog w) A (.compLoop (.SetComp elt (⟨target,iter,ifs,0⟩::rest) scope pos) 0 it' acc env) R s')
   (notedBy (model prog w) A env λx s'=>R (.error x) s') s) :
  codeAny (model prog w) A (.compStart (.SetComp elt (⟨target,iter,ifs,0⟩::rest) scope pos) 0 it acc env) R s:=by
 refine codeAny_of_tree ?_;show Uk _ _ ((compStart (.SetComp elt (⟨target,iter,ifs,0⟩::rest) scope pos) 0 it acc env).onRaise (λx=>do noteFrame x env;standAt theWindowsPlace)) _ _ s;refine wpAny_notedAt ?_;unfold compStart;show Uk _ _ (ask >>= _) _ _ s;refine Qe (wpAny_askSetting (wpAny_ite ?_));split
 ·first
   |exact Qk (And.intro rfl h0)
   |exact Qe (Qk (Qk (And.intro rfl h0)))
 ·refine Qe (wpAny_rule ?_);show Uk _ _ (standAt iter.pos >>= _) _ _ s;exact Qe (Q8 (Qe (QA h (λit' s' h'=>Qk (And.intro rfl h')) λ_ _ x=>x)))
end
end L2
namespace DL
open PySem PySem.Spec L2
open PyProof.Rows hiding St
theorem MA(ns:List Int):Zk ns=(ns.foldl step_dedup []).length:=by
 unfold Zk firstMet
 congr 2
 apply List.ext_getElem
 ·simp
 ·intro i h1 h2;simp[List.getD_eq_getElem?_getD,h2]
theorem NI(z:Int):∀(ns σ:List Int),(ns.foldl step_dedup σ).any (· == z)=(σ.any (· == z) || ns.any (· == z))
 |[],σ=>by simp
 |x::r,σ=>by
  rw[List.foldl_cons,NI z r,step_any,JE,Bool.or_assoc]
  congr 2
  by_cases h:z=x
  ·subst h;simp
  ·have h':x≠z:=λq=>h q.symm
   simp[h,h']
theorem Aq(ns:List Int)(i:Int):Zk (ns++[i])=if ns.any (· == i)=true then Zk ns else Zk ns+1:=by rw[MA,MA,List.foldl_append,List.foldl_cons,List.foldl_nil,step_length,NI];simp
theorem R1:∀(ns:List Int),Zk ns<=ns.length:=λns=>by unfold Zk;exact firstMet_length_le _ _
def K9(ns:List Int):HO:=.set (λz=>ns.any (· == z)) (Zk ns)
def cTS(s:D->UE->Option UE)(t:M Bool)(g:M D):List D->UE->List Int->Option (List Int)
 |[],_,ns=>some ns
 |d::r,ρ,ns=>match s d ρ with
  |none=>none
  |some ρ1=>match t ρ1 with
   |.bad=>none
   |.ok b ρ2=>if b=true then(match g ρ2 with
     |.ok (.int i) ρ3=>if ns.length+1<4096 then cTS s t g r (U8 ρ3) (ns++[i])else none
     |_=>none)
    else cTS s t g r (U8 ρ2) ns
def V4(f:M (List D))(k:Nat)(s:D->UE->Option UE)(t:M Bool)(g:M D):M (List Int):=λρ=>match f ρ with
 |.bad=>.bad
 |.ok ds ρ1=>match cTS s t g ds (U8 ρ1++Up k none) []with
  |none=>.bad
  |some ns=>.ok ns ρ1
structure Pq(Y:Cx)(D':Ug)(pins:List (Ug×Obj))(H G:Hp)(ns:List Int)(ρ':UE)(σ':St)(H' G':Hp)(s':Ue):Prop where
 inv:Inv Y pins σ' H' s'
 eok:EOk Y.K H' G' G' H' σ' ρ'
 hh:∀a o,a≠D'->H a=some o->H' a=some o
 gg:Same G G'
 np:∀a(u:MO),a≠D'->H a=some u.ho->G a=none->G' a=none
 hd:H' D'=some (K9 ns)
 gd:G' D'=none
section
variable{Y:Cx}{D':Ug}
theorem Du{pins:List (Ug×Obj)}{σ:St}{H:Hp}{s:Ue}{ns:List Int}{i:Int}{ev:Ud}(I:Inv Y pins σ H s)(hD:H D'=some (K9 ns))(hb:ns.length+1<4096)(rv:RelV (.int i) ev) :
  Uk (model Y.prog Y.w) Y.A (call (.builtin "set.add") [.ref D',ev]) (λ_ s'=>Inv Y pins σ (upd H D' (K9 (ns++[i]))) s') nox s:=by
 obtain⟨tk,rfl⟩:=rv;have hS:s.heap.SetOf (intKind Y.prog Y.w) D' (λz=>ns.any (· == z)) (Zk ns):=I.hok _ _ hD;refine call_set_add (knd:=intKind Y.prog Y.w) (k:=i) (by simp[intKind,Value.isInt]) rfl hS (by have:=R1 ns;have hsb:scanBound=4096:=rfl;omega) λh' sb hS'=>?_
 refine I.write (x:=D') (e:=D') (o:=K9 (ns++[i])) (t':=s.toks+1) (by rw[hD];exact trivial) (.inl rfl) (λb u hb' e=>(sb.2 b hb').trans e) ?_ ?_
 ·obtain⟨o,_,_,_,e,_⟩:=hS';exact⟨o,e⟩
 ·show h'.SetOf (intKind Y.prog Y.w) D' (λz=>(ns++[i]).any (· == z)) (Zk (ns++[i]));rw[Aq]
  have:(λz=>(ns++[i]).any (· == z))=λk'=>ns.any (· == k') || decide (k'=i):=by
   funext z;rw[List.any_append,JE,List.any_nil,Bool.or_false]
   congr 1
   by_cases h:z=i
   ·subst h;simp
   ·simp[h];exact λq=>h q.symm
  rw[this];exact hS'
theorem Dt{tg elt:Ui}{ifs:List Ui}{code:Code}{s:D->UE->Option UE}{t:M Bool}{g:M D}{it:Ug}(hx:Y.xe=nox)(hc:Y.calm=true)
  (rule:WK Y.prog Y.w Y.A tg ifs Y.env (.ref it) code (λQ s=>Uk (model Y.prog Y.w) Y.A (eval elt Y.env) (λx s₄=>Uk (model Y.prog Y.w) Y.A (call (.builtin "set.add") [.ref D',x]) (λ_ s₅=>Q s₅) nox s₄) nox s))
  (hg:∀B1 G1,PG Y tg (tG Y.K B1 G1 s)) (ht:∀B1 G1,ZK Y ifs (tBo Y.K B1 G1 t)) (he:∀B1 G1,PE Y elt (tD Y.K B1 G1 g))
  {pins:List (Ug×Obj)} {sh:Ue} {σ:St} {H G:Hp} {ρ:UE} {fp:List Ug} {tn:Nat->Heap->Prop} {J:It} {ds:List D} {ns nsF:List Int} {R:Result->Ue->Prop}
  (I:Inv Y pins σ H sh) (T:Turn Y.prog Y.w Y.K tg J fp it tn) (st:tn 0 sh.heap) (hf:∀b∈fp,KL Y pins H b)
  (k:EOk Y.K H G G H σ ρ) (its:Yi Y.K J ds G) (hD:H D'=some (K9 ns)) (gD:G D'=none) (zl:cTS s t g ds ρ ns=some nsF)
  (hfin:∀ρ' σ' H' G' s',Pq Y D' pins H G nsF ρ' σ' H' G' s'->R (.ok .next) s'):codeAny (model Y.prog Y.w) Y.A code R sh:=by
 have stat:∀{H':Hp},(∀b∈fp,H' b=none)->∀b∈fp,KL Y pins H' b:=λhn b hb=>⟨hn b hb,(hf b hb).2⟩
 refine rule R (λn s'=>∃i σ' H' G' ρ' ns',n=ds.length-i/\tn i s'.heap/\(∀b∈fp,H' b=none)/\Pq Y D' pins H G ns' ρ' σ' H' G' s'/\cTS s t g (ds.drop i) ρ' ns'=some nsF) ds.length sh
  ⟨0,σ,H,G,ρ,ns,rfl,st,λb hb=>(hf b hb).1,⟨I,k,λ_ _ _ q=>q,.refl _,λ_ _ _ _ n=>n,hD,gD⟩,by rw[List.drop_zero];exact zl⟩ ?_
 rintro n s' ⟨i,σ',H',G',ρ',ns',rfl,tn',fr',⟨I',k',sh',sg',np',hD',gD'⟩,zc⟩;by_cases hlt:i<ds.length
 ·rw[JA hlt,cTS]at zc;cases zs:s ds[i] ρ' with
  |none=>rw[zs]at zc;cases zc
  |some ρ2=>
  rw[zs]at zc;dsimp only at zc;cases zt:t ρ2 with
  |bad=>rw[zt]at zc;cases zc
  |ok b ρ3=>
  rw[zt]at zc;dsimp only at zc;refine thn (T.item Y rfl rfl rfl hc i pins s' σ' H' nox I' (stat fr') tn' (its.go i G' H' sg' k'.gh hlt)) λrr s4 ⟨u,hr,h4⟩=>?_;subst hr;refine thn h4 λ_ s5 ⟨x,H5,I5,r5,y5,st5,fr5⟩=>?_
  obtain⟨G5,e5,rx⟩:=its.yld i G' H' x H5 ds[i] sg' k'.gh (Qd hlt) y5;have h6:=hg H' G' _ s5 σ' H5 x u (λσ6 H6=>∃G6,EOk Y.K H' G' G6 H6 σ6 ρ2) (I5.pinned (stat fr5) (T.obj _ _ st5)) r5 ⟨G5,ρ',ds[i],ρ2,k'.ext e5,rx,zs,λσ6 G6 H6 k6 _=>⟨G6,k6⟩⟩;rw[hx]at h6;refine thn h6 λ_ s6 ⟨σ6,H6,I6,G6,k6⟩=>?_;have h7:=ht H' G' _ s6 σ6 H6 (λc H7=>c=b/\∃G7,EOk Y.K H' G' G7 H7 σ6 ρ3) I6 ⟨G6,ρ2,k6,by unfold aft;rw[zt];exact λc G7 H7 k7 _ q=>⟨q,G7,k7⟩⟩
  rw[hx]at h7;refine thn h7 λok s7 ⟨H7,I7,hb7,G7,k7⟩=>?_;subst hb7
  have again:∀{H9:Hp}{σ9:St}{s9:Ue},Inv Y (pins++VN fp s5.heap) σ9 H9 s9->Inv Y pins σ9 H9 s9/\tn (i+1) s9.heap/\∀b∈fp,H9 b=none:=λ{H9 σ9 s9} I9=>by refine⟨I9.unpinned,T.keep _ _ _ st5 λb hb o e=>(I9.pin (b,o) (Qz _ (Qz _ (VU hb e)))).1,λb hb=>?_⟩;obtain⟨o,e,d⟩:=T.obj _ _ st5 b hb;exact(I9.pin (b,o) (Qz _ (Qz _ (VU hb e)))).2.1
  have lt:ds.length-(i+1)<ds.length-i:=Nat.sub_lt_sub_left hlt (Nat.lt_succ_self i);cases ok with
  |false=>rw[QG (by decide)]at zc⊢;obtain⟨J1,J2,J3⟩:=again I7;exact⟨_,lt,i+1,σ6,H7,G7,U8 ρ3,ns',rfl,J2,J3,⟨J1,k7.rebase,λa o z q=>k7.bh a o (sh' a o z q),sg'.trans k7.g0,λa o z q w=>k7.np a o (sh' a _ z q) (np' a o z q w),k7.bh _ _ hD',k7.np _ (.s _ _) hD' gD'⟩,zc⟩
  |true=>
   rw[Qq rfl]at zc⊢;split at zc
   ·rename_i z ρ4 zg;split at zc
    ·rename_i hle;have h8:=he H' G' _ s7 σ6 H7 (λv H8=>∃G8,EOk Y.K H' G' G8 H8 σ6 ρ4/\Rep Y.K G8 v (.int z)) I7 ⟨G7,ρ3,k7,by unfold aft;rw[zg];exact λv G8 H8 k8 _ q=>⟨G8,k8,q⟩⟩;rw[hx]at h8;refine thn h8 λev s8 ⟨v,H8,I8,rv,G8,k8,r8⟩=>?_
     have:v=.int z:=r8.int_inv;subst this;refine thn (Du I8 (k8.bh _ _ hD') hle rv) λ_ s9 I9=>?_
     obtain⟨J1,J2,J3⟩:=again I9;have g8:=k8.np _ (.s _ _) hD' gD';exact⟨_,lt,i+1,σ6,_,G8,_,_,rfl,J2,J3,⟨J1,k8.beside g8,λa o z q=>by rw[Kb z];exact k8.bh a o (sh' a o z q),sg'.trans k8.g0,λa o z q w=>k8.np a o (sh' a _ z q) (np' a o z q w),Ky,g8⟩,zc⟩
    ·cases zc
   ·cases zc
 ·rw[List.drop_eq_nil_of_le (Q0 hlt),cTS]at zc;cases zc;refine thn (T.done Y rfl rfl rfl hc i pins s' σ' H' nox I' (stat fr') tn' (its.stop i G' H' sg' k'.gh (Q0 hlt))) λrr s4 ⟨hr,I6⟩=>?_
  subst hr;exact hfin ρ' σ' H' G' s4 ⟨I6,k',sh',sg',np',hD',gD'⟩
end
section
variable{X:Cx}{B G0:Hp}
def SU(X:Cx)(N2:List Str)(scope:Scope)(elt tg:Ui)(ifs:List Ui)(s:D->UE->Option UE)(t:M Bool)(g:M D):Prop:=
 ∀(cl:List (Str×Ug))(C:Ug)(s₀:Ue)(H₀:Hp)(ex:List Ug),(∀B' G',PG (X.blk N2 scope cl C s₀ H₀ ex) tg (tG X.K B' G' s))/\(∀B' G',ZK (X.blk N2 scope cl C s₀ H₀ ex) ifs (tBo X.K B' G' t))/\∀B' G',PE (X.blk N2 scope cl C s₀ H₀ ex) elt (tD X.K B' G' g)
def tSC(K:Frag)(B G0:Hp)(f:M (List Int)):TE:=λσ H Q=>∃G ρ,EOk K B G0 G H σ ρ/\match f ρ with
 |.bad=>False
 |.ok ns ρ1=>∀D G' H',EOk K B G0 G' H' σ ρ1->Same G G'->H' D=some (K9 ns)->Q (.ref D) H'
theorem Ej{tg elt iter:Ui}{ifs:List Ui}{scope:Scope}{pos:Pos}{N2:List Str}{k:Nat}{f:M (List D)}{s:D->UE->Option UE}{t:M Bool}{g:M D}(hc:X.calm=true)
  (hi:PI X tg iter (iD X.K B G0 f)) (hblk:SU X N2 scope elt tg ifs s t g) (hb:Vz X.env.scope scope X.N N2 k) (hs:∀x,UC iter X.env x=pure x:=by intro _;rfl) :
  PE X (.SetComp elt [⟨tg,iter,ifs,0⟩] scope pos) (tSC X.K B G0 (V4 f k s t g)):=by
 intro pins s0 σ H Q I ⟨G,ρ,k0,a⟩;unfold V4 at a;cases zf:f ρ with
 |bad=>rw[zf]at a;exact a.elim
 |ok ds ρ1=>
 rw[zf]at a;dsimp only at a;cases zl:cTS s t g ds (U8 ρ1++Up k none) []with
 |none=>rw[zl]at a;exact a.elim
 |some nsF=>
 rw[zl]at a;dsimp only at a;show Uk _ X.A (comprehension (.SetComp elt [⟨tg,iter,ifs,0⟩] scope pos) scope X.env _ (newSet (.type "set")) false (eval iter X.env) none) _ _ s0;obtain⟨cl,hcl,cl1,cl2⟩:=MD (scope:=scope) (env:=X.env) λy hy hf=>I.ok.has y.1 (hb.free y hy hf)
 refine wpAny_comprehension_free rfl hs hcl hb.kind hb.names (thn (hi pins s0 σ H (λJ H1=>∃G1,EOk X.K B G0 G1 H1 σ ρ1/\Same G G1/\Yi X.K J ds G1) I ⟨G,ρ,k0,by rw[zf];exact λJ G1 H1 k1 s1 it=>⟨G1,k1,s1,it⟩⟩) λv s1 h1=>thn h1 λitv s2 h2=>?_);obtain⟨it,fp,tn,J,H2,rfl,I2,T,st2,f2,G1,k1,sg1,its⟩:=h2;refine wpAny_newSet_of (knd:=intKind X.prog X.w) λled hS=>wpAny_newFunctionEnv hb.cell (by intro y hy;simp at hy) (λh₁ hns₁ hsb₁=>?_) hb.kind
 dsimp only at hns₁ hsb₁⊢;have hfr:H2 s2.heap.objs.size=none:=I2.hok.fresh (Qp _)
 have I3:Inv X pins σ (upd H2 s2.heap.objs.size (K9 [])) {s2 with heap:=s2.heap.push {cls:=.type "set", dict:=none,data:=.set #[] 0 (.fresh 0 0 led)}}:=
  I2.laid (t':=s2.toks) (λb u e=>Qi _ e) (Qp _) (show Heap.SetOf _ _ _ _ _ from hS)
 generalize hP:s2.heap.push {cls:=.type "set", dict:=none,data:=.set #[] 0 (.fresh 0 0 led)}=P at I3 hns₁ hsb₁⊢;have old:∀b o,s2.heap.get? b=some o->P.get? b=some o:=λb o e=>hP ▸ Qi _ e;have kept:∀b o,P.get? b=some o->h₁.get? b=some o:=λb o e=>hsb₁.extBut b o (QI (Qh e)) (Qi _ e);have fpo:∀b∈fp,∃o,s2.heap.get? b=some o:=λb hb=>let ⟨o,e,_⟩:=T.obj _ _ st2 b hb;⟨o,e⟩
 have fpD:∀b∈fp,b≠s2.heap.objs.size:=λb hb=>let ⟨o,e⟩:=fpo b hb;QI (Qh e)
 have f3:∀b∈fp,KL X pins (upd H2 s2.heap.objs.size (K9 [])) b:=λb hb=>⟨by rw[Kb (fpD b hb)];exact(f2 b hb).1,(f2 b hb).2⟩
 have I4:=I3.enter (scope:=scope) (cl:=cl) (N2:=N2) (k:=k) (fp:=fp) (t':=s2.toks+([]:List (Str×Ud)).length) hb.b hb.kind hb.cell hb.free cl1 cl2 hns₁ kept f3 (λb hb=>let ⟨o,e⟩:=fpo b hb;⟨o,old b o e⟩);dsimp only at I4;have gD:G1 s2.heap.objs.size=none:=k1.gh.free hfr;have kb:EOk X.K _ G1 G1 _ _ _:=(k1.beside (o:=K9 []) gD).more k;have sH:Same H2 (upd H2 s2.heap.objs.size (K9 [])):=KU hfr;have hD3:upd H2 s2.heap.objs.size (K9 []) s2.heap.objs.size=some (K9 []):=Ky;generalize upd H2 s2.heap.objs.size (K9 [])=H3 at I3 I4 f3 kb sH hD3;generalize s2.heap.objs.size=D at *;have tn0:tn 0 h₁:=T.keep 0 _ _ st2 λb hb o e=>kept b o (old b o e)
 have stat:∀b∈fp,KL (X.blk N2 scope cl P.objs.size {s2 with heap:=P} H3 fp) pins H3 b:=λb hb=>by
  obtain⟨z0,z1,z2,z3,z4,z5⟩:=f3 b hb;obtain⟨o,e⟩:=fpo b hb;refine⟨z0,QI (Qh (old b o e)),λz=>?_,.inl hb,λx c q=>z4 x c (cl1 x c q),z5⟩;rcases QR.mp (I3.stkSub b z)with q|q
  ·exact z1 q
  ·exact z2 q
 have neD:∀a o,H2 a=some o->a≠D:=λa o q z=>by subst z;rw[hfr]at q;cases q
 obtain⟨hg,ht,he⟩:=hblk cl P.objs.size {s2 with heap:=P} H3 fp
 have loop:=Dt (Y:=X.blk N2 scope cl P.objs.size {s2 with heap:=P} H3 fp) (D':=D) (R:=compPost (model X.prog X.w) X.A X.xe none (EP X pins σ Q) (.ref D) P.objs.size) rfl hc (BN (elt:=elt) (gens:=[⟨tg,iter,ifs,0⟩]) (scope:=scope) (pos:=pos) (j:=0) (i:=iter) rfl rfl) hg ht he I4 T tn0 stat kb its hD3 gD zl λρ' σ' H' G' s4 L=>by
   obtain⟨m,hm,_⟩:=id L.inv.loc;have I7:Inv X pins σ H' s4:=I3.call' (ch:=fp) L.inv.os L.inv.base L.inv.hok L.inv.bare λb hb=>⟨(f3 b hb).2.2.2.1,(f3 b hb).2.1,(f3 b hb).2.2.2.2.1,(f3 b hb).2.2.2.2.2⟩;have eF:Ext G1 H2 G' H':=⟨λa o q=>L.hh a o (neD a o q) (sH a o q),L.gg,L.eok.gh,λa o q z=>L.np a o (neD a _ q) (sH a _ q) z⟩
   refine⟨m,hm,λh' sb=>⟨.ref D,H',I7.turned (t':=s4.toks) (it:=P.objs.size) (λb o hb e=>(sb.2 b hb).trans e) L.inv.free (Jx I3.lt) (.inr I3.sz) (λx c e z=>by obtain⟨_,q⟩:=I3.cell x c e;exact absurd q.lt (by rw[z];exact Jc _)) (λp hp z=>by have:=Qh (I3.pin p hp).1;exact absurd this (by rw[z];exact Jc _)),rfl,a D G' H' (k1.ext eF) (sg1.trans eF.g) L.hd⟩⟩
 exact CL loop (T.self X.A 0 _ _ _ tn0 loop)
def Te(f:M (List D))(k:Nat)(s:D->UE->Option UE)(t:M Bool)(g:M D):M D:=λρ=>match V4 f k s t g ρ with
 |.bad=>.bad
 |.ok ns ρ1=>.ok (.int (Zk ns)) ρ1
theorem Gg{tg elt iter:Ui}{ifs:List Ui}{scope:Scope}{pos p3 p4:Pos}{k:Nat}{f:M (List D)}{s:D->UE->Option UE}{t:M Bool}{g:M D}{SC:Scope}{N1 gl:List Str}(H:FnNm SC N1 gl)(hg:Gl X "len")(hm:X.mg "len" = none)(hc:X.calm=true)
  (hi:PI X tg iter (iD X.K B G0 f)) (hblk:SU X (blN N1 [⟨tg,iter,ifs,0⟩]) scope elt tg ifs s t g) (hb:Wt Vy SC scope N1 (blN N1 [⟨tg,iter,ifs,0⟩]) k=true) (h1:X.env.scope=SC:=by rfl) (h2:X.N=N1:=by rfl) (hs:∀x,UC iter X.env x=pure x:=by intro _;rfl)
  (he:Ul [.SetComp elt [⟨tg,iter,ifs,0⟩] scope p3] X.env=(false,eval (.SetComp elt [⟨tg,iter,ifs,0⟩] scope p3) X.env)::Ul [] X.env:=by rfl) :
  PE X (.Call (.Name "len" p4) [.SetComp elt [⟨tg,iter,ifs,0⟩] scope p3] [] pos) (tD X.K B G0 (Te f k s t g)):=
 U5 (Tx NY hg hm boot_len (Xk (Ej hc hi hblk (by rw[h1,h2];exact Rv hb) hs) Xp he) (by decide) (by decide) he rfl) λσ Hh Q ⟨G,ρ,k0,q⟩=>⟨G,ρ,k0,by
  unfold Te aft at q;cases z:V4 f k s t g ρ with
  |bad=>rw[z]at q;exact q.elim
  |ok ns ρ1=>rw[z]at q;exact λD G' H' k' sg hd=>⟨D,_,_,rfl,hd,q (.int (Zk ns)) G' H' k' sg (.int _)⟩⟩
theorem RZ{s:D->UE->Option UE}{t:M Bool}{g:M D}:∀{ds:List D}{ρ:UE}{es esF:List D},Kq s t g ds ρ es=some esF->∃r,esF=es++r
 |[],ρ,es,esF,h=>by rw[Kq]at h;cases h;exact⟨[],by simp⟩
 |d::r,ρ,es,esF,h=>by
  rw[Kq]at h;cases zs:s d ρ with
  |none=>rw[zs]at h;cases h
  |some ρ1=>
  rw[zs]at h;dsimp only at h;cases zt:t ρ1 with
  |bad=>rw[zt]at h;cases h
  |ok b ρ2=>
  rw[zt]at h;dsimp only at h;cases b with
  |false=>exact RZ (ds:=r) h
  |true=>
   rw[Qq rfl]at h;cases zg:g ρ2 with
   |bad=>rw[zg]at h;cases h
   |ok e ρ3=>
   rw[zg]at h;dsimp only at h;split at h
   ·obtain⟨z,hz⟩:=RZ (ds:=r) h;exact⟨e::z,by rw[hz];simp⟩
   ·cases h
theorem intI:∀{a b:List Int},a.map int=b.map int->a=b
 |[],[],_=>rfl
 |[],_::_,h=>by cases h
 |_::_,[],h=>by cases h
 |_::_,_::_,h=>by rw[Qv,Qv]at h;injection h with h1 h2;rw[PyData.int.inj h1,intI h2]
theorem Re{s:D->UE->Option UE}{t:M Bool}{g:M D}:∀{ds:List D}{ρ:UE}{ns nsF:List Int},Kq s t g ds ρ (ns.map int)=some (nsF.map int)->nsF.length<4096->cTS s t g ds ρ ns=some nsF/\ns.length<=nsF.length
 |[],ρ,ns,nsF,h,hl=>by rw[Kq]at h;have h:=Qt h;have:ns=nsF:=intI h;subst this;exact⟨rfl,Qp _⟩
 |d::r,ρ,ns,nsF,h,hl=>by
  rw[Kq]at h;rw[cTS];cases zs:s d ρ with
  |none=>rw[zs]at h;cases h
  |some ρ1=>
  rw[zs]at h;dsimp only at h⊢;cases zt:t ρ1 with
  |bad=>rw[zt]at h;cases h
  |ok b ρ2=>
  rw[zt]at h;dsimp only at h⊢;cases b with
  |false=>exact Re (ds:=r) h hl
  |true=>
   rw[Qq rfl]at h⊢;cases zg:g ρ2 with
   |bad=>rw[zg]at h;cases h
   |ok e ρ3=>
   rw[zg]at h;dsimp only at h⊢;split at h
   ·obtain⟨z,hz⟩:=RZ h
    have:∃i,e=.int i:=by
     have m:e∈nsF.map int:=by rw[hz];simp
     obtain⟨i,_,rfl⟩:=Qs.mp m;exact⟨i,rfl⟩
    obtain⟨i,rfl⟩:=this;rw[show ns.map int++[.int i]=(ns++[i]).map int by simp]at h;obtain⟨h1,h2⟩:=Re (ds:=r) h hl;rw[Qj,QU]at h2;dsimp only;rw[Qq (by omega)];exact⟨h1,by omega⟩
   ·cases h
theorem Ds{f:M (List D)}{k:Nat}{s:D->UE->Option UE}{t:M Bool}{g:M D}{ns:List Int}{ρ ρ1:UE}(h:Zb f k s t g ρ=.ok (ns.map int) ρ1)(hl:ns.length<4096):Te f k s t g ρ=.ok (.int (Zk ns)) ρ1:=by
 unfold Zb at h;unfold Te V4;cases zf:f ρ with
 |bad=>rw[zf]at h;cases h
 |ok ds ρ2=>
 rw[zf]at h;dsimp only at h⊢;cases zl:Kq s t g ds (U8 ρ2++Up k none) []with
 |none=>rw[zl]at h;cases h
 |some esF=>
 rw[zl]at h;dsimp only at h;cases h;rw[(Re (ns:=[]) zl hl).1]
end
end DL
namespace DL
open PySem PySem.Spec L2
open PyProof.Rows hiding St
open PySem.SeqRoads2 PySem.SeqAt
end DL
namespace DL
open PySem PySem.Spec L2
open PyProof.Rows hiding St
def VwO(p d:Ug):HO:=.ext λh=>h.IsValuesView p d
section
variable{X:Cx}{B G0:Hp}{e o:Ui}{pos apos cpos p2:Pos}
theorem CK:MtR X "dict.values" (λx xs H Q=>∃a kvs,x=.ref a/\xs=[]/\Rd H a (.dK kvs)/\∀p,H p=none->Q (.ref p) (upd H p (VwO p a))):=by intro pins s σ H x xs v us Q I rx rs h;obtain⟨a,kvs,rfl,rfl,e,q⟩:=h;obtain rfl:v=Value.ref a:=rx;cases rs;obtain⟨z,hd,vs,rel,dd⟩:=T5 I.hok e;refine call_meetsIn PySem.F.slot_dict_values dd.typeIs PySem.F.entry_dict_values (PySem.F.args_dict_values_1 _) (meets_dict_values (Z2 X.prog X.w) a hd) ⟨⟨_,dd⟩,?_⟩;exact⟨.ref _,_,I.laid (λb o e=>Qi _ e) (Qp _) (show K2 X.prog X.w _ _ _ (VwO _ a)from⟨⟨_,Qx _ rfl,rfl,rfl⟩,⟨_,Qx _ rfl⟩,λh1 h2 ⟨o,g1,g2⟩ k=>⟨o,k o g1,g2⟩⟩),rfl,q _ (I.hok.fresh (Qp _))⟩
theorem OJ{κ:Type}:∀{kvs:List (κ×V)}{vs:List (κ×Ud)},KV kvs vs->Vals (kvs.map (·.2)) (vs.map (·.2))
 |[],[],_=>.nil
 |_::_,_::_,.cons h t=>.cons h.2 (OJ t)
theorem A6(hc:X.calm=true):ZN X (.type "list") (λxs H Q=>∃r a kvs,xs=[.ref r]/\H r=some (VwO r a)/\Rd H a (.dK kvs)/\∀p,H p=none->Q (.ref p) (upd H p (.lst (kvs.map (·.2))))):=by
 intro pins s σ H xs us Q I rx h;obtain⟨r,a,kvs,rfl,hr,e,q⟩:=h;obtain⟨u,rfl,ru⟩:=rx.one;cases ru;obtain⟨hw,_,_⟩:=I.hok r _ hr;obtain⟨z,hd,vs,rel,dd⟩:=T5 I.hok e;obtain⟨o,es,ep,g1,g2⟩:=dd;refine PySem.W.kdl_call (PySem.W.kdl_values (kvs:=vs) (knd:=Z2 X.prog X.w) (d:=a) (r:=r) (ep:=ep)) (I.ok.hd hc) ⟨hw,o,es,g1,g2⟩ (by rw[←rel.length];exact z) λh' tk acc' c' hk hS hI=>?_
 refine⟨.ref _,_,I.laid hk (Qp _) (show K2 X.prog X.w _ _ _ (.lst (kvs.map (·.2)))from ?_),rfl,q _ (I.hok.fresh (Qp _))⟩;refine⟨by rw[List.length_map];exact z,acc'.toList,c',?_,by simpa using hS⟩
 have e2:acc'.toList=vs.map (·.2):=by
  have hl:acc'.toList.length=vs.length:=by simpa using hI.1
  refine List.ext_getElem (by rw[hl,Qb]) λi h1 h2=>?_
  obtain⟨k,hk⟩:=hI.2 i acc'.toList[i] (by rw[←Array.getElem?_toList];exact Qd h1);rw[List.getElem_map];obtain⟨_,hk⟩:=Qg.mp hk;rw[hk]
 rw[e2];exact OJ rel
def SS:D->Bool
 |.int _=>true
 |.str _=>true
 |_=>false
def Xo:D->Option (List D)
 |.dict kvs=>if(kvs.all λkv=>SS kv.1)=true then some (kvs.map (·.2))else none
 |_=>none
theorem Ru{α β:Type}:∀{as:List α}{bs:List β},as.length=bs.length->(as.zip bs).map (·.2)=bs
 |[],[],_=>rfl
 |_::as,_::bs,h=>congrArg _ (Ru (by simpa using h))
theorem CJ{K:Frag}{G:Hp}{v:V}{d:D}{ds:List D}(r:Rep K G v d)(h:Xo d=some ds):∃a ks vs,v=.ref a/\G a=some (.dK ks)/\ks.map (·.2)=vs/\Reps K G vs ds:=by
 unfold Xo at h;split at h
 ·split at h
  ·rename_i hk;cases h;cases r with
   |dic h=>exact⟨_,[],[],rfl,h,rfl,.nil⟩
   |exc _ _ _ _=>cases hk
   |@dct a ks vs ds kvs e hne hl h r=>subst e;refine⟨a,ks.zip vs,vs,rfl,h,Ru (by rw[hl,r.length]),?_⟩;rw[Ru (by rw[Qb,hl])];exact r
   |@dtt a o ks vs ds kvs e hl h r=>subst e;cases hk
  ·cases h
 ·cases h
theorem BM{f:M D}{p4:Pos}(hc:X.calm=true)(hg:Gl X "list")(hm:X.mg "list" = none)(ho:PE X o (tD X.K B G0 f))(hbase:attributeBase o "values" X.env (eval o X.env)=eval o X.env:=by rfl)(hline:(apos.endLine==cpos.line)=true:=by rfl)
  (he2:Ul [.Call (.Attribute o "values" apos) [] [] cpos] X.env=(false,eval (.Call (.Attribute o "values" apos) [] [] cpos) X.env)::Ul [] X.env:=by rfl) :
  PE X (.Call (.Name "list" p4) [.Call (.Attribute o "values" apos) [] [] cpos] [] pos) (tL X.K B G0 (UX f λd=>UY (Xo d))):=
 U5 (TK (A6 hc) hg hm R9 (Xk (Fl F.plainAttrs_dict F.slot_dict_values F.type_dict_values CK ho hbase hline) Xp he2) (by decide) (by decide) he2 rfl) λσ H Q ⟨G,ρ,k,q⟩=>by
  refine⟨G,ρ,k,?_⟩;unfold UX at q;cases z:f ρ with
  |bad=>rw[z]at q;exact q.elim
  |ok d ρ1=>
  rw[z]at q;dsimp only[UY]at q;intro v G' H' k' s' r;cases z2:Xo d with
  |none=>rw[z2]at q;exact q.elim
  |some ds=>
  rw[z2]at q;obtain⟨a,ks,vs,rfl,hG,hv,rs⟩:=CJ r z2;have hH:=k'.gh _ _ hG;refine⟨.inr (.inr (.inl ⟨rfl,.inl ⟨_,hH⟩⟩)),a,ks,rfl,rfl,.inl hH,λp hp=>⟨p,a,ks,rfl,Ky,.inl (by rw[Kb (Zo hH hp)];exact hH),λp' hp'=>?_⟩⟩;have k2:=k'.ext (Ext.hid (o:=VwO p a) k'.gh hp);rw[hv];exact q p' _ G' _ (k2.ext (Ext.hid k2.gh hp')) s' (NewL.of k2 hp' rs)
theorem CI{f:M D}{ρ ρ1:UE}{d:D}{ds:List D}(h1:f ρ=.ok d ρ1)(h2:Xo d=some ds):(UX f λd=>UY (Xo d)) ρ=.ok ds ρ1:=Kr h1 (Zj h2)
end
section
variable{X:Cx}{B G0:Hp}{e o:Ui}{es:List Ui}{pos apos cpos p2:Pos}
theorem Ge(hu:X.A.units+1<cLine):MtR X "dict.get" (λx xs H Q=>∃a kvs k,x=.ref a/\xs=[kV k]/\Rd H a (.dK kvs)/\Q ((K8 kvs k).getD .non) H):=by intro pins s σ H x xs v us Q I rx rs h;obtain⟨a,kvs,k,rfl,rfl,e,q⟩:=h;obtain rfl:v=Value.ref a:=rx;obtain⟨u,rfl,ru⟩:=rs.one;obtain⟨z,hd,vs,rel,dd⟩:=T5 I.hok e;refine call_meetsIn PySem.F.slot_dict_get dd.typeIs PySem.F.entry_dict_get (PySem.F.args_dict_get_2 _ _) (meets_dict_get (Z2 X.prog X.w) a (SX ru) hd) ⟨_,dd.mapOf,?_⟩;exact⟨(K8 kvs k).getD .non,H,I.tok _,(rel.val k).getD (d:=.non) rfl,q⟩
def TQ:D->Bool
 |.dict kvs=>kvs.all λkv=>SS kv.1
 |_=>false
def XH(x y:D):Option D:=match x,Z0 y with
 |.dict kvs,some k=>some (((kvs.find? λp=>decide (Z0 p.1=some k)).map (·.2)).getD .none)
 |_,_=>none
def Y3(f:M D)(g:M (List D)):M D:=UX f λd=>if TQ d=true then(UX g λks=>UY (match ks with | [k]=>XH d k|_=>none))else λ_=>.bad
theorem OI{K:Frag}{G:Hp}{k:Key}:∀{ks:List Key}{vs:List V}{ds:List D},ks.length=ds.length->Reps K G vs ds->Rep K G ((K8 (ks.zip vs) k).getD .non) (((((ks.map kD).zip ds).find? λp=>decide (Z0 p.1=some k)).map (·.2)).getD .none)
 |[],_,_,_,_=>.non
 |_::_,[],[],hl,.nil=>by cases hl
 |q::ks,v::vs,d::ds,hl,.cons r t=>by
  by_cases z:q=k
  ·subst z;show Rep K G ((K8 ((q,v)::ks.zip vs) q).getD .non) ((((((kD q,d)::(ks.map kD).zip ds)).find? λp=>decide (Z0 p.1=some q)).map (·.2)).getD .none);rw[Sx rfl,List.find?_cons_of_pos (by rw[Tv];exact QM rfl)];exact r
  ·show Rep K G ((K8 ((q,v)::ks.zip vs) k).getD .non) ((((((kD q,d)::(ks.map kD).zip ds)).find? λp=>decide (Z0 p.1=some k)).map (·.2)).getD .none);rw[Sw z,List.find?_cons_of_neg (by rw[Tv];simpa using z)];exact OI (by simpa using hl) t
theorem Ei{f:M D}{g:M (List D)}(hu:X.A.units+64<cLine)(ho:PE X o (tD X.K B G0 f))(ha:PA X (e::es) (tDs X.K B G0 g))
  (hbase:attributeBase o "get" X.env (eval o X.env)=eval o X.env:=by rfl)
  (hfew:((backTo cpos (Ul (e::es) X.env)).all (λx=>!x.1)&&(backToKw cpos (keywordEach [] X.env)).all (λx=>x.1.isSome)
   && decide ((e::es).length+([]:List Keyword).length+(if([]:List Keyword).isEmpty then 0 else 1)<30))=true:=by rfl)
  (hline:(apos.endLine==cpos.line)=true:=by rfl) (hs:Ul (e::es) X.env=(false,eval e X.env)::Ul es X.env:=by rfl) (hplain:(backTo cpos (Ul es X.env)).any (·.1)=false:=by rfl) :
  PE X (.Call (.Attribute o "get" apos) (e::es) [] cpos) (tD X.K B G0 (Y3 f g)):=
 U5 (V6 F.plainAttrs_dict F.slot_dict_get F.type_dict_get (Ge (by omega)) ho ha hbase hfew hline hs hplain) λσ H Q q=>by
  refine tM.one (R:=Rep X.K) q λv H2 G ρ y k r a=>?_
  by_cases hd:TQ y=true
  ·rw[Qq hd]at a
   obtain⟨ad,ks,vs,ds,rfl,hG,hl,rs,rfl⟩:∃(ad:Ug)(ks:List Key)(vs:List V)(ds:List D),v=.ref ad/\G ad=some (.dK (ks.zip vs))/\ks.length=ds.length/\Reps X.K G vs ds/\y=.dict ((ks.map kD).zip ds):=by
    cases r with
    |dic h=>exact⟨_,[],[],[],rfl,h,rfl,.nil,rfl⟩
    |@dct a' ks vs ds kvs e hne hl h r=>exact⟨a',ks,vs,ds,rfl,h,hl,r,by rw[e]⟩
    |exc _ _ _ _=>cases hd
    |@dtt a o ks vs ds kvs e hl h r=>rw[e]at hd;cases hd
    |_=>cases hd
   refine⟨.inr (.inr (.inl ⟨rfl,.inl ⟨_,k.gh _ _ hG⟩⟩)),?_⟩;refine tM.nx (R:=Reps X.K) k a λxs H3 G3 ρ3 es k3 s3 r3 a3=>?_
   obtain⟨d,e,a4⟩:=a3.opt;split at e
   ·rename_i ky;obtain⟨u,rfl,ru⟩:=r3.one_inv;unfold XH at e;split at e
    ·rename_i kvs kk e1 e2;cases e1;cases e;have hy:=NK e2;subst hy;have hu:=ru.key_inv;subst hu;have:=OI (k:=kk) hl (rs.mono s3);exact⟨ad,_,kk,rfl,rfl,.inl (k3.gh _ _ (s3 _ _ hG)),aft.now a4 k3 this⟩
    ·cases e
   ·cases e
  ·rw[QG hd]at a;exact a.elim
theorem Pw{f:M D}{g:M (List D)}{ρ ρ1 ρ2:UE}{d k r:D}(h1:f ρ=.ok d ρ1)(hd:TQ d=true)(h2:g ρ1=.ok [k] ρ2)(h3:XH d k=some r):Y3 f g ρ=.ok r ρ2:=by unfold Y3;refine Kr h1 ?_;rw[Qq hd];exact Kr h2 (Zj h3)
end
theorem EOk.publishD{K:Frag}{B G0 G H:Hp}{σ:St}{ρ:UE}{i:Nat}{d:D}(k:EOk K B G0 G H σ ρ)(h:ρ[i]?=some (some (.deep .dic d))) :
  ∃a G',σ[i]?=some (some (.ref a))/\Same G G'/\Rep K G' (.ref a) d/\EOk K B G0 G' H σ (ρ.set i (some (.pub d))):=by
 obtain⟨ω,k1,k2⟩:=k.dp;obtain⟨v,fp,h1,r,nd,w⟩:=k1 i _ _ h;have hl:i<ρ.length:=(Qg.mp h).1;cases r with
 |@dic a ks vs ds kvs e hl' hH hr=>
 obtain⟨h2,h3,hω⟩:=w a Qo;have sg:Same G (upd G a (.dK (ks.zip vs))):=KU h3
 have rr:Rep K (upd G a (.dK (ks.zip vs))) (.ref a) (.dict kvs):=by
  cases ks with
  |nil=>
   have e:kvs=[]:=by rw[e];rfl
   subst e;exact .dic Ky
  |cons q ks=>exact .dct e (by simp) hl' Ky (hr.mono sg)
 have nz:∀{m:Nat}{s:Sl},(ρ.set i (some (Sl.pub (.dict kvs))))[m]?=some (some s)->(i=m/\s=.pub (.dict kvs))∨(i≠m/\ρ[m]?=some (some s)):=λ{m s} q=>by
  by_cases z:i=m
  ·subst z;rw[QJ hl]at q;cases q;exact .inl ⟨rfl,rfl⟩
  ·rw[Ql z]at q;exact .inr ⟨z,q⟩
 refine⟨a,upd G a (.dK (ks.zip vs)),h1,sg,rr,⟨k.bh,λb u q=>?_,k.g0.trans sg,λb o q n=>?_,by rw[Q3];exact k.len,λj d q=>?_,λj es q=>?_,λj l c es fs q1 q2 s1 s2=>?_,?_⟩⟩
 ·by_cases z:b=a
  ·subst z;rw[Ky]at q;cases q;exact hH
  ·rw[Kb z]at q;exact k.gh b u q
 ·have z:b≠a:=λz=>by subst z;rw[h2]at q;cases q
  rw[Kb z];exact k.np b o q n
 ·rcases nz q with ⟨rfl,e⟩|⟨_,q⟩
  ·cases e;exact⟨.ref a,h1,rr⟩
  ·obtain⟨v,g1,g2⟩:=k.pub j d q;exact⟨v,g1,g2.mono sg⟩
 ·rcases nz q with ⟨_,e⟩|⟨zi,q⟩
  ·cases e
  ·obtain⟨b,ws,g1,g2,g3,g4,g5⟩:=k.own j es q;have zb:b≠a:=λe=>zi (by rw[←hω,←e];exact k2 j es b q g1)
   exact⟨b,ws,g1,g2,by rw[Kb zb];exact g3,g4,g5.mono sg⟩
 ·rcases nz q1 with ⟨_,e⟩|⟨_,q1⟩
  ·cases e
  ·rcases nz q2 with ⟨_,e⟩|⟨_,q2⟩
   ·cases e
   ·exact k.sep j l c es fs q1 q2 s1 s2
 ·refine⟨ω,λm p d q=>?_,λm es b q s=>?_⟩
  ·rcases nz q with ⟨_,e⟩|⟨zi,q⟩
   ·cases e
   ·obtain⟨v,fp,s,r,n,w2⟩:=k1 m p d q;exact⟨v,fp,s,r.mono sg (.refl _),n,λb mb=>⟨(w2 b mb).1,by rw[Kb (λz=>zi (by rw[←hω,←z];exact(w2 b mb).2.2))];exact(w2 b mb).2.1,(w2 b mb).2.2⟩⟩
  ·rcases nz q with ⟨_,e⟩|⟨_,q⟩
   ·cases e
   ·exact k2 m es b q s
def V3(i:Nat):M D:=λρ=>match ρ[i]? with
 |some (some (.deep .dic d))=>.ok d (ρ.set i (some (.pub d)))
 |_=>.bad
section
variable{X:Cx}{B G0:Hp}{e:Ui}
theorem Eh{i:Nat}(h:PE X e (KO i)):PE X e (tD X.K B G0 (V3 i)):=U5 h λσ H Q ⟨G,ρ,k,a⟩=>by
 unfold V3 at a;split at a
 ·rename_i d q;obtain⟨ad,G',h1,h2,h3,h4⟩:=k.publishD q;exact⟨.ref ad,h1,a (.ref ad) G' H h4 h2 h3⟩
 ·exact a.elim
theorem GI{i:Nat}{ρ ρ':UE}{d:D}(h:ρ[i]?=some (some (.deep .dic d)))(h2:ρ.set i (some (.pub d))=ρ'):V3 i ρ=.ok d ρ':=by unfold V3;rw[h];subst h2;rfl
end
end DL
namespace W
open PySem PySem.Spec L2 DL
open PyProof.Rows hiding St
def top(i:Nat):Stmt:=PySem.Challenge.pw_wishdeal_k31_whole_best_where_no_way_gai.main.body.getD i (.Pass ⟨0,0,0,0⟩)
abbrev GG(s:Stmt)(x:Str):Prop:=(Zr s).names.lookup x=some NameKind.globalImplicit
abbrev VV(s:Stmt)(x:Str):Prop:=L2.Vis (Zr s) x
abbrev LL(s:Stmt)(x:Str):Prop:=L2.Loc (Zr s) x
theorem vk{s:Stmt}{x:Str}(h:(Zr s).names.lookup x=some .local∨(Zr s).names.lookup x=some .cell∨(Zr s).names.lookup x=some .free):VV s x:=h
theorem lk{s:Stmt}{x:Str}(h:(Zr s).names.lookup x=some .local∨(Zr s).names.lookup x=some .cell):LL s x:=h
structure Txt(K:Frag)(mg:Str->Option Ud):Prop where
 b_all:mg "all" = none
 b_bool:mg "bool" = none
 b_enumerate:mg "enumerate" = none
 b_int:mg "int" = none
 b_isinstance:mg "isinstance" = none
 b_len:mg "len" = none
 b_list:mg "list" = none
 b_max:mg "max" = none
 b_range:mg "range" = none
 b_set:mg "set" = none
 b_sorted:mg "sorted" = none
 b_str:mg "str" = none
 b_sum:mg "sum" = none
 b_tuple:mg "tuple" = none
 b_zip:mg "zip" = none
 c_MOST_ASKERS:∃t,mg "MOST_ASKERS" = some (Value.int 7 t)
 c_MOST_COPIES:∃t,mg "MOST_COPIES" = some (Value.int 7 t)
 c_MOST_RANKS:∃t,mg "MOST_RANKS" = some (Value.int 5 t)
 c_MOST_THINGS:∃t,mg "MOST_THINGS" = some (Value.int 6 t)
 c_ORDERS:∃ad o its n,mg "ORDERS" = some (.ref ad)/\K.lookup ad=some o/\o.cls=.type "tuple" /\ o.data=.seq its n/\its.size<=Uj/\Vals ((["firsts", "full", "lasts"]:List Str).map V.str) its.toList
abbrev Sbe:Stmt:=top 49
abbrev N_be:List Str:=["_law_script", "_law_k"]
theorem Hbe:NmF Sbe N_be:=Kv (by decide +kernel)
def XI:SM:=
 UJ (sIf (KG (oIB λi j=>decide (i<j)) 1 (KN 0))
 (UV (US 0 (UD 1)))
 (sNx))
 (UV (UK (.int 0)))
def ZZ:List D->Option D:=UZ N_be XI
abbrev Sbc:Stmt:=top 46
abbrev N_bc:List Str:=["first", "behind", "other", "told", "asker"]
theorem Hbc:NmF Sbc N_bc:=Kv (by decide +kernel)
def Tu:SM:=
 UJ (KY 3 (Z9 (UI (UD 4) (UI (US 2 (UD 4)) (UG)))))
 (UU 4 (Y3 (UD 1) (UI (UD 4) (UG))))
def W4:SM:=
 UJ (KP 3 (UX (UI (Z9 (UI (UD 0) (UI (US 2 (UD 0)) (UG)))) (UG)) λxs=>if xs.length<=1000000 then UK xs else λ_=>.bad))
 (UJ (UU 4 (Y3 (UD 1) (UI (UD 0) (UG))))
 (UJ (Yj (KJ (UN (λd=>!isNon d) (UD 4)) (KG oNe 4 (UD 0))) Tu 1000)
 (UV (UD 3))))
def X2:List D->Option D:=UZ N_bc W4
abbrev Sba:Stmt:=top 44
abbrev N_ba:List Str:=["one", "other"]
theorem Hba:NmF Sba N_ba:=Kv (by decide +kernel)
def W6:SM:=
 UV (UN Uq (Zb (YO (UI (UD 0) (UG))) 2 (gT 2 (gNC (gN 2) (gNC (gN 3) (gN0)))) (KG oNe 3 (US 1 (UD 2))) (UD 2)))
def YD:List D->Option D:=UZ N_ba W6
abbrev Sbb:Stmt:=top 45
abbrev N_bb:List Str:=["things", "one", "other", "moved", "told", "thing", "takers", "givers", "taker", "giver"]
theorem Hbb:NmF Sbb N_bb:=Kv (by decide +kernel)
def OH:SM:=
 TR 4 (UD 8) (UD 9)
def OG:SM:=
 UJ (KP 6 (Zb (KF (UD 3)) 1 (gN 10) (UH oEq (US 2 (UD 10)) (UD 5)) (UD 10)))
 (UJ (KP 7 (Zb (KF (UD 3)) 1 (gN 10) (UH oEq (US 1 (UD 10)) (UD 5)) (UD 10)))
 (Kd (Yv (UI (UD 6) (UI (UD 7) (UG)))) (gT 2 (gNC (gN 8) (gNC (gN 9) (gN0)))) OH))
def W5:SM:=
 UJ (UU 3 (UP 2 YD (UI (UD 1) (UI (UD 2) (UG)))))
 (UJ (VF 4 .dic (UK (.dict [])))
 (UJ (Kd (YQ (UI (UD 0) (UG))) (gN 5) OG)
 (UV (V3 4))))
def X3:List D->Option D:=UZ N_bb W5
abbrev Saa:Stmt:=top 1
abbrev N_aa:List Str:=["thing"]
theorem Haa:NmF Saa N_aa:=Kv (by decide +kernel)
def Vv:SM:=
 UV (Xn (UN (λd=>.bool (Kg d "int")) (UD 0)) (TM (UN (λd=>.bool (Kg d "bool")) (UD 0))))
def Yh:List D->Option D:=UZ N_aa Vv
abbrev Sab:Stmt:=top 2
abbrev N_ab:List Str:=["thing", "many"]
theorem Hab:NmF Sab N_ab:=Kv (by decide +kernel)
def XJ:SM:=
 UV (Xn (UP 1 Yh (UI (UD 0) (UG))) (UN Ur (WE (oIB λi j=>decide (i<=j)) (oIB λi j=>decide (i<j)) (UK (.int 0)) (UD 0) (UD 1))))
def KR:List D->Option D:=UZ N_ab XJ
abbrev Sad:Stmt:=top 14
abbrev N_ad:List Str:=["thing", "things"]
theorem Had:NmF Sad N_ad:=Kv (by decide +kernel)
def Vt:SM:=
 UJ (sIf (mOr (Ki (Zd (UN (λd=>.bool (Kg d "list")) (UD 0)))) (UH oEq (KN 0) (UK (.int 0))))
 (UV (UK (.bool false)))
 (sNx))
 (UV (K1 Zn (UI (UN Uq (Zb (KF (UD 0)) 1 (gN 2) (UK true) (UP 2 KR (UI (UD 2) (UI (UD 1) (UG)))))) (UG))))
def Xa:List D->Option D:=UZ N_ad Vt
abbrev Sae:Stmt:=top 15
abbrev N_ae:List Str:=["thing", "things", "wished"]
theorem Hae:NmF Sae N_ae:=Kv (by decide +kernel)
def Vs:SM:=
 UJ (sIf (mOr (Ki (Zd (UN (λd=>.bool (Kg d "list")) (UD 0)))) (UH (oIB λi j=>decide (j<i)) (KN 0) (UK (.int 5))))
 (UV (UK (.bool false)))
 (sNx))
 (UJ (sIf (Ki (Zd (K1 Zn (UI (UN Uq (Zb (KF (UD 0)) 1 (gN 3) (UK true) (UP 2 Xa (UI (UD 3) (UI (UD 1) (UG)))))) (UG)))))
 (UV (UK (.bool false)))
 (sNx))
 (UJ (KP 2 (Tq (KF (UD 0)) 2 (gN 3) (UK true) (KF (UD 3)) (gN 4) (UK true) (UD 4)))
 (UV (UN Ur (UH oEq (K1 Xx (UI (UD 2) (UG))) (KN 2))))))
def Wf:List D->Option D:=UZ N_ae Vs
abbrev Saf:Stmt:=top 16
abbrev N_af:List Str:=["lists", "things", "asker", "ranks"]
theorem Haf:NmF Saf N_af:=Kv (by decide +kernel)
def OF:SM:=
 sIf (Ki (Zd (UP 2 Wf (UI (UD 3) (UI (UD 1) (UG))))))
 (YY)
 (sNx)
def Vr:SM:=
 UJ (sIf (mOr (Ki (Zd (UN (λd=>.bool (Kg d "list")) (UD 0)))) (Ki (WE (oIB λi j=>decide (i<=j)) (oIB λi j=>decide (i<=j)) (UK (.int 1)) (KN 0) (UK (.int 7)))))
 (YY)
 (sNx))
 (Kd (YO (UI (UD 0) (UG))) (gT 2 (gNC (gN 2) (gNC (gN 3) (gN0)))) OF)
def We:List D->Option D:=UZ N_af Vr
abbrev Sac:Stmt:=top 13
abbrev N_ac:List Str:=["copies", "number", "many"]
theorem Hac:NmF Sac N_ac:=Kv (by decide +kernel)
def OE:SM:=
 sIf (Ki (Zd (UP 2 KR (UI (UD 2) (UI (UH UW (UK (.int 7)) (UK (.int 1))) (UG))))))
 (YY)
 (sNx)
def Vu:SM:=
 UJ (sIf (mOr (Ki (Zd (UN (λd=>.bool (Kg d "list")) (UD 0)))) (Ki (WE (oIB λi j=>decide (i<=j)) (oIB λi j=>decide (i<=j)) (UK (.int 1)) (KN 0) (UK (.int 6)))))
 (YY)
 (sNx))
 (Kd (YO (UI (UD 0) (UG))) (gT 2 (gNC (gN 1) (gNC (gN 2) (gN0)))) OE)
def Wg:List D->Option D:=UZ N_ac Vu
abbrev Sag:Stmt:=top 17
abbrev N_ag:List Str:=["thing", "copies", "lists"]
theorem Hag:NmF Sag N_ag:=Kv (by decide +kernel)
def Vq:SM:=
 UJ (sIf (mOr (Ki (Zd (UN (λd=>.bool (Kg d "tuple")) (UD 0)))) (UH oNe (KN 0) (UK (.int 2))))
 (YY)
 (sNx))
 (UJ (Zl (UD 0) (gT 2 (gNC (gN 1) (gNC (gN 2) (gN0)))))
 (UJ (YI (UP 1 Wg (UI (UD 1) (UG))))
 (YI (UP 2 We (UI (UD 2) (UI (KN 1) (UG)))))))
def ZC:List D->Option D:=UZ N_ag Vq
abbrev Sbd:Stmt:=top 47
abbrev N_bd:List Str:=["wishes", "one", "other", "behind", "led_to", "moved", "firsts", "told", "met", "first", "way"]
theorem Hbd:NmF Sbd N_bd:=Kv (by decide +kernel)
def OD:SM:=
 sIf (WB ZI (UD 9) 8)
 (UJ (UU 10 (UP 3 X2 (UI (UD 9) (UI (UD 3) (UI (UD 2) (UG))))))
 (UJ (Y0 8 (Zb (KF (UD 10)) 2 (gT 2 (gNC (gN 11) (gNC (gN 12) (gN0)))) (UK true) (UD 11)))
 (KY 7 (UD 10))))
 (sNx)
def W3:SM:=
 UJ (YI (UP 1 ZC (UI (UD 0) (UG))))
 (UJ (UU 3 (UP 3 X3 (UI (K1 U6 (UI (US 0 (UK (.int 0))) (UG))) (UI (UD 1) (UI (UD 2) (UG))))))
 (UJ (KP 4 (UX (UD 3) λd=>UY (Xo d)))
 (UJ (UU 5 (UP 2 YD (UI (UD 1) (UI (UD 2) (UG)))))
 (UJ (UU 6 (UH UW (UN Uq (WD (KF (UD 5)) 1 (gN 11) (KG ZI 11 (UD 4)) (UD 11))) (UN Uq (WD (KF (UD 5)) 1 (gN 11) (KG oIn 11 (UD 4)) (UD 11)))))
 (UJ (KP 7 (UX (UG) λxs=>if xs.length<=1000000 then UK xs else λ_=>.bad))
 (UJ (KP 8 (UX (UG) λxs=>if xs.length<=1000000 then UK xs else λ_=>.bad))
 (UJ (Kd (KF (UD 6)) (gN 9) OD)
 (UV (UD 7)))))))))
def YC:List D->Option D:=UZ N_bd W3
abbrev Sax:Stmt:=top 40
abbrev N_ax:List Str:=["dealing", "way", "told", "asker", "taken"]
theorem Hax:NmF Sax N_ax:=Kv (by decide +kernel)
def OC:SM:=
 V7 2 (UD 3) (UD 4)
def W9:SM:=
 UJ (KP 2 (To 0))
 (UJ (Kd (KF (UD 1)) (gT 2 (gNC (gN 3) (gNC (gN 4) (gN0)))) OC)
 (UV (UD 2)))
def X5:List D->Option D:=UZ N_ax W9
abbrev Sav:Stmt:=top 38
abbrev N_av:List Str:=["dealing", "takings", "place", "taken"]
theorem Hav:NmF Sav N_av:=Kv (by decide +kernel)
def OB:SM:=
 UJ (UU 3 (UH oIx (US 1 (UH Kt (UD 2) (UK (.int 1)))) (UK (.int 1))))
 (sIf (mOr (UN isNon (UD 3)) (UH oNe (US 0 (UH oIx (US 1 (UD 2)) (UK (.int 0)))) (UD 3)))
 (UV (UK (.bool false)))
 (sNx))
def Vb:SM:=
 UJ (Kd (Tb (UI (UK (.int 1)) (UI (KN 1) (UG)))) (gN 2) OB)
 (UV (UK (.bool true)))
def Y6:List D->Option D:=UZ N_av Vb
abbrev Sah:Stmt:=top 18
abbrev N_ah:List Str:=["ranks", "thing", "number", "rank"]
theorem Hah:NmF Sah N_ah:=Kv (by decide +kernel)
def OA:SM:=
 sIf (KG oIn 1 (UD 3))
 (UV (UD 2))
 (sNx)
def Vp:SM:=
 UJ (Kd (Sb (UI (UD 0) (UG))) (gT 2 (gNC (gN 2) (gNC (gN 3) (gN0)))) OA)
 (UV (UK (.int 0)))
def YF:List D->Option D:=UZ N_ah Vp
abbrev Sau:Stmt:=top 37
abbrev N_au:List Str:=["lists", "dealing", "thing", "asker", "taken"]
theorem Hau:NmF Sau N_au:=Kv (by decide +kernel)
def Vc:SM:=
 UJ (sIf (mOr (Ki (Zd (UN (λd=>.bool (Kg d "tuple")) (UD 2)))) (UH oNe (KN 2) (UK (.int 2))))
 (UV (UK (.bool false)))
 (sNx))
 (UJ (Zl (UD 2) (gT 2 (gNC (gN 3) (gNC (gN 4) (gN0)))))
 (UJ (sIf (Ki (Zd (UP 2 KR (UI (UD 3) (UI (KN 0) (UG))))))
 (UV (UK (.bool false)))
 (sNx))
 (UJ (sIf (UN isNon (UD 4))
 (UV (UN (λd=>.bool (!isNon d)) (US 1 (UD 3))))
 (sNx))
 (UV (Xn (UP 1 Yh (UI (UD 4) (UG))) (Xn (UN Ur (KG oNe 4 (US 1 (UD 3)))) (UN Ur (UH (oIB λi j=>decide (j<i)) (UP 2 YF (UI (US 0 (UD 3)) (UI (UD 4) (UG)))) (UK (.int 0))))))))))
def Y7:List D->Option D:=UZ N_au Vc
abbrev Saj:Stmt:=top 21
abbrev N_aj:List Str:=["wishes", "dealing"]
theorem Haj:NmF Saj N_aj:=Kv (by decide +kernel)
def Vn:SM:=
 UJ (YI (UP 1 ZC (UI (UD 0) (UG))))
 (UV (UN Uq (Zb (YO (UI (US 0 (UK (.int 0))) (UG))) 2 (gT 2 (gNC (gN 2) (gNC (gN 3) (gN0)))) (UK true) (UH Kt (UD 3) (VL (UD 1) (UI (UD 2) (UG)))))))
def Wc:List D->Option D:=UZ N_aj Vn
abbrev Saw:Stmt:=top 39
abbrev N_aw:List Str:=["wishes", "dealing", "thing", "left", "last"]
theorem Haw:NmF Saw N_aw:=Kv (by decide +kernel)
def Va:SM:=
 UJ (UU 3 (UP 2 Wc (UI (UD 0) (UI (UD 1) (UG)))))
 (UJ (sIf (mOr (Ki (Zd (UN (λd=>.bool (Kg d "list")) (UD 2)))) (UH oEq (KN 2) (UK (.int 0))))
 (UV (UK (.bool false)))
 (sNx))
 (UJ (sIf (Ki (Zd (K1 Zn (UI (UN Uq (Zb (KF (UD 2)) 1 (gN 5) (UK true) (UP 3 Y7 (UI (US 0 (UK (.int 1))) (UI (UD 1) (UI (UD 5) (UG))))))) (UG)))))
 (UV (UK (.bool false)))
 (sNx))
 (UJ (sIf (mOr (UH oNe (Te (KF (UD 2)) 2 (gT 2 (gNC (gN 5) (gNC (gN 6) (gN0)))) (UK true) (UD 5)) (KN 2)) (Ki (Zd (UP 2 Y6 (UI (UD 1) (UI (UD 2) (UG)))))))
 (UV (UK (.bool false)))
 (sNx))
 (UJ (UU 4 (UH oIx (US 2 (ZX (UK (.int 1)))) (UK (.int 1))))
 (UV (Yb (UN (λd=>.bool (isNon d)) (UD 4)) (Yb (UN Ur (UH (oIB λi j=>decide (j<i)) (US 3 (UD 4)) (UK (.int 0)))) (UN Ur (UH oEq (US 1 (UH oIx (US 2 (UK (.int 0))) (UK (.int 0)))) (UD 4))))))))))
def Yg:List D->Option D:=UZ N_aw Va
abbrev Say:Stmt:=top 41
abbrev N_ay:List Str:=["wishes", "dealing", "way"]
theorem Hay:NmF Say N_ay:=Kv (by decide +kernel)
def W8:SM:=
 UJ (sIf (Ki (Zd (UP 3 Yg (UI (UD 0) (UI (UD 1) (UI (UD 2) (UG)))))))
 (YY)
 (sNx))
 (UV (UP 2 X5 (UI (UD 1) (UI (UD 2) (UG)))))
def X4:List D->Option D:=UZ N_ay W8
abbrev Sap:Stmt:=top 31
abbrev N_ap:List Str:=["base", "times", "told", "step"]
theorem Hap:NmF Sap N_ap:=Kv (by decide +kernel)
def Oz:SM:=
 Yq ZB 2 (UD 0)
def Vh:SM:=
 UJ (UU 2 (UK (.int 1)))
 (UJ (Kd (YQ (UI (UD 1) (UG))) (gN 3) Oz)
 (UV (UD 2)))
def K0:List D->Option D:=UZ N_ap Vh
abbrev Sar:Stmt:=top 33
abbrev N_ar:List Str:=["turns", "base", "asker", "rank", "behind"]
theorem Har:NmF Sar N_ar:=Kv (by decide +kernel)
def Vf:SM:=
 UJ (sIf (KG ZI 2 (UD 0))
 (UV (UK (.int 0)))
 (sNx))
 (UJ (UU 4 (UH Kt (UH Kt (KN 0) (UK (.int 1))) (T9 (UD 0) (UI (UD 2) (UG)))))
 (UV (UH U9 (UH Kt (UD 1) (UD 3)) (UP 2 K0 (UI (UD 1) (UI (UD 4) (UG)))))))
def X6:List D->Option D:=UZ N_ar Vf
abbrev Saq:Stmt:=top 32
abbrev N_aq:List Str:=["order", "base", "most", "rank"]
theorem Haq:NmF Saq N_aq:=Kv (by decide +kernel)
def Vg:SM:=
 UJ (sIf (KG oEq 0 (UK (.str "firsts")))
 (UV (UP 2 K0 (UI (UD 1) (UI (UH Kt (UD 2) (UD 3)) (UG)))))
 (sNx))
 (UJ (sIf (KG oEq 0 (UK (.str "full")))
 (UV (UH UW (UP 2 K0 (UI (UD 1) (UI (UD 2) (UG)))) (UP 2 K0 (UI (UD 1) (UI (UH Kt (UD 2) (UD 3)) (UG))))))
 (sNx))
 (UV (UH Kt (UP 2 K0 (UI (UD 1) (UI (UD 2) (UG)))) (UP 2 K0 (UI (UD 1) (UI (UH Kt (UD 3) (UK (.int 1))) (UG)))))))
def X7:List D->Option D:=UZ N_aq Vg
abbrev Sas:Stmt:=top 34
abbrev N_as:List Str:=["wishes", "aim", "most", "asker", "thing", "order", "old", "turns", "lists", "rank", "base", "kept", "by_counts"]
theorem Has:NmF Sas N_as:=Kv (by decide +kernel)
def Ve:SM:=
 UJ (Zl (UD 1) (gT 3 (gNC (gN 5) (gNC (gN 6) (gNC (gN 7) (gN0))))))
 (UJ (UU 8 (US 0 (UK (.int 1))))
 (UJ (UU 9 (UP 2 YF (UI (US 8 (UD 3)) (UI (UD 4) (UG)))))
 (UJ (UU 10 (UH UW (KN 8) (UK (.int 1))))
 (UJ (UU 11 (mIf (KJ (UN (λd=>!isNon d) (UD 6)) (UH oEq (US 6 (UD 3)) (UD 4))) (UK (.int 1)) (UK (.int 0))))
 (UJ (UU 12 (UH UW (UH U9 (UP 4 X7 (UI (UD 5) (UI (UD 10) (UI (UD 2) (UI (UD 9) (UG)))))) (UD 10)) (UD 11)))
 (UV (UH UW (UH U9 (UD 12) (UP 2 K0 (UI (UH UW (UD 2) (UK (.int 1))) (UI (KN 7) (UG))))) (UP 4 X6 (UI (UD 7) (UI (UH UW (UD 2) (UK (.int 1))) (UI (UD 3) (UI (UD 9) (UG)))))))))))))
def Y9:List D->Option D:=UZ N_as Ve
abbrev Sai:Stmt:=top 19
abbrev N_ai:List Str:=["wishes"]
theorem Hai:NmF Sai N_ai:=Kv (by decide +kernel)
def Vo:SM:=
 UJ (YI (UP 1 ZC (UI (UD 0) (UG))))
 (UV (K1 Xm (UI (UN Uq (Zb (KF (US 0 (UK (.int 1)))) 1 (gN 1) (UK true) (KN 1))) (UG))))
def Wd:List D->Option D:=UZ N_ai Vo
abbrev San:Stmt:=top 28
abbrev N_an:List Str:=["thing", "askers"]
theorem Han:NmF San N_an:=Kv (by decide +kernel)
def Vj:SM:=
 UJ (sIf (mOr (Ki (Zd (UN (λd=>.bool (Kg d "list")) (UD 0)))) (Ki (Zd (K1 Zn (UI (UN Uq (Zb (KF (UD 0)) 1 (gN 2) (UK true) (UP 2 KR (UI (UD 2) (UI (UD 1) (UG)))))) (UG))))))
 (UV (UK (.bool false)))
 (sNx))
 (UV (UN Ur (UH oEq (K1 Xx (UI (UD 0) (UG))) (KN 0))))
def X8:List D->Option D:=UZ N_an Vj
abbrev Sam:Stmt:=top 27
abbrev N_am:List Str:=["thing", "askers", "things"]
theorem Ham:NmF Sam N_am:=Kv (by decide +kernel)
def Vk:SM:=
 UJ (sIf (UN isNon (UD 0))
 (UV (UK (.bool true)))
 (sNx))
 (UJ (sIf (mOr (Ki (Zd (UN (λd=>.bool (Kg d "list")) (UD 0)))) (UH oNe (KN 0) (UD 1)))
 (UV (UK (.bool false)))
 (sNx))
 (UV (K1 Zn (UI (UN Uq (Zb (KF (UD 0)) 1 (gN 3) (UK true) (Yb (UN (λd=>.bool (isNon d)) (UD 3)) (UP 2 KR (UI (UD 3) (UI (UD 2) (UG))))))) (UG)))))
def X9:List D->Option D:=UZ N_am Vk
abbrev Sak:Stmt:=top 24
abbrev N_ak:List Str:=["thing"]
theorem Hak:NmF Sak N_ak:=Kv (by decide +kernel)
def Vm:SM:=
 UV (Xn (UN (λd=>.bool (Kg d "str")) (UD 0)) (UN Ur (KG oIn 0 (UK (.tuple ((["firsts", "full", "lasts"]:List Str).map Us))))))
def Wb:List D->Option D:=UZ N_ak Vm
abbrev Sal:Stmt:=top 25
abbrev N_al:List Str:=["thing"]
theorem Hal:NmF Sal N_al:=Kv (by decide +kernel)
def Vl:SM:=
 sIf (Ki (Zd (UP 1 Wb (UI (UD 0) (UG)))))
 (YY)
 (sNx)
def Wa:List D->Option D:=UZ N_al Vl
abbrev Sao:Stmt:=top 29
abbrev N_ao:List Str:=["wishes", "thing", "copies", "lists", "order", "old", "turns"]
theorem Hao:NmF Sao N_ao:=Kv (by decide +kernel)
def Vi:SM:=
 UJ (YI (UP 1 ZC (UI (UD 0) (UG))))
 (UJ (sIf (mOr (Ki (Zd (UN (λd=>.bool (Kg d "tuple")) (UD 1)))) (UH oNe (KN 1) (UK (.int 3))))
 (YY)
 (sNx))
 (UJ (Zl (UD 0) (gT 2 (gNC (gN 2) (gNC (gN 3) (gN0)))))
 (UJ (Zl (UD 1) (gT 3 (gNC (gN 4) (gNC (gN 5) (gNC (gN 6) (gN0))))))
 (UJ (YI (UP 1 Wa (UI (UD 4) (UG))))
 (UJ (sIf (Ki (Zd (UP 3 X9 (UI (UD 5) (UI (KN 3) (UI (KN 2) (UG)))))))
 (YY)
 (sNx))
 (sIf (Ki (Zd (UP 2 X8 (UI (UD 6) (UI (KN 3) (UG))))))
 (YY)
 (sNx)))))))
def YE:List D->Option D:=UZ N_ao Vi
abbrev Sat:Stmt:=top 35
abbrev N_at:List Str:=["wishes", "aim", "dealing", "most"]
theorem Hat:NmF Sat N_at:=Kv (by decide +kernel)
def Vd:SM:=
 UJ (YI (UP 2 YE (UI (UD 0) (UI (UD 1) (UG)))))
 (UJ (UU 3 (UP 1 Wd (UI (UD 0) (UG))))
 (UV (K1 WC (UI (UN Uq (Zb (YO (UI (UD 2) (UG))) 2 (gT 2 (gNC (gN 4) (gNC (gN 5) (gN0)))) (UN (λd=>!isNon d) (UD 5)) (UP 5 Y9 (UI (UD 0) (UI (UD 1) (UI (UD 3) (UI (UD 4) (UI (UD 5) (UG))))))))) (UG)))))
def Y8:List D->Option D:=UZ N_at Vd
abbrev Saz:Stmt:=top 42
abbrev N_az:List Str:=["wishes", "aim", "dealing", "way"]
theorem Haz:NmF Saz N_az:=Kv (by decide +kernel)
def W7:SM:=
 UJ (YI (UP 2 YE (UI (UD 0) (UI (UD 1) (UG)))))
 (UV (UH Kt (UP 3 Y8 (UI (UD 0) (UI (UD 1) (UI (UP 3 X4 (UI (UD 0) (UI (UD 2) (UI (UD 3) (UG))))) (UG))))) (UP 3 Y8 (UI (UD 0) (UI (UD 1) (UI (UD 2) (UG)))))))
def Y5:List D->Option D:=UZ N_az W7
abbrev Sbp:Stmt:=top 60
abbrev N_bp:List Str:=["_law_wishes_here", "_law_aim_here", "_law_one", "_law_other"]
theorem Hbp:NmF Sbp N_bp:=Kv (by decide +kernel)
def WS:SM:=
 UV (UN Uq (Zb (KF (UP 3 YC (UI (UD 0) (UI (UD 2) (UI (UD 3) (UG)))))) 1 (gN 4) (UK true) (UP 4 Y5 (UI (UD 0) (UI (UD 1) (UI (UD 2) (UI (UD 4) (UG))))))))
def XT:List D->Option D:=UZ N_bp WS
abbrev Sbh:Stmt:=top 52
abbrev N_bh:List Str:=["_law_wishes_here", "_law_asker", "_law_thing", "_law_k", "_law_row"]
theorem Hbh:NmF Sbh N_bh:=Kv (by decide +kernel)
def Oy:SM:=
 sIf (KG oIn 2 (UD 4))
 (UV (UH UW (UD 3) (UK (.int 1))))
 (sNx)
def W0:SM:=
 UJ (Kd (YO (UI (UH oIx (US 0 (UK (.int 1))) (UD 1)) (UG))) (gT 2 (gNC (gN 3) (gNC (gN 4) (gN0)))) Oy)
 (UV (UK (.int 0)))
def X0:List D->Option D:=UZ N_bh W0
abbrev Sbi:Stmt:=top 53
abbrev N_bi:List Str:=["_law_wishes_here"]
theorem Hbi:NmF Sbi N_bi:=Kv (by decide +kernel)
def WZ:SM:=
 UV (K1 Xm (UI (UN Uq (Zb (KF (US 0 (UK (.int 1)))) 1 (gN 1) (UK true) (KN 1))) (UG)))
def XZ:List D->Option D:=UZ N_bi WZ
abbrev Sbm:Stmt:=top 57
abbrev N_bm:List Str:=["_law_wishes_here", "_law_aim_here", "_law_asker", "_law_thing", "_law_order", "_law_old", "_law_turns", "_law_base", "_law_ranks", "_law_rank_here", "_law_powers", "_law_k", "_law_worth_here", "_law_pick", "_law_one"]
theorem Hbm:NmF Sbm N_bm:=Kv (by decide +kernel)
def Sm:SM:=
 UJ (UU 12 (UH U9 (UD 12) (UH UW (UD 8) (UK (.int 1)))))
 (UJ (UU 13 (UH U9 (UD 13) (UH UW (UD 8) (UK (.int 1)))))
 (sIf (KG oEq 14 (UD 2))
 (UU 13 (UH Kt (UH UW (UH UW (UD 13) (UD 8)) (UK (.int 1))) (UD 9)))
 (sNx)))
def OT:SM:=
 KY 10 (UH U9 (US 10 (ZX (UK (.int 1)))) (UD 7))
def WV:SM:=
 UJ (Zl (UD 1) (gT 3 (gNC (gN 4) (gNC (gN 5) (gNC (gN 6) (gN0))))))
 (UJ (UU 7 (UH UW (K1 U6 (UI (US 0 (UK (.int 1))) (UG))) (UK (.int 1))))
 (UJ (UU 8 (UP 1 XZ (UI (UD 0) (UG))))
 (UJ (UU 9 (UP 3 X0 (UI (UD 0) (UI (UD 2) (UI (UD 3) (UG))))))
 (UJ (KP 10 (UX (UI (UK (.int 1)) (UG)) λxs=>if xs.length<=1000000 then UK xs else λ_=>.bad))
 (UJ (Kd (YQ (UI (UD 8) (UG))) (gN 11) OT)
 (UJ (UU 12 (US 10 (UH Kt (UD 8) (UD 9))))
 (UJ (sIf (KG oEq 4 (UK (.str "full")))
 (UU 12 (UH UW (UD 12) (US 10 (UD 8))))
 (sNx))
 (UJ (sIf (KG oEq 4 (UK (.str "lasts")))
 (UU 12 (UH Kt (US 10 (UD 8)) (US 10 (UH Kt (UD 9) (UK (.int 1))))))
 (sNx))
 (UJ (UU 12 (UH U9 (UD 12) (UD 7)))
 (UJ (sIf (KJ (UN (λd=>!isNon d) (UD 5)) (UH oEq (US 5 (UD 2)) (UD 3)))
 (UU 12 (UH UW (UD 12) (UK (.int 1))))
 (sNx))
 (UJ (UU 13 (UK (.int 0)))
 (UJ (Kd (KF (UD 6)) (gN 14) Sm)
 (UV (UH UW (UD 12) (UD 13)))))))))))))))
def XV:List D->Option D:=UZ N_bm WV
abbrev Sbn:Stmt:=top 58
abbrev N_bn:List Str:=["_law_wishes_here", "_law_aim_here", "_law_dealing", "_law_total", "_law_asker", "_law_thing"]
theorem Hbn:NmF Sbn N_bn:=Kv (by decide +kernel)
def OS:SM:=
 sIf (UN (λd=>!isNon d) (UD 5))
 (UU 3 (UH UW (UD 3) (UP 4 XV (UI (UD 0) (UI (UD 1) (UI (UD 4) (UI (UD 5) (UG))))))))
 (sNx)
def WU:SM:=
 UJ (UU 3 (UK (.int 0)))
 (UJ (Kd (YO (UI (UD 2) (UG))) (gT 2 (gNC (gN 4) (gNC (gN 5) (gN0)))) OS)
 (UV (UD 3)))
def YA:List D->Option D:=UZ N_bn WU
abbrev Sbj:Stmt:=top 54
abbrev N_bj:List Str:=["_law_wishes_here", "_law_asker"]
theorem Hbj:NmF Sbj N_bj:=Kv (by decide +kernel)
def WY:SM:=
 UV (K1 TW (UI (K1 VG (UI (UH oIx (US 0 (UK (.int 1))) (UD 1)) (UI (Kj (UG)) (UG)))) (UG)))
def YB:List D->Option D:=UZ N_bj WY
abbrev Sbf:Stmt:=top 50
abbrev N_bf:List Str:=["_law_cell", "_law_salt", "_law_sizes", "_law_number", "_law_left", "_law_found", "_law_k", "_law_one"]
theorem Hbf:NmF Sbf N_bf:=Kv (by decide +kernel)
def Rt:SM:=
 sIf (KJ (KG (oIB λi j=>decide (j<=i)) 3 (UH Y1 (UK (.int 10)) (UK (.int 18)))) (KG (oIB λi j=>decide (j<i)) 4 (UK (.int 0))))
 (UJ (KY 5 (UH Zm (UD 4) (US 2 (UD 6))))
 (UU 4 (UH Y2 (UD 4) (US 2 (UD 6)))))
 (UJ (UU 7 (UH Zm (UH UW (UH UW (UH UW (UD 3) (UH U9 (UK (.int 7919)) (UD 1))) (UH U9 (UH U9 (UK (.int 101)) (UD 6)) (UD 6))) (UD 6)) (UK (.int 2147483647))))
 (UJ (UU 7 (UH Zm (UH U9 (UD 7) (UK (.int 48271))) (UK (.int 2147483647))))
 (UJ (UU 7 (UH Zm (UH U9 (UH Zm (UH U9 (UD 7) (UD 7)) (UK (.int 2147483629))) (UK (.int 48271))) (UK (.int 2147483647))))
 (KY 5 (UH Zm (UH Y2 (UD 7) (UK (.int 16))) (US 2 (UD 6)))))))
def W2:SM:=
 UJ (UU 3 (K1 TL (UI (UD 0) (UI (UH Kt (ZX (UK (.int 1))) (UD 0)) (UG)))))
 (UJ (UU 4 (UD 3))
 (UJ (KP 5 (UX (UG) λxs=>if xs.length<=1000000 then UK xs else λ_=>.bad))
 (UJ (Kd (YQ (UI (KN 2) (UG))) (gN 6) Rt)
 (UV (UD 5)))))
def ZL:List D->Option D:=UZ N_bf W2
abbrev Sbl:Stmt:=top 56
abbrev N_bl:List Str:=["_law_wishes_here", "_law_cell", "_law_salt", "_law_left", "_law_digits", "_law_found", "_law_asker", "_law_some", "_law_thing"]
theorem Hbl:NmF Sbl N_bl:=Kv (by decide +kernel)
def Rs:SM:=
 UJ (UU 7 (UH UW (UN Uq (WD (KF (UP 2 YB (UI (UD 0) (UI (UD 6) (UG))))) 1 (gN 9) (UH (oIB λi j=>decide (j<i)) (US 3 (UD 9)) (UK (.int 0))) (UD 9))) (Kj (UI (UK .none) (UG)))))
 (UJ (UU 8 (US 7 (UH Zm (US 4 (UD 6)) (KN 7))))
 (UJ (sIf (UN (λd=>!isNon d) (UD 8))
 (V7 3 (UD 8) (UH Kt (US 3 (UD 8)) (UK (.int 1))))
 (sNx))
 (KY 5 (UD 8))))
def WW:SM:=
 UJ (KP 3 (UX (UI (US 0 (UK (.int 0))) (UG)) λxs=>UY (Xd xs)))
 (UJ (UU 4 (UP 3 ZL (UI (UD 1) (UI (UD 2) (UI (UH U9 (Kj (UI (UK (.int 61)) (UG))) (K1 U6 (UI (US 0 (UK (.int 1))) (UG)))) (UG))))))
 (UJ (KP 5 (UX (UG) λxs=>if xs.length<=1000000 then UK xs else λ_=>.bad))
 (UJ (Kd (YQ (UI (K1 U6 (UI (US 0 (UK (.int 1))) (UG))) (UG))) (gN 6) Rs)
 (UV (UD 5)))))
def XX:List D->Option D:=UZ N_bl WW
abbrev Sbo:Stmt:=top 59
abbrev N_bo:List Str:=["_law_wishes_here", "_law_found", "_law_asker", "_law_longer", "_law_dealing", "_law_thing"]
theorem Hbo:NmF Sbo N_bo:=Kv (by decide +kernel)
def OR:SM:=
 sIf (mOr (UN isNon (UD 5)) (UH (oIB λi j=>decide (i<j)) (VL (UD 4) (UI (UD 5) (UG))) (UH oIx (US 0 (UK (.int 0))) (UD 5))))
 (KY 3 (UH UW (UD 4) (Kj (UI (UD 5) (UG)))))
 (sNx)
def OQ:SM:=
 Kd (KF (UH UW (Kj (UI (UK .none) (UG))) (UP 2 YB (UI (UD 0) (UI (UD 2) (UG)))))) (gN 5) OR
def OP:SM:=
 UJ (KP 3 (UX (UG) λxs=>if xs.length<=1000000 then UK xs else λ_=>.bad))
 (UJ (Kd (KF (UD 1)) (gN 4) OQ)
 (UU 1 (UD 3)))
def WT:SM:=
 UJ (KP 1 (UX (UI (Kj (UG)) (UG)) λxs=>if xs.length<=1000000 then UK xs else λ_=>.bad))
 (UJ (Kd (YQ (UI (K1 U6 (UI (US 0 (UK (.int 1))) (UG))) (UG))) (gN 2) OP)
 (UV (UD 1)))
def XU:List D->Option D:=UZ N_bo WT
abbrev Sbk:Stmt:=top 55
abbrev N_bk:List Str:=["_law_wishes_here", "_law_cell", "_law_salt", "_law_askers", "_law_digits", "_law_old", "_law_turns", "_law_digit"]
theorem Hbk:NmF Sbk N_bk:=Kv (by decide +kernel)
def Sk:SM:=
 UU 7 (UH Zm (UH UW (UD 7) (UK (.int 1))) (UD 3))
def OO:SM:=
 UJ (Yj (WB oIn (UD 7) 6) Sk 1000)
 (KY 6 (UD 7))
def WX:SM:=
 UJ (UU 3 (K1 U6 (UI (US 0 (UK (.int 1))) (UG))))
 (UJ (UU 4 (UP 3 ZL (UI (UD 1) (UI (UD 2) (UI (UH UW (UH UW (Kj (UI (UK (.int 3)) (UI (UK (.int 2)) (UI (UH UW (UD 3) (UK (.int 1))) (UG))))) (UH U9 (Kj (UI (UH UW (K1 U6 (UI (US 0 (UK (.int 0))) (UG))) (UK (.int 1))) (UG))) (UD 3))) (UH U9 (Kj (UI (UD 3) (UG))) (UD 3))) (UG))))))
 (UJ (UU 5 (UK .none))
 (UJ (sIf (UH oEq (US 4 (UK (.int 1))) (UK (.int 1)))
 (KP 5 (Zb (KF (ZW (UD 4) (UX (UK (.int 3)) λx=>UY (Yn x)) (UX (UH UW (UK (.int 3)) (UD 3)) λx=>UY (Yn x)))) 1 (gN 8) (UK true) (UH oIx (Kj (UI (UK .none) (UI (UH Kt (UD 8) (UK (.int 1))) (UG)))) (K1 Td (UI (UN Ur (KG (oIB λi j=>decide (j<i)) 8 (UK (.int 0)))) (UG))))))
 (sNx))
 (UJ (KP 6 (UX (UG) λxs=>if xs.length<=1000000 then UK xs else λ_=>.bad))
 (UJ (Kd (KF (ZW (UD 4) (UX (UH UW (UK (.int 3)) (UD 3)) λx=>UY (Yn x)) (UX (UH UW (UH UW (UK (.int 3)) (UD 3)) (US 4 (UK (.int 2)))) λx=>UY (Yn x)))) (gN 7) OO)
 (UV (Z9 (UI (UH oIx (Kj (UI (UK (.str "firsts")) (UI (UK (.str "full")) (UI (UK (.str "lasts")) (UG))))) (US 4 (UK (.int 0)))) (UI (UD 5) (UI (UD 6) (UG)))))))))))
def XY:List D->Option D:=UZ N_bk WX
abbrev Sbg:Stmt:=top 51
abbrev N_bg:List Str:=["_law_script", "_law_at", "_law_most_things", "_law_most_askers", "_law_most_ranks", "_law_digits", "_law_copies", "_law_lists", "_law_asker", "_law_cell", "_law_places", "_law_ranks", "_law_rank_here", "_law_row"]
theorem Hbg:NmF Sbg N_bg:=Kv (by decide +kernel)
def Rr:SM:=
 UJ (KP 13 (Zb (YQ (UI (KN 6) (UG))) 1 (gN 14) (UH oEq (US 10 (UD 14)) (UD 12)) (UD 14)))
 (sIf (KG oNe 13 (Kj (UG)))
 (KY 11 (UH oIx (Kj (UI (UD 13) (UI (XR (UD 13) (UK none) (UK none) (UX (ZX (UK (.int 1))) λx=>UY (Yn x))) (UG)))) (US 10 (ZX (UK (.int 1))))))
 (sNx))
def Rq:SM:=
 UJ (UU 9 (UP 2 ZZ (UI (UD 0) (UI (UH UW (UH UW (UD 1) (UK (.int 1))) (UD 8)) (UG)))))
 (UJ (UU 10 (UP 3 ZL (UI (UD 9) (UI (UH UW (UH UW (UH U9 (UK (.int 11)) (UD 1)) (UH U9 (UK (.int 3)) (UD 8))) (UK (.int 1))) (UI (UH UW (UH U9 (Kj (UI (UH UW (UD 4) (UK (.int 1))) (UG))) (UD 2)) (Kj (UI (UK (.int 2)) (UG)))) (UG))))))
 (UJ (KP 11 (UX (UG) λxs=>if xs.length<=1000000 then UK xs else λ_=>.bad))
 (UJ (Kd (Tb (UI (UK (.int 1)) (UI (UH UW (UD 4) (UK (.int 1))) (UG)))) (gN 12) Rr)
 (KY 7 (UD 11)))))
def W1:SM:=
 UJ (UU 5 (UP 3 ZL (UI (UP 2 ZZ (UI (UD 0) (UI (UD 1) (UG)))) (UI (UD 1) (UI (UH UW (Kj (UI (UD 2) (UI (UD 3) (UG)))) (UH U9 (Kj (UI (UK (.int 11)) (UG))) (UD 2))) (UG))))))
 (UJ (KP 6 (Zb (KF (ZW (UD 5) (UX (UK (.int 2)) λx=>UY (Yn x)) (UX (UH UW (UK (.int 3)) (US 5 (UK (.int 0)))) λx=>UY (Yn x)))) 1 (gN 14) (UK true) (UH oIx (Kj (UI (UK (.int 1)) (UI (UK (.int 1)) (UI (UK (.int 2)) (UI (UK (.int 0)) (UI (UK (.int 3)) (UI (UK (.int 7)) (UI (UK (.int 1)) (UI (UK (.int 4)) (UI (UK (.int 5)) (UI (UK (.int 6)) (UI (UK (.int 1)) (UG))))))))))))) (UD 14))))
 (UJ (KP 7 (UX (UG) λxs=>if xs.length<=1000000 then UK xs else λ_=>.bad))
 (UJ (Kd (YQ (UI (UH UW (UK (.int 1)) (US 5 (UK (.int 1)))) (UG))) (gN 8) Rq)
 (UV (Z9 (UI (UD 6) (UI (UD 7) (UG))))))))
def X1:List D->Option D:=UZ N_bg W1
abbrev Sbq:Stmt:=top 61
abbrev N_bq:List Str:=["_law_script", "_law_wishes_here", "_law_aim_here", "_law_some", "_law_worths", "_law_k", "_law_cell", "_law_dealing", "_law_here", "_law_best", "_law_other", "_law_worth_here", "_law_gains_here"]
theorem Hbq:NmF Sbq N_bq:=Kv (by decide +kernel)
def ON:SM:=
 UJ (UU 12 (UP 4 XT (UI (UD 1) (UI (UD 2) (UI (UD 7) (UI (UD 10) (UG)))))))
 (UJ (sIf (UH oNe (K1 WC (UI (UD 12) (UG))) (UH Kt (UD 11) (UD 8)))
 (UV (UK (.bool false)))
 (sNx))
 (UU 9 (Xn (UD 9) (UN Ur (UH oEq (UN Uq (Zb (KF (UD 12)) 1 (gN 13) (KG (oIB λi j=>decide (j<i)) 13 (UK (.int 0))) (UD 13))) (Kj (UG)))))))
def OM:SM:=
 UJ (UU 7 (UP 3 XX (UI (UD 1) (UI (UD 6) (UI (UH UW (UK (.int 30)) (UD 5)) (UG))))))
 (UJ (UU 8 (UP 3 YA (UI (UD 1) (UI (UD 2) (UI (UD 7) (UG))))))
 (UJ (UU 9 (UK (.bool true)))
 (UJ (Kd (Yv (UI (UD 3) (UI (UD 4) (UG)))) (gT 2 (gNC (gN 10) (gNC (gN 11) (gN0)))) ON)
 (sIf (KG oNe 9 (UN Ur (KG oEq 8 (K1 Xm (UI (UD 4) (UG))))))
 (UV (UK (.bool false)))
 (sNx)))))
def WR:SM:=
 UJ (UU 1 (UP 5 X1 (UI (UD 0) (UI (UK (.int 0)) (UI (UK (.int 3)) (UI (UK (.int 3)) (UI (UK (.int 3)) (UG))))))))
 (UJ (UU 2 (UP 3 XY (UI (UD 1) (UI (UP 2 ZZ (UI (UD 0) (UI (UK (.int 5)) (UG)))) (UI (UK (.int 5)) (UG))))))
 (UJ (UU 3 (UP 1 XU (UI (UD 1) (UG))))
 (UJ (KP 4 (Zb (KF (UD 3)) 1 (gN 13) (UK true) (UP 3 YA (UI (UD 1) (UI (UD 2) (UI (UD 13) (UG)))))))
 (UJ (Kd (YO (UI (UH UW (Kj (UI (UP 2 ZZ (UI (UD 0) (UI (UK (.int 6)) (UG)))) (UG))) (ZW (UD 0) (UX (UK (.int 7)) λx=>UY (Yn x)) (UX (UK (.int 9)) λx=>UY (Yn x)))) (UG))) (gT 2 (gNC (gN 5) (gNC (gN 6) (gN0)))) OM)
 (UV (UK (.bool true)))))))
def XS:List D->Option D:=UZ N_bq WR
set_option hygiene false in
local macro_rules | `(tactic| walk_at "g")=>`(tactic| first | exact gA nm rfl | exact HY rfl)
set_option hygiene false in
local macro_rules | `(tactic| walk_at "v")=>`(tactic| first | exact pq nm _ | exact pvb _)
set_option hygiene false in
local macro_rules | `(tactic| walk_at "b")=>`(tactic| first | ((with_reducible show OpB _ (compareOp CmpOp.Eq) _);first | exact B_eq hu) | ((with_reducible show OpB _ (compareOp CmpOp.NotEq) _);first | exact B_ne hu) | ((with_reducible show OpB _ (compareOp CmpOp.Lt) _);first | exact B_lt) | ((with_reducible show OpB _ (compareOp CmpOp.LtE) _);first | exact B_le) | ((with_reducible show OpB _ (compareOp CmpOp.Gt) _);first | exact B_gt) | ((with_reducible show OpB _ (compareOp CmpOp.GtE) _);first | exact B_ge) | ((with_reducible show OpB _ (compareOp CmpOp.In) _);first | exact B_in hu) | ((with_reducible show OpB _ (compareOp CmpOp.NotIn) _);first | exact M6 hu))
set_option hygiene false in
local macro_rules | `(tactic| walk_at "m")=>`(tactic| first | exact GK _ | exact rfl)
set_option hygiene false in
local macro_rules | `(tactic| walk_at "k")=>`(tactic| first | exact Da | exact Ba | exact C9)
set_option hygiene false in
local macro_rules | `(tactic| walk_at "w")=>`(tactic| first | exact PassesOwn.never)
set_option hygiene false in
local macro_rules | `(tactic| walk_at "x")=>`(tactic| first | assumption | exact wants_cx)
set_option hygiene false in
local macro_rules | `(tactic| walk_at "c")=>`(tactic| first | exact T.c_MOST_ASKERS | exact T.c_MOST_COPIES | exact T.c_MOST_RANKS | exact T.c_MOST_THINGS | exact T.c_ORDERS)
set_option hygiene false in
local macro_rules | `(tactic| walk_at "ck")=>`(tactic| fail)
set_option hygiene false in
local macro_rules | `(tactic| walk_at "e")=>`(tactic| first | ((with_reducible show PE _ (Expr.Call (Expr.Name _ _) [Expr.SetComp _ _ _ _] _ _) _);first | refine Gg nm (by walk_at "g") T.b_len rfl ?_ ?_ (by decide +kernel)) | ((with_reducible show PE _ (Expr.Name _ _) _);first | exact Eh (pq nm _) | exact PF (pq nm _) | exact PF (pvb _) | exact L0 (by walk_at "g") (by walk_at "c") | exact M5 (by walk_at "g") (by walk_at "c")) | ((with_reducible show PE _ (Expr.Constant _ _ _) _);first | exact HA | exact EO | exact Hz | exact EQ) | ((with_reducible show PE _ (Expr.Subscript _ _ _) _);first | refine Fv (by walk_at "v") ?_ (fun _ _=>rfl) | refine B6 ?_ ?_ ?_ | refine F2 ?_ ?_ ?_ ?_ | refine Hq ?_ ?_ (fun _ _=>rfl)) | ((with_reducible show PE _ (Expr.BinOp _ Operator.Add _ _) _);first | refine VD Ly ?_ ?_) | ((with_reducible show PE _ (Expr.BinOp _ Operator.Sub _ _) _);first | refine VD Lx ?_ ?_) | ((with_reducible show PE _ (Expr.BinOp _ Operator.Mult _ _) _);first | refine VD Lw ?_ ?_) | ((with_reducible show PE _ (Expr.BinOp _ Operator.Mod _ _) _);first | refine VD Lv ?_ ?_) | ((with_reducible show PE _ (Expr.BinOp _ Operator.FloorDiv _ _) _);first | refine VD Lu ?_ ?_) | ((with_reducible show PE _ (Expr.BinOp _ Operator.Pow _ _) _);first | refine VD Ha ?_ ?_) | ((with_reducible show PE _ (Expr.Call (Expr.Name "len" _) _ _ _) _);first | refine Df (by walk_at "g") T.b_len (by walk_at "v") | refine WM Pj (by walk_at "g") T.b_len boot_len ?_ | refine B5 rfl (by walk_at "g") T.b_len (by walk_at "g") T.b_set ?_) | ((with_reducible show PE _ (Expr.Call (Expr.Name "max" _) _ _ _) _);first | refine WM (Hn rfl) (by walk_at "g") T.b_max boot_max ?_ | refine WM (HL rfl) (by walk_at "g") T.b_max boot_max ?_) | ((with_reducible show PE _ (Expr.Call (Expr.Name "sorted" _) _ _ _) _);first | refine WM HD (by walk_at "g") T.b_sorted PyProof.Rows.boot_sorted ?_) | ((with_reducible show PE _ (Expr.Call (Expr.Name "sum" _) _ _ _) _);first | refine WM (HE rfl) (by walk_at "g") T.b_sum PyProof.Rows.boot_sum ?_ | refine WM (HK rfl) (by walk_at "g") T.b_sum PyProof.Rows.boot_sum ?_) | ((with_reducible show PE _ (Expr.Call (Expr.Name "all" _) _ _ _) _);first | refine WM (L4 rfl) (by walk_at "g") T.b_all PyProof.Rows.boot_all ?_) | ((with_reducible show PE _ (Expr.Call (Expr.Name "int" _) _ _ _) _);first | refine BC HM (by walk_at "g") T.b_int PyProof.Rows.boot_int ?_) | ((with_reducible show PE _ (Expr.Call (Expr.Name "isinstance" _) [_,Expr.Name "int" _] _ _) _);first | refine TH (c := "int") (by decide) (by walk_at "g") T.b_isinstance (by walk_at "g") T.b_int (by decide +kernel) ?_ (by decide) (by decide)) | ((with_reducible show PE _ (Expr.Call (Expr.Name "isinstance" _) [_,Expr.Name "list" _] _ _) _);first | refine TH (c := "list") (by decide) (by walk_at "g") T.b_isinstance (by walk_at "g") T.b_list (by decide +kernel) ?_ (by decide) (by decide)) | ((with_reducible show PE _ (Expr.Call (Expr.Name "isinstance" _) [_,Expr.Name "tuple" _] _ _) _);first | refine TH (c := "tuple") (by decide) (by walk_at "g") T.b_isinstance (by walk_at "g") T.b_tuple (by decide +kernel) ?_ (by decide) (by decide)) | ((with_reducible show PE _ (Expr.Call (Expr.Name "isinstance" _) [_,Expr.Name "bool" _] _ _) _);first | refine TH (c := "bool") (by decide) (by walk_at "g") T.b_isinstance (by walk_at "g") T.b_bool (by decide +kernel) ?_ (by decide) (by decide)) | ((with_reducible show PE _ (Expr.Call (Expr.Name "isinstance" _) [_,Expr.Name "str" _] _ _) _);first | refine TH (c := "str") (by decide) (by walk_at "g") T.b_isinstance (by walk_at "g") T.b_str (by decide +kernel) ?_ (by decide) (by decide)) | ((with_reducible show PE _ (Expr.Call (Expr.Name _ _) _ _ _) _);first | refine pdf (by assumption) hr (by walk_at "g") ?_) | ((with_reducible show PE _ (Expr.Call _ _ _ _) _);first | refine CH hu ?_ ?_ | refine Ei hu ?_ ?_ | refine Cu ?_ ?_) | refine Fw ?_ | refine Fx ?_ | ((with_reducible show PE _ (Expr.Compare _ _ _ _) _);first | refine Fz ?_ | refine Dj ?_ | refine F3 (by walk_at "b") (by walk_at "v") ?_ (by walk_at "m") | refine FL (by walk_at "b") ?_ ?_ (by walk_at "m") | refine Bo (by walk_at "b") (by walk_at "b") ?_ ?_ ?_) | refine F6 ?_ | refine Ec ?_ | refine FC ?_ | refine FE ?_ ?_ | refine Hr ?_ ?_ | refine FD ?_ | refine Bm ?_ ?_ ?_)
set_option hygiene false in
local macro_rules | `(tactic| walk_at "t")=>`(tactic| first | ((with_reducible show PT _ (Expr.Compare _ _ _ _) _);first | refine FA ?_ | refine Dk ?_ | refine F4 (by walk_at "b") (by walk_at "v") ?_ (by walk_at "m") | refine En (by walk_at "b") ?_ (by walk_at "v") (by walk_at "m") | refine FM (by walk_at "b") ?_ ?_ (by walk_at "m") | refine Bp (by walk_at "b") (by walk_at "b") ?_ ?_ ?_) | ((with_reducible show PT _ (Expr.BoolOp _ _ _) _);refine PW.pt ?_) | refine FG ?_ | refine FF ?_)
set_option hygiene false in
local macro_rules | `(tactic| walk_at "l")=>`(tactic| first | refine BM rfl (by walk_at "g") T.b_list ?_ | refine MR nm (by walk_at "k") rfl ?_ ?_ (by decide +kernel) | refine Bw (by walk_at "g") T.b_list (by walk_at "v") | refine E4 (by walk_at "g") T.b_list ?_ | refine Ee ?_)
set_option hygiene false in
local macro_rules | `(tactic| walk_at "i")=>`(tactic| first | refine Bl (by walk_at "g") T.b_range ?_ | refine Bk (by walk_at "g") T.b_range ?_ | refine Ed (by walk_at "g") T.b_enumerate ?_ | refine E1 (by walk_at "g") T.b_enumerate ?_ | refine HP (by walk_at "g") T.b_zip ?_ | refine HV ?_)
set_option hygiene false in
local macro_rules | `(tactic| walk_at "s")=>`(tactic| first | ((with_reducible show PS _ (Stmt.Assign [Expr.Name _ _] _ _) _);first | refine aSet nm ?_ | refine MQ nm (by walk_at "k") rfl ?_ ?_ (by decide +kernel) | refine MT nm ?_ | refine MS nm ?_) | ((with_reducible show PS _ (Stmt.Assign _ _ _) _);first | refine Hg ?_ ?_ | refine F5 ?_ (by walk_at "v") ?_ | refine HB hu ?_ (by walk_at "v") ?_) | refine L9 ?_ ?_ ?_ | refine Hk ?_ | refine Hd (by walk_at "w") rfl ?_ ?_ ?_ | ((with_reducible show PS _ (Stmt.Expr _ _) _);first | refine He (by walk_at "v") ?_ | refine HF (by walk_at "v") ?_ | refine Fp ?_) | refine aAug nm FV ?_ | exact Dd | refine DE _ (by walk_at "w") ?_ ?_)
set_option hygiene false in
local macro_rules | `(tactic| walk_at "d")=>`(tactic| (have hu:=hr.units;have hgd:=hr.gd;repeat' (first | ((with_reducible show PE _ _ (tD _ _ _ _));first | walk_at "e") | ((with_reducible show PA _ _ (tDs _ _ _ _));first | refine Di ?_ ?_ | exact Fy) | ((with_reducible show PSs _ _ (tS _ _ _ _ _));first | refine Fq ?_ ?_ | refine Hl ?_ | exact Hm | exact sD_nevers) | ((with_reducible show PS _ _ _);walk_at "s") | ((with_reducible show PT _ _ _);walk_at "t") | ((with_reducible show PW _ _ _);first | refine FH ?_ ?_ | refine Hs ?_ ?_ | refine Dl ?_ | refine FI ?_) | ((with_reducible show PE _ _ (tL _ _ _ _));walk_at "l") | ((with_reducible show PI _ _ _ _);walk_at "i") | ((with_reducible show PG _ _ _);first | exact MU nm | exact Gh | refine Hi rfl ?_) | ((with_reducible show PGs _ _ _);first | exact Hj | refine Eg ?_ ?_) | ((with_reducible show PO _ _ _);first | exact Dh | refine Dg ?_) | ((with_reducible show SU _ _ _ _ _ _ _ _ _);refine fun cl C s0 H0 ex=>⟨fun B' G'=>?_,fun B' G'=>?_,fun B' G'=>?_⟩) | ((with_reducible show ZY _ _ _ _ _ _ _ _ _);refine fun cl C s0 H0 ex=>⟨fun B' G'=>?_,fun B' G'=>?_,?_⟩) | ((with_reducible show ZK _ _ _);first | exact F8 | refine F7 ?_) | ((with_reducible show V8 _ _ _ _ _ _);first | refine Bc rfl rfl rfl fun B' G'=>?_ | refine Bb rfl rfl rfl rfl (fun _=>rfl) (fun B' G'=>?_) (fun B' G'=>?_) (fun B' G'=>?_) ?_) | ((with_reducible show PE _ _ (tT _ _ _ _ _));first | refine peT_call (by assumption) hr (by walk_at "g") ?_ | exact peT_nil | exact Dv | refine peT_disp ?_))))
section
variable{P:Uf}{w:World}{K:Frag}{mg:Str->Option Ud}{base:Heap}{f:Ug}{fd:Uh}(T:Txt K mg)
include T
theorem Kbe(F:Fun K "_law_cell_at" "_law_cell_at" Sbe f fd):FnOk P w K mg base CX0 1 f fd ["_law_script", "_law_k"] (spD K 2 ZZ):=
 okD (k:=0) (g:=XI) F (fq Hbe 2) rfl λcdv A outer s H E B G0 hr=>
 have nm:=Hbe
 by walk_at "d"
theorem Kbc(F:Fun K "way_from" "way_from" Sbc f fd):FnOk P w K mg base CX0 1 f fd ["first", "behind", "other"] (spD K 3 X2):=
 okD (k:=0) (g:=W4) F (fq Hbc 3) rfl λcdv A outer s H E B G0 hr=>
 have nm:=Hbc
 by walk_at "d"
theorem Kba(F:Fun K "moved_askers" "moved_askers" Sba f fd):FnOk P w K mg base CX0 1 f fd ["one", "other"] (spD K 2 YD):=
 okD (k:=0) (g:=W6) F (fq Hba 2) rfl λcdv A outer s H E B G0 hr=>
 have nm:=Hba
 by walk_at "d"
theorem Kbb(d_ba:Def P w K mg base "moved_askers" 1 2 YD)(F:Fun K "followers" "followers" Sbb f fd):FnOk P w K mg base CX0 2 f fd ["things", "one", "other"] (spD K 3 X3):=
 okD (k:=1) (g:=W5) F (fq Hbb 3) rfl λcdv A outer s H E B G0 hr=>
 have nm:=Hbb
 by walk_at "d"
theorem Kaa(F:Fun K "is_whole" "is_whole" Saa f fd):FnOk P w K mg base CX0 1 f fd ["thing"] (spD K 1 Yh):=
 okD (k:=0) (g:=Vv) F (fq Haa 1) rfl λcdv A outer s H E B G0 hr=>
 have nm:=Haa
 by walk_at "d"
theorem Kab(d_aa:Def P w K mg base "is_whole" 1 1 Yh)(F:Fun K "is_number_below" "is_number_below" Sab f fd):FnOk P w K mg base CX0 2 f fd ["thing", "many"] (spD K 2 KR):=
 okD (k:=1) (g:=XJ) F (fq Hab 2) rfl λcdv A outer s H E B G0 hr=>
 have nm:=Hab
 by walk_at "d"
theorem Kad(d_ab:Def P w K mg base "is_number_below" 2 2 KR)(F:Fun K "is_rank" "is_rank" Sad f fd):FnOk P w K mg base CX0 3 f fd ["thing", "things"] (spD K 2 Xa):=
 okD (k:=2) (g:=Vt) F (fq Had 2) rfl λcdv A outer s H E B G0 hr=>
 have nm:=Had
 by walk_at "d"
theorem Kae(d_ad:Def P w K mg base "is_rank" 3 2 Xa)(F:Fun K "is_asker_list" "is_asker_list" Sae f fd):FnOk P w K mg base CX0 4 f fd ["thing", "things"] (spD K 2 Wf):=
 okD (k:=3) (g:=Vs) F (fq Hae 2) rfl λcdv A outer s H E B G0 hr=>
 have nm:=Hae
 by walk_at "d"
theorem Kaf(d_ae:Def P w K mg base "is_asker_list" 4 2 Wf)(F:Fun K "look_at_lists" "look_at_lists" Saf f fd):FnOk P w K mg base CX0 5 f fd ["lists", "things"] (spD K 2 We):=
 okD (k:=4) (g:=Vr) F (fq Haf 2) rfl λcdv A outer s H E B G0 hr=>
 have nm:=Haf
 by walk_at "d"
theorem Kac(d_ab:Def P w K mg base "is_number_below" 2 2 KR)(F:Fun K "look_at_copies" "look_at_copies" Sac f fd):FnOk P w K mg base CX0 3 f fd ["copies"] (spD K 1 Wg):=
 okD (k:=2) (g:=Vu) F (fq Hac 1) rfl λcdv A outer s H E B G0 hr=>
 have nm:=Hac
 by walk_at "d"
theorem Kag(d_af:Def P w K mg base "look_at_lists" 5 2 We)(d_ac:Def P w K mg base "look_at_copies" 3 1 Wg)(F:Fun K "look_at_wishes" "look_at_wishes" Sag f fd):FnOk P w K mg base CX0 6 f fd ["thing"] (spD K 1 ZC):=
 okD (k:=5) (g:=Vq) F (fq Hag 1) rfl λcdv A outer s H E B G0 hr=>
 have nm:=Hag
 by walk_at "d"
theorem Kbd(d_bc:Def P w K mg base "way_from" 1 3 X2)(d_ba:Def P w K mg base "moved_askers" 1 2 YD)(d_bb:Def P w K mg base "followers" 2 3 X3)(d_ag:Def P w K mg base "look_at_wishes" 6 1 ZC)(F:Fun K "ways_between" "ways_between" Sbd f fd):FnOk P w K mg base CX0 7 f fd ["wishes", "one", "other"] (spD K 3 YC):=
 okD (k:=6) (g:=W3) F (fq Hbd 3) rfl λcdv A outer s H E B G0 hr=>
 have nm:=Hbd
 by walk_at "d"
theorem Kax(F:Fun K "behind_way" "behind_way" Sax f fd):FnOk P w K mg base CX0 1 f fd ["dealing", "way"] (spD K 2 X5):=
 okD (k:=0) (g:=W9) F (fq Hax 2) rfl λcdv A outer s H E B G0 hr=>
 have nm:=Hax
 by walk_at "d"
theorem Kav(F:Fun K "is_linked" "is_linked" Sav f fd):FnOk P w K mg base CX0 1 f fd ["dealing", "takings"] (spD K 2 Y6):=
 okD (k:=0) (g:=Vb) F (fq Hav 2) rfl λcdv A outer s H E B G0 hr=>
 have nm:=Hav
 by walk_at "d"
theorem Kah(F:Fun K "rank_in" "rank_in" Sah f fd):FnOk P w K mg base CX0 1 f fd ["ranks", "thing"] (spD K 2 YF):=
 okD (k:=0) (g:=Vp) F (fq Hah 2) rfl λcdv A outer s H E B G0 hr=>
 have nm:=Hah
 by walk_at "d"
theorem Kau(d_aa:Def P w K mg base "is_whole" 1 1 Yh)(d_ah:Def P w K mg base "rank_in" 1 2 YF)(d_ab:Def P w K mg base "is_number_below" 2 2 KR)(F:Fun K "is_taking" "is_taking" Sau f fd):FnOk P w K mg base CX0 3 f fd ["lists", "dealing", "thing"] (spD K 3 Y7):=
 okD (k:=2) (g:=Vc) F (fq Hau 3) rfl λcdv A outer s H E B G0 hr=>
 have nm:=Hau
 by walk_at "d"
theorem Kaj(d_ag:Def P w K mg base "look_at_wishes" 6 1 ZC)(F:Fun K "copies_left" "copies_left" Saj f fd):FnOk P w K mg base CX0 7 f fd ["wishes", "dealing"] (spD K 2 Wc):=
 okD (k:=6) (g:=Vn) F (fq Haj 2) rfl λcdv A outer s H E B G0 hr=>
 have nm:=Haj
 by walk_at "d"
theorem Kaw(d_av:Def P w K mg base "is_linked" 1 2 Y6)(d_au:Def P w K mg base "is_taking" 3 3 Y7)(d_aj:Def P w K mg base "copies_left" 7 2 Wc)(F:Fun K "is_way" "is_way" Saw f fd):FnOk P w K mg base CX0 8 f fd ["wishes", "dealing", "thing"] (spD K 3 Yg):=
 okD (k:=7) (g:=Va) F (fq Haw 3) rfl λcdv A outer s H E B G0 hr=>
 have nm:=Haw
 by walk_at "d"
theorem Kay(d_ax:Def P w K mg base "behind_way" 1 2 X5)(d_aw:Def P w K mg base "is_way" 8 3 Yg)(F:Fun K "done" "done" Say f fd):FnOk P w K mg base CX0 9 f fd ["wishes", "dealing", "way"] (spD K 3 X4):=
 okD (k:=8) (g:=W8) F (fq Hay 3) rfl λcdv A outer s H E B G0 hr=>
 have nm:=Hay
 by walk_at "d"
theorem Kap(F:Fun K "power" "power" Sap f fd):FnOk P w K mg base CX0 1 f fd ["base", "times"] (spD K 2 K0):=
 okD (k:=0) (g:=Vh) F (fq Hap 2) rfl λcdv A outer s H E B G0 hr=>
 have nm:=Hap
 by walk_at "d"
theorem Kar(d_ap:Def P w K mg base "power" 1 2 K0)(F:Fun K "worth_by_turns" "worth_by_turns" Sar f fd):FnOk P w K mg base CX0 2 f fd ["turns", "base", "asker", "rank"] (spD K 4 X6):=
 okD (k:=1) (g:=Vf) F (fq Har 4) rfl λcdv A outer s H E B G0 hr=>
 have nm:=Har
 by walk_at "d"
theorem Kaq(d_ap:Def P w K mg base "power" 1 2 K0)(F:Fun K "worth_by_order" "worth_by_order" Saq f fd):FnOk P w K mg base CX0 2 f fd ["order", "base", "most", "rank"] (spD K 4 X7):=
 okD (k:=1) (g:=Vg) F (fq Haq 4) rfl λcdv A outer s H E B G0 hr=>
 have nm:=Haq
 by walk_at "d"
theorem Kas(d_ap:Def P w K mg base "power" 1 2 K0)(d_ar:Def P w K mg base "worth_by_turns" 2 4 X6)(d_aq:Def P w K mg base "worth_by_order" 2 4 X7)(d_ah:Def P w K mg base "rank_in" 1 2 YF)(F:Fun K "worth_by_aim" "worth_by_aim" Sas f fd):FnOk P w K mg base CX0 3 f fd ["wishes", "aim", "most", "asker", "thing"] (spD K 5 Y9):=
 okD (k:=2) (g:=Ve) F (fq Has 5) rfl λcdv A outer s H E B G0 hr=>
 have nm:=Has
 by walk_at "d"
theorem Kai(d_ag:Def P w K mg base "look_at_wishes" 6 1 ZC)(F:Fun K "longest" "longest" Sai f fd):FnOk P w K mg base CX0 7 f fd ["wishes"] (spD K 1 Wd):=
 okD (k:=6) (g:=Vo) F (fq Hai 1) rfl λcdv A outer s H E B G0 hr=>
 have nm:=Hai
 by walk_at "d"
theorem Kan(d_ab:Def P w K mg base "is_number_below" 2 2 KR)(F:Fun K "is_turns" "is_turns" San f fd):FnOk P w K mg base CX0 3 f fd ["thing", "askers"] (spD K 2 X8):=
 okD (k:=2) (g:=Vj) F (fq Han 2) rfl λcdv A outer s H E B G0 hr=>
 have nm:=Han
 by walk_at "d"
theorem Kam(d_ab:Def P w K mg base "is_number_below" 2 2 KR)(F:Fun K "is_old" "is_old" Sam f fd):FnOk P w K mg base CX0 3 f fd ["thing", "askers", "things"] (spD K 3 X9):=
 okD (k:=2) (g:=Vk) F (fq Ham 3) rfl λcdv A outer s H E B G0 hr=>
 have nm:=Ham
 by walk_at "d"
theorem Kak(F:Fun K "is_order" "is_order" Sak f fd):FnOk P w K mg base CX0 1 f fd ["thing"] (spD K 1 Wb):=
 okD (k:=0) (g:=Vm) F (fq Hak 1) rfl λcdv A outer s H E B G0 hr=>
 have nm:=Hak
 by walk_at "d"
theorem Kal(d_ak:Def P w K mg base "is_order" 1 1 Wb)(F:Fun K "look_at_order" "look_at_order" Sal f fd):FnOk P w K mg base CX0 2 f fd ["thing"] (spD K 1 Wa):=
 okD (k:=1) (g:=Vl) F (fq Hal 1) rfl λcdv A outer s H E B G0 hr=>
 have nm:=Hal
 by walk_at "d"
theorem Kao(d_an:Def P w K mg base "is_turns" 3 2 X8)(d_am:Def P w K mg base "is_old" 3 3 X9)(d_al:Def P w K mg base "look_at_order" 2 1 Wa)(d_ag:Def P w K mg base "look_at_wishes" 6 1 ZC)(F:Fun K "look_at_aim" "look_at_aim" Sao f fd):FnOk P w K mg base CX0 7 f fd ["wishes", "thing"] (spD K 2 YE):=
 okD (k:=6) (g:=Vi) F (fq Hao 2) rfl λcdv A outer s H E B G0 hr=>
 have nm:=Hao
 by walk_at "d"
theorem Kat(d_as:Def P w K mg base "worth_by_aim" 3 5 Y9)(d_ai:Def P w K mg base "longest" 7 1 Wd)(d_ao:Def P w K mg base "look_at_aim" 7 2 YE)(F:Fun K "worth_of" "worth_of" Sat f fd):FnOk P w K mg base CX0 8 f fd ["wishes", "aim", "dealing"] (spD K 3 Y8):=
 okD (k:=7) (g:=Vd) F (fq Hat 3) rfl λcdv A outer s H E B G0 hr=>
 have nm:=Hat
 by walk_at "d"
theorem Kaz(d_ay:Def P w K mg base "done" 9 3 X4)(d_at:Def P w K mg base "worth_of" 8 3 Y8)(d_ao:Def P w K mg base "look_at_aim" 7 2 YE)(F:Fun K "gain_of" "gain_of" Saz f fd):FnOk P w K mg base CX0 10 f fd ["wishes", "aim", "dealing", "way"] (spD K 4 Y5):=
 okD (k:=9) (g:=W7) F (fq Haz 4) rfl λcdv A outer s H E B G0 hr=>
 have nm:=Haz
 by walk_at "d"
theorem Kbp(d_bd:Def P w K mg base "ways_between" 7 3 YC)(d_az:Def P w K mg base "gain_of" 10 4 Y5)(F:Fun K "_law_gains" "_law_gains" Sbp f fd):FnOk P w K mg base CX0 11 f fd ["_law_wishes_here", "_law_aim_here", "_law_one", "_law_other"] (spD K 4 XT):=
 okD (k:=10) (g:=WS) F (fq Hbp 4) rfl λcdv A outer s H E B G0 hr=>
 have nm:=Hbp
 by walk_at "d"
theorem Kbh(F:Fun K "_law_rank" "_law_rank" Sbh f fd):FnOk P w K mg base CX0 1 f fd ["_law_wishes_here", "_law_asker", "_law_thing"] (spD K 3 X0):=
 okD (k:=0) (g:=W0) F (fq Hbh 3) rfl λcdv A outer s H E B G0 hr=>
 have nm:=Hbh
 by walk_at "d"
theorem Kbi(F:Fun K "_law_longest" "_law_longest" Sbi f fd):FnOk P w K mg base CX0 1 f fd ["_law_wishes_here"] (spD K 1 XZ):=
 okD (k:=0) (g:=WZ) F (fq Hbi 1) rfl λcdv A outer s H E B G0 hr=>
 have nm:=Hbi
 by walk_at "d"
theorem Kbm(d_bh:Def P w K mg base "_law_rank" 1 3 X0)(d_bi:Def P w K mg base "_law_longest" 1 1 XZ)(F:Fun K "_law_worth" "_law_worth" Sbm f fd):FnOk P w K mg base CX0 2 f fd ["_law_wishes_here", "_law_aim_here", "_law_asker", "_law_thing"] (spD K 4 XV):=
 okD (k:=1) (g:=WV) F (fq Hbm 4) rfl λcdv A outer s H E B G0 hr=>
 have nm:=Hbm
 by walk_at "d"
theorem Kbn(d_bm:Def P w K mg base "_law_worth" 2 4 XV)(F:Fun K "_law_whole" "_law_whole" Sbn f fd):FnOk P w K mg base CX0 3 f fd ["_law_wishes_here", "_law_aim_here", "_law_dealing"] (spD K 3 YA):=
 okD (k:=2) (g:=WU) F (fq Hbn 3) rfl λcdv A outer s H E B G0 hr=>
 have nm:=Hbn
 by walk_at "d"
theorem Kbj(F:Fun K "_law_wished" "_law_wished" Sbj f fd):FnOk P w K mg base CX0 1 f fd ["_law_wishes_here", "_law_asker"] (spD K 2 YB):=
 okD (k:=0) (g:=WY) F (fq Hbj 2) rfl λcdv A outer s H E B G0 hr=>
 have nm:=Hbj
 by walk_at "d"
theorem Kbf(F:Fun K "_law_numbers" "_law_numbers" Sbf f fd):FnOk P w K mg base CX0 1 f fd ["_law_cell", "_law_salt", "_law_sizes"] (spD K 3 ZL):=
 okD (k:=0) (g:=W2) F (fq Hbf 3) rfl λcdv A outer s H E B G0 hr=>
 have nm:=Hbf
 by walk_at "d"
theorem Kbl(d_bj:Def P w K mg base "_law_wished" 1 2 YB)(d_bf:Def P w K mg base "_law_numbers" 1 3 ZL)(F:Fun K "_law_dealt" "_law_dealt" Sbl f fd):FnOk P w K mg base CX0 2 f fd ["_law_wishes_here", "_law_cell", "_law_salt"] (spD K 3 XX):=
 okD (k:=1) (g:=WW) F (fq Hbl 3) rfl λcdv A outer s H E B G0 hr=>
 have nm:=Hbl
 by walk_at "d"
theorem Kbo(d_bj:Def P w K mg base "_law_wished" 1 2 YB)(F:Fun K "_law_all" "_law_all" Sbo f fd):FnOk P w K mg base CX0 2 f fd ["_law_wishes_here"] (spD K 1 XU):=
 okD (k:=1) (g:=WT) F (fq Hbo 1) rfl λcdv A outer s H E B G0 hr=>
 have nm:=Hbo
 by walk_at "d"
theorem Kbk(d_bf:Def P w K mg base "_law_numbers" 1 3 ZL)(F:Fun K "_law_aim" "_law_aim" Sbk f fd):FnOk P w K mg base CX0 2 f fd ["_law_wishes_here", "_law_cell", "_law_salt"] (spD K 3 XY):=
 okD (k:=1) (g:=WX) F (fq Hbk 3) rfl λcdv A outer s H E B G0 hr=>
 have nm:=Hbk
 by walk_at "d"
theorem Kbg(d_bf:Def P w K mg base "_law_numbers" 1 3 ZL)(d_be:Def P w K mg base "_law_cell_at" 1 2 ZZ)(F:Fun K "_law_wishes" "_law_wishes" Sbg f fd):FnOk P w K mg base CX0 2 f fd ["_law_script", "_law_at", "_law_most_things", "_law_most_askers", "_law_most_ranks"] (spD K 5 X1):=
 okD (k:=1) (g:=W1) F (fq Hbg 5) rfl λcdv A outer s H E B G0 hr=>
 have nm:=Hbg
 by walk_at "d"
theorem Kbq(d_be:Def P w K mg base "_law_cell_at" 1 2 ZZ)(d_bp:Def P w K mg base "_law_gains" 11 4 XT)(d_bn:Def P w K mg base "_law_whole" 3 3 YA)(d_bl:Def P w K mg base "_law_dealt" 2 3 XX)(d_bo:Def P w K mg base "_law_all" 2 1 XU)(d_bk:Def P w K mg base "_law_aim" 2 3 XY)(d_bg:Def P w K mg base "_law_wishes" 2 5 X1)(F:Fun K "law" "law" Sbq f fd):FnOk P w K mg base CX0 12 f fd ["_law_script"] (spD K 1 XS):=
 okD (k:=11) (g:=WR) F (fq Hbq 1) rfl λcdv A outer s H E B G0 hr=>
 have nm:=Hbq
 by walk_at "d"
end
theorem Ku:recsOf q0=Tf p0 ixL:=by show recsOf (PySem.W.view PySem.Challenge.pw_wishdeal_k31_whole_best_where_no_way_gai YJ)=Tf PySem.Challenge.pw_wishdeal_k31_whole_best_where_no_way_gai ixL;rw[PySem.W.Fast.te3399658132070893891,PySem.W.Fast.te14595249212514964550];kernel_rfl
theorem Z4:(["all", "bool", "enumerate", "int", "isinstance", "len", "list", "max", "range", "set", "sorted", "str", "sum", "tuple", "zip"]:List Str).all (TV q0 (PySem.W.looseW q0 []))=true:=by show List.all _ (TV (PySem.W.view PySem.Challenge.pw_wishdeal_k31_whole_best_where_no_way_gai YJ) (PySem.W.looseW (PySem.W.view PySem.Challenge.pw_wishdeal_k31_whole_best_where_no_way_gai YJ) []))=true;k_qdec
theorem A5:valOf q0 "MOST_ASKERS" = some (.int 7):=by show valOf (PySem.W.view PySem.Challenge.pw_wishdeal_k31_whole_best_where_no_way_gai YJ) _=_;rw[Jk,PySem.W.Fast.te14595249212514964550];kernel_rfl
theorem A4:valOf q0 "MOST_COPIES" = some (.int 7):=by show valOf (PySem.W.view PySem.Challenge.pw_wishdeal_k31_whole_best_where_no_way_gai YJ) _=_;rw[Jk,PySem.W.Fast.te14595249212514964550];kernel_rfl
theorem AT:valOf q0 "MOST_RANKS" = some (.int 5):=by show valOf (PySem.W.view PySem.Challenge.pw_wishdeal_k31_whole_best_where_no_way_gai YJ) _=_;rw[Jk,PySem.W.Fast.te14595249212514964550];kernel_rfl
theorem A3:valOf q0 "MOST_THINGS" = some (.int 6):=by show valOf (PySem.W.view PySem.Challenge.pw_wishdeal_k31_whole_best_where_no_way_gai YJ) _=_;rw[Jk,PySem.W.Fast.te14595249212514964550];kernel_rfl
theorem CP:tupStrsOf q0 "ORDERS" = some (["firsts", "full", "lasts"]:List Str):=by show tupStrsOf (PySem.W.view PySem.Challenge.pw_wishdeal_k31_whole_best_where_no_way_gai YJ) _=_;rw[PySem.W.Fast.te14491516231548247274,PySem.W.Fast.te14595249212514964550];kernel_rfl
theorem Gd{l:PySem.W.OpenLaw}{w:World}{s0:Ue}{mg mb:Str->Option Ud}{fa:Ug}{h:Heap}{XP:(Str->Option Ud)->Heap->Prop}(G:PySem.W.Ground q0 [] [] XP w s0 mg mb h)(hfa:mg "law" = some (.ref fa)) :
  ∃fd:Uh,(∀(s:Ue)(v:Ud),BindsTo s fd ⟨[v],[]⟩ [("_law_script", v)])/\∀base:Heap,FnOk l.prog w (whole h) mg base CX0 12 fa fd ["_law_script"] (spD (whole h) 1 XS):=by
 have T:Txt (whole h) mg:=⟨Z6 G.T Z4 (mq 0 rfl),Z6 G.T Z4 (mq 1 rfl),Z6 G.T Z4 (mq 2 rfl),Z6 G.T Z4 (mq 3 rfl),Z6 G.T Z4 (mq 4 rfl),Z6 G.T Z4 (mq 5 rfl),Z6 G.T Z4 (mq 6 rfl),Z6 G.T Z4 (mq 7 rfl),Z6 G.T Z4 (mq 8 rfl),Z6 G.T Z4 (mq 9 rfl),Z6 G.T Z4 (mq 10 rfl),Z6 G.T Z4 (mq 11 rfl),Z6 G.T Z4 (mq 12 rfl),Z6 G.T Z4 (mq 13 rfl),Z6 G.T Z4 (mq 14 rfl),SG G.T A5,SG G.T A4,SG G.T AT,SG G.T A3,CM G.B CP (by decide)⟩
 refine MV G.T Ku 61 "law" rfl rfl hfa (λ_ _ _ _ _ _ _=>rfl) λbase=>?_
 have d_be:=Kz l.prog w base G.T Ku 49 "_law_cell_at" rfl rfl (λF=>Kbe T  F) λ_ _ _ _ _ _ us hl=>bz2 (us:=us) hl λ_ _=>rfl
 have d_bc:=Kz l.prog w base G.T Ku 46 "way_from" rfl rfl (λF=>Kbc T  F) λ_ _ _ _ _ _ us hl=>bz3 (us:=us) hl λ_ _ _=>rfl
 have d_ba:=Kz l.prog w base G.T Ku 44 "moved_askers" rfl rfl (λF=>Kba T  F) λ_ _ _ _ _ _ us hl=>bz2 (us:=us) hl λ_ _=>rfl
 have d_bb:=Kz l.prog w base G.T Ku 45 "followers" rfl rfl (λF=>Kbb T d_ba F) λ_ _ _ _ _ _ us hl=>bz3 (us:=us) hl λ_ _ _=>rfl
 have d_aa:=Kz l.prog w base G.T Ku 1 "is_whole" rfl rfl (λF=>Kaa T  F) λ_ _ _ _ _ _ us hl=>bz1 (us:=us) hl λ_=>rfl
 have d_ab:=Kz l.prog w base G.T Ku 2 "is_number_below" rfl rfl (λF=>Kab T d_aa F) λ_ _ _ _ _ _ us hl=>bz2 (us:=us) hl λ_ _=>rfl
 have d_ad:=Kz l.prog w base G.T Ku 14 "is_rank" rfl rfl (λF=>Kad T d_ab F) λ_ _ _ _ _ _ us hl=>bz2 (us:=us) hl λ_ _=>rfl
 have d_ae:=Kz l.prog w base G.T Ku 15 "is_asker_list" rfl rfl (λF=>Kae T d_ad F) λ_ _ _ _ _ _ us hl=>bz2 (us:=us) hl λ_ _=>rfl
 have d_af:=Kz l.prog w base G.T Ku 16 "look_at_lists" rfl rfl (λF=>Kaf T d_ae F) λ_ _ _ _ _ _ us hl=>bz2 (us:=us) hl λ_ _=>rfl
 have d_ac:=Kz l.prog w base G.T Ku 13 "look_at_copies" rfl rfl (λF=>Kac T d_ab F) λ_ _ _ _ _ _ us hl=>bz1 (us:=us) hl λ_=>rfl
 have d_ag:=Kz l.prog w base G.T Ku 17 "look_at_wishes" rfl rfl (λF=>Kag T d_af d_ac F) λ_ _ _ _ _ _ us hl=>bz1 (us:=us) hl λ_=>rfl
 have d_bd:=Kz l.prog w base G.T Ku 47 "ways_between" rfl rfl (λF=>Kbd T d_bc d_ba d_bb d_ag F) λ_ _ _ _ _ _ us hl=>bz3 (us:=us) hl λ_ _ _=>rfl
 have d_ax:=Kz l.prog w base G.T Ku 40 "behind_way" rfl rfl (λF=>Kax T  F) λ_ _ _ _ _ _ us hl=>bz2 (us:=us) hl λ_ _=>rfl
 have d_av:=Kz l.prog w base G.T Ku 38 "is_linked" rfl rfl (λF=>Kav T  F) λ_ _ _ _ _ _ us hl=>bz2 (us:=us) hl λ_ _=>rfl
 have d_ah:=Kz l.prog w base G.T Ku 18 "rank_in" rfl rfl (λF=>Kah T  F) λ_ _ _ _ _ _ us hl=>bz2 (us:=us) hl λ_ _=>rfl
 have d_au:=Kz l.prog w base G.T Ku 37 "is_taking" rfl rfl (λF=>Kau T d_aa d_ah d_ab F) λ_ _ _ _ _ _ us hl=>bz3 (us:=us) hl λ_ _ _=>rfl
 have d_aj:=Kz l.prog w base G.T Ku 21 "copies_left" rfl rfl (λF=>Kaj T d_ag F) λ_ _ _ _ _ _ us hl=>bz2 (us:=us) hl λ_ _=>rfl
 have d_aw:=Kz l.prog w base G.T Ku 39 "is_way" rfl rfl (λF=>Kaw T d_av d_au d_aj F) λ_ _ _ _ _ _ us hl=>bz3 (us:=us) hl λ_ _ _=>rfl
 have d_ay:=Kz l.prog w base G.T Ku 41 "done" rfl rfl (λF=>Kay T d_ax d_aw F) λ_ _ _ _ _ _ us hl=>bz3 (us:=us) hl λ_ _ _=>rfl
 have d_ap:=Kz l.prog w base G.T Ku 31 "power" rfl rfl (λF=>Kap T  F) λ_ _ _ _ _ _ us hl=>bz2 (us:=us) hl λ_ _=>rfl
 have d_ar:=Kz l.prog w base G.T Ku 33 "worth_by_turns" rfl rfl (λF=>Kar T d_ap F) λ_ _ _ _ _ _ us hl=>bz4 (us:=us) hl λ_ _ _ _=>rfl
 have d_aq:=Kz l.prog w base G.T Ku 32 "worth_by_order" rfl rfl (λF=>Kaq T d_ap F) λ_ _ _ _ _ _ us hl=>bz4 (us:=us) hl λ_ _ _ _=>rfl
 have d_as:=Kz l.prog w base G.T Ku 34 "worth_by_aim" rfl rfl (λF=>Kas T d_ap d_ar d_aq d_ah F) λ_ _ _ _ _ _ us hl=>bz5 (us:=us) hl λ_ _ _ _ _=>rfl
 have d_ai:=Kz l.prog w base G.T Ku 19 "longest" rfl rfl (λF=>Kai T d_ag F) λ_ _ _ _ _ _ us hl=>bz1 (us:=us) hl λ_=>rfl
 have d_an:=Kz l.prog w base G.T Ku 28 "is_turns" rfl rfl (λF=>Kan T d_ab F) λ_ _ _ _ _ _ us hl=>bz2 (us:=us) hl λ_ _=>rfl
 have d_am:=Kz l.prog w base G.T Ku 27 "is_old" rfl rfl (λF=>Kam T d_ab F) λ_ _ _ _ _ _ us hl=>bz3 (us:=us) hl λ_ _ _=>rfl
 have d_ak:=Kz l.prog w base G.T Ku 24 "is_order" rfl rfl (λF=>Kak T  F) λ_ _ _ _ _ _ us hl=>bz1 (us:=us) hl λ_=>rfl
 have d_al:=Kz l.prog w base G.T Ku 25 "look_at_order" rfl rfl (λF=>Kal T d_ak F) λ_ _ _ _ _ _ us hl=>bz1 (us:=us) hl λ_=>rfl
 have d_ao:=Kz l.prog w base G.T Ku 29 "look_at_aim" rfl rfl (λF=>Kao T d_an d_am d_al d_ag F) λ_ _ _ _ _ _ us hl=>bz2 (us:=us) hl λ_ _=>rfl
 have d_at:=Kz l.prog w base G.T Ku 35 "worth_of" rfl rfl (λF=>Kat T d_as d_ai d_ao F) λ_ _ _ _ _ _ us hl=>bz3 (us:=us) hl λ_ _ _=>rfl
 have d_az:=Kz l.prog w base G.T Ku 42 "gain_of" rfl rfl (λF=>Kaz T d_ay d_at d_ao F) λ_ _ _ _ _ _ us hl=>bz4 (us:=us) hl λ_ _ _ _=>rfl
 have d_bp:=Kz l.prog w base G.T Ku 60 "_law_gains" rfl rfl (λF=>Kbp T d_bd d_az F) λ_ _ _ _ _ _ us hl=>bz4 (us:=us) hl λ_ _ _ _=>rfl
 have d_bh:=Kz l.prog w base G.T Ku 52 "_law_rank" rfl rfl (λF=>Kbh T  F) λ_ _ _ _ _ _ us hl=>bz3 (us:=us) hl λ_ _ _=>rfl
 have d_bi:=Kz l.prog w base G.T Ku 53 "_law_longest" rfl rfl (λF=>Kbi T  F) λ_ _ _ _ _ _ us hl=>bz1 (us:=us) hl λ_=>rfl
 have d_bm:=Kz l.prog w base G.T Ku 57 "_law_worth" rfl rfl (λF=>Kbm T d_bh d_bi F) λ_ _ _ _ _ _ us hl=>bz4 (us:=us) hl λ_ _ _ _=>rfl
 have d_bn:=Kz l.prog w base G.T Ku 58 "_law_whole" rfl rfl (λF=>Kbn T d_bm F) λ_ _ _ _ _ _ us hl=>bz3 (us:=us) hl λ_ _ _=>rfl
 have d_bj:=Kz l.prog w base G.T Ku 54 "_law_wished" rfl rfl (λF=>Kbj T  F) λ_ _ _ _ _ _ us hl=>bz2 (us:=us) hl λ_ _=>rfl
 have d_bf:=Kz l.prog w base G.T Ku 50 "_law_numbers" rfl rfl (λF=>Kbf T  F) λ_ _ _ _ _ _ us hl=>bz3 (us:=us) hl λ_ _ _=>rfl
 have d_bl:=Kz l.prog w base G.T Ku 56 "_law_dealt" rfl rfl (λF=>Kbl T d_bj d_bf F) λ_ _ _ _ _ _ us hl=>bz3 (us:=us) hl λ_ _ _=>rfl
 have d_bo:=Kz l.prog w base G.T Ku 59 "_law_all" rfl rfl (λF=>Kbo T d_bj F) λ_ _ _ _ _ _ us hl=>bz1 (us:=us) hl λ_=>rfl
 have d_bk:=Kz l.prog w base G.T Ku 55 "_law_aim" rfl rfl (λF=>Kbk T d_bf F) λ_ _ _ _ _ _ us hl=>bz3 (us:=us) hl λ_ _ _=>rfl
 have d_bg:=Kz l.prog w base G.T Ku 51 "_law_wishes" rfl rfl (λF=>Kbg T d_bf d_be F) λ_ _ _ _ _ _ us hl=>bz5 (us:=us) hl λ_ _ _ _ _=>rfl
 exact λ{_ _} F=>Kbq T d_be d_bp d_bn d_bl d_bo d_bk d_bg F
abbrev d_bq:DefRec:=⟨"law", VS Sbq,Wz Sbq,Zr Sbq,MW Sbq⟩
theorem walk{YP:World->Heap->Prop}{XP:(Str->Option Ud)->Heap->Prop}(hlaw:∀ns:List Int,ns.length<=63->XS [.list (ns.map int)]=some (.bool true)):PySem.W.WalkO q0 [] XP YP (PySem.Challenge.rw_wishdeal_k31_whole_best_where_no_way_gai).row.toRowW d_bq [] (λf vs=>PySem.call f vs):=
 Dx (n:=63) (k:=12) (x:= "_law_script") rfl (by decide) rfl ⟨rfl,by decide,by decide,rfl⟩ (λ_ _ _ _ _ _ G hm=>Gd G hm) hlaw
theorem V5{f:M D}{ρ ρ1:UE}{d:D}{t:Bool}(h:f ρ=.ok d ρ1)(ht:(!isNon d)=t):UN (λd=>!isNon d) f ρ=.ok t ρ1:=by subst ht;exact Kl (k:=λd=>!isNon d) h
theorem Mg{sizes found:List Int}{z d:Int}(h:∀(j:Nat) d z,found[j]?=some d->sizes[j]?=some z->0<=d/\d<z)(hz:sizes[found.length]?=some z)(h0:0<=d/\d<z) :
  ∀(j:Nat) d' z',(found++[d])[j]?=some d'->sizes[j]?=some z'->0<=d'/\d'<z':=by
 intro j d' z' e1 e2;by_cases hj:j<found.length
 ·rw[Qm hj]at e1;exact h j d' z' e1 e2
 ·by_cases hj2:j=found.length
  ·subst hj2;rw[hz]at e2;cases e2;rw[Qr (Qp _),Nat.sub_self,List.getElem?_cons_zero]at e1;cases e1;exact h0
  ·rw[Q5 (by rw[Qj,QU];omega)]at e1;cases e1
abbrev pb(d:D):Option Sl:=some (.pub d)
def inv(c s:Int)(sizes:List Int)(n:Int)(i:Nat)(ρ:UE):Prop:=∃left found x6 x7,ρ=[some (Sl.pub (.int c)),pb (.int s),pb (.list (sizes.map .int)),pb (.int n),pb (.int left),some (.own ((found:List Int).map .int)),x6,x7] /\
 found.length=i/\∀(j:Nat) d z,found[j]?=some d->sizes[j]?=some z->0<=d/\d<z
theorem D6{c s n:Int}{sizes:List Int}(hs:∀x∈sizes,0<x/\x<18446744073709551616)(hl:sizes.length<=1000){i:Nat}{d:D}{ρ:UE}{Q:Out->Prop}(hi:(Zv 0 sizes.length)[i]?=some d)(h:inv c s sizes n i ρ) :
  ∃ρ2,gN 6 d ρ=some ρ2/\Ho Rt ρ2 (Xl (inv c s sizes n (i+1)) Q):=by
 obtain⟨left,found,x6,x7,rfl,hf,hfd⟩:=h;obtain⟨rfl,hlt⟩:=Wv hi;obtain⟨z,hz⟩:∃z,sizes[i]?=some z:=⟨sizes[i]'(by omega),Qd _⟩
 obtain⟨z1,z2⟩:=hs z (Qn hz);have hix:oIx (.list (sizes.map int)) (.int (0+(i:Int)))=some (.int z):=by rw[J7];exact KQ (by rw[Qf,hz];rfl)
 generalize hk:(0:Int)+(i:Int)=k at hix⊢;have hk1:k<18446744073709551616:=by omega
 have hk2 : -18446744073709551616<k:=by omega
 have hlen:(found.map int).length<1000000:=by rw[Qb];omega
 have pw:Y1 (.int 10) (.int 18)=some (.int 1000000000000000000):=by rw[FX (by decide)];rfl
 refine⟨_,UR (Qa rfl) rfl,?_⟩;unfold Rt;apply Kh
 case h1=>exact Pz (Zq rfl (UT UM UM pw) rfl) λ_=>Zq rfl UM rfl
 case h2=>intro _;refine U2 (YU rfl (UT (UF rfl) (Ks rfl (UF rfl) hix) (Wp (by omega))) rfl hlen rfl) ?_;refine Ze (Ke (UT (UF rfl) (Ks rfl (UF rfl) hix) (Ou (by omega) (by omega))) (Qa rfl) rfl) (K3 ?_);exact⟨_,found++[left % z],_,_,by rw[QF];rfl,by rw[Qj,hf];rfl,Mg hfd (by rw[hf];exact hz) ⟨Int.emod_nonneg _ (by omega),Int.emod_lt_of_pos _ z1⟩⟩
 case h3=>intro _;refine U2 (Ke (UT (UT (UT (UT (UF rfl) (UT UM (UF rfl) (TF (by decide) (by decide))) KM) (UT (UT UM (UF rfl) (TF (by decide) (by decide))) (UF rfl) (Xg hk2 hk1)) KM) (UF rfl) KM) UM (Wp (by decide))) (Qa rfl) rfl) ?_;refine U2 (Ke (UT (UT (UF rfl) UM (Xg (by decide) (by decide))) UM (Wp (by decide))) (Qa rfl) rfl) ?_;refine U2 (Ke (UT (UT (UT (UT (UF rfl) (UF rfl) (Xg (by omega) (by omega))) UM (Wp (by decide))) UM (Xg (by decide) (by decide))) UM (Wp (by decide))) (Qa rfl) rfl) ?_;refine Ze (YU rfl (UT (UT (UF rfl) UM (Ou (by decide) (by decide))) (Ks rfl (UF rfl) hix) (Wp (by omega))) rfl hlen rfl) (K3 ?_);exact⟨_,found++[_ % z],_,_,by rw[QF];rfl,by rw[Qj,hf];rfl,Mg hfd (by rw[hf];exact hz) ⟨Int.emod_nonneg _ (by omega),Int.emod_lt_of_pos _ z1⟩⟩
theorem SK(c s:Int){sizes:List Int}(hs:∀x∈sizes,0<x/\x<18446744073709551616)(hl:sizes.length<=1000) :
  ∃r,ZL [.int c,.int s,.list (sizes.map int)]=some r/\∃ds:List Int,r=.list (ds.map .int)/\ds.length=sizes.length/\∀(j:Nat) d z,ds[j]?=some d->sizes[j]?=some z->0<=d/\d<z:=by
 refine YT (ρ:=[pb (.int c),pb (.int s),pb (.list (sizes.map int)),none,none,none,none,none]) rfl ?_;unfold W2;refine U2 (Ke (Zi (UL (UF rfl) (UL (UT (Tk UM) (UF rfl) ZO) UQ)) FW) (Qa rfl) rfl) ?_;refine U2 (Ke (UF rfl) (Qa rfl) rfl) ?_;refine U2 (Zz (YW UQ (Qa rfl)) (Qa rfl) rfl) ?_;apply Kp;apply Zg (ds:=Zv 0 sizes.length) (inv c s sizes (if -1-c > c then -1-c else c))
 case h1=>exact Wr (UL (K4 rfl (by rw[Zc,Qb])) UQ) (Wx (by omega) (by omega))
 case h0=>exact⟨_,[],none,none,rfl,rfl,λj d z e=>by cases e⟩
 case hst=>exact λi d ρ e h=>D6 hs hl e h
 case hend=>rintro ρ ⟨left,found,x6,x7,rfl,hf,hfd⟩;rw[YM]at hf;exact Kk (Kc (ZG rfl rfl) ⟨_,rfl,found,rfl,by omega,hfd⟩)
theorem SF:∀{xs:List D},(∀x∈xs,PyData.canLay0 x=true)->Uu xs=true
 |[],_=>rfl
 |x::r,h=>by
  show(PyData.canLay0 x&&Uu r)=true
  rw[h x Qo,SF λy hy=>h y (Qu _ hy)];rfl
theorem RY{n:Nat}:∀{xs:List D},(∀x∈xs,Uv x<=n)->PyData.depthAll xs<=n
 |[],_=>by simp[PyData.depthAll]
 |x::r,h=>by have h1:=h x Qo;have h2:=RY (n:=n) λy hy=>h y (Qu _ hy);simp only[PyData.depthAll];omega
def KS(r:List Int):D:=.list (r.map int)
def Ko(rs:List (List Int)):D:=.list (rs.map KS)
def U7(cs:List Int)(ls:L3):D:=.tuple [.list (cs.map int),.list (ls.map Ko)]
structure WL(n:Nat)(rs:List (List Int)):Prop where
 few:rs.length<=5
 some:∀r∈rs,r≠[]
 there:∀r∈rs,∀t∈r,0<=t/\t<n
 once:rs.flatten.Nodup
structure Good(cs:List Int)(ls:L3):Prop where
 c1:1<=cs.length
 c6:cs.length<=6
 c7:∀c∈cs,0<=c/\c<8
 l1:1<=ls.length
 l7:ls.length<=7
 rk:∀rs∈ls,WL cs.length rs
theorem NH(r:List Int):(KS r).canLay0=true:=SF λx hx=>by obtain⟨y,_,rfl⟩:=Qs.mp hx;rfl
theorem Oe(i:Int):(int i).depth<=1:=by simp[Uv]
theorem Od{n:Nat}{xs:List D}(h:PyData.depthAll xs<=n):(Uq xs).depth<=n+1:=by simp only[Uv];omega
theorem NG(r:List Int):(KS r).depth<=2:=Od (RY λx hx=>by obtain⟨y,_,rfl⟩:=Qs.mp hx;exact Oe y)
theorem D5(i:Int):Yh [.int i]=some (.bool true):=by refine KW (ρ:=[pb (.int i)]) rfl ?_;unfold Vv;exact Kc (Xz (Kl (UF rfl)) (λ_=>FY (Kl (UF rfl)))) rfl
theorem SE{i m:Int}(h0:0<=i)(h1:i<m):KR [.int i,.int m]=some (.bool true):=by
 refine KW (ρ:=[pb (.int i),pb (.int m)]) rfl ?_;unfold XJ;have hb:(decide (0<=i)&&decide (i<m))=true:=by simp[h0,h1]
 refine Kc (Xz (t:=true) (u:=true) (Ka (UL (UF rfl) UQ) rfl (D5 i)) (λ_=>?_)) rfl;rw[←hb];exact Kl (Ss UM (UF rfl) rfl (λ_=>UF rfl) (λ_=>rfl))
theorem SD{α:Type}(l:List α):Zn [.list (l.map λ_=>.bool true)]=some (.bool true):=by
 have:(l.map λ_=>Ur true)=(l.map λ_=>true).map Ur:=by rw[QT];rfl
 rw[this,Oo]
 congr 2
 rw[J8];induction l with
 |nil=>rfl
 |cons x r ih=>simpa using ih
theorem BL{r:List Int}{n:Int}(hne:r≠[])(hl:r.length<=1000)(h:∀t∈r,0<=t/\t<n):Xa [KS r,.int n]=some (.bool true):=by
 refine KW (ρ:=[pb (KS r),pb (.int n)]) rfl ?_;unfold Vt;apply Kp;have hlen:U6 [KS r]=some (.int r.length):=by unfold KS;rw[Zc,Qb]
 have hp:0<r.length:=J0.mpr hne;apply Kh
 case h1=>exact Yk (ρ1:=[pb (KS r),pb (.int n)]) (Z3 (UF rfl) rfl) (UT (K4 rfl hlen) UM Wo)
 case h2=>
       intro hh;have:(r.length:Int)=0:=by simpa using hh
       omega
 case h3=>
  intro _;refine KB (Kk ?_)
  have hc:Kq (gN 2) (UK true) (UP 2 KR (UI (UD 2) (UI (UD 1) (UG)))) (r.map int) (U8 [pb (KS r),pb (.int n)]++Up 1 none) []=some (r.map λ_=>.bool true):=by
   rw[Xh (λ_=>true) (λ_=>.bool true) (λρ=>∃x,ρ=[pb (KS r),pb (.int n),x])]
   ·rw[List.filter_eq_self.mpr (λ_ _=>rfl),Ji,QT];rfl
   ·rintro d hm ρ ⟨x,rfl⟩;obtain⟨t,ht,rfl⟩:=Qs.mp hm;exact⟨_,UR (Qa rfl) rfl,rfl,λ_=>Ka (UL (UF rfl) (UL (UF rfl) UQ)) rfl (SE (h t ht).1 (h t ht).2),_,rfl⟩
   ·exact⟨none,rfl⟩
   ·rw[Qb,QN];omega
  exact Kc (Zi (UL (Kl (ZE (K7 (UF rfl) rfl) hc)) UQ) (SD r)) rfl
theorem NO{a b c x3:Option Sl}(ha:Xb a=a)(hb:Xb b=b)(hc:Xb c=c)(hx:Xb x3=x3):∀(ds es:List D)(x4:Option Sl),es.length+ds.length<=1000000 ->
  ∃y,Xr (gN 4) (UK true) (UD 4) ds [a,b,c,x3,x4] es=some (es++ds,[a,b,c,x3,y])
 |[],es,x4,_=>⟨x4,by rw[Xr,Jh]⟩
 |d::r,es,x4,h=>by
  rw[QB]at h;obtain⟨y,e⟩:=NO ha hb hc hx r (es++[d]) (some (.pub d)) (by rw[Qj,QU];omega);refine⟨y,?_⟩;rw[Xr];have h1:gN 4 d [a,b,c,x3,x4]=some [a,b,c,x3,pb d]:=UR (Qa rfl) rfl;rw[h1];dsimp only[UK];rw[Qq rfl];have h2:UD 4 [a,b,c,x3,pb d]=.ok d [a,b,c,x3,pb d]:=UF rfl;rw[h2];dsimp only;rw[Qq (by omega)];have h3:U8 [a,b,c,x3,pb d]=[a,b,c,x3,pb d]:=by unfold U8;simp only[Qv,List.map_nil,ha,hb,hc,hx];rfl
  rw[h3,e,Jm];rfl
theorem Mz{a b:D}:∀(rs:List (List Int))(es:List D)(x3 x4:Option Sl),es.length+rs.flatten.length<=1000000 ->
  YX (gN 3) (UK true) (KF (UD 3)) (gN 4) (UK true) (UD 4) (rs.map KS) [pb a,pb b,none,x3,x4] es=some (es++rs.flatten.map int)
 |[],es,_,_,_=>by rw[List.map_nil,YX];simp
 |r::rs,es,x3,x4,h=>by rw[QP,Qj]at h;rw[Qv,YX];have h1:gN 3 (KS r) [pb a,pb b,none,x3,x4]=some [pb a,pb b,none,pb (KS r),x4]:=UR (Qa rfl) rfl;rw[h1];dsimp only[UK];rw[Qq rfl];have h2:KF (UD 3) [pb a,pb b,none,pb (KS r),x4]=.ok (r.map int) [pb a,pb b,none,pb (KS r),x4]:=K7 (UF rfl) rfl;rw[h2];dsimp only;have h3:U8 [pb a,pb b,none,pb (KS r),x4]=[pb a,pb b,none,pb (KS r),Xb x4]:=rfl;rw[h3];obtain⟨y,e⟩:=NO (a:=some (.pub a)) (b:=some (.pub b)) (c:=none) (x3:=some (.pub (KS r))) rfl rfl rfl rfl (r.map int) es (Xb x4) (by rw[Qb];omega);rw[e];dsimp only;have ih:=Mz (a:=a) (b:=b) rs (es++r.map int) (some (.pub (KS r))) y (by rw[Qj,Qb];omega);refine Eq.trans ih ?_;rw[QP,QF,Jm]
theorem Pc{ns:List Int}(h:ns.Nodup):Zk ns=ns.length:=by
 unfold Zk
 have:∀i,i<=ns.length->(PyProof.Rows.firstMet (λi=>ns.getD i 0) i).length=i:=by
  intro i;induction i with
  |zero=>intro _;rfl
  |succ i ih=>
   intro hi;rw[PyProof.Rows.firstMet_succ]
   have hany:(PyProof.Rows.firstMet (λi=>ns.getD i 0) i).any (· == ns.getD i 0)=false:=by
    rw[PyProof.Rows.firstMet_any,List.any_eq_false];intro x hx;obtain⟨j,hj,rfl⟩:=Qs.mp hx;have hj:=QY.mp hj;intro e;have e:ns.getD j 0=ns.getD i 0:=by simpa using e
    have l1:j<ns.length:=by omega
    have l2:i<ns.length:=by omega
    simp only[List.getD,Qd l1,Qd l2,JL]at e;exact absurd ((List.getElem_inj h).mp e) (by omega)
   unfold PyProof.Rows.step_dedup;rw[hany];rw[QG (by decide),Qj,ih (by omega)];rfl
 exact this ns.length (Qp _)
theorem Ap{rs:List (List Int)}{n:Nat}(g:WL n rs)(hn:n<=6)(hf:rs.flatten.length<=1000):Wf [Ko rs,.int n]=some (.bool true):=by
 refine KW (ρ:=[pb (Ko rs),pb (.int n),none]) rfl ?_;unfold Vs;have hlen:U6 [Ko rs]=some (.int rs.length):=by unfold Ko;rw[Zc,Qb]
 have h5:=g.few;have hrl:∀r∈rs,r.length<=1000:=λr hr=>QQ (List.Sublist.length_le (List.sublist_flatten_of_mem hr)) hf;apply Kp;apply Kh
 case h1=>exact Yk (ρ1:=[pb (Ko rs),pb (.int n),none]) (Z3 (UF rfl) rfl) (UT (K4 rfl hlen) UM rfl)
 case h2=>
       intro hh;have:(5:Int)<(rs.length:Int):=by simpa using hh
       omega
 case h3=>
  intro _;refine KB (Kk ?_)
  have hc:Kq (gN 3) (UK true) (UP 2 Xa (UI (UD 3) (UI (UD 1) (UG)))) (rs.map KS) (U8 [pb (Ko rs),pb (.int n),none]++Up 1 none) []=some (rs.map λ_=>.bool true):=by
   rw[Xh (λ_=>true) (λ_=>.bool true) (λρ=>∃x,ρ=[pb (Ko rs),pb (.int n),none,x])]
   ·rw[List.filter_eq_self.mpr (λ_ _=>rfl),Ji,QT];rfl
   ·rintro d hm ρ ⟨x,rfl⟩;obtain⟨r,hr,rfl⟩:=Qs.mp hm;exact⟨_,UR (Qa rfl) rfl,rfl,λ_=>Ka (UL (UF rfl) (UL (UF rfl) UQ)) rfl (BL (g.some r hr) (hrl r hr) (g.there r hr)),_,rfl⟩
   ·exact⟨none,rfl⟩
   ·rw[Qb,QN];omega
  apply Kp;apply Kh
  case h1=>exact Yl (YK (Zi (UL (Kl (ZE (K7 (UF rfl) rfl) hc)) UQ) (SD rs)))
  case h2=>intro hh;cases hh
  case h3=>
   intro _;refine KB (Kk ?_);have h2:Tq (KF (UD 0)) 2 (gN 3) (UK true) (KF (UD 3)) (gN 4) (UK true) (UD 4) [pb (Ko rs),pb (.int n),none]=.ok (rs.flatten.map int) [pb (Ko rs),pb (.int n),none]:=by unfold Tq;have e1:KF (UD 0) [pb (Ko rs),pb (.int n),none]=.ok (rs.map KS) [pb (Ko rs),pb (.int n),none]:=K7 (UF rfl) rfl;rw[e1];dsimp only;have e2:=Mz (a:=Ko rs) (b:=.int n) rs [] none none (by rw[QN];omega);have e3:YX (gN 3) (UK true) (KF (UD 3)) (gN 4) (UK true) (UD 4) (rs.map KS) (U8 [pb (Ko rs),pb (.int n),none]++Up 2 none) []=some ([]++rs.flatten.map int):=e2;rw[e3];rfl
   refine U2 (Zz h2 (Qa rfl) rfl) ?_;have hls:Xx [.list (rs.flatten.map int)]=some (.int rs.flatten.length):=by unfold Xx;dsimp only;rw[VY];dsimp only;rw[Qq (by omega),Pc g.once]
   refine Kc (Kl (UT (Zi (UL (ZG rfl rfl) UQ) hls) (K4 rfl Zc) Wo)) ?_;rw[Qb];simp
theorem Xf{d:D}:∀{xs:List D}{k i:Nat},(Zx k xs)[i]?=some d->∃x,xs[i]?=some x/\d=.tuple [.int ((k+i:Nat):Int),x]
 |[],k,i,h=>by cases h
 |x::r,k,0,h=>by cases h;exact⟨x,rfl,rfl⟩
 |x::r,k,i+1,h=>by obtain⟨y,e,q⟩:=Xf (xs:=r) (k:=k+1) (i:=i) h;exact⟨y,e,by rw[q];congr 4;omega⟩
theorem VO:∀(n:Nat)(l:List Int),l.Nodup->(∀x∈l,0<=x/\x<n)->l.length<=n
 |0,[],_,_=>Qp _
 |0,x::r,_,h=>by have:=h x Qo;omega
 |n+1,l,hn,h=>by
  by_cases hm:(n:Int)∈l
  ·have:=VO n (l.erase (n:Int)) (hn.erase _) λx hx=>by
    have h1:=(List.Nodup.mem_erase_iff hn).mp hx;have h2:=h x h1.2;have h3:=h1.1;omega
   rw[List.length_erase_of_mem hm]at this;omega
  ·have:=VO n l hn λx hx=>by
    have h2:=h x hx;have h3:x≠(n:Int):=λe=>hm (e ▸ hx);omega
   omega
theorem RM{n:Nat}{rs:List (List Int)}(g:WL n rs):rs.flatten.length<=n:=VO n _ g.once λx hx=>by obtain⟨r,hr,hxr⟩:=JM.mp hx;exact g.there r hr x hxr
theorem D4{cs:List Int}(h1:1<=cs.length)(h6:cs.length<=6)(h:∀c∈cs,0<=c/\c<8):Wg [.list (cs.map int)]=some .none:=by
 refine Th (ρ:=[pb (.list (cs.map int)),none,none]) rfl ?_;unfold Vu;have hlen:U6 [.list (cs.map int)]=some (.int cs.length):=by rw[Zc,Qb]
 apply Kp;apply Kh
 case h1=>exact Yk (ρ1:=[pb (.list (cs.map int)),none,none]) (Z3 (UF rfl) rfl) (Yl (Ss UM (K4 rfl hlen) rfl (λ_=>UM) (λ_=>rfl)))
 case h2=>
  intro hh;have a1:(1:Int)<=(cs.length:Int):=by omega
  have a2:(cs.length:Int)<=6:=by omega
  simp[a1,a2]at hh
 case h3=>
  intro _;refine KB (Kk ?_);apply Zg (λ_ ρ=>∃x1 x2,ρ=[pb (.list (cs.map int)),x1,x2])
  case h1=>exact Wq (UL (UF rfl) UQ) Ww
  case h0=>exact⟨_,_,rfl⟩
  case hst=>
   rintro i d ρ hi ⟨x1,x2,rfl⟩;obtain⟨x,hx,rfl⟩:=Xf hi;obtain⟨c,hc,rfl⟩:=Qs.mp (Qn hx);refine⟨_,KD rfl (U3 (UR (Qa rfl) rfl) (U3 (UR (Qa rfl) rfl) KE)),?_⟩;unfold OE;apply Kh
   case h1=>exact Yl (YK (Ka (UL (UF rfl) (UL (UT UM UM KM) UQ)) rfl (SE (h c hc).1 (by have:=(h c hc).2;omega))))
   case h2=>intro hh;cases hh
   case h3=>exact λ_=>KB (K3 ⟨_,_,rfl⟩)
  case hend=>exact λρ ⟨x1,x2,e⟩=>⟨_,rfl⟩
theorem Dr{ls:L3}{n:Nat}(hn:n<=6)(h1:1<=ls.length)(h7:ls.length<=7)(h:∀rs∈ls,WL n rs):We [.list (ls.map Ko),.int n]=some .none:=by
 refine Th (ρ:=[pb (.list (ls.map Ko)),pb (.int n),none,none]) rfl ?_;unfold Vr;have hlen:U6 [.list (ls.map Ko)]=some (.int ls.length):=by rw[Zc,Qb]
 apply Kp;apply Kh
 case h1=>exact Yk (ρ1:=[pb (.list (ls.map Ko)),pb (.int n),none,none]) (Z3 (UF rfl) rfl) (Yl (Ss UM (K4 rfl hlen) rfl (λ_=>UM) (λ_=>rfl)))
 case h2=>
  intro hh;have a1:(1:Int)<=(ls.length:Int):=by omega
  have a2:(ls.length:Int)<=7:=by omega
  simp[a1,a2]at hh
 case h3=>
  intro _;refine KB (Kk ?_);apply Zg (λ_ ρ=>∃x2 x3,ρ=[pb (.list (ls.map Ko)),pb (.int n),x2,x3])
  case h1=>exact Wq (UL (UF rfl) UQ) Ww
  case h0=>exact⟨_,_,rfl⟩
  case hst=>
   rintro i d ρ hi ⟨x1,x2,rfl⟩;obtain⟨x,hx,rfl⟩:=Xf hi;obtain⟨rs,hrs,rfl⟩:=Qs.mp (Qn hx);refine⟨_,KD rfl (U3 (UR (Qa rfl) rfl) (U3 (UR (Qa rfl) rfl) KE)),?_⟩;unfold OF;have hfl:=RM (h rs hrs);apply Kh
   case h1=>exact Yl (YK (Ka (UL (UF rfl) (UL (UF rfl) UQ)) rfl (Ap (h rs hrs) hn (by omega))))
   case h2=>intro hh;cases hh
   case h3=>exact λ_=>KB (K3 ⟨_,_,rfl⟩)
  case hend=>exact λρ ⟨x1,x2,e⟩=>⟨_,rfl⟩
theorem SB{cs:List Int}{ls:L3}(g:Good cs ls):ZC [U7 cs ls]=some .none:=by
 refine Th (ρ:=[pb (U7 cs ls),none,none]) rfl ?_;unfold Vq;apply Kp;apply Kh
 case h1=>exact Yk (ρ1:=[pb (U7 cs ls),none,none]) (Z3 (UF rfl) rfl) (UT (K4 rfl rfl) UM Xj)
 case h2=>intro hh;cases hh
 case h3=>
  intro _;refine KB (Kk ?_);have hlen:U6 [.list (cs.map int)]=some (.int (cs.length:Nat)):=by rw[Zc,Qb]
  refine U2 (VH (UF rfl) (KD rfl (U3 (UR (Qa rfl) rfl) (U3 (UR (Qa rfl) rfl) KE)))) ?_;refine U2 (Xy (Ka (UL (UF rfl) UQ) rfl (D4 g.c1 g.c6 g.c7))) ?_;exact Ze (Xy (Ka (UL (UF rfl) (UL (K4 rfl hlen) UQ)) rfl (Dr g.c6 g.l1 g.l7 g.rk))) ⟨_,rfl⟩
theorem NF:∀(xs ys:List Int),PyData.eqvAll (xs.map int) (ys.map int)=decide (xs=ys)
 |[],[]=>rfl
 |[],y::ys=>by simp[PyData.eqvAll]
 |x::xs,[]=>by simp[PyData.eqvAll]
 |x::xs,y::ys=>by
  have ih:=NF xs ys
  show(Uw (.int x) (.int y)&&PyData.eqvAll (xs.map int) (ys.map int))=_
  rw[ih];have:Uw (.int x) (.int y)=decide (x=y):=rfl;rw[this,Bool.eq_iff_iff];simp
theorem D3{xs:List Int}:oNe (.list (xs.map int)) (.list [])=some (!decide (xs=[])):=by
 unfold oNe;have h1:(Uq (xs.map int)).canLay0=true:=NH xs;have h3:(Uq (xs.map int)).depth<=60:=by have:=NG xs;unfold KS at this;omega
 rw[Qq ⟨h1,rfl,h3⟩]
 congr 2
 exact NF xs []
theorem Rp{xs:List D}{x:D}(h:xs.getLast?=some x):oIx (.list xs) (.int (-1))=some x:=by
 unfold oIx atI;have hl:xs≠[]:=by rintro rfl;cases h
 have hp:0<xs.length:=J0.mpr hl;rw[Jq]at h
 show(ixN xs.length (-1)).bind _=_
 unfold ixN;rw[QG (by decide),Qq (by omega)];have e2:(-1+(xs.length:Int)).toNat=xs.length-1:=by omega
 simp only[Option.bind_some];rw[e2];exact h
theorem Sj{xs:List Int}{k:Nat}(h:k<xs.length):oIx (.list (xs.map int)) (.int k)=some (.int (xs.getD k 0)):=by refine KQ ?_;rw[Qf,Qd h];simp[List.getD,List.getElem?_eq_getElem h]
theorem SJ(ns:List Int)(k:Nat)(hl:ns.length<=1000):∃v,ZZ [.list (ns.map int),.int k]=some (.int v):=by
 have hlen:U6 [.list (ns.map int)]=some (.int ns.length):=by rw[Zc,Qb]
 by_cases h:k<ns.length
 ·refine⟨ns.getD k 0,KW (ρ:=[pb (.list (ns.map int)),pb (.int k)]) rfl ?_⟩;unfold XI;apply Kp;apply Kh
  case h1=>exact Zq rfl (K4 rfl hlen) rfl
  case h2=>exact λ_=>Kc (Ks rfl (UF rfl) (Sj h)) (ZQ rfl)
  case h3=>
        intro hh;have:¬(k:Int)<(ns.length:Int):=by simpa using hh
        omega
 ·refine⟨0,KW (ρ:=[pb (.list (ns.map int)),pb (.int k)]) rfl ?_⟩;unfold XI;apply Kp;apply Kh
  case h1=>exact Zq rfl (K4 rfl hlen) rfl
  case h2=>
        intro hh;have:(k:Int)<(ns.length:Int):=by simpa using hh
        omega
  case h3=>exact λ_=>KB (Kk (Kc UM rfl))
def tab:List Int:=[1,1,2,0,3,7,1,4,5,6,1]
theorem Pv{z:Int}(h0:0<=z)(h1:z<11):oIx (.list (tab.map int)) (.int z)=some (.int (tab.getD z.toNat 0))/\0<=tab.getD z.toNat 0/\tab.getD z.toNat 0<8:=by
 have e:z=0∨z=1∨z=2∨z=3∨z=4∨z=5∨z=6∨z=7∨z=8∨z=9∨z=10:=by omega
 rcases e with rfl|rfl|rfl|rfl|rfl|rfl|rfl|rfl|rfl|rfl|rfl<;>exact⟨rfl,by decide,by decide⟩
structure WF(n:Nat)(pl:List Int)(j:Nat)(rs:List (List Int)):Prop where
 few:rs.length<=j
 some:∀r∈rs,r≠[]
 there:∀r∈rs,∀t∈r,(0<=t/\t<n)/\pl.getD t.toNat 0<1+(j:Int)
 once:rs.flatten.Nodup
def Wh(n:Nat)(pl:List Int)(r:Int):List Int:=((Uo n).filter λk=>decide (pl.getD k 0=r)).map λk:Nat=>(k:Int)
theorem Ao(n:Nat)(pl:List Int)(r:Int):(Wh n pl r).Nodup:=by unfold Wh;refine List.Pairwise.map _ (λa b h e=>h (by omega)) ((List.nodup_range).filter _)
theorem NN{n:Nat}{pl:List Int}{r t:Int}(h:t∈Wh n pl r):(0<=t/\t<n)/\pl.getD t.toNat 0=r:=by
 unfold Wh at h;obtain⟨k,hk,rfl⟩:=Qs.mp h;have hk:=Q9.mp hk;have h1:=QY.mp hk.1;have h2:pl.getD k 0=r:=by simpa using hk.2
 exact⟨⟨by omega,by omega⟩,by rw[QX];exact h2⟩
theorem WF.add{n:Nat}{pl:List Int}{j:Nat}{rs:List (List Int)}{row:List Int}(g:WF n pl j rs)(hne:row≠[])(hm:∀t∈row,t∈Wh n pl (1+(j:Int)))(hn:row.Nodup):WF n pl (j+1) (rs++[row]) where
 few:=by rw[Qj,QU];have:=g.few;omega
 some:=λr hr=>by
  rcases QL.mp hr with z|z
  ·exact g.some r z
  ·rw[Qy.mp z];exact hne
 there:=λr hr t ht=>by
  rcases QL.mp hr with z|z
  ·have:=g.there r z t ht;exact⟨this.1,by omega⟩
  ·rw[Qy.mp z]at ht;have:=NN (hm t ht);exact⟨this.1,by omega⟩
 once:=by rw[JG,List.flatten_singleton];refine JV.mpr ⟨g.once,hn,λa ha b hb e=>?_⟩;subst e;obtain⟨r,hr,har⟩:=JM.mp ha;have h1:=(g.there r hr a har).2;have h2:=(NN (hm a hb)).2;omega
theorem WF.next{n:Nat}{pl:List Int}{j:Nat}{rs:List (List Int)}(g:WF n pl j rs):WF n pl (j+1) rs:=
 ⟨by have:=g.few;omega,g.some,λr hr t ht=>⟨(g.there r hr t ht).1,by have:=(g.there r hr t ht).2;omega⟩,g.once⟩
theorem Oc{x:D}{m:Nat}(h:m<=1000):U9 (.list [x]) (.int m)=some (.list (Up m x)):=by
 rw[R8 ⟨by omega,by omega,by rw[QX];show 1*m<=_;omega⟩,QX]
 congr 2
 induction m with
 |zero=>rfl
 |succ m ih=>rw[Q4,QP,ih (by omega)];rfl
def szG(T A:Nat):List Int:=(T:Int)::(A:Int)::Up T 11
def ZH(T R:Nat):List Int:=Up T ((R:Int)+1)++[2]
theorem Ob{T A:Nat}:(szG T A).length=T+2:=by unfold szG;simp
theorem NE{T R:Nat}:(ZH T R).length=T+1:=by unfold ZH;simp
theorem Gc{T A:Nat}(h1:1<=T)(h2:T<=6)(h3:1<=A)(h4:A<=7):∀x∈szG T A,0<x/\x<18446744073709551616:=λx hx=>by unfold szG at hx;simp only[QR,JQ]at hx;rcases hx with rfl|rfl|⟨_,rfl⟩<;>omega
theorem GH{T R:Nat}(h:R<=5):∀x∈ZH T R,0<x/\x<18446744073709551616:=λx hx=>by unfold ZH at hx;simp only[QL,Qy,JQ]at hx;rcases hx with ⟨_,rfl⟩|rfl<;>omega
theorem D2{T R:Nat}:(ZH T R)[T]?=some 2:=by unfold ZH;simp
theorem Ga{T A k:Nat}(h:k<T):(szG T A)[2+k]?=some 11:=by unfold szG;rw[show 2+k=k+1+1 by omega,JK,JK,Qw,Qq h]
def SO(T A R:Nat)(S dz:D)(at_ n:Nat)(cs pl:List Int)(ls:L3)(x9 x10:Option Sl)(j:Nat)(ρ:UE):Prop:=∃(rs:List (List Int))(x13 x14:Option Sl),
 ρ=[pb S,pb (.int at_),pb (.int (T:Nat)),pb (.int (A:Nat)),pb (.int (R:Nat)),pb dz,some (.own (cs.map int)),some (.own (ls.map Ko)),x9,x10,pb (.list (pl.map int)),some (.own (rs.map KS)),x13,x14]/\WF n pl j rs
theorem BK{T A R:Nat}{S dz:D}{at_ n:Nat}{cs pl:List Int}{ls:L3}{v9 v10:D}{j:Nat}{d:D}{ρ:UE}{Q:Out->Prop}(hcs:cs.length=n)(hT:T<=6)(hR:R<=5)(hn:n<=T)(hpl:pl.length=T+1)(hlast:pl.getD T 0=0∨pl.getD T 0=1)
  (hj:(Zv 1 ((R:Int)+1))[j]?=some d) (h:SO T A R S dz at_ n cs pl ls (some (.pub v9)) (some (.pub v10)) j ρ) :
  ∃ρ2,gN 12 d ρ=some ρ2/\Ho Rr ρ2 (Xl (SO T A R S dz at_ n cs pl ls (some (.pub v9)) (some (.pub v10)) (j+1)) Q):=by
 obtain⟨rs,x13,x14,rfl,g⟩:=h;obtain⟨rfl,hlt⟩:=Wv hj;have hj5:j<R:=by omega
 refine⟨_,UR (Qa rfl) rfl,?_⟩;unfold Rr
 have hrd:Zv 0 ((n:Nat):Int)=(Uo n).map λk=>.int (k:Int):=by
  unfold Zv;have:((n:Int)-0).toNat=n:=by omega
  rw[this];apply JH;intro k _;rw[J7]
 have hc:Kq (gN 14) (UH oEq (US 10 (UD 14)) (UD 12)) (UD 14) (Zv 0 ((n:Nat):Int)) (U8 [pb S,pb (.int at_),pb (.int (T:Nat)),pb (.int (A:Nat)),pb (.int (R:Nat)),pb dz,some (.own (cs.map int)),some (.own (ls.map Ko)),pb v9,pb v10,pb (.list (pl.map int)),some (.own (rs.map KS)),pb (.int (1+(j:Int))),x14]++Up 1 none) []=some ((Wh n pl (1+(j:Int))).map int):=by
  rw[hrd,Xh (λd=>match d with | .int k=>decide (pl.getD k.toNat 0=1+(j:Int))|_=>false) (λd=>d) (λρ=>∃x,ρ=[pb S,pb (.int at_),pb (.int (T:Nat)),pb (.int (A:Nat)),pb (.int (R:Nat)),pb dz,none,none,pb v9,pb v10,pb (.list (pl.map int)),none,pb (.int (1+(j:Int))),Xb x14,x])]
  ·rw[Ji,J9,JD];unfold Wh;rw[QT];rfl
  ·rintro d hm ρ ⟨x,rfl⟩;obtain⟨k,hk,rfl⟩:=Qs.mp hm;have hk:=QY.mp hk;refine⟨_,UR (Qa rfl) rfl,UT (Ks rfl (UF rfl) (Sj (by omega))) (UF rfl) Wo,λ_=>UF rfl,pb (.int k),?_⟩;unfold U8;cases x14 with
   |none=>rfl
   |some sl=>cases sl<;>rfl
  ·exact⟨none,rfl⟩
  ·rw[Qb,QS,QN];omega
 have hlen:(cs.map int).length=n:=by rw[Qb,hcs]
 refine U2 (Zz (ZE (Wr (UL (FZ rfl) UQ) (by rw[hlen];exact Wx (by omega) (by omega))) hc) (Qa rfl) rfl) ?_;generalize hrow:Wh n pl (1+(j:Int))=row;apply Kh
 case h1=>exact EY rfl (Zt UQ (by decide)) rfl D3
 case h2=>
  intro hh;have hne:row≠[]:=by simpa using hh
  have hlx:oIx (.list (pl.map int)) (.int (-1))=some (.int (pl.getD T 0)):=Rp (by rw[Jq,Qb,hpl,Qf,Nat.add_sub_cancel,Qd (show T<pl.length by omega)];simp[List.getD,List.getElem?_eq_getElem (show T<pl.length by omega)])
  obtain⟨row',hix,hrow'⟩:∃row':List Int,oIx (.list [.list (row.map int),.list (row.map int).reverse]) (.int (pl.getD T 0))=some (KS row')/\(row'=row∨row'=row.reverse):=by
   rcases hlast with e|e
   ·rw[e];exact⟨row,rfl,.inl rfl⟩
   ·rw[e];exact⟨row.reverse,by show some (Uq (row.map int).reverse)=_;unfold KS;rw[List.map_reverse],.inr rfl⟩
  have hrl:(rs.map KS).length<1000000:=by rw[Qb];have:=g.few;omega
  refine Ze (YU rfl (UT (Zt (UL (ZG rfl rfl) (UL (HH (UF rfl) UM UM (XA (Tk UM))) UQ)) (Qa rfl)) (Ks rfl (Tk UM) hlx) hix) rfl hrl rfl) ?_;refine K3 ⟨rs++[row'],pb (.int (1+(j:Int))),pb (.list (row.map int)),by rw[QF];rfl,g.add ?_ ?_ ?_⟩
  ·rcases hrow' with e|e<;>rw[e]
   ·exact hne
   ·exact λz=>hne (List.reverse_eq_nil_iff.mp z)
  ·intro t ht;rw[hrow];rcases hrow' with e|e<;>rw[e]at ht
   ·exact ht
   ·exact List.mem_reverse.mp ht
  ·have hnd:=Ao n pl (1+(j:Int));rw[hrow]at hnd;rcases hrow' with e|e<;>rw[e]
   ·exact hnd
   ·exact(List.reverse_perm row).nodup_iff.mpr hnd
 case h3=>exact λ_=>KB (K3 ⟨rs,_,_,rfl,g.next⟩)
def SN(T A R:Nat)(S dz:D)(at_ n:Nat)(cs:List Int)(i:Nat)(ρ:UE):Prop:=∃(ls:L3)(x9 x10 x11 x12 x13 x14:Option Sl),
 ρ=[pb S,pb (.int at_),pb (.int (T:Nat)),pb (.int (A:Nat)),pb (.int (R:Nat)),pb dz,some (.own (cs.map int)),some (.own (ls.map Ko)),x9,x10,x11,x12,x13,x14]/\ls.length=i/\∀rs∈ls,WL n rs/\rs.length<=R
theorem An{T A R:Nat}{ns:List Int}{dz:D}{at_ n:Nat}{cs:List Int}{i:Nat}{m:Int}{d:D}{ρ:UE}{Q:Out->Prop}(hns:ns.length<=1000)(hT:T<=6)(hR:R<=5)(hcs:cs.length=n)(hn:n<=T)(hm:m<=100)
  (hi:(Zv 0 m)[i]?=some d) (h:SN T A R (.list (ns.map int)) dz at_ n cs i ρ) :
  ∃ρ2,gN 8 d ρ=some ρ2/\Ho Rq ρ2 (Xl (SN T A R (.list (ns.map int)) dz at_ n cs (i+1)) Q):=by
 obtain⟨ls,x9,x10,x11,x12,x13,x14,rfl,hl,hg⟩:=h;obtain⟨rfl,hlt⟩:=Wv hi;refine⟨_,UR (Qa rfl) rfl,?_⟩;unfold Rq;obtain⟨v,hv⟩:=SJ ns (at_+1+i) hns;have ev:((at_:Int)+1+(0+(i:Int)))=((at_+1+i:Nat):Int):=by omega
 rw[←ev]at hv;refine U2 (Ke (Ka (UL (UF rfl) (UL (UT (UT (UF rfl) UM KM) (UF rfl) KM) UQ)) rfl hv) (Qa rfl) rfl) ?_;obtain⟨r,hF,pl,rfl,hpl,hpb⟩:=SK v (11*(at_:Int)+3*(0+(i:Int))+1) (sizes:=ZH T R) (GH hR) (by rw[NE];omega);have hpl7:pl.length=T+1:=by rw[hpl,NE]
 have hmul:U9 (.list [.int ((R:Int)+1)]) (.int (T:Nat))=some (.list (Up T (.int ((R:Int)+1)))):=Oc (by omega);have hadd:UW (.list (Up T (.int ((R:Int)+1)))) (.list [.int 2])=some (.list ((ZH T R).map int)):=by rw[Xu (by rw[QE];show T+1<=_;omega)];unfold ZH;rw[QF,List.map_replicate];rfl
 refine U2 (Ke (Ka (UL (UF rfl) (UL (UT (UT (UT UM (UF rfl) (TF (by decide) (by decide))) (UT UM (UF rfl) (TF (by decide) (by decide))) KM) UM KM) (UL (UT (UT (Zt (UL (UT (UF rfl) UM KM) UQ) (Qa rfl)) (UF rfl) hmul) (Zt (UL UM UQ) (Qa rfl)) hadd) UQ))) rfl hF) (Qa rfl) rfl) ?_;refine U2 (Zz (YW UQ (Qa rfl)) (Qa rfl) rfl) ?_
 have hlast:pl.getD T 0=0∨pl.getD T 0=1:=by
  have e:pl[T]?=some pl[T]:=Qd (by omega);have:=hpb T pl[T] 2 e D2;have e2:pl.getD T 0=pl[T]:=by simp[List.getD,e]
  rw[e2];omega
 apply Kp;apply Zg (SO T A R (.list (ns.map int)) dz at_ n cs pl ls (some (.pub (.int (0+(i:Int))))) (some (.pub (.int v))))
 case h1=>exact Ov (UL UM (UL (UT (UF rfl) UM KM) UQ)) (Np (by omega) (by omega) (by decide) (by decide))
 case h0=>exact⟨[],x13,x14,rfl,⟨Qp _,λ_ h=>(by cases h),λ_ h=>(by cases h),Ua⟩⟩
 case hst=>exact λj d ρ e h=>BK hcs hT hR hn hpl7 hlast e h
 case hend=>
  rintro ρ ⟨rs,y13,y14,rfl,g⟩;refine Kk ?_;have hl5:(Zv 1 ((R:Int)+1)).length=R:=by rw[YM];omega
  rw[hl5]at g;have hll:(ls.map Ko).length<1000000:=by rw[Qb];omega
  refine Ze (YU rfl (ZG rfl rfl) rfl hll rfl) ?_;refine K3 ⟨ls++[rs],pb (.int (0+(i:Int))),pb (.int v),pb (.list (pl.map int)),pb (.list (rs.map KS)),y13,y14,by rw[QF];rfl,by rw[Qj,hl];rfl,λx hx=>?_⟩;rcases QL.mp hx with z|z
  ·exact hg x z
  ·rw[Qy.mp z];exact⟨⟨by have:=g.few;omega,g.some,λr hr t ht=>(g.there r hr t ht).1,g.once⟩,g.few⟩
theorem At(T A R:Nat){ns:List Int}(hns:ns.length<=1000)(at_:Nat)(hT1:1<=T:=by decide)(hT:T<=6:=by decide)(hA1:1<=A:=by decide)(hA:A<=7:=by decide)(hR:R<=5:=by decide):∃r,X1 [.list (ns.map int),.int at_,.int (T:Nat),.int (A:Nat),.int (R:Nat)]=some r/\∃cs ls,r=U7 cs ls/\Good cs ls/\cs.length<=T/\ls.length<=A/\∀rs∈ls,rs.length<=R:=by
 obtain⟨v,hv⟩:=SJ ns at_ hns;obtain⟨r,hF,ds,rfl,hl,hd⟩:=SK v at_ (sizes:=szG T A) (Gc hT1 hT hA1 hA) (by rw[Ob];omega);have hl8:ds.length=T+2:=by rw[hl,Ob]
 have at':∀(j:Nat)(k z:Int),k=j->(szG T A)[j]?=some z->∃d,oIx (.list (ds.map int)) (.int k)=some (.int d)/\ds[j]?=some d/\0<=d/\d<z:=λj k z hk hz=>by
  subst hk;have hj:j<ds.length:=by rw[hl];exact(Qg.mp hz).1
  have e:ds[j]?=some ds[j]:=Qd hj;obtain⟨p0,p1⟩:=hd j ds[j] z e hz;exact⟨ds[j],KQ (by rw[Qf,e];rfl),e,p0,p1⟩
 obtain⟨d0,x0,e0,p0,q0⟩:=at' 0 0 T rfl rfl;obtain⟨d1,x1,e1,p1,q1⟩:=at' 1 1 A rfl rfl;have hmul:U9 (.list [.int 11]) (.int (T:Nat))=some (.list (Up T (.int 11))):=Oc (by omega);have hadd:UW (.list [.int (T:Nat),.int (A:Nat)]) (.list (Up T (.int 11)))=some (.list ((szG T A).map int)):=by rw[Xu (by rw[QE];show 2+T<=_;omega)];unfold szG;rw[Qv,Qv,List.map_replicate];rfl
 obtain⟨n,hn⟩:∃n:Nat,1+d0=n:=⟨(1+d0).toNat,by omega⟩
 refine YT (ρ:=[pb (.list (ns.map int)),pb (.int at_),pb (.int (T:Nat)),pb (.int (A:Nat)),pb (.int (R:Nat)),none,none,none,none,none,none,none,none,none]) rfl ?_;unfold W1;refine U2 (Ke (Ka (UL (Ka (UL (UF rfl) (UL (UF rfl) UQ)) rfl hv) (UL (UF rfl) (UL (UT (Zt (UL (UF rfl) (UL (UF rfl) UQ)) (Qa rfl)) (UT (Zt (UL UM UQ) (Qa rfl)) (UF rfl) hmul) hadd) UQ))) rfl hF) (Qa rfl) rfl) ?_
 have hcut:DL.cutD (ds.map int) (some 2) (some (3+d0))=((ds.drop 2).take n).map int:=by
  rw[RC (by decide) (by omega) (by omega)];have:(3+d0).toNat-(2:Int).toNat=n:=by omega
  rw[this];rfl
 have hrowl:((ds.drop 2).take n).length=n:=by rw[Ju,JI,hl8];omega
 have each:∀z∈(ds.drop 2).take n,0<=z/\z<11:=λz hz=>by
  have hz:=List.mem_of_mem_take hz;obtain⟨k,hk,e⟩:=List.getElem_of_mem hz;rw[JI,hl8]at hk;rw[List.getElem_drop]at e;have e2:ds[2+k]?=some z:=by rw[←e];exact Qd _
  refine hd (2+k) z 11 e2 (Ga ?_);omega
 let cs:List Int:=((ds.drop 2).take n).map λz=>tab.getD z.toNat 0
 have hcl:cs.length=n:=by show(List.map _ _).length=n;rw[Qb,hrowl]
 have hc:∀xs:List (Option Sl),U8 xs=xs->xs.length=14->Kq (gN 14) (UK true) (UH oIx (Kj (UI (UK (.int 1)) (UI (UK (.int 1)) (UI (UK (.int 2)) (UI (UK (.int 0)) (UI (UK (.int 3)) (UI (UK (.int 7)) (UI (UK (.int 1)) (UI (UK (.int 4)) (UI (UK (.int 5)) (UI (UK (.int 6)) (UI (UK (.int 1)) (UG))))))))))))) (UD 14)) (((ds.drop 2).take n).map int) (U8 xs++Up 1 none) []=some (cs.map int):=by
  intro xs hx hxl;rw[hx,Xh (λ_=>true) (λd=>match d with | .int z=>.int (tab.getD z.toNat 0)|_=>.none) (λρ=>∃x,ρ=xs++[x])]
  ·rw[List.filter_eq_self.mpr (λ_ _=>rfl),Ji,QT];show _=some ((((ds.drop 2).take n).map λz=>tab.getD z.toNat 0).map int);rw[QT];rfl
  ·rintro d hm ρ ⟨x,rfl⟩;obtain⟨z,hz,rfl⟩:=Qs.mp hm;have ht:=Pv (each z hz).1 (each z hz).2;have hset:(xs++[x]).set 14 (some (Sl.pub (.int z)))=xs++[pb (.int z)]:=by rw[List.set_append_right _ _ (by omega),hxl];rfl
   have hget:(xs++[some (Sl.pub (.int z))])[14]?=some (some (Sl.pub (.int z))):=by rw[Qr (by omega),hxl];rfl
   refine⟨_,UR (by rw[Qj,hxl];exact Qa rfl) hset,rfl,λ_=>?_,pb (.int z),?_⟩
   ·exact UT (Zt (UL UM (UL UM (UL UM (UL UM (UL UM (UL UM (UL UM (UL UM (UL UM (UL UM (UL UM UQ))))))))))) (Qa rfl)) (UF hget) ht.1
   ·unfold U8 at hx⊢;rw[QF,hx];rfl
  ·exact⟨none,rfl⟩
  ·rw[Qb,hrowl,QN];omega
 refine U2 (Zz (ZE (K7 (Sa (UF rfl) (XA UM) (XA (UT UM (Ks rfl UM x0) KM)) (by rw[Sq,hcut])) Zp) (hc _ rfl rfl)) (Qa rfl) rfl) ?_;refine U2 (Zz (YW UQ (Qa rfl)) (Qa rfl) rfl) ?_;apply Kp;apply Zg (SN T A R (.list (ns.map int)) (.list (ds.map int)) at_ n cs)
 case h1=>exact Wr (UL (UT UM (Ks rfl UM x1) KM) UQ) (Wx (by omega) (by omega))
 case h0=>exact⟨[],_,_,_,_,_,_,rfl,rfl,λ_ h=>by cases h⟩
 case hst=>exact λi d ρ e h=>An hns hT hR hcl (by omega) (by omega) e h
 case hend=>rintro ρ ⟨ls,y9,y10,y11,y12,y13,y14,rfl,hll,hg⟩;rw[YM]at hll;refine Kk (Kc (Tl (UL (ZG rfl rfl) (UL (ZG rfl rfl) UQ)) (Qa rfl)) ⟨_,rfl,cs,ls,rfl,⟨?_,by omega,by omega,λrs hrs=>(hg rs hrs).2⟩⟩);exact⟨by omega,by omega,λc hc=>by obtain⟨z,hz,rfl⟩:=Qs.mp hc;exact(Pv (each z hz).1 (each z hz).2).2,by omega,by omega,λrs hrs=>by rw[hcl];exact(hg rs hrs).1⟩
def Zs(t:Int)(rs:List (List Int)):Nat:=if rs.findIdx (λr=>r.contains t)<rs.length then rs.findIdx (λr=>r.contains t)+1 else 0
theorem GF(a b:Int):Uw (.int a) (.int b)=(a==b):=by simp[Uw]
theorem Ro(t:Int)(r:List Int):oIn (.int t) (KS r)=some (r.contains t):=by
 have h1:Uu (r.map int)=true:=by
  induction r with
  |nil=>rfl
  |cons x r ih=>rw[Qv];unfold Uu;rw[ih];rfl
 unfold oIn KS;dsimp only;rw[Qq ⟨rfl,h1,J6 _⟩]
 congr 1
 rw[List.any_map];clear h1;induction r with
 |nil=>rfl
 |cons x r ih=>
  rw[JE,ih,List.contains_cons]
  congr 1
  show Uw (.int x) (.int t)=(t==x);rw[GF];exact Bool.eq_iff_iff.2 ⟨λh=>beq_iff_eq.2 (beq_iff_eq.1 h).symm,λh=>beq_iff_eq.2 (beq_iff_eq.1 h).symm⟩
theorem NM{t:Int}{rs:List (List Int)}{i:Nat}{r:List Int}(hr:rs[i]?=some r)(h:r.contains t=true)(hb:∀j r,j<i->rs[j]?=some r->r.contains t=false):Zs t rs=1+i:=by obtain⟨hi,e⟩:=List.getElem?_eq_some_iff.1 hr;have hf:rs.findIdx (λr=>r.contains t)=i:=(List.findIdx_eq hi).2 ⟨by rw[e];exact h,λj hj=>hb j _ hj (Qd (Nat.lt_trans hj hi))⟩;unfold Zs;rw[hf,Qq hi,Nat.add_comm]
theorem NL{t:Int}{rs:List (List Int)}(hb:∀j r,j<rs.length->rs[j]?=some r->r.contains t=false):Zs t rs=0:=by
 have hf:rs.findIdx (λr=>r.contains t)=rs.length:=List.findIdx_eq_length.2 λr hr=>by obtain⟨j,hj,e⟩:=List.mem_iff_getElem.1 hr;exact hb j r hj (by rw[Qd hj,e])
 unfold Zs;rw[hf,QG (Jc _)]
theorem Mf(t:Int)(rs:List (List Int)):YF [Ko rs,.int t]=some (.int (Zs t rs:Nat)):=by
 refine KW (ρ:=[pb (Ko rs),pb (.int t),none,none]) rfl ?_;unfold Vp;apply Kp;apply Zg (λi ρ=>(∃x2 x3,ρ=[pb (Ko rs),pb (.int t),x2,x3])/\∀j r,j<i->rs[j]?=some r->r.contains t=false)
 case h1=>exact DF (UL (UF rfl) UQ) Cz
 case h0=>exact⟨⟨_,_,rfl⟩,λj r h=>absurd h (JT _)⟩
 case hst=>
  rintro i d ρ hi ⟨⟨x2,x3,rfl⟩,hb⟩;obtain⟨x,hx,rfl⟩:=Xf hi;rw[Qf]at hx;cases hr:rs[i]? with
  |none=>rw[hr]at hx;cases hx
  |some r=>
   rw[hr]at hx;cases hx;refine⟨_,KD rfl (U3 (UR (Qa rfl) rfl) (U3 (UR (Qa rfl) rfl) KE)),?_⟩;unfold OA;apply Kh
   case h1=>exact Zq rfl (UF rfl) (Ro t r)
   case h2=>intro hh;refine Kc (UF rfl) (RD ?_);rw[NM hr hh hb];exact⟨rfl⟩
   case h3=>
    intro hh;refine KB (K3 ⟨⟨_,_,rfl⟩,λj r' hj hr'=>?_⟩);rcases Nat.lt_succ_iff_lt_or_eq.1 hj with h|rfl
    ·exact hb j r' h hr'
    ·rw[hr]at hr';cases hr';exact hh
 case hend=>rintro ρ ⟨⟨x2,x3,rfl⟩,hb⟩;rw[Ym,Qb]at hb;refine Kk ?_;rw[NL hb];exact Kc UM rfl
def UO:Option Int->D
 |none=>.none
 |some t=>.int t
def U0(ws:LO):D:=.list (ws.map UO)
structure Deal(cs:List Int)(ls:L3)(ws:LO):Prop where
 len:ws.length=ls.length
 wish:∀(i:Nat) t rs,ws[i]?=some (some t)->ls[i]?=some rs->t∈rs.flatten
 cop:∀(k:Nat) c,cs[k]?=some c->((ws.count (some (k:Int)):Nat):Int)<=c
theorem Me{t:Int}{rs:List (List Int)}(h:t∈rs.flatten):Zs t rs≠0:=by obtain⟨r,hr,ht⟩:=JM.mp h;have:rs.findIdx (λr=>r.contains t)<rs.length:=List.findIdx_lt_length_of_exists ⟨r,hr,by simpa using ht⟩;unfold Zs;rw[Qq this];omega
theorem Dq(ws:LO):Uu (ws.map UO)=true:=SF λx hx=>by obtain⟨y,_,rfl⟩:=Qs.mp hx;cases y<;>rfl
theorem Rn(a b:Option Int):Uw (UO a) (UO b)=decide (a=b):=by rw[Bool.eq_iff_iff];cases a<;>cases b<;>simp[UO,Uw]
theorem Md{ws:LO}{k:Int}:Ws (U0 ws) (.int k)=some (.int (ws.count (some k):Nat)):=by
 unfold U0 Ws;dsimp only;rw[if_pos ⟨rfl,Dq ws,by simp[Uv]⟩]
 congr 3
 induction ws with
 |nil=>rfl
 |cons w r ih=>
  rw[Qv,List.countP_cons,List.count_cons,ih]
  congr 1
  have:=Rn w (some k);have e:UO (some k)=.int k:=rfl;rw[e]at this;rw[this];cases w with
  |none=>simp
  |some z=>simp
theorem RL{f:M (List D)}{k:Nat}{s:D->UE->Option UE}{t:M Bool}{g:M D}{ρ ρ1:UE}{ds es:List D}(h1:f ρ=.ok ds ρ1)(h2:Kq s t g ds (Zw ρ1++Up k none) []=some es)(h3:es.all flat=true):WD f k s t g ρ=.ok es ρ1:=by unfold WD;rw[h1];dsimp only;rw[h2];dsimp only;rw[if_pos h3]
theorem Ma{cs:List Int}{ls:L3}{rs:List (List Int)}{i:Nat}(hi:ls[i]?=some rs)(hl:rs.flatten.length<64):YB [U7 cs ls,.int i]=some (.list ((ZF rs.flatten).map int)):=by
 refine KW (ρ:=[pb (U7 cs ls),pb (.int i)]) rfl ?_;unfold WY;have i1:oIx (U7 cs ls) (.int 1)=some (.list (ls.map Ko)):=KQ (j:=1) rfl;have i2:oIx (.list (ls.map Ko)) (.int i)=some (Ko rs):=KQ (by rw[Qf,hi];rfl)
 have hs:VG [Ko rs,.list []]=some (.list (rs.flatten.map int)):=by
  have e:Ko rs=.list ((rs.map λr=>r.map int).map Uq):=by unfold Ko;rw[QT];rfl
  have e2:(rs.map λr=>r.map int).flatten=rs.flatten.map int:=by rw[List.map_flatten]
  rw[e];unfold VG;dsimp only;rw[BX];dsimp only;rw[e2,Qq (by rw[Qb];omega)]
 exact Kc (Zi (UL (Zi (UL (UT (Ks rfl UM i1) (UF rfl) i2) (UL (Zt UQ (Qa rfl)) UQ)) hs) UQ) (BO hl)) rfl
structure WI(cs:List Int)(ls:L3)(lf:List Int)(ws:LO):Prop where
 wish:∀(i:Nat) t rs,ws[i]?=some (some t)->ls[i]?=some rs->t∈rs.flatten
 len:lf.length=cs.length
 cop:∀(k:Nat) c,cs[k]?=some c->lf[k]?=some (c-((ws.count (some (k:Int)):Nat):Int))/\0<=c-((ws.count (some (k:Int)):Nat):Int)
theorem RX{ls:L3}{ws:LO}{o:Option Int}{rs:List (List Int)}(h:∀(i:Nat) t rs,ws[i]?=some (some t)->ls[i]?=some rs->t∈rs.flatten)(hi:ls[ws.length]?=some rs)(ho:∀t,o=some t->t∈rs.flatten) :
  ∀(i:Nat) t rs,(ws++[o])[i]?=some (some t)->ls[i]?=some rs->t∈rs.flatten:=by
 intro j t rs' e1 e2;by_cases hj:j<ws.length
 ·rw[Qm hj]at e1;exact h j t rs' e1 e2
 ·by_cases hj2:j=ws.length
  ·subst hj2;rw[hi]at e2;cases e2;rw[Qr (Qp _),Nat.sub_self,List.getElem?_cons_zero]at e1;cases e1;exact ho t rfl
  ·rw[Q5 (by rw[Qj,QU];omega)]at e1;cases e1
theorem WI.none{cs:List Int}{ls:L3}{lf:List Int}{ws:LO}{rs:List (List Int)}(d:WI cs ls lf ws)(hi:ls[ws.length]?=some rs):WI cs ls lf (ws++[Option.none]) where
 wish:=RX d.wish hi λt e=>by cases e
 len:=d.len
 cop:=λk c e=>by rw[List.count_append];simpa using d.cop k c e
theorem WI.give{cs:List Int}{ls:L3}{lf:List Int}{ws:LO}{rs:List (List Int)}{t v:Int}(d:WI cs ls lf ws)(hi:ls[ws.length]?=some rs)(ht:t∈rs.flatten)(h0:0<=t)(hv:lf[t.toNat]?=some v)(hp:0<v):WI cs ls (lf.set t.toNat (v-1)) (ws++[some t]) where
 wish:=RX d.wish hi λt' e=>by cases e;exact ht
 len:=by rw[Q3];exact d.len
 cop:=λk c e=>by
  obtain⟨h1,h2⟩:=d.cop k c e;rw[List.count_append];by_cases hk:t=(k:Int)
  ·subst hk;rw[QX]at hv⊢;rw[h1]at hv;cases hv;have hl:k<lf.length:=(Qg.mp h1).1;rw[QJ hl];simp only[List.count_singleton_self];refine⟨by congr 1;omega,by omega⟩
  ·have hne:t.toNat≠k:=by omega
   rw[Ql hne];have:List.count (some (k:Int)) [some t]=0:=by rw[List.count_eq_zero];intro z;have:=Qy.mp z;exact hk (Qt this).symm
   rw[this];exact⟨h1,h2⟩
theorem Ra{os:LO}{k:Nat}(h:k<os.length):oIx (.list (os.map UO)) (.int k)=some (UO os[k]):=KQ (by rw[Qf,Qd h];rfl)
theorem NC{ws:LO}{o:Option Int}:(ws++[o]).map UO=ws.map UO++[UO o]:=by rw[QF];rfl
def WP(cs:List Int)(ls:L3)(c s:D)(dg:List Int)(i:Nat)(ρ:UE):Prop:=∃(lf:List Int)(ws:LO)(x6 x7 x8:Option Sl),
 ρ=[pb (U7 cs ls),pb c,pb s,some (.own (lf.map int)),pb (.list (dg.map int)),some (.own (ws.map UO)),x6,x7,x8]/\ws.length=i/\WI cs ls lf ws
theorem BJ{cs:List Int}{ls:L3}{c s:D}{dg:List Int}{i:Nat}{d:D}{ρ:UE}{Q:Out->Prop}(g:Good cs ls)(hdl:dg.length=ls.length)(hd0:∀x∈dg,0<=x)(hi:(Zv 0 ls.length)[i]?=some d)(h:WP cs ls c s dg i ρ) :
  ∃ρ2,gN 6 d ρ=some ρ2/\Ho Rs ρ2 (Xl (WP cs ls c s dg (i+1)) Q):=by
 obtain⟨lf,ws,x6,x7,x8,rfl,hw,dl⟩:=h;obtain⟨rfl,hlt⟩:=Wv hi;have hil:i<ls.length:=by omega
 have hls:ls[i]?=some ls[i]:=Qd hil;have gr:=g.rk _ (Qn hls);have hfl:=RM gr;refine⟨_,UR (Qa rfl) rfl,?_⟩;unfold Rs;rw[J7];generalize hrs:ls[i]=rs at *;have hmem:∀t∈ZF rs.flatten,t∈rs.flatten:=λt ht=>(YL _).mem_iff.mp ht
 have hthere:∀t∈rs.flatten,0<=t/\t<lf.length:=λt ht=>by obtain⟨r,hr,htr⟩:=JM.mp ht;have:=gr.there r hr t htr;rw[dl.len];exact this
 let L:=(ZF rs.flatten).filter λt=>decide (0<lf.getD t.toNat 0)
 have hc:Kq (gN 9) (UH (oIB λi j=>decide (j<i)) (US 3 (UD 9)) (UK (.int 0))) (UD 9) ((ZF rs.flatten).map int) (Zw [pb (U7 cs ls),pb c,pb s,some (.own (lf.map int)),pb (.list (dg.map int)),some (.own (ws.map UO)),pb (.int (i:Int)),x7,x8]++Up 1 none) []=some (L.map int):=by
  rw[Xh (λd=>match d with | .int t=>decide (0<lf.getD t.toNat 0)|_=>false) (λd=>d) (λρ=>∃x y7 y8,ρ=[pb (U7 cs ls),pb c,pb s,pb (.list (lf.map int)),pb (.list (dg.map int)),pb (.list (ws.map UO)),pb (.int (i:Int)),y7,y8,x])]
  ·rw[Ji,J9,JD];rfl
  ·rintro d hm ρ ⟨x,y7,y8,rfl⟩;obtain⟨t,ht,rfl⟩:=Qs.mp hm;obtain⟨h0,h1⟩:=hthere t (hmem t ht);obtain⟨k,rfl⟩:∃k:Nat,t=k:=⟨t.toNat,by omega⟩
   refine⟨_,UR (Qa rfl) rfl,UT (Ks rfl (UF rfl) (Sj (by omega))) UM rfl,λ_=>UF rfl,pb (.int k),Xb y7,Xb y8,rfl⟩
  ·exact⟨none,SR x7,SR x8,rfl⟩
  ·rw[Qb,QN,(YL _).length_eq];have:=g.c6;omega
 have hLl:L.length<=6:=by have:L.length<=(ZF rs.flatten).length:=Jr _ _;rw[(YL _).length_eq]at this;have:=g.c6;omega
 have hadd:UW (.list (L.map int)) (.list [.none])=some (.list ((L.map some++[none]).map UO)):=by rw[Xu (by rw[Qb];show L.length+1<=_;omega),QF,QT];rfl
 refine U2 (Ke (UT (Kl (RL (K7 (Ka (UL (UF rfl) (UL (UF rfl) UQ)) rfl (Ma (cs:=cs) hls (by have:=g.c6;omega))) Zp) hc (by rw[J8,Jb];exact λ_ _=>rfl))) (Zt (UL UM UQ) (Qa rfl)) hadd) (Qa rfl) rfl) ?_;have hol:(L.map some++[none]:LO).length=L.length+1:=by rw[Qj,Qb];rfl
 have hlen:U6 [.list ((L.map some++[none]:LO).map UO)]=some (.int ((L.length+1:Nat):Int)):=by rw[Zc,Qb,hol]
 have hdi:dg[i]?=some dg[i]:=Qd (by omega);have hx0:=hd0 _ (Qn hdi);have hix:oIx (.list (dg.map int)) (.int (i:Int))=some (.int dg[i]):=KQ (by rw[Qf,hdi];rfl);have hm0:0<=dg[i] % ((L.length+1:Nat):Int):=Int.emod_nonneg _ (by omega);have hm1:dg[i] % ((L.length+1:Nat):Int)<((L.length+1:Nat):Int):=Int.emod_lt_of_pos _ (by omega);obtain⟨k,hk⟩:∃k:Nat,dg[i] % ((L.length+1:Nat):Int)=k:=⟨(dg[i] % ((L.length+1:Nat):Int)).toNat,by omega⟩
 have hkl:k<(L.map some++[none]:LO).length:=by rw[hol];omega
 have hpick:=Ra (os:=L.map some++[none]) hkl;rw[←hk]at hpick;generalize ho:(L.map some++[none]:LO)[k]=o at hpick;refine U2 (Ke (Ks rfl (UT (Ks rfl (UF rfl) hix) (K4 rfl hlen) (Wp (by omega))) hpick) (Qa rfl) rfl) ?_;have hwl:(ws.map UO).length<1000000:=by rw[Qb];have:=g.l7;omega
 have hls':ls[ws.length]?=some rs:=by rw[hw];exact hls
 cases o with
 |none=>
  apply Kp;apply Kh
  case h1=>exact V5 (UF rfl) rfl
  case h2=>intro hh;cases hh
  case h3=>intro _;refine KB (Kk ?_);refine Ze (YU rfl (UF rfl) rfl hwl rfl) ?_;exact K3 ⟨lf,ws++[none],_,_,_,by rw[NC (ws:=ws)];rfl,by rw[Qj,hw];rfl,dl.none hls'⟩
 |some t=>
  have htL:t∈L:=by
   have hm:some t∈(L.map some++[none]:LO):=ho ▸ Je hkl;rcases QL.mp hm with z|z
   ·obtain⟨t',h1,h2⟩:=Qs.mp z;cases h2;exact h1
   ·cases Qy.mp z
  obtain⟨htm,htp⟩:=Q9.mp htL;have htf:=hmem t htm;obtain⟨h0,h1⟩:=hthere t htf;have hv:lf[t.toNat]?=some lf[t.toNat]:=Qd (by omega);have hvd:lf.getD t.toNat 0=lf[t.toNat]:=by simp[List.getD,hv]
  have hpos:0<lf[t.toNat]:=by rw[hvd]at htp;simpa using htp
  have hvx:oIx (.list (lf.map int)) (.int t)=some (.int lf[t.toNat]):=HJ h0 (by rw[Qf,hv];rfl);apply Kp;apply Kh
  case h1=>exact V5 (UF rfl) rfl
  case h2=>intro _;refine Ze (Op (UT (VI rfl (UF rfl) rfl hvx) UM ZO) rfl (UF rfl) rfl ⟨h0,by rw[Qb];exact h1⟩ rfl) ?_;refine Kk ?_;refine Ze (YU rfl (UF rfl) rfl hwl rfl) ?_;exact K3 ⟨lf.set t.toNat (lf[t.toNat]-1),ws++[some t],_,_,_,by rw[NC (ws:=ws),←DG];rfl,by rw[Qj,hw];rfl,dl.give hls' htf h0 hv hpos⟩
  case h3=>intro hh;cases hh
theorem BI{cs:List Int}{ls:L3}(g:Good cs ls)(c s:Int):∃r,XX [U7 cs ls,.int c,.int s]=some r/\∃ws,r=U0 ws/\Deal cs ls ws:=by
 refine YT (ρ:=[pb (U7 cs ls),pb (.int c),pb (.int s),none,none,none,none,none,none]) rfl ?_;unfold WW;have i0:oIx (U7 cs ls) (.int 0)=some (.list (cs.map int)):=KQ (j:=0) rfl;have i1:oIx (U7 cs ls) (.int 1)=some (.list (ls.map Ko)):=KQ (j:=1) rfl;have hlen:U6 [.list (ls.map Ko)]=some (.int ls.length):=by rw[Zc,Qb]
 refine U2 (Zz (Kr (UL (Ks rfl UM i0) UQ) (Zj (show Xd [.list (cs.map int)]=some (cs.map int)from rfl))) (Qa rfl) rfl) ?_
 have hmul:U9 (.list [.int 61]) (.int ls.length)=some (.list ((Up ls.length (61:Int)).map int)):=by
  rw[R8 ⟨by omega,by have:=g.l7;omega,by show 1*_<=_;have:=g.l7;omega⟩]
  congr 2
  rw[QX];generalize ls.length=n;induction n with
  |zero=>rfl
  |succ n ih=>rw[Q4,QP,ih,Q4,Qv];rfl
 obtain⟨r,hF,dg,rfl,hdl,hdb⟩:=SK c s (sizes:=Up ls.length (61:Int)) (λx hx=>by rw[(JQ.mp hx).2];decide) (by rw[QE];have:=g.l7;omega);rw[QE]at hdl;refine U2 (Ke (Ka (UL (UF rfl) (UL (UF rfl) (UL (UT (Zt (UL UM UQ) (Qa rfl)) (Zi (UL (Ks rfl UM i1) UQ) hlen) hmul) UQ))) rfl hF) (Qa rfl) rfl) ?_;refine U2 (Zz (YW UQ (Qa rfl)) (Qa rfl) rfl) ?_;apply Kp;apply Zg (WP cs ls (.int c) (.int s) dg)
 case h1=>exact Wr (UL (Zi (UL (Ks rfl UM i1) UQ) hlen) UQ) (Wx (by have:=g.l7;omega) (by omega))
 case h0=>exact⟨cs,[],_,_,_,rfl,rfl,⟨λ_ _ _ h=>(by cases h),rfl,λk c e=>by have:=g.c7 c (Qn e);simp only[List.count_nil];exact⟨by rw[e];congr 1;omega,by omega⟩⟩⟩
 case hst=>exact λi d ρ e h=>BJ g hdl (λx hx=>by obtain⟨j,hj,e⟩:=JX.mp hx;exact(hdb j x 61 (by rw[Qd hj,e]) (by rw[Qw,Qq (by omega)])).1) e h
 case hend=>rintro ρ ⟨lf,ws,x6,x7,x8,rfl,hw,dl⟩;rw[YM]at hw;refine Kk (Kc (ZG rfl rfl) ⟨_,rfl,ws,rfl,⟨by omega,dl.wish,λk c e=>by have:=(dl.cop k c e).2;omega⟩⟩)
theorem YN{s:D->UE->Option UE}{t:M Bool}{g:M D}(I:UE->Prop):∀(ds qs:List D)(ρ:UE)(es:List D),qs.length=ds.length ->
  (∀(i:Nat) d e,ds[i]?=some d->qs[i]?=some e->∀ρ,I ρ->∃ρ1,s d ρ=some ρ1/\t ρ1=.ok true ρ1/\g ρ1=.ok e ρ1/\I (U8 ρ1))->I ρ->es.length+ds.length<=1000000->Kq s t g ds ρ es=some (es++qs)
 |[],[],ρ,es,_,_,_,_=>by rw[Kq,Jh]
 |d::r,e::q,ρ,es,hl,st,h0,hz=>by obtain⟨ρ1,e1,e2,e3,h1⟩:=st 0 d e rfl rfl ρ h0;rw[QB]at hz;rw[Kq,e1];dsimp only;rw[e2];dsimp only;rw[Qq rfl,e3];dsimp only;rw[if_pos (by omega),YN I r q (U8 ρ1) (es++[e]) (by simpa using hl) (λi d' e' x y=>st (i+1) d' e' (by simpa using x) (by simpa using y)) h1 (by rw[List.length_append,List.length_singleton];omega),List.append_assoc];rfl
def lng(ls:L3):Nat:=(most (ls.map λrs=>(rs.length:Int))).toNat
def WA(cs:List Int)(ws:LO):List Int:=(Uo cs.length).map λk:Nat=>cs.getD k 0-((ws.count (some (k:Int)):Nat):Int)
theorem Rm{ls:L3}(h:1<=ls.length):most (ls.map λrs=>(rs.length:Int))=(lng ls:Nat):=by
 have hm:most (ls.map λrs=>(rs.length:Int))∈ls.map λrs=>(rs.length:Int):=Su (by rw[Qb];omega)
 obtain⟨rs,_,e⟩:=Qs.mp hm;unfold lng;omega
theorem HZ{ls:L3}{rs:List (List Int)}(h:rs∈ls):rs.length<=lng ls:=by have h1:((rs.length:Nat):Int)<=most (ls.map λrs=>(rs.length:Int)):=Sg (Qs.mpr ⟨rs,h,rfl⟩);have h2:=Rm (ls:=ls) (Jy h);omega
theorem P7{ls:L3}{n:Nat}(h1:1<=ls.length)(h:∀rs∈ls,rs.length<=n):lng ls<=n:=by
 have hm:most (ls.map λrs=>(rs.length:Int))∈ls.map λrs=>(rs.length:Int):=Su (by rw[Qb];omega)
 obtain⟨rs,hr,e⟩:=Qs.mp hm;have:=h rs hr;unfold lng;omega
theorem N9(t:Int)(rs:List (List Int)):Zs t rs<=rs.length:=by
 unfold Zs
 split<;>omega
section
variable{cs:List Int}{ls:L3}{ws:LO}
theorem TN:oIx (U7 cs ls) (.int 0)=some (.list (cs.map int)):=KQ (j:=0) rfl
theorem Wk:oIx (U7 cs ls) (.int 1)=some (.list (ls.map Ko)):=KQ (j:=1) rfl
theorem Pp{i:Nat}{rs:List (List Int)}(h:ls[i]?=some rs):oIx (.list (ls.map Ko)) (.int i)=some (Ko rs):=KQ (by rw[Qf,h];rfl)
theorem N8(rs:List (List Int)):U6 [Ko rs]=some (.int rs.length):=by unfold Ko;rw[Zc,Qb]
theorem BH(g:Good cs ls):Wd [U7 cs ls]=some (.int (lng ls:Nat)):=by
 refine KW (ρ:=[pb (U7 cs ls)]) rfl ?_;unfold Vo;have hw:=SB g
 have hc:Kq (gN 1) (UK true) (KN 1) (ls.map Ko) (U8 [pb (U7 cs ls)]++Up 1 none) []=some ((ls.map λrs=>(rs.length:Int)).map int):=by
  refine YN (λρ=>∃x,ρ=[pb (U7 cs ls),x]) _ _ _ _ (by rw[Qb,Qb,Qb]) ?_ ⟨none,rfl⟩ (by rw[Qb,QN];have:=g.l7;omega);rintro i d e hd he ρ ⟨x,rfl⟩;rw[Qf]at hd;rw[Qf,Qf]at he;cases hl:ls[i]? with
  |none=>rw[hl]at hd;cases hd
  |some rs=>
  rw[hl]at hd he;cases hd;cases he;exact⟨_,UR (Qa rfl) rfl,rfl,K4 rfl (N8 rs),_,rfl⟩
 refine U2 (Xy (Ka (UL (UF rfl) UQ) rfl hw)) ?_;refine Kc (Zi (UL (Kl (ZE (K7 (Ks rfl UM Wk) Zp) hc)) UQ) (RE (by rw[Qb];have:=g.l1;omega))) ?_;rw[Rm g.l1]
theorem A2(g:Good cs ls):Wc [U7 cs ls,U0 ws]=some (.list ((WA cs ws).map int)):=by
 refine KW (ρ:=[pb (U7 cs ls),pb (U0 ws)]) rfl ?_;unfold Vn;have hw:=SB g
 have hc:Kq (gT 2 (gNC (gN 2) (gNC (gN 3) (gN0)))) (UK true) (UH Kt (UD 3) (VL (UD 1) (UI (UD 2) (UG)))) (Zx 0 (cs.map int)) (U8 [pb (U7 cs ls),pb (U0 ws)]++Up 2 none) []=some ((WA cs ws).map int):=by
  refine YN (λρ=>∃x y,ρ=[pb (U7 cs ls),pb (U0 ws),x,y]) _ _ _ _ (by unfold WA;rw[Qb,Qb,QS,Ym,Qb]) ?_ ⟨none,none,rfl⟩ (by rw[Ym,Qb,QN];have:=g.c6;omega);rintro i d e hd he ρ ⟨x,y,rfl⟩;obtain⟨z,hz,rfl⟩:=Xf hd;rw[Qf]at hz;cases hci:cs[i]? with
  |none=>rw[hci]at hz;cases hz
  |some c=>
  rw[hci]at hz;cases hz;have hil:i<cs.length:=(Qg.mp hci).1;unfold WA at he;rw[Qf,Qf,Qd (by rw[QS];exact hil),List.getElem_range]at he;cases he;rw[Jd];have e:cs.getD i 0=c:=by simp[List.getD,hci]
  dsimp only;rw[e];exact⟨_,KD rfl (U3 (UR (Qa rfl) rfl) (U3 (UR (Qa rfl) rfl) KE)),rfl,UT (UF rfl) (Nq (UF rfl) (UL (UF rfl) UQ) Md) ZO,_,_,rfl⟩
 refine U2 (Xy (Ka (UL (UF rfl) UQ) rfl hw)) ?_;exact Kc (Kl (ZE (Wq (UL (Ks rfl UM TN) UQ) Ww) hc)) rfl
end
theorem Se{a b:Option Int}:oEq (UO a) (UO b)=some (decide (a=b)):=by unfold oEq;rw[if_pos ⟨by cases a<;>rfl,by cases b<;>rfl,by cases a<;>simp[UO,Uv]⟩,Rn]
theorem SZ{a b:Option Int}:oNe (UO a) (UO b)=some (!decide (a=b)):=by unfold oNe;rw[if_pos ⟨by cases a<;>rfl,by cases b<;>rfl,by cases a<;>simp[UO,Uv]⟩,Rn]
section
variable{cs:List Int}{ls:L3}{ws:LO}{a:Nat}{o had:Option Int}{rs:List (List Int)}{t:Int}
theorem Ag(h:Zs t rs≠0):t∈rs.flatten:=by
 unfold Zs at h;split at h
 ·rename_i hl;have:=List.findIdx_getElem (w:=hl);exact List.mem_flatten.mpr ⟨_,List.getElem_mem hl,by simpa using this⟩
 ·exact absurd rfl h
end
def Kn(k:Nat):L3->LP
 |[]=>[]
 |rs::ls=>(ZF rs.flatten).map (λt=>((k:Int),t))++Kn (k+1) ls
theorem NB:∀(ls:L3)(k:Nat),∀q∈Kn k ls,(k:Int)<=q.1
 |[],_,q,h=>by cases h
 |rs::ls,k,q,h=>by
  rcases QL.mp h with h|h
  ·obtain⟨t,_,rfl⟩:=Qs.mp h;exact Jv _
  ·have:=NB ls (k+1) q h;omega
theorem TD:∀{ls:L3}{k:Nat}{q:Int×Int},q∈Kn k ls->∃i rs,ls[i]?=some rs/\q.1=((k+i:Nat):Int)/\q.2∈rs.flatten
 |[],_,q,h=>by cases h
 |rs::ls,k,q,h=>by
  rcases QL.mp h with h|h
  ·obtain⟨t,ht,rfl⟩:=Qs.mp h;exact⟨0,rs,rfl,rfl,(YL _).mem_iff.mp ht⟩
  ·obtain⟨i,rs',h1,h2,h3⟩:=TD h;exact⟨i+1,rs',by simpa using h1,by rw[h2];congr 1;omega,h3⟩
theorem RK:∀{ls:L3}{k i:Nat}{rs:List (List Int)}{t:Int},ls[i]?=some rs->t∈rs.flatten->(((k+i:Nat):Int),t)∈Kn k ls
 |rs::ls,k,0,rs',t,h,ht=>by cases h;exact Q6 _ (Qs.mpr ⟨t,(YL _).mem_iff.mpr ht,rfl⟩)
 |rs::ls,k,i+1,rs',t,h,ht=>by have:=RK (ls:=ls) (k:=k+1) (i:=i) (by simpa using h) ht;rw[show k+1+i=k+(i+1)by omega]at this;exact Qz _ this
theorem WL.flat{n:Nat}{rs:List (List Int)}(g:WL n rs):∀t∈rs.flatten,0<=t/\t<n:=λt ht=>by obtain⟨r,h1,h2⟩:=JM.mp ht;exact g.there r h1 t h2
inductive Ord where|firsts|full|lasts
def Ord.tx:Ord->Str
 |.firsts=> "firsts" | .full=> "full" | .lasts=> "lasts"
def Ord.isF:Ord->Bool
 |.firsts=>true|_=>false
def Ord.isU:Ord->Bool
 |.full=>true|_=>false
theorem Lr(o:Ord):oEq (.str o.tx) (.str "firsts")=some o.isF:=by cases o<;>decide +kernel
theorem P6(o:Ord):oEq (.str o.tx) (.str "full")=some o.isU:=by cases o<;>decide +kernel
theorem AS(o:Ord):Wb [.str o.tx]=some (.bool true):=by
 refine KW (ρ:=[pb (.str o.tx)]) rfl ?_;unfold Vm;have h:oIn (.str o.tx) (.tuple ((["firsts", "full", "lasts"]:List Str).map Us))=some true:=by cases o<;>decide +kernel
 exact Kc (Xz (Kl (k:=λd=>Ur (Kg d "str")) (UF rfl)) (λ_=>Kl (Zq rfl UM h))) rfl
theorem D1(o:Ord):Wa [.str o.tx]=some .none:=by
 refine Th (ρ:=[pb (.str o.tx)]) rfl ?_;unfold Vl;apply Kh
 case h1=>exact Yl (YK (Ka (UL (UF rfl) UQ) rfl (AS o)))
 case h2=>intro h;cases h
 case h3=>exact λ_=>KB ⟨_,rfl⟩
def Z8:Option LO->D
 |none=>.none
 |some ws=>U0 ws
def Kx(o:Ord)(old:Option LO)(ts:List Int):D:=.tuple [.str o.tx,Z8 old,.list (ts.map int)]
structure YV(n m:Nat)(old:Option LO)(ts:List Int):Prop where
 len:∀ws,old=some ws->ws.length=m
 old:∀ws t,old=some ws->some t∈ws->0<=t/\t<n
 once:ts.Nodup
 there:∀a∈ts,0<=a/\a<m
theorem YV.few{n m:Nat}{old:Option LO}{ts:List Int}(g:YV n m old ts):ts.length<=m:=VO m ts g.once g.there
theorem D0{n m:Nat}{old:Option LO}(h1:∀ws,old=some ws->ws.length=m)(h2:∀ws t,old=some ws->some t∈ws->0<=t/\t<n)(hm:m<=1000):X9 [Z8 old,.int m,.int n]=some (.bool true):=by
 refine KW (ρ:=[pb (Z8 old),pb (.int m),pb (.int n)]) rfl ?_;unfold Vk;apply Kp;cases old with
 |none=>
  apply Kh
  case h1=>exact Kl (UF rfl)
  case h2=>exact λ_=>Kc UM (ZQ rfl)
  case h3=>intro hh;cases hh
 |some ws=>
  have hl:=h1 ws rfl;have hlen:U6 [U0 ws]=some (.int m):=by unfold U0;rw[Zc,Qb,hl]
  apply Kh
  case h1=>exact Kl (UF rfl)
  case h2=>intro hh;cases hh
  case h3=>
   intro _;refine KB (Kk ?_);apply Kp;apply Kh
   case h1=>exact Yk (ρ1:=[pb (U0 ws),pb (.int m),pb (.int n)]) (Z3 (UF rfl) rfl) (UT (K4 rfl hlen) (UF rfl) Xj)
   case h2=>intro hh;simp at hh
   case h3=>
    intro _;refine KB (Kk ?_)
    have hc:Kq (gN 3) (UK true) (Yb (UN (λd=>.bool (isNon d)) (UD 3)) (UP 2 KR (UI (UD 3) (UI (UD 2) (UG))))) (ws.map UO) (U8 [pb (U0 ws),pb (.int m),pb (.int n)]++Up 1 none) []=some (ws.map λ_=>.bool true):=by
     refine YN (λρ=>∃x,ρ=[pb (U0 ws),pb (.int m),pb (.int n),x]) _ _ _ _ (by simp only[Qb]) ?_ ⟨none,rfl⟩ (by rw[Qb,QN];omega);rintro i d e hd he ρ ⟨x,rfl⟩;rw[Qf]at hd he;cases hw:ws[i]? with
     |none=>rw[hw]at hd;cases hd
     |some o=>
     rw[hw]at hd he;cases hd;cases he;refine⟨_,UR (Qa rfl) rfl,rfl,?_,_,rfl⟩;cases o with
     |none=>exact Tj (t:=true) (u:=true) (Kl (k:=λd=>Ur (isNon d)) (x:=.none) (UF rfl)) (λh=>nomatch h)
     |some t=>have hb:=h2 ws t rfl (Qn hw);exact Tj (t:=false) (u:=true) (Kl (k:=λd=>Ur (isNon d)) (x:=.int t) (UF rfl)) (λ_=>Ka (UL (UF rfl) (UL (UF rfl) UQ)) rfl (SE hb.1 hb.2))
    exact Kc (Zi (UL (Kl (ZE (K7 (UF rfl) rfl) hc)) UQ) (SD ws)) rfl
theorem Am{m:Nat}{ts:List Int}(h1:ts.Nodup)(h2:∀a∈ts,0<=a/\a<m)(hm:m<=1000):X8 [.list (ts.map int),.int m]=some (.bool true):=by
 refine KW (ρ:=[pb (.list (ts.map int)),pb (.int m)]) rfl ?_;unfold Vj;have hl:=VO m ts h1 h2;apply Kp
 have hc:Kq (gN 2) (UK true) (UP 2 KR (UI (UD 2) (UI (UD 1) (UG)))) (ts.map int) (U8 [pb (.list (ts.map int)),pb (.int m)]++Up 1 none) []=some (ts.map λ_=>.bool true):=by
  refine YN (λρ=>∃x,ρ=[pb (.list (ts.map int)),pb (.int m),x]) _ _ _ _ (by simp only[Qb]) ?_ ⟨none,rfl⟩ (by rw[Qb,QN];omega);rintro i d e hd he ρ ⟨x,rfl⟩;rw[Qf]at hd he;cases hw:ts[i]? with
  |none=>rw[hw]at hd;cases hd
  |some t=>
  rw[hw]at hd he;cases hd;cases he;have hb:=h2 t (Qn hw);exact⟨_,UR (Qa rfl) rfl,rfl,Ka (UL (UF rfl) (UL (UF rfl) UQ)) rfl (SE hb.1 hb.2),_,rfl⟩
 apply Kh
 case h1=>exact Yk (ρ1:=[pb (.list (ts.map int)),pb (.int m)]) (Z3 (UF rfl) rfl) (Yl (YK (Zi (UL (Kl (ZE (K7 (UF rfl) Zp) hc)) UQ) (SD ts))))
 case h2=>intro hh;cases hh
 case h3=>
  intro _;refine KB (Kk ?_);have hs:Xx [.list (ts.map int)]=some (.int ts.length):=by unfold Xx;dsimp only;rw[VY];dsimp only;rw[Qq (by omega),Pc h1]
  have hlen:U6 [.list (ts.map int)]=some (.int ts.length):=by rw[Zc,Qb]
  refine Kc (Kl (UT (Zi (UL (UF rfl) UQ) hs) (K4 rfl hlen) Wo)) ?_;simp
section
variable{cs:List Int}{ls:L3}{o:Ord}{old:Option LO}{ts:List Int}
theorem P5(g:Good cs ls)(ga:YV cs.length ls.length old ts):YE [U7 cs ls,Kx o old ts]=some .none:=by
 refine Th (ρ:=[pb (U7 cs ls),pb (Kx o old ts),none,none,none,none,none]) rfl ?_;unfold Vi;have l7:=g.l7;have c6:=g.c6;have hll:U6 [.list (ls.map Ko)]=some (.int ls.length):=by rw[Zc,Qb]
 have hlc:U6 [.list (cs.map int)]=some (.int cs.length):=by rw[Zc,Qb]
 refine U2 (Xy (Ka (UL (UF rfl) UQ) rfl (SB g))) ?_;apply Kp;apply Kh
 case h1=>exact Yk (ρ1:=[pb (U7 cs ls),pb (Kx o old ts),none,none,none,none,none]) (Z3 (UF rfl) rfl) (UT (K4 rfl (show U6 [Kx o old ts]=some (.int 3)from rfl)) UM Xj)
 case h2=>intro hh;simp at hh
 case h3=>
  intro _;refine KB (Kk ?_);refine U2 (VH (UF rfl) (KD rfl (U3 (UR (Qa rfl) rfl) (U3 (UR (Qa rfl) rfl) KE)))) ?_;refine U2 (VH (UF rfl) (KD rfl (U3 (UR (Qa rfl) rfl) (U3 (UR (Qa rfl) rfl) (U3 (UR (Qa rfl) rfl) KE))))) ?_;refine U2 (Xy (Ka (UL (UF rfl) UQ) rfl (D1 o))) ?_;apply Kp;apply Kh
  case h1=>exact Yl (YK (Ka (UL (UF rfl) (UL (K4 rfl hll) (UL (K4 rfl hlc) UQ))) rfl (D0 ga.len ga.old (by omega))))
  case h2=>intro hh;cases hh
  case h3=>
   intro _;refine KB (Kk ?_);apply Kh
   case h1=>exact Yl (YK (Ka (UL (UF rfl) (UL (K4 rfl hll) UQ)) rfl (Am ga.once ga.there (by omega))))
   case h2=>intro hh;cases hh
   case h3=>exact λ_=>KB ⟨_,rfl⟩
end
theorem Sh{t:Int}{r:List Int}:oIn (.int t) (.list (r.map int))=some (r.contains t):=Ro t r
theorem N7:∀(a b:List Int),a.Nodup->(∀x∈a,x∈b)->a.length<=b.length
 |[],_,_,_=>J6 _
 |x::a,b,hn,h=>by
  have hx:=h x Qo;have hn':=JC.mp hn
  have:=N7 a (b.erase x) hn'.2 λy hy=>by
   have hne:y≠x:=λe=>hn'.1 (e ▸ hy)
   exact(List.mem_erase_of_ne hne).mpr (h y (Qu _ hy))
  rw[List.length_erase_of_mem hx]at this;have hp:=Jy hx;rw[QB];omega
theorem Af{m:Nat}{T:List Int}(d:Nat)(hl:T.length<m)(hn:T.Nodup):∃k,k<m/\(∀j,j<k->(((d+j) % m:Nat):Int)∈T)/\(((d+k) % m:Nat):Int)∉T:=by
 have ex:∃k,k<m/\(((d+k) % m:Nat):Int)∉T:=by
  refine Classical.byContradiction λhno=>?_;have all:∀k,k<m->(((d+k) % m:Nat):Int)∈T:=λk hk=>Classical.byContradiction λz=>hno ⟨k,hk,z⟩
  have hsub:∀x:Nat,x<m->((x:Nat):Int)∈T:=λx hx=>by
   have h1:=all ((x+m-d % m) % m) (Nat.mod_lt _ (by omega));have e:(d+(x+m-d % m) % m) % m=x:=by have hdm:d % m<m:=Nat.mod_lt _ (by omega);rw[Nat.add_mod_mod,←Nat.mod_add_mod];rw[show d % m+(x+m-d % m)=x+m by omega,Nat.add_mod_right,Nat.mod_eq_of_lt hx]
   rw[e]at h1;exact h1
  have:=N7 ((Uo m).map λx:Nat=>(x:Int)) T (List.Pairwise.map _ (λa b h e=>h (by omega)) List.nodup_range) (λt ht=>by obtain⟨x,hx,rfl⟩:=Qs.mp ht;exact hsub x (QY.mp hx));rw[Qb,QS]at this;omega
 obtain⟨k,hk,hkn⟩:=ex;induction k using Nat.strongRecOn with
 |_ k ih=>
  by_cases h:∀j,j<k->(((d+j) % m:Nat):Int)∈T
  ·exact⟨k,hk,h,hkn⟩
  ·obtain⟨j,hj⟩:=Classical.not_forall.mp h;obtain⟨hj1,hj2⟩:=Classical.not_imp.mp hj;exact ih j hj1 (by omega) hj2
theorem P3{x:D}{m:Nat}(h:m<=1000):U9 (.list [x]) (.int m)=some (.list (Up m x)):=by
 rw[R8 ⟨by omega,by omega,by show 1*_<=_;omega⟩]
 congr 2
 rw[QX];clear h;induction m with
 |zero=>rfl
 |succ n ih=>rw[Q4,QP,ih,Q4];rfl
def szA(n m:Nat):List Int:=[3,2,(m:Int)+1]++Up m ((n:Int)+1)++Up m (m:Int)
theorem Oa(n m:Nat):(szA n m).length=3+m+m:=by unfold szA;rw[Qj,Qj,QE,QE];rfl
theorem GE{n m j:Nat}(h:j<m):(szA n m)[3+j]?=some ((n:Int)+1):=by
 unfold szA;rw[Qm (by rw[Qj,QE];show 3+j<3+m;omega),Qr (by show 3<=3+j;omega)]
 show(Up m ((n:Int)+1))[3+j-3]?=_
 rw[Nat.add_sub_cancel_left,Qw,Qq h]
theorem Dp{n m j:Nat}(h:j<m):(szA n m)[3+m+j]?=some (m:Int):=by
 unfold szA;have e:([3,2,(m:Int)+1]++Up m ((n:Int)+1)).length=3+m:=by rw[Qj,QE];rfl
 rw[Qr (by rw[e];omega),e,Nat.add_sub_cancel_left,Qw,Qq h]
section
variable{cs:List Int}{ls:L3}
def VZ(d:Int):Option Int:=if 0<d then some (d-1)else none
theorem Do(d:Int):oIx (.list [.none,.int (d-1)]) (.int (if decide (0<d)=true then 1 else 0))=some (UO (VZ d)):=by
 unfold VZ;by_cases h:0<d
 ·rw[QM h,Qq rfl,Qq h];exact KQ (j:=1) rfl
 ·rw[QC h,QG (by decide),QG h];exact KQ (j:=0) rfl
end
theorem GD{op:Int->Int->Option D}{j:Nat}{f:M D}{ρ ρ1 ρ':UE}{a b:Int}{d:D}(h0:ρ[j]?=some (some (.pub (.int a))))(h1:f ρ=.ok (.int b) ρ1)(h2:op a b=some d)(h3:j<ρ1.length)(h4:ρ1.set j (some (.pub d))=ρ'):Yq op j f ρ=.nx ρ':=by unfold Yq;rw[h0];dsimp only[sB];rw[h1];dsimp only;rw[h2];dsimp only;rw[Qq h3,h4]
theorem mulN{i j:Int}(h : -1000<j/\j<1000):ZB i j=some (.int (i*j)):=by unfold ZB;exact Qq (.inr ⟨by omega,by omega⟩)
theorem TC{b n:Int}(hb : -1000<b/\b<1000)(hn : -1000<=n/\n<=1000):K0 [.int b,.int n]=some (.int (b ^ n.toNat)):=by
 refine KW (ρ:=[pb (.int b),pb (.int n),none,none]) rfl ?_;unfold Vh;refine U2 (Ke UM (Qa rfl) rfl) ?_;apply Kp;apply Zg (λi ρ=>∃x3,ρ=[pb (.int b),pb (.int n),pb (.int (b ^ i)),x3])
 case h1=>exact Wr (UL (UF rfl) UQ) (Wx (by omega) (by omega))
 case h0=>exact⟨_,by rw[Int.pow_zero];rfl⟩
 case hst=>rintro i d ρ hi ⟨x3,rfl⟩;refine⟨_,UR (Qa rfl) rfl,?_⟩;unfold Oz;refine Ze (GD rfl (UF rfl) (mulN hb) (Qa rfl) rfl) ?_;exact K3 ⟨_,by rw[Int.pow_succ];rfl⟩
 case hend=>
  rintro ρ ⟨x3,rfl⟩;refine Kk (Kc (UF rfl) ?_);rw[YM]
  congr 4
  omega
def ZT:Ord->Int->Int->Int->Int
 |.firsts,b,M,r=>b ^ (M-r).toNat
 |.full,b,M,r=>b ^ M.toNat+b ^ (M-r).toNat
 |.lasts,b,M,r=>b ^ M.toNat-b ^ (r-1).toNat
theorem Al(o:Ord){b M r:Int}(hb : -1000<b/\b<1000)(hM:0<=M/\M<=100)(hr:0<=r/\r<=100):X7 [.str o.tx,.int b,.int M,.int r]=some (.int (ZT o b M r)):=by
 refine KW (ρ:=[pb (.str o.tx),pb (.int b),pb (.int M),pb (.int r)]) rfl ?_;unfold Vg;have p1:K0 [.int b,.int (M-r)]=some (.int (b ^ (M-r).toNat)):=TC hb ⟨by omega,by omega⟩;have p2:K0 [.int b,.int M]=some (.int (b ^ M.toNat)):=TC hb ⟨by omega,by omega⟩;have p3:K0 [.int b,.int (r-1)]=some (.int (b ^ (r-1).toNat)):=TC hb ⟨by omega,by omega⟩;apply Kp;apply Kh
 case h1=>exact Zq rfl UM (Lr o)
 case h2=>
  intro h;cases o with
  |firsts=>exact Kc (Ka (UL (UF rfl) (UL (UT (UF rfl) (UF rfl) ZO) UQ)) rfl p1) (ZQ rfl)
  |full=>cases h
  |lasts=>cases h
 case h3=>
  intro h;refine KB (Kk ?_);apply Kp;apply Kh
  case h1=>exact Zq rfl UM (P6 o)
  case h2=>
   intro h';cases o with
   |full=>exact Kc (UT (Ka (UL (UF rfl) (UL (UF rfl) UQ)) rfl p2) (Ka (UL (UF rfl) (UL (UT (UF rfl) (UF rfl) ZO) UQ)) rfl p1) KM) (ZQ rfl)
   |firsts=>cases h
   |lasts=>cases h'
  case h3=>
   intro h';refine KB (Kk ?_);cases o with
   |firsts=>cases h
   |full=>cases h'
   |lasts=>exact Kc (UT (Ka (UL (UF rfl) (UL (UF rfl) UQ)) rfl p2) (Ka (UL (UF rfl) (UL (UT (UF rfl) UM ZO) UQ)) rfl p3) ZO) rfl
def YS(ts:List Int)(b i r:Int):Int:=if i∈ts then(b-r)*b ^ (ts.length-1-ts.idxOf i)else 0
theorem MG{n:Nat}:∀{xs:List D},(∀x∈xs,PyData.weight x<=n)->PyData.weightAll xs<=xs.length*(n+1)
 |[],_=>by simp[PyData.weightAll]
 |x::xs,h=>by have h1:=h x Qo;have h2:=MG (xs:=xs) λy hy=>h y (Qu _ hy);rw[PyData.weightAll,QB,Nat.succ_mul];omega
theorem Ae{i:Int}(h:0<=i/\i<1000):(int i).weight<=10:=by
 simp only[PyData.weight];split
 ·omega
 ·rename_i hne;have h0:i.natAbs≠0:=by intro e;exact hne (by simpa using e)
  have:=(Nat.log2_lt h0 (k:=10)).mpr (by omega);omega
theorem AC{ts:List Int}(h:∀a∈ts,0<=a/\a<1000)(hl:ts.length<=1000):PyData.layable0 (.list (ts.map int))=true:=by
 unfold PyData.layable0;have h1:(Uq (ts.map int)).canLay0=true:=SF λx hx=>by obtain⟨y,_,rfl⟩:=Qs.mp hx;rfl
 have h2:(Uq (ts.map int)).depth<=64:=QQ (Od (n:=1) (RY λx hx=>by obtain⟨y,_,rfl⟩:=Qs.mp hx;exact Oe y)) (by decide)
 have h3:(Uq (ts.map int)).weight<=2 ^ 20:=by
  have:=MG (n:=10) (xs:=ts.map int) λx hx=>by obtain⟨y,hy,rfl⟩:=Qs.mp hx;exact Ae (h y hy)
  rw[Qb]at this;simp only[PyData.weight];omega
 rw[h1,QM h2,QM h3];rfl
theorem Dm{ts:List Int}{k:Int}(hb:∀a∈ts,0<=a/\a<1000)(hl:ts.length<=1000)(h:k∈ts):VR (.list (ts.map int)) [.int k]=some (.int (ts.idxOf k:Nat)):=by unfold VR;dsimp only;rw[VY];dsimp only;exact Qq ⟨AC hb hl,h⟩
theorem DR{t:Int}{r:List Int}:ZI (.int t) (.list (r.map int))=some (!r.contains t):=by unfold ZI;rw[Sh];rfl
theorem Ak{ts:List Int}{b i r:Int}(hb : -1000<b/\b<1000)(hr : -1000<r/\r<1000)(hl:ts.length<=100)(ht:∀a∈ts,0<=a/\a<1000):X6 [.list (ts.map int),.int b,.int i,.int r]=some (.int (YS ts b i r)):=by
 refine KW (ρ:=[pb (.list (ts.map int)),pb (.int b),pb (.int i),pb (.int r),none]) rfl ?_;unfold Vf YS;apply Kp;apply Kh
 case h1=>exact Zq rfl (UF rfl) DR
 case h2=>
  intro h;have:¬i∈ts:=by simpa using h
  rw[QG this];exact Kc UM (ZQ rfl)
 case h3=>
  intro h;have hm:i∈ts:=by simpa using h
  rw[Qq hm];refine KB (Kk ?_);have hi:=List.idxOf_lt_length_of_mem hm;have hlen:U6 [.list (ts.map int)]=some (.int ts.length):=by rw[Zc,Qb]
  refine U2 (Ke (UT (UT (K4 rfl hlen) UM ZO) (DD (UF rfl) (UL (UF rfl) UQ) (Dm ht (by omega) hm)) ZO) (Qa rfl) rfl) ?_;have hp:=TC (b:=b) (n:=(ts.length:Int)-1-(ts.idxOf i:Nat)) hb ⟨by omega,by omega⟩;have e:((ts.length:Int)-1-(ts.idxOf i:Nat)).toNat=ts.length-1-ts.idxOf i:=by omega
  rw[e]at hp;exact Kc (UT (UT (UF rfl) (UF rfl) ZO) (Ka (UL (UF rfl) (UL (UF rfl) UQ)) rfl hp) (TF (by omega) (by omega))) rfl
def Xc(old:Option LO)(i:Nat)(t:Int):Int:=match old with
 |none=>0
 |some ws=>if ws[i]?=some (some t)then 1 else 0
section
variable{cs:List Int}{ls:L3}{o:Ord}{old:Option LO}{ts:List Int}
def KH(ls:L3)(o:Ord)(old:Option LO)(ts:List Int)(i:Nat)(rs:List (List Int))(t:Int):Int:=
 (ZT o (ls.length+1) (lng ls) (Zs t rs)*(ls.length+1)+Xc old i t)*((lng ls:Int)+1) ^ ts.length+YS ts (lng ls+1) i (Zs t rs)
theorem DZ{b:Int}(h0:0<=b)(h:b<=8):∀{n k:Nat},n<=k->b ^ n<=8 ^ k:=λ{n k} hk=>by
 have e:b=((b.toNat:Nat):Int):=by omega
 rw[e];have h1:b.toNat ^ n<=8 ^ n:=Nat.pow_le_pow_left (by omega) n;have h2:8 ^ n<=8 ^ k:=Nat.pow_le_pow_right (by omega) hk;have h3:((b.toNat ^ n:Nat):Int)<=((8 ^ k:Nat):Int):=by omega
 rw[Int.natCast_pow,Int.natCast_pow]at h3;exact h3
theorem DY(g:Good cs ls)(ga:YV cs.length ls.length old ts){i:Nat}{rs:List (List Int)}(hi:ls[i]?=some rs)(t:Int):Y9 [U7 cs ls,Kx o old ts,.int (lng ls:Nat),.int i,.int t]=some (.int (KH ls o old ts i rs t)):=by
 have l7:=g.l7;have l1:=g.l1;have hL:lng ls<=5:=P7 l1 λrs h=>(g.rk rs h).few;have hrk:Zs t rs<=5:=by have:=N9 t rs;have:=(g.rk rs (Qn hi)).few;omega
 have htl:=ga.few;have hlt:i<ls.length:=(Qg.mp hi).1;refine KW (ρ:=[pb (U7 cs ls),pb (Kx o old ts),pb (.int (lng ls:Nat)),pb (.int i),pb (.int t),none,none,none,none,none,none,none,none]) rfl ?_;unfold Ve KH;refine U2 (VH (UF rfl) (KD rfl (U3 (UR (Qa rfl) rfl) (U3 (UR (Qa rfl) rfl) (U3 (UR (Qa rfl) rfl) KE))))) ?_;refine U2 (Ke (Ks rfl UM Wk) (Qa rfl) rfl) ?_;refine U2 (Ke (Ka (UL (Ks rfl (UF rfl) (Pp hi)) (UL (UF rfl) UQ)) rfl (Mf t rs)) (Qa rfl) rfl) ?_;have hll:U6 [.list (ls.map Ko)]=some (.int ls.length):=by rw[Zc,Qb]
 have htl':U6 [.list (ts.map int)]=some (.int ts.length):=by rw[Zc,Qb]
 refine U2 (Ke (UT (K4 rfl hll) UM KM) (Qa rfl) rfl) ?_
 have hk:∀ρ:UE,ρ[6]?=some (some (.pub (Z8 old)))->ρ[3]?=some (some (.pub (.int i)))->ρ[4]?=some (some (.pub (.int t))) ->
   mIf (KJ (UN (λd=>!isNon d) (UD 6)) (UH oEq (US 6 (UD 3)) (UD 4))) (UK (int 1)) (UK (.int 0)) ρ=.ok (.int (Xc old i t)) ρ:=λρ r6 r3 r4=>by
  cases old with
  |none=>exact HI (Os (Kl (UF r6))) UM
  |some ws=>
   have hw:ws.length=ls.length:=ga.len ws rfl;have hwi:ws[i]?=some ws[i]:=Qd (by omega);have hx:oIx (.list (ws.map UO)) (.int i)=some (UO ws[i]):=Ra (by omega)
   have ht:(KJ (UN (λd=>!isNon d) (UD 6)) (UH oEq (US 6 (UD 3)) (UD 4))) ρ=.ok (decide (ws[i]=some t)) ρ:=
    Oq (Kl (UF r6)) (UT (Ks r6 (UF r3) hx) (UF r4) (Se (b:=some t)))
   rw[M4 ht UM UM]
   congr 1
   unfold Xc;dsimp only;rw[hwi];by_cases h:ws[i]=some t
   ·rw[QM h,Qq rfl,Qq (by rw[h])]
   ·rw[QC h,QG (by decide),QG (λe=>h (Qt e))]
 refine U2 (Ke (hk _ rfl rfl rfl) (Qa rfl) rfl) ?_;have h1:=Al o (b:=(ls.length:Int)+1) (M:=(lng ls:Nat)) (r:=(Zs t rs:Nat)) ⟨by omega,by omega⟩ ⟨by omega,by omega⟩ ⟨by omega,by omega⟩;have h2:=TC (b:=(lng ls:Int)+1) (n:=(ts.length:Nat)) ⟨by omega,by omega⟩ ⟨by omega,by omega⟩;have h3:=Ak (ts:=ts) (b:=(lng ls:Int)+1) (i:=i) (r:=(Zs t rs:Nat)) ⟨by omega,by omega⟩ ⟨by omega,by omega⟩ (by omega) (λa ha=>by have:=ga.there a ha;omega);rw[QX]at h2;refine U2 (Ke (UT (UT (Ka (UL (UF rfl) (UL (UF rfl) (UL (UF rfl) (UL (UF rfl) UQ)))) rfl h1) (UF rfl) (Xg (by omega) (by omega))) (UF rfl) KM) (Qa rfl) rfl) ?_;have hp:((lng ls:Int)+1) ^ ts.length<=8 ^ 7:=DZ (by omega) (by omega) (by omega);have hp0:0<=((lng ls:Int)+1) ^ ts.length:=Int.pow_nonneg (by omega);exact Kc (UT (UT (UF rfl) (Ka (UL (UT (UF rfl) UM KM) (UL (K4 rfl htl') UQ)) rfl h2) (Xg (by omega) (by omega))) (Ka (UL (UF rfl) (UL (UT (UF rfl) UM KM) (UL (UF rfl) (UL (UF rfl) UQ)))) rfl h3) KM) rfl
end
theorem N6{s:D->UE->Option UE}{t:M Bool}{g:M D}(I:UE->Prop):∀(ds:List D)(qs:List (Option D))(ρ:UE)(es:List D),qs.length=ds.length ->
  (∀(i:Nat) d e,ds[i]?=some d->qs[i]?=some e->∀ρ,I ρ->∃ρ1,s d ρ=some ρ1/\t ρ1=.ok e.isSome ρ1/\(∀x,e=some x->g ρ1=.ok x ρ1)/\I (U8 ρ1))->I ρ->es.length+ds.length<=1000000->Kq s t g ds ρ es=some (es++qs.filterMap id)
 |[],[],ρ,es,_,_,_,_=>by rw[Kq];simp
 |d::r,e::q,ρ,es,hl,st,h0,hz=>by
  obtain⟨ρ1,e1,e2,e3,h1⟩:=st 0 d e rfl rfl ρ h0;rw[QB]at hz;have ih:=λes' hz'=>N6 I r q (U8 ρ1) es' (by simpa using hl) (λi d' e' x y=>st (i+1) d' e' (by simpa using x) (by simpa using y)) h1 hz'
  rw[Kq,e1];dsimp only;rw[e2];dsimp only;cases e with
  |none=>rw[if_neg (show ¬(none:Option D).isSome=true by simp),ih es (by omega)];rfl
  |some x=>rw[Qq (show(some x).isSome=true from rfl),e3 x rfl];dsimp only;rw[Qq (by omega),ih (es++[x]) (by rw[Qj,QU];omega),Jm];rfl
def K6(W:Nat->List (List Int)->Int->Int):Nat->L3->LO->LO
 |k,rs::ls,o::r=>(o.map (W k rs))::K6 W (k+1) ls r
 |_,_,_=>[]
theorem RJ{W:Nat->List (List Int)->Int->Int}:∀{k:Nat}{ls:L3}{ws:LO},ws.length=ls.length->(K6 W k ls ws).length=ws.length
 |_,[],[],_=>rfl
 |_,_::_,_::_,h=>by rw[K6,List.length_cons,RJ (by simpa using h),List.length_cons]
theorem RI{W:Nat->List (List Int)->Int->Int}:∀{k i:Nat}{ls:L3}{ws:LO}{rs:List (List Int)}{o:Option Int},ls[i]?=some rs->ws[i]?=some o->(K6 W k ls ws)[i]?=some (o.map (W (k+i) rs))
 |k,0,r::ls,o::ws,_,_,h1,h2=>by cases h1;cases h2;rfl
 |k,i+1,r::ls,o::ws,rs,o',h1,h2=>by rw[K6,List.getElem?_cons_succ,RI (k:=k+1) (rs:=rs) (o:=o') (by simpa using h1) (by simpa using h2),Nat.add_right_comm,Nat.add_assoc]
def KI(l:LO):Int:=(l.filterMap id).sum
theorem N5{o:Option Int}{l:LO}:KI (o::l)=o.getD 0+KI l:=by
 cases o with
 |none=>show KI l=0+KI l;omega
 |some x=>show(x::l.filterMap id).sum=_;rw[List.sum_cons];rfl
theorem Aj{a b:LO}:KI (a++b)=KI a+KI b:=by unfold KI;rw[List.filterMap_append,List.sum_append]
theorem DQ(l:LO):(l.map (Option.map int)).filterMap id=(l.filterMap id).map int:=by
 induction l with
 |nil=>rfl
 |cons o r ih=>cases o with
  |none=>exact ih
  |some x=>show int x::_=int x::_;rw[ih]
section
variable{cs:List Int}{ls:L3}{o:Ord}{old:Option LO}{ts:List Int}{ws:LO}
theorem My(g:Good cs ls)(ga:YV cs.length ls.length old ts)(hl:ws.length=ls.length):Y8 [U7 cs ls,Kx o old ts,U0 ws]=some (.int (KI (K6 (KH ls o old ts) 0 ls ws))):=by
 refine KW (ρ:=[pb (U7 cs ls),pb (Kx o old ts),pb (U0 ws),none]) rfl ?_;unfold Vd;refine U2 (Xy (Ka (UL (UF rfl) (UL (UF rfl) UQ)) rfl (P5 g ga))) ?_;refine U2 (Ke (Ka (UL (UF rfl) UQ) rfl (BH g)) (Qa rfl) rfl) ?_;have l7:=g.l7
 have hc:Kq (gT 2 (gNC (gN 4) (gNC (gN 5) (gN0)))) (UN (λd=>!isNon d) (UD 5)) (UP 5 Y9 (UI (UD 0) (UI (UD 1) (UI (UD 3) (UI (UD 4) (UI (UD 5) (UG))))))) (Zx 0 (ws.map UO)) (U8 [pb (U7 cs ls),pb (Kx o old ts),pb (U0 ws),pb (.int (lng ls:Nat))]++Up 2 none) []=some (((K6 (KH ls o old ts) 0 ls ws).filterMap id).map int):=by
  rw[←DQ];refine N6 (λρ=>∃x y,ρ=[pb (U7 cs ls),pb (Kx o old ts),pb (U0 ws),pb (.int (lng ls:Nat)),x,y]) _ _ _ _ (by rw[Qb,RJ hl,Ym,Qb]) ?_ ⟨none,none,rfl⟩ (by rw[Ym,Qb,QN];omega);rintro i d e hd he ρ ⟨x,y,rfl⟩;obtain⟨z,hz,rfl⟩:=Xf hd;rw[Qf]at hz;cases hwi:ws[i]? with
  |none=>rw[hwi]at hz;cases hz
  |some w=>
  rw[hwi]at hz;cases hz;have hil:i<ls.length:=by have:=(Qg.mp hwi).1;omega
  have hls:ls[i]?=some ls[i]:=Qd hil;rw[Qf,RI hls hwi]at he;cases he;rw[Jd];refine⟨_,KD rfl (U3 (UR (Qa rfl) rfl) (U3 (UR (Qa rfl) rfl) KE)),?_,?_,_,_,rfl⟩
  ·cases w with
   |none=>exact Kl (k:=λd=>!isNon d) (x:=PyData.none) (UF rfl)
   |some t=>exact Kl (k:=λd=>!isNon d) (x:=int t) (UF rfl)
  ·intro v hv;cases w with
   |none=>cases hv
   |some t=>cases hv;exact Ka (UL (UF rfl) (UL (UF rfl) (UL (UF rfl) (UL (UF rfl) (UL (UF rfl) UQ))))) rfl (DY g ga hls t)
 exact Kc (Zi (UL (Kl (ZE (Wq (UL (UF rfl) UQ) Ww) hc)) UQ) Nn) rfl
def YZ(ls:L3)(o:Ord)(old:Option LO)(ts:List Int)(a t:Int):Int:=KH ls o old ts a.toNat (ls.getD a.toNat []) t
end
theorem Mx{c s w dg x6:Option Sl}{m:Nat}{T:List Int}(hm:0<m):∀(k fuel d:Nat),(∀j,j<k->(((d+j) % m:Nat):Int)∈T)->(((d+k) % m:Nat):Int)∉T->d<m->k<fuel ->
  Yj (WB oIn (UD 7) 6) Sk fuel [w,c,s,pb (.int m),dg,x6,some (.own (T.map int)),pb (.int d)]=.nx [w,c,s,pb (.int m),dg,x6,some (.own (T.map int)),pb (.int (((d+k) % m:Nat):Int))]
 |0,fuel+1,d,_,hn,hd,_=>by
  have e0:(d+0) % m=d:=by rw[Nat.add_zero];exact Nat.mod_eq_of_lt hd
  rw[e0]at hn⊢;have e:(T.contains (d:Int))=false:=by simpa using hn
  rw[Yj,RN (r:=false) (UF rfl) rfl (by rw[Sh,e])];rfl
 |k+1,fuel+1,d,hj,hn,hd,hf=>by
  have h0:=hj 0 (by omega);rw[Nat.add_zero,Nat.mod_eq_of_lt hd]at h0;have e:(T.contains (d:Int))=true:=by simpa using h0
  rw[Yj,RN (r:=true) (UF rfl) rfl (by rw[Sh,e])];dsimp only;rw[Qq rfl]
  have hst:Sk [w,c,s,pb (.int m),dg,x6,some (.own (T.map int)),pb (.int d)]=.nx [w,c,s,pb (.int m),dg,x6,some (.own (T.map int)),pb (.int (((d+1) % m:Nat):Int))]:=by
   unfold Sk;refine Ke (UT (UT (UF rfl) UM KM) (UF rfl) (Wp (by omega))) (Qa rfl) ?_;have e1:((d+1:Nat):Int)=(d:Int)+1:=by omega
   have:((d:Int)+1) % (m:Int)=(((d+1) % m:Nat):Int):=by rw[Int.natCast_emod,e1]
   rw[this];rfl
  rw[hst];dsimp only;have e2:∀j,((d+1) % m+j) % m=(d+(j+1)) % m:=λj=>by rw[Nat.mod_add_mod];congr 1;omega
  have:=Mx (c:=c) (s:=s) (w:=w) (dg:=dg) (x6:=x6) (T:=T) hm k fuel ((d+1) % m) (λj hjk=>by rw[e2];exact hj (j+1) (by omega)) (by rw[e2];exact hn) (Nat.mod_lt _ hm) (by omega);rw[e2]at this;exact this
section
variable{cs:List Int}{ls:L3}
theorem DX(g:Good cs ls)(c s:Int):∃r,XY [U7 cs ls,.int c,.int s]=some r/\∃o old ts,r=Kx o old ts/\YV cs.length ls.length old ts:=by
 refine YT (ρ:=[pb (U7 cs ls),pb (.int c),pb (.int s),none,none,none,none,none]) rfl ?_;unfold WX;have l7:=g.l7;have l1:=g.l1;have c6:=g.c6;have c1:=g.c1;have hll:U6 [.list (ls.map Ko)]=some (.int ls.length):=by rw[Zc,Qb]
 have hlc:U6 [.list (cs.map int)]=some (.int cs.length):=by rw[Zc,Qb]
 generalize hm:ls.length=m at *;generalize hn:cs.length=n at *;refine U2 (Ke (Zi (UL (Ks rfl UM Wk) UQ) hll) (Qa rfl) rfl) ?_;have s1:UW (.list [.int 3,.int 2,.int ((m:Int)+1)]) (.list (Up m (.int ((n:Int)+1))))=some (.list (([3,2,(m:Int)+1]++Up m ((n:Int)+1)).map int)):=by rw[Xu (by rw[QE];show 3+m<=_;omega),QF,List.map_replicate];rfl
 have s2:UW (.list (([3,2,(m:Int)+1]++Up m ((n:Int)+1)).map int)) (.list (Up m (.int (m:Int))))=some (.list ((szA n m).map int)):=by rw[Xu (by rw[Qb,Qj,QE,QE];show 3+m+m<=_;omega)];unfold szA;rw[QF (l₂:=Up m (m:Int)),List.map_replicate (n:=m) (a:=(m:Int))]
 obtain⟨r,hF,dg,rfl,hdl,hdb⟩:=SK c s (sizes:=szA n m) (λx hx=>by
  unfold szA at hx;rcases QL.mp hx with hx|hx
  ·rcases QL.mp hx with hx|hx
   ·have hx:x=3∨x=2∨x=(m:Int)+1:=by simpa using hx
    omega
   ·rw[(JQ.mp hx).2];omega
  ·rw[(JQ.mp hx).2];omega) (by rw[Oa];omega)
 rw[Oa]at hdl;refine U2 (Ke (Ka (UL (UF rfl) (UL (UF rfl) (UL (UT (UT (Zt (UL UM (UL UM (UL (UT (UF rfl) UM KM) UQ))) (Qa rfl)) (UT (Zt (UL (UT (Zi (UL (Ks rfl UM TN) UQ) hlc) UM KM) UQ) (Qa rfl)) (UF rfl) (P3 (by omega))) s1) (UT (Zt (UL (UF rfl) UQ) (Qa rfl)) (UF rfl) (P3 (by omega))) s2) UQ))) rfl hF) (Qa rfl) rfl) ?_;have get:∀j,j<3+m+m->∃d,dg[j]?=some d:=λj hj=>⟨dg[j]'(by omega),Qd _⟩
 obtain⟨d0,e0⟩:=get 0 (by omega);obtain⟨d1,e1⟩:=get 1 (by omega);obtain⟨d2,e2⟩:=get 2 (by omega);have b0:=hdb 0 d0 3 e0 rfl;have b1:=hdb 1 d1 2 e1 rfl;have b2:=hdb 2 d2 ((m:Int)+1) e2 rfl;have i0:oIx (.list (dg.map int)) (.int 0)=some (.int d0):=KQ (j:=0) (by rw[Qf,e0];rfl);have i1:oIx (.list (dg.map int)) (.int 1)=some (.int d1):=KQ (j:=1) (by rw[Qf,e1];rfl);have i2:oIx (.list (dg.map int)) (.int 2)=some (.int d2):=KQ (j:=2) (by rw[Qf,e2];rfl);refine U2 (Ke UM (Qa rfl) rfl) ?_
 let ol:List Int:=(dg.drop 3).take m
 have oll:ol.length=m:=by show((dg.drop 3).take m).length=m;rw[Ju,JI];omega
 have olb:∀d∈ol,0<=d/\d<(n:Int)+1:=λd hd=>by
  obtain⟨j,hj,e⟩:=JX.mp hd;have hjm:j<m:=by omega
  refine hdb (3+j) d _ ?_ (GE hjm);have:ol[j]?=some d:=by rw[Qd hj,e]
  show dg[3+j]?=_;rw[←this];show _=((dg.drop 3).take m)[j]?;rw[List.getElem?_take,Qq hjm,List.getElem?_drop]
 have hcut:DL.cutD (dg.map int) (some 3) (some (3+(m:Int)))=ol.map int:=by
  rw[RC (by decide) (by omega) (by omega)];have t1:(3:Int).toNat=3:=rfl;have t2:(3+(m:Int)).toNat-(3:Int).toNat=m:=by omega
  rw[t2,t1]
 have step:Ho (sIf (UH oEq (US 4 (UK (.int 1))) (UK (.int 1))) (KP 5 (Zb (KF (ZW (UD 4) (UX (UK (.int 3)) λx=>UY (Yn x)) (UX (UH UW (UK (.int 3)) (UD 3)) λx=>UY (Yn x)))) 1 (gN 8) (UK true) (UH oIx (Kj (UI (UK .none) (UI (UH Kt (UD 8) (UK (.int 1))) (UG)))) (K1 Td (UI (UN Ur (KG (oIB λi j=>decide (j<i)) 8 (UK (.int 0)))) (UG)))))) (sNx))
   [pb (U7 cs ls),pb (.int c),pb (.int s),pb (.int m),pb (.list (dg.map int)),some (.pub .none),none,none]
   (λr=>∃old x6,r=.nx [pb (U7 cs ls),pb (.int c),pb (.int s),pb (.int m),pb (.list (dg.map int)),x6,none,none] /\
    (x6=some (.pub (Z8 old)) ∨ ∃ws,old=some ws/\x6=some (.own (ws.map UO)))/\(∀ws,old=some ws->ws.length=m)/\∀ws t,old=some ws->some t∈ws->0<=t/\t<n):=by
  have hc:∀a b:Option Sl,Kq (gN 8) (UK true) (UH oIx (Kj (UI (UK .none) (UI (UH Kt (UD 8) (UK (.int 1))) (UG)))) (K1 Td (UI (UN Ur (KG (oIB λi j=>decide (j<i)) 8 (UK (.int 0)))) (UG)))) (ol.map int) (U8 [pb (U7 cs ls),pb (.int c),pb (.int s),pb (.int m),pb (.list (dg.map int)),some (.pub .none),none,none]++Up 1 none) []=some ((ol.map VZ).map UO):=λ_ _=>by
   refine YN (λρ=>∃x,ρ=[pb (U7 cs ls),pb (.int c),pb (.int s),pb (.int m),pb (.list (dg.map int)),some (.pub .none),none,none,x]) _ _ _ _ (by simp only[Qb]) ?_ ⟨none,rfl⟩ (by rw[Qb,QN];omega);rintro i d e hd he ρ ⟨x,rfl⟩;rw[Qf]at hd;rw[Qf,Qf]at he;cases hw:ol[i]? with
   |none=>rw[hw]at hd;cases hd
   |some z=>
   rw[hw]at hd he;cases hd;cases he;exact⟨_,UR (Qa rfl) rfl,rfl,UT (Zt (UL UM (UL (UT (UF rfl) UM ZO) UQ)) (Qa rfl)) (Zi (UL (Kl (Zq rfl UM rfl)) UQ) rfl) (Do z),_,rfl⟩
  apply Kh
  case h1=>exact UT (Ks rfl UM i1) UM Wo
  case h2=>
   intro _;refine Ze (Zz (ZE (K7 (Sa (UF rfl) (XA UM) (XA (UT UM (UF rfl) KM)) (by rw[Sq,hcut])) Zp) (hc none none)) (Qa rfl) rfl) ?_;refine⟨some (ol.map VZ),_,rfl,.inr ⟨_,rfl,rfl⟩,λws e=>?_,λws t e ht=>?_⟩
   ·cases e;rw[Qb];exact oll
   ·cases e;obtain⟨d,hd,e⟩:=Qs.mp ht;have:=olb d hd;unfold VZ at e;split at e
    ·cases e;omega
    ·cases e
  case h3=>exact λ_=>KB ⟨none,_,rfl,.inl rfl,(λws e=>by cases e),(λws t e=>by cases e)⟩
 refine Kp (Ot step λr hr=>?_);obtain⟨old,x6,rfl,hx6,hol,hob⟩:=hr;refine Kk ?_;refine U2 (Zz (YW UQ (Qa rfl)) (Qa rfl) rfl) ?_;obtain⟨k2,rfl⟩:∃k:Nat,d2=k:=⟨d2.toNat,by omega⟩
 let tl:List Int:=(dg.drop (3+m)).take k2
 have tll:tl.length=k2:=by show((dg.drop (3+m)).take k2).length=k2;rw[Ju,JI];omega
 have tlb:∀j d,tl[j]?=some d->0<=d/\d<(m:Int):=λj d hj=>by
  have hjl:j<k2:=by have:=(Qg.mp hj).1;omega
  refine hdb (3+m+j) d _ ?_ (Dp (by omega));rw[←hj];show _=((dg.drop (3+m)).take k2)[j]?;rw[List.getElem?_take,Qq hjl,List.getElem?_drop]
 have hcut2:DL.cutD (dg.map int) (some (3+(m:Int))) (some (3+(m:Int)+(k2:Int)))=tl.map int:=by
  rw[RC (by omega) (by omega) (by omega)];have t1:(3+(m:Int)).toNat=3+m:=by omega
  have t2:(3+(m:Int)+(k2:Int)).toNat-(3+(m:Int)).toNat=k2:=by omega
  rw[t2,t1]
 apply Kp;apply Zg (λi ρ=>∃(T:List Int)(x8:Option Sl),ρ=[pb (U7 cs ls),pb (.int c),pb (.int s),pb (.int m),pb (.list (dg.map int)),x6,some (.own (T.map int)),x8]/\T.length=i/\T.Nodup/\∀a∈T,0<=a/\a<(m:Int))
 case h1=>exact K7 (Sa (UF rfl) (XA (UT UM (UF rfl) KM)) (XA (UT (UT UM (UF rfl) KM) (Ks rfl UM i2) KM)) (by rw[Sq,hcut2])) Zp
 case h0=>exact⟨[],_,rfl,rfl,Ua,λ_ h=>by cases h⟩
 case hst=>
  rintro i d ρ hi ⟨T,x8,rfl,hT,hTn,hTb⟩;rw[Qf]at hi;cases hw:tl[i]? with
  |none=>rw[hw]at hi;cases hi
  |some z=>
  rw[hw]at hi;cases hi;have hz:=tlb i z hw;have hil:i<k2:=by have:=(Qg.mp hw).1;omega
  obtain⟨zz,rfl⟩:∃k:Nat,z=k:=⟨z.toNat,by omega⟩
  refine⟨_,UR (Qa rfl) rfl,?_⟩;unfold OO;obtain⟨k,hk,hk1,hk2⟩:=Af (m:=m) (T:=T) zz (by omega) hTn;refine U2 (Mx (by omega) k 1000 zz hk1 hk2 (by omega) (by omega)) ?_;refine Ze (YU rfl (UF rfl) rfl (by rw[Qb];omega) rfl) ?_;refine K3 ⟨T++[(((zz+k) % m:Nat):Int)],_,by rw[QF (l₁:=T) (f:=int)];rfl,by rw[Qj,hT];rfl,?_,λa ha=>?_⟩
  ·refine List.nodup_append.mpr ⟨hTn,List.nodup_cons.mpr ⟨(by simp),List.nodup_nil⟩,λa ha b hb e=>?_⟩;rw[Qy.mp hb]at e;exact hk2 (e ▸ ha)
  ·rcases QL.mp ha with h|h
   ·exact hTb a h
   ·rw[Qy.mp h];have:=Nat.mod_lt (zz+k) (show 0<m by omega);exact⟨by omega,by omega⟩
 case hend=>
  rintro ρ ⟨T,x8,rfl,hT,hTn,hTb⟩;refine Kk ?_
  obtain⟨o,ho⟩:∃o:Ord,oIx (.list [.str "firsts", .str "full", .str "lasts"]) (.int d0)=some (.str o.tx):=by
   have:d0=0∨d0=1∨d0=2:=by omega
   rcases this with rfl|rfl|rfl
   ·exact⟨.firsts,KQ (j:=0) rfl⟩
   ·exact⟨.full,KQ (j:=1) rfl⟩
   ·exact⟨.lasts,KQ (j:=2) rfl⟩
  have ga:YV n m old T:=⟨hol,hob,hTn,hTb⟩;rcases hx6 with rfl|⟨ws,rfl,rfl⟩
  ·exact Kc (Tl (UL (UT (Zt (UL UM (UL UM (UL UM UQ))) (Qa rfl)) (Ks rfl UM i0) ho) (UL (UF rfl) (UL (ZG rfl rfl) UQ))) (Qa rfl)) ⟨_,rfl,o,_,T,rfl,ga⟩
  ·exact Kc (Tl (UL (UT (Zt (UL UM (UL UM (UL UM UQ))) (Qa rfl)) (Ks rfl UM i0) ho) (UL (ZG rfl rfl) (UL (ZG rfl rfl) UQ))) (Qa rfl)) ⟨_,rfl,o,some ws,T,rfl,ga⟩
end
section
variable{cs:List Int}{ls:L3}{ws:LO}
theorem A1(g:Good cs ls):XZ [U7 cs ls]=some (.int (lng ls:Nat)):=by
 refine KW (ρ:=[pb (U7 cs ls)]) rfl ?_;unfold WZ
 have hc:Kq (gN 1) (UK true) (KN 1) (ls.map Ko) (U8 [pb (U7 cs ls)]++Up 1 none) []=some ((ls.map λrs=>(rs.length:Int)).map int):=by
  refine YN (λρ=>∃x,ρ=[pb (U7 cs ls),x]) _ _ _ _ (by rw[Qb,Qb,Qb]) ?_ ⟨none,rfl⟩ (by rw[Qb,QN];have:=g.l7;omega);rintro i d e hd he ρ ⟨x,rfl⟩;rw[Qf]at hd;rw[Qf,Qf]at he;cases hl:ls[i]? with
  |none=>rw[hl]at hd;cases hd
  |some rs=>
  rw[hl]at hd he;cases hd;cases he;exact⟨_,UR (Qa rfl) rfl,rfl,K4 rfl (N8 rs),_,rfl⟩
 refine Kc (Zi (UL (Kl (ZE (K7 (Ks rfl UM Wk) Zp) hc)) UQ) (RE (by rw[Qb];have:=g.l1;omega))) ?_;rw[Rm g.l1]
theorem Ai{i:Nat}{rs:List (List Int)}(h:ls[i]?=some rs)(t:Int):X0 [U7 cs ls,.int i,.int t]=some (.int (Zs t rs:Nat)):=by
 refine KW (ρ:=[pb (U7 cs ls),pb (.int i),pb (.int t),none,none]) rfl ?_;unfold W0;apply Kp;apply Zg (λi' ρ=>(∃x2 x3,ρ=[pb (U7 cs ls),pb (.int i),pb (.int t),x2,x3])/\∀j r,j<i'->rs[j]?=some r->r.contains t=false)
 case h1=>exact Wq (UL (UT (Ks rfl UM Wk) (UF rfl) (Pp h)) UQ) Ww
 case h0=>exact⟨⟨_,_,rfl⟩,λj r h=>absurd h (JT _)⟩
 case hst=>
  rintro k d ρ hi ⟨⟨x2,x3,rfl⟩,hb⟩;obtain⟨x,hx,rfl⟩:=Xf hi;rw[Qf]at hx;cases hr:rs[k]? with
  |none=>rw[hr]at hx;cases hx
  |some r=>
   rw[hr]at hx;cases hx;refine⟨_,KD rfl (U3 (UR (Qa rfl) rfl) (U3 (UR (Qa rfl) rfl) KE)),?_⟩;unfold Oy;apply Kh
   case h1=>exact Zq rfl (UF rfl) (Ro t r)
   case h2=>
    intro hh;refine Kc (UT (UF rfl) UM KM) (RD ?_);rw[NM hr hh hb];refine⟨?_⟩
    congr 2
    omega
   case h3=>
    intro hh;refine KB (K3 ⟨⟨_,_,rfl⟩,λj r' hj e=>?_⟩);rcases Nat.lt_succ_iff_lt_or_eq.mp hj with hj|rfl
    ·exact hb j r' hj e
    ·rw[hr]at e;cases e;exact hh
 case hend=>rintro ρ ⟨⟨x2,x3,rfl⟩,hb⟩;refine Kk (Kc UM ?_);rw[NL (λj r hj e=>hb j r (by rw[Ym,Qb];exact hj) e)];rfl
end
theorem DP{xs:List D}{a b:Option Int}:(DL.cutD xs a b).length<=xs.length:=by unfold DL.cutD;rw[Ju,JI];omega
theorem DO{xs:List D}{a b:Option Int}{x:D}(h:x∈DL.cutD xs a b):x∈xs:=by unfold DL.cutD at h;exact List.mem_of_mem_drop (List.mem_of_mem_take h)
theorem DW{ns:List Int}{n:Int}{a b:Option Int}{i:Nat}{x:D}(h:(int n::DL.cutD (ns.map int) a b)[i]?=some x):∃c:Int,x=.int c:=by
 have hm:=Qn h;rcases QR.mp hm with rfl|hm
 ·exact⟨n,rfl⟩
 ·obtain⟨c,_,rfl⟩:=Qs.mp (DO hm);exact⟨c,rfl⟩
theorem DV{ns:List Int}{n:Int}{a b:Option Int}(h:ns.length<=1000):UW (.list [.int n]) (.list (DL.cutD (ns.map int) a b))=some (.list (int n::DL.cutD (ns.map int) a b)):=Xu (by
 have:=DP (xs:=ns.map int) (a:=a) (b:=b);rw[Qb]at this;show 1+_<=_
 omega)
def whB:D->Bool
 |.int _=>true
 |_=>false
def Yy(n:Int):D->Bool
 |.int i=>decide (0<=i)&&decide (i<n)
 |_=>false
def whI:D->Option Int
 |.int i=>some i
 |_=>none
theorem RW(d:D):Yh [d]=some (.bool (whB d)):=by
 cases d with
 |dict kvs=>exact KW (ρ:=[pb (.dict kvs)]) rfl (Kc (Xz (t:=false) (u:=false) (HC (UF rfl)) λz=>by cases z) rfl)
 |_=>rfl
theorem DU(d:D)(n:Int):KR [d,.int n]=some (.bool (Yy n d)):=by
 refine KW (ρ:=[pb d,pb (.int n)]) rfl ?_;unfold XJ;cases d with
 |int i=>exact Kc (Xz (t:=true) (u:=decide (0<=i)&&decide (i<n)) (Ka (UL (UF rfl) UQ) rfl (RW (.int i))) (λ_=>Kl (Ss UM (UF rfl) rfl (λ_=>UF rfl) (λ_=>rfl)))) rfl
 |_=>exact Kc (Xz (t:=false) (u:=false) (Ka (UL (UF rfl) UQ) rfl (RW _)) (λz=>by cases z)) rfl
theorem Nh{n:Int}{d:D}(h:Yy n d=true):∃i,d=.int i/\0<=i/\i<n:=by
 cases d with
 |int i=>have h:(decide (0<=i)&&decide (i<n))=true:=h;simp only[Q2,Jn]at h;exact⟨i,rfl,h⟩
 |_=>cases h
theorem DT{q:D->Bool}(xs:List D):Zn [.list (xs.map λd=>.bool (q d))]=some (.bool (xs.all q)):=by
 have:(xs.map λd=>Ur (q d))=(xs.map q).map Ur:=by rw[QT];rfl
 rw[this,Oo]
 congr 2
 rw[J8];rfl
theorem R1{ns:List Int}:∀i,(PyProof.Rows.firstMet (λi=>ns.getD i 0) i).length<=i:=by
 intro i;induction i with
 |zero=>exact Qp _
 |succ i ih=>
  rw[PyProof.Rows.firstMet_succ];unfold PyProof.Rows.step_dedup;split
  ·omega
  ·rw[Qj,QU];omega
theorem AB{ns:List Int}(h:Zk ns=ns.length):ns.Nodup:=by
 unfold Zk at h
 have key:∀i,i<=ns.length->(PyProof.Rows.firstMet (λi=>ns.getD i 0) i).length=i->(ns.take i).Nodup:=by
  intro i;induction i with
  |zero=>intro _ _;simp
  |succ i ih=>
   intro hi e;rw[PyProof.Rows.firstMet_succ]at e;unfold PyProof.Rows.step_dedup at e;cases hany:(PyProof.Rows.firstMet (λi=>ns.getD i 0) i).any (· == ns.getD i 0)with
   |true=>rw[hany,Qq rfl]at e;have:=R1 (ns:=ns) i;omega
   |false=>
    rw[hany,QG (by decide),Qj]at e;have e:(PyProof.Rows.firstMet (λi=>ns.getD i 0) i).length=i:=by simpa using e
    have ih:=ih (by omega) e;rw[List.take_succ_eq_append_getElem (by omega),JV];refine⟨ih,by simp,λa ha b hb=>?_⟩;rw[Qy]at hb;subst hb;rw[PyProof.Rows.firstMet_any,List.any_eq_false]at hany;obtain⟨j,hj,rfl⟩:=List.mem_take_iff_getElem.mp ha;have hj':j<i:=by have:=hj;omega
    have:=hany (ns.getD j 0) (Qs.mpr ⟨j,QY.mpr hj',rfl⟩);have l1:j<ns.length:=by omega
    have l2:i<ns.length:=by omega
    simp only[List.getD,Qd l1,Qd l2,JL,beq_iff_eq]at this;exact this
 have:=key ns.length (Qp _) h;rwa[JN]at this
theorem GC{f g:M Bool}{ρ:UE}{t u:Bool}(h1:f ρ=.ok t ρ)(h2:t=true->g ρ=.ok u ρ)(h3:t=false->u=false):KJ f g ρ=.ok u ρ:=by
 have:=Pz h1 h2;cases t with
 |true=>exact this
 |false=>rw[h3 rfl];exact this
theorem GB{j:Nat}{f:M (List D)}{ρ ρ1 ρ':UE}{ds0 ds es:List D}(h0:ρ[j]?=some (some (.own ds0)))(h1:f ρ=.ok es ρ1)(h2:ρ1[j]?=some (some (.own ds)))(h3:ds.length+es.length<=1000000)(h4:ρ1.set j (some (.own (ds++es)))=ρ'):Y0 j f ρ=.nx ρ':=by unfold Y0;rw[No h0];dsimp only;unfold sB;rw[h1];dsimp only;rw[No h2];dsimp only;rw[Qq h3,h4]
section
variable{cs:List Int}{ls:L3}{o:Ord}{old:Option LO}{ts:List Int}
theorem Mc{ts:List Int}{b a r x:Int}(hn:(ts++[x]).Nodup):YS (ts++[x]) b a r=YS ts b a r*b+if x=a then b-r else 0:=by
 have hx:x∉ts:=λz=>(List.nodup_append.mp hn).2.2 x z x (Qy.mpr rfl) rfl;unfold YS
 by_cases h:a∈ts
 ·have hxa:¬x=a:=λe=>hx (e ▸ h)
  have hlt:=List.idxOf_lt_length_of_mem h;rw[Qq (Q6 _ h),Qq h,QG hxa,List.idxOf_append,Qq h,Qj,QU,show ts.length+1-1-ts.idxOf a=(ts.length-1-ts.idxOf a)+1 by omega,Int.pow_succ,Int.add_zero,Int.mul_assoc]
 ·rw[QG h,Int.zero_mul,J7];by_cases e:x=a
  ·subst e;rw[if_pos (by simp),if_pos rfl,List.idxOf_append,if_neg h,List.length_append,List.length_singleton,List.idxOf_cons_self,show ts.length+1-1-(0+ts.length)=0 by omega,Int.pow_zero,Int.mul_one]
  ·rw[if_neg (by simp[h];exact λz=>e z.symm),if_neg e]
def pwL(b:Int)(n:Nat):List Int:=(Uo (n+1)).map λj:Nat=>b ^ j
theorem P9{b:Int}{n j:Nat}(h:j<=n):(pwL b n)[j]?=some (b ^ j):=by unfold pwL;rw[Qf,List.getElem?_range (by omega)];rfl
theorem P8{b:Int}{n:Nat}:(pwL b n).length=n+1:=by unfold pwL;rw[Qb,QS]
theorem DN{b:Int}{n:Nat}:pwL b (n+1)=pwL b n++[b ^ n*b]:=by unfold pwL;rw[List.range_succ,QF,←Int.pow_succ];rfl
theorem SY{b:Int}{n:Nat}{k:Int}(h0:0<=k)(h:k<=n):oIx (.list ((pwL b n).map int)) (.int k)=some (.int (b ^ k.toNat)):=by
 have e:k=((k.toNat:Nat):Int):=by omega
 rw[e];refine KQ ?_;rw[Qf,P9 (by omega)];rfl
theorem DM{ws:LO}{i:Nat}{t:Int}(h:i<ws.length):oEq (UO ws[i]) (.int t)=some (decide (ws[i]=some t)):=Se (b:=some t)
def Ord.isL:Ord->Bool
 |.lasts=>true
 |_=>false
theorem Lq(o:Ord):oEq (.str o.tx) (.str "lasts")=some o.isL:=by cases o<;>decide +kernel
theorem AA(g:Good cs ls)(ga:YV cs.length ls.length old ts){i:Nat}{rs:List (List Int)}(hi:ls[i]?=some rs){t:Int}(ht:t∈rs.flatten):XV [U7 cs ls,Kx o old ts,.int i,.int t]=some (.int (KH ls o old ts i rs t)):=by
 have l7:=g.l7;have l1:=g.l1;have hL:lng ls<=5:=P7 l1 λrs h=>(g.rk rs h).few;have hrs:rs∈ls:=Qn hi;have hrl:=HZ hrs;have hrk:Zs t rs<=lng ls:=by have:=N9 t rs;omega
 have hrp:1<=Zs t rs:=by have:=Me ht;omega
 have htl:=ga.few;have hlt:i<ls.length:=(Qg.mp hi).1;refine KW (ρ:=[pb (U7 cs ls),pb (Kx o old ts),pb (.int i),pb (.int t),none,none,none,none,none,none,none,none,none,none,none]) rfl ?_;unfold WV;refine U2 (VH (UF rfl) (KD rfl (U3 (UR (Qa rfl) rfl) (U3 (UR (Qa rfl) rfl) (U3 (UR (Qa rfl) rfl) KE))))) ?_;have hll:U6 [.list (ls.map Ko)]=some (.int ls.length):=by rw[Zc,Qb]
 refine U2 (Ke (UT (Zi (UL (Ks rfl UM Wk) UQ) hll) UM KM) (Qa rfl) rfl) ?_;refine U2 (Ke (Ka (UL (UF rfl) UQ) rfl (A1 g)) (Qa rfl) rfl) ?_;refine U2 (Ke (Ka (UL (UF rfl) (UL (UF rfl) (UL (UF rfl) UQ))) rfl (Ai hi t)) (Qa rfl) rfl) ?_;refine U2 (Zz (YW (UL UM UQ) (Qa rfl)) (Qa rfl) rfl) ?_
 let S0:Option Sl:=some (.pub (U7 cs ls))
 let S1:Option Sl:=some (.pub (Kx o old ts))
 let S2:Option Sl:=some (.pub (.int i))
 let S3:Option Sl:=some (.pub (.int t))
 let S4:Option Sl:=some (.pub (.str o.tx))
 let S5:Option Sl:=some (.pub (Z8 old))
 let S6:Option Sl:=some (.pub (.list (ts.map int)))
 let b:Int:=(ls.length:Int)+1
 let M:Nat:=lng ls
 let r:Nat:=Zs t rs
 let S7:Option Sl:=some (.pub (.int b))
 let S8:Option Sl:=some (.pub (.int (M:Int)))
 let S9:Option Sl:=some (.pub (.int (r:Int)))
 apply Kp;apply Zg (λj ρ=>∃x11,ρ=[S0,S1,S2,S3,S4,S5,S6,S7,S8,S9,some (.own ((pwL b j).map int)),x11,none,none,none])
 case h1=>exact Wr (UL (UF rfl) UQ) (Wx (by omega) (by omega))
 case h0=>exact⟨_,rfl⟩
 case hst=>
  rintro j d ρ hj ⟨x11,rfl⟩;refine⟨_,UR (Qa rfl) rfl,?_⟩;unfold OT;obtain⟨_,hjl⟩:=Wv hj
  have hlast:oIx (.list ((pwL b j).map int)) (.int (-1))=some (.int (b ^ j)):=Rp (by
   rw[Jq,Qb,P8,Qf,Nat.add_sub_cancel,P9 (Qp j)]
   rfl)
  refine Ze (YU rfl (UT (VI rfl (Tk UM) rfl hlast) (UF rfl) (Xg (by omega) (by omega))) rfl (by rw[Qb,P8];omega) rfl) (K3 ⟨some (.pub d),?_⟩);rw[DN,QF];rfl
 case hend=>
  rintro ρ ⟨x11,rfl⟩;have er:(Zv 0 (M:Int)).length=M:=by rw[YM];omega
  rw[er];refine Kk ?_
  let S10:Option Sl:=some (.own ((pwL b M).map int))
  have e1:((M:Int)-(r:Int)).toNat=M-r:=by omega
  have p1:oIx (.list ((pwL b M).map int)) (.int ((M:Int)-(r:Int)))=some (.int (b ^ (M-r))):=by rw[SY (by omega) (by omega),e1]
  have p2:oIx (.list ((pwL b M).map int)) (.int (M:Int))=some (.int (b ^ M)):=by rw[SY (by omega) (by omega)];rfl
  have p3:oIx (.list ((pwL b M).map int)) (.int ((r:Int)-1))=some (.int (b ^ (r-1))):=by rw[SY (by omega) (by omega),show((r:Int)-1).toNat=r-1 by omega]
  refine U2 (ρ1:=[S0,S1,S2,S3,S4,S5,S6,S7,S8,S9,S10,x11,pb (.int (b ^ (M-r))),none,none]) (Ke (VI rfl (UT (UF rfl) (UF rfl) ZO) rfl p1) (Qa rfl) rfl) ?_
  have eo:ZT o b M r=match o with | .firsts=>b ^ (M-r) | .full=>b ^ (M-r)+b ^ M | .lasts=>b ^ M-b ^ (r-1):=by
   cases o with
   |firsts=>show b ^ ((M:Int)-(r:Int)).toNat=_;rw[e1]
   |full=>show b ^ ((M:Int)).toNat+b ^ ((M:Int)-(r:Int)).toNat=_;rw[e1,Int.add_comm];rfl
   |lasts=>show b ^ ((M:Int)).toNat-b ^ ((r:Int)-1).toNat=_;rw[show((r:Int)-1).toNat=r-1 by omega];rfl
  have done:∀w:Int,w=ZT o b M r->Ho (UJ (UU 12 (UH U9 (UD 12) (UD 7)))
    (UJ (sIf (KJ (UN (λd=>!isNon d) (UD 5)) (UH oEq (US 5 (UD 2)) (UD 3)))
    (UU 12 (UH UW (UD 12) (UK (.int 1))))
    (sNx))
    (UJ (UU 13 (UK (.int 0)))
    (UJ (Kd (KF (UD 6)) (gN 14) Sm)
    (UV (UH UW (UD 12) (UD 13))))))) [S0,S1,S2,S3,S4,S5,S6,S7,S8,S9,S10,x11,pb (.int w),none,none] (λo'=>o'=.rt (.int (KH ls o old ts i rs t))):=by
   rintro w rfl;refine U2 (ρ1:=[S0,S1,S2,S3,S4,S5,S6,S7,S8,S9,S10,x11,pb (.int (ZT o b M r*b)),none,none]) (Ke (UT (UF rfl) (UF rfl) (Xg (by omega) (by omega))) (Qa rfl) rfl) ?_
   have rest:∀v:Int,v=ZT o b M r*b+Xc old i t->Ho (UJ (UU 13 (UK (.int 0)))
    (UJ (Kd (KF (UD 6)) (gN 14) Sm)
    (UV (UH UW (UD 12) (UD 13))))) [S0,S1,S2,S3,S4,S5,S6,S7,S8,S9,S10,x11,pb (.int v),none,none] (λo'=>o'=.rt (.int (KH ls o old ts i rs t))):=by
    intro v hv;refine U2 (Ke UM (Qa rfl) rfl) ?_;apply Kp;apply Zg (λj ρ=>∃x14,ρ=[S0,S1,S2,S3,S4,S5,S6,S7,S8,S9,S10,x11,pb (.int (v*((M:Int)+1) ^ j)),pb (.int (YS (ts.take j) ((M:Int)+1) i r)),x14])
    case h1=>exact K7 (UF rfl) Zp
    case h0=>exact⟨none,by rw[Int.pow_zero,Int.mul_one];rfl⟩
    case hst=>
     rintro j d ρ hj ⟨x14,rfl⟩;rw[Qf]at hj;cases hz:ts[j]? with
     |none=>rw[hz]at hj;cases hj
     |some a=>
     rw[hz]at hj;cases hj;have hjl:j<ts.length:=(Qg.mp hz).1;have ha:ts[j]=a:=(Qg.mp hz).2;have hts:ts.take (j+1)=ts.take j++[a]:=by rw[List.take_succ_eq_append_getElem hjl,ha]
     have hnd:(ts.take j++[a]).Nodup:=by rw[←hts];exact List.Nodup.sublist (List.take_sublist _ _) ga.once
     refine⟨_,UR (Qa rfl) rfl,?_⟩;unfold Sm;refine U2 (ρ1:=[S0,S1,S2,S3,S4,S5,S6,S7,S8,S9,S10,x11,pb (.int (v*((M:Int)+1) ^ (j+1))),pb (.int (YS (ts.take j) ((M:Int)+1) i r)),pb (.int a)]) (Ke (UT (UF rfl) (UT (UF rfl) UM KM) (Xg (by omega) (by omega))) (Qa rfl) (by rw[Int.mul_assoc,←Int.pow_succ];rfl)) ?_;refine U2 (ρ1:=[S0,S1,S2,S3,S4,S5,S6,S7,S8,S9,S10,x11,pb (.int (v*((M:Int)+1) ^ (j+1))),pb (.int (YS (ts.take j) ((M:Int)+1) i r*((M:Int)+1))),pb (.int a)]) (Ke (UT (UF rfl) (UT (UF rfl) UM KM) (Xg (by omega) (by omega))) (Qa rfl) rfl) ?_;refine Kh (Zq rfl (UF rfl) Wo) (λhh=>?_) (λhh=>?_)
     ·have e:a=(i:Int):=by simpa using hh
      refine Ze (Ke (UT (UT (UT (UF rfl) (UF rfl) KM) UM KM) (UF rfl) ZO) (Qa rfl) rfl) (K3 ⟨some (.pub (.int a)),?_⟩);rw[hts,Mc hnd,Qq e];have:YS (ts.take j) ((M:Int)+1) i r*((M:Int)+1)+(M:Int)+1-(r:Int)=YS (ts.take j) ((M:Int)+1) i r*((M:Int)+1)+((M:Int)+1-(r:Int)):=by omega
      rw[←this];rfl
     ·have e:¬a=(i:Int):=by simpa using hh
      refine KB (K3 ⟨some (.pub (.int a)),?_⟩);rw[hts,Mc hnd,QG e,Int.add_zero]
    case hend=>rintro ρ ⟨x14,rfl⟩;refine Kk (Kc (UT (UF rfl) (UF rfl) KM) ?_);rw[Qb,JN,hv];rfl
   have hkk:KJ (UN (λd=>!isNon d) (UD 5)) (UH oEq (US 5 (UD 2)) (UD 3)) [S0,S1,S2,S3,S4,S5,S6,S7,S8,S9,S10,x11,pb (.int (ZT o b M r*b)),none,none]=.ok (decide (Xc old i t=1)) [S0,S1,S2,S3,S4,S5,S6,S7,S8,S9,S10,x11,pb (.int (ZT o b M r*b)),none,none]:=by
    cases old with
    |none=>exact Os (Kl (k:=λd=>!isNon d) (x:=PyData.none) (UF rfl))
    |some ws=>
     have hw:ws.length=ls.length:=ga.len ws rfl;have hwi:ws[i]?=some ws[i]:=Qd (by omega);have hx:oIx (.list (ws.map UO)) (.int i)=some (UO ws[i]):=Ra (by omega)
     have e:decide (Xc (some ws) i t=1)=decide (ws[i]=some t):=by
      refine decide_eq_decide.mpr ?_
      show(if ws[i]?=some (some t)then(1:Int)else 0)=1 ↔ _
      rw[hwi];by_cases z:ws[i]=some t
      ·rw[if_pos (by rw[z])];simp[z]
      ·rw[if_neg (λy=>z (Option.some.inj y))];simp[z]
     rw[e];exact Oq (Kl (k:=λd=>!isNon d) (x:=Z8 (some ws)) (UF rfl)) (UT (Ks rfl (UF rfl) hx) (UF rfl) (DM (by omega)))
   apply Kp;refine Kh hkk (λhh=>?_) (λhh=>?_)
   ·have e:Xc old i t=1:=by simpa using hh
    exact Ze (Ke (UT (UF rfl) UM KM) (Qa rfl) rfl) (Kk (rest _ (by rw[e])))
   ·have e:Xc old i t=0:=by
     have hn:¬Xc old i t=1:=by simpa using hh
     unfold Xc at hn⊢;split at hn
     ·rfl
     ·split at hn
      ·exact absurd rfl hn
      ·rename_i hz;rw[QG hz]
    exact KB (Kk (rest _ (by rw[e,Int.add_zero])))
  have f2:=Lq o;apply Kp;refine Kh (Zq rfl UM (P6 o)) (λhh=>?_) (λhh=>?_)
  ·cases o with
   |full=>refine Ze (Ke (UT (UF rfl) (VI rfl (UF rfl) rfl p2) KM) (Qa rfl) rfl) (Kk ?_);apply Kp;exact Kh (b:=false) (Zq rfl UM f2) (λz=>by cases z) λ_=>KB (Kk (done _ eo.symm))
   |firsts=>cases hh
   |lasts=>cases hh
  ·refine KB (Kk ?_);apply Kp;refine Kh (Zq rfl UM f2) (λh2=>?_) (λh2=>?_)
   ·cases o with
    |lasts=>exact Ze (Ke (UT (VI rfl (UF rfl) rfl p2) (VI rfl (UT (UF rfl) UM ZO) rfl p3) ZO) (Qa rfl) rfl) (Kk (done _ eo.symm))
    |firsts=>cases h2
    |full=>cases h2
   ·cases o with
    |firsts=>exact KB (Kk (done _ eo.symm))
    |full=>cases hh
    |lasts=>cases h2
end
theorem Ad{α β:Type}{f:α->β}(hf:∀a b,f a=f b->a=b){l:List α}(h:l.Nodup):(l.map f).Nodup:=by unfold List.Nodup at h⊢;rw[List.pairwise_map];exact h.imp λhne e=>hne (hf _ _ e)
theorem Mb:∀(ls:L3)(k:Nat),(∀rs∈ls,rs.flatten.Nodup)->(Kn k ls).Nodup
 |[],_,_=>Ua
 |rs::ls,k,h=>by
  show((ZF rs.flatten).map (λt=>((k:Int),t))++Kn (k+1) ls).Nodup
  rw[JV];refine⟨?_,Mb ls (k+1) λr hr=>h r (Qu _ hr),λa ha b hb e=>?_⟩
  ·exact Ad (λx y e=>(Prod.mk.inj e).2) ((YL _).nodup_iff.mpr (h rs Qo))
  ·subst e;obtain⟨t,_,rfl⟩:=Qs.mp ha;have:=NB ls (k+1) _ hb;simp at this;omega
theorem GA{cs:List Int}{ls:L3}(g:Good cs ls):∀q∈Kn 0 ls,(0<=q.1/\q.1<ls.length)/\0<=q.2/\q.2<cs.length:=λq hq=>by obtain⟨i,rs,h1,h2,h3⟩:=TD hq;have:=(g.rk rs (Qn h1)).flat q.2 h3;have:=(Qg.mp h1).1;omega
def ZA(f:Int×Int->Int)(i:Nat):Option Int->Int
 |none=>0
 |some t=>f ((i:Int),t)
def Km(f:Int×Int->Int)(k:Nat):LO->Int
 |[]=>0
 |o::r=>ZA f k o+Km f (k+1) r
theorem Ng(f:Int×Int->Int){o':Option Int}:∀{d:LO}{k i:Nat}{o:Option Int},d[i]?=some o->Km f k (d.set i o')=Km f k d+ZA f (k+i) o'-ZA f (k+i) o
 |[],_,_,_,h=>by cases h
 |x::d,k,0,o,h=>by cases h;show ZA f k o'+Km f (k+1) d=ZA f k x+Km f (k+1) d+ZA f k o'-ZA f k x;omega
 |x::d,k,i+1,o,h=>by rw[List.set_cons_succ];unfold Km;rw[Ng f (d:=d) (k:=k+1) (i:=i) (o:=o) (by simpa using h),show k+1+i=k+(i+1)by omega];omega
structure YH(cs:List Int)(qs:LP)(m:Nat)(ws:LO):Prop where
 len:ws.length=m
 wish:∀(i:Nat) t,ws[i]?=some (some t)->((i:Int),t)∈qs
 cop:∀(k:Nat) c,cs[k]?=some c->((ws.count (some (k:Int)):Nat):Int)<=c
structure Ph(n m:Nat)(qs:LP):Prop where
 nd:qs.Nodup
 lo:∀q∈qs,0<=q.1/\q.1<m/\0<=q.2/\q.2<n
def WO(V:Int->Int->Int)(q:Int×Int):Int:=V q.1 q.2
def U4(p:Nat×Option Int):D:=.tuple [.int (p.1:Nat),UO p.2]
theorem DS{ws:LO}{tk:List (Nat×Option Int)}(h:∀p∈tk,p.1<ws.length):X5 [U0 ws,.list (tk.map U4)]=some (U0 (tk.foldl (λd p=>d.set p.1 p.2) ws)):=by
 refine KW (ρ:=[pb (U0 ws),pb (.list (tk.map U4)),none,none,none]) rfl ?_;unfold W9;refine U2 (Zz (EX rfl (show Xd [U0 ws]=some (ws.map UO)from rfl)) (Qa rfl) rfl) ?_
 have hlen:∀(R:List (Nat×Option Int))(d:LO),(R.foldl (λd p=>d.set p.1 p.2) d).length=d.length:=λR=>by
  induction R with
  |nil=>intro d;rfl
  |cons p R ih=>intro d;rw[List.foldl_cons,ih,Q3]
 apply Kp;apply Zg (λk ρ=>∃x3 x4,ρ=[pb (U0 ws),pb (.list (tk.map U4)),some (.own (((tk.take k).foldl (λd p=>d.set p.1 p.2) ws).map UO)),x3,x4])
 case h1=>exact K7 (UF rfl) Zp
 case h0=>exact⟨_,_,rfl⟩
 case hst=>
  rintro k d ρ hk ⟨x3,x4,rfl⟩;rw[Qf]at hk;cases hq:tk[k]? with
  |none=>rw[hq]at hk;cases hk
  |some p=>
  rw[hq]at hk;cases hk;have hpl:=h p (Qn hq);have hta:tk.take (k+1)=tk.take k++[p]:=by rw[Ub,hq];rfl
  refine⟨_,KD rfl (U3 (UR (Qa rfl) rfl) (U3 (UR (Qa rfl) rfl) KE)),?_⟩;unfold OC;refine Ze (Op (UF rfl) rfl (UF rfl) rfl ⟨Int.natCast_nonneg _,by rw[Qb,hlen];omega⟩ rfl) (K3 ⟨some (.pub (.int (p.1:Nat))),pb (UO p.2),?_⟩);rw[hta,List.foldl_append];show [_,_,some (Sl.own ((((tk.take k).foldl (λd p=>d.set p.1 p.2) ws).map UO).set ((p.1:Int)).toNat (UO p.2))),_,_]=[_,_,some (Sl.own ((((tk.take k).foldl (λd p=>d.set p.1 p.2) ws).set p.1 p.2).map UO)),_,_];rw[QX,List.map_set]
 case hend=>rintro ρ ⟨x3,x4,rfl⟩;refine Kk (Kc (ZG rfl rfl) ?_);rw[Qb,JN];rfl
section
variable{cs:List Int}{ls:L3}
def V1(cs:List Int)(ls:L3)(j:Nat)(d:D):Prop:=∃ws:LO,d=U0 ws/\ws.length=j/\(∀(i:Nat) t rs,ws[i]?=some (some t)->ls[i]?=some rs->t∈rs.flatten)/\∀(k:Nat) c,cs[k]?=some c->((ws.count (some (k:Int)):Nat):Int)<=c
theorem N4{ws:LO}{o:Option Int}{rs:List (List Int)}(hi:ls[ws.length]?=some rs)(h1:∀(i:Nat) t rs,ws[i]?=some (some t)->ls[i]?=some rs->t∈rs.flatten)(h2:∀(k:Nat) c,cs[k]?=some c->((ws.count (some (k:Int)):Nat):Int)<=c)(ho:∀t,o=some t->t∈rs.flatten)(hc:∀(k:Nat) c,o=some (k:Int)->cs[k]?=some c->((ws.count (some (k:Int)):Nat):Int)<c):V1 cs ls (ws.length+1) (.list (ws.map UO++[UO o])):=by
 refine⟨ws++[o],by unfold U0;rw[QF];rfl,by rw[Qj];rfl,RX h1 hi ho,λk c e=>?_⟩;rw[List.count_append,List.count_singleton];split
 ·rename_i z;have:=hc k c (by simpa using z) e;omega
 ·have:=h2 k c e;omega
end
section
variable{cs:List Int}{ls:L3}{ws:LO}{qs:LP}{V:Int->Int->Int}
theorem Ac(g:Good cs ls):Ph cs.length ls.length (Kn 0 ls) where
 nd:=Mb ls 0 λrs hr=>(g.rk rs hr).once
 lo:=λq hq=>by have:=GA g q hq;exact⟨this.1.1,this.1.2,this.2.1,this.2.2⟩
end
def MP(cs:List Int)(ws:LO)(t:Nat):Prop:=∃c,cs[t]?=some c/\((ws.count (some (t:Int)):Nat):Int)<c
structure WayQ(cs:List Int)(qs:LP)(ws:LO)(W:List (Nat×Option Int)):Prop where
 ne:W≠[]
 mv:∀p∈W,∃o,ws[p.1]?=some o/\p.2≠o/\∀t,p.2=some t->((p.1:Int),t)∈qs
 nd:(W.map Prod.fst).Nodup
 lnk:∀(k:Nat) p q,W[k]?=some p->W[k+1]?=some q->p.2≠none/\ws[q.1]?=some p.2
 fin:∀p q,W.head?=some p->W.getLast?=some q->q.2=none∨ws[p.1]?=some q.2 ∨ ∃t:Nat,q.2=some (t:Int)/\MP cs ws t
section
variable{cs:List Int}{ls:L3}{ws:LO}{o:Ord}{old:Option LO}{ts:List Int}
theorem Cj(h:YH cs (Kn 0 ls) ls.length ws):Deal cs ls ws where
 len:=h.len
 wish:=λi t rs hw hrs=>by
  obtain⟨i',rs',h1,h2,h3⟩:=TD (h.wish i t hw);have h2:(i:Int)=((0+i':Nat):Int):=h2;have hii:i=i':=by omega
  subst hii;rw[hrs]at h1;cases h1;exact h3
 cop:=h.cop
theorem On(ls:L3):∀(ws:LO)(l2:L3)(k:Nat),(∀(j:Nat) rs,l2[j]?=some rs->ls.getD (k+j) []=rs)->ws.length=l2.length->Km (WO (YZ ls o old ts)) k ws=KI (K6 (KH ls o old ts) k l2 ws)
 |[],[],_,_,_=>rfl
 |[],_::_,_,_,h=>by cases h
 |_::_,[],_,_,h=>by cases h
 |x::ws,rs::l2,k,hj,hl=>by
  have ih:=On ls ws l2 (k+1) (λj r h=>by rw[show k+1+j=k+(j+1)by omega];exact hj (j+1) r h) (by simpa using hl);show ZA _ k x+Km _ (k+1) ws=KI (x.map (KH ls o old ts k rs)::K6 _ (k+1) l2 ws);rw[N5,ih]
  congr 1
  cases x with
  |none=>rfl
  |some t=>show YZ ls o old ts (k:Int) t=KH ls o old ts k rs t;unfold YZ;rw[QX,show ls.getD k []=rs from hj 0 rs rfl]
end
section
variable{cs:List Int}{ls:L3}{o:Ord}{old:Option LO}{ts:List Int}{ws:LO}
theorem Nf(du:Deal cs ls ws):YH cs (Kn 0 ls) ls.length ws:=⟨du.len,λi t h=>by
 have hil:i<ls.length:=by have:=(Qg.mp h).1;have:=du.len;omega
 have hrs:ls[i]?=some ls[i]:=Qd hil;have:=RK (k:=0) hrs (du.wish i t _ h hrs);rwa[Jd]at this,du.cop⟩
end
def ZD(W:List (Nat×Option Int))(ws:LO):LO:=W.foldl (λd p=>d.set p.1 p.2) ws
theorem RV:∀(W:List (Nat×Option Int))(ws:LO),(ZD W ws).length=ws.length
 |[],_=>rfl
 |p::W,ws=>(RV W _).trans (by rw[Q3])
theorem SA{i:Nat}:∀(W:List (Nat×Option Int))(ws:LO),i∉W.map Prod.fst->(ZD W ws)[i]?=ws[i]?
 |[],_,_=>rfl
 |p::W,ws,h=>by rw[Qv,QR,not_or]at h;exact(SA W _ h.2).trans (Ql (λe=>h.1 e.symm))
theorem RH:∀(W:List (Nat×Option Int))(ws:LO),(W.map Prod.fst).Nodup->∀p∈W,p.1<ws.length->(ZD W ws)[p.1]?=some p.2
 |[],_,_,_,h,_=>by cases h
 |p::W,ws,hn,q,h,hl=>by
  rw[Qv,JC]at hn;cases h with
  |head=>exact(SA W _ hn.1).trans (by rw[QJ hl])
  |tail _ h=>exact RH W _ hn.2 q h (by rw[Q3];exact hl)
theorem Om{x o o':Option Int}{ws:LO}{i:Nat}(h:ws[i]?=some o):(ws.set i o').count x+(if o=x then 1 else 0)=ws.count x+(if o'=x then 1 else 0):=by
 obtain⟨hl,e⟩:=Qg.mp h;have hc:=List.count_set (a:=o') (b:=x) (l:=ws) hl;rw[e]at hc
 have h1:0<ws.count x∨o≠x:=by
  by_cases hx:o=x
  ·exact .inl (List.count_pos_iff.mpr (hx ▸ e ▸ Je hl))
  ·exact .inr hx
 rw[hc];by_cases h2:o=x<;>by_cases h3:o'=x<;>simp[h2,h3]<;>first|omega|(rcases h1 with h1|h1<;>first|omega|exact absurd h2 h1)
theorem Ol(x:Option Int):∀(R:List (Nat×Option Int))(p:Nat×Option Int)(ws:LO)(o:Option Int),ws[p.1]?=some o->((p::R).map Prod.fst).Nodup->(∀(k:Nat) a b,(p::R)[k]?=some a->(p::R)[k+1]?=some b->ws[b.1]?=some a.2)->∀l,(p::R).getLast?=some l->(ZD (p::R) ws).count x+(if o=x then 1 else 0)=ws.count x+(if l.2=x then 1 else 0)
 |[],p,ws,o,h,_,_,l,hl=>by cases hl;exact Om h
 |q::R,p,ws,o,h,hn,hk,l,hl=>by
  have hn':=hn;rw[Qv,JC]at hn';have hq:∀b∈q::R,p.1≠b.1:=λb hb e=>hn'.1 (e ▸ Qs.mpr ⟨b,hb,rfl⟩);have h1:=Om (x:=x) (o':=p.2) h
  have h2:=Ol x R q (ws.set p.1 p.2) p.2 (by rw[Ql (hq q Qo)];exact hk 0 p q rfl rfl) hn'.2 (λk a b ha hb=>by rw[Ql (hq b (Qn hb))];exact hk (k+1) a b ha hb) l (by rw[List.getLast?_cons_cons]at hl;exact hl);have e:ZD (p::q::R) ws=ZD (q::R) (ws.set p.1 p.2):=rfl;rw[e];omega
section
variable{cs:List Int}{ls:L3}{ws:LO}{W:List (Nat×Option Int)}{qs:LP}
theorem Gz(h:WayQ cs qs ws W):∃p R l o,W=p::R/\W.getLast?=some l/\ws[p.1]?=some o/\∀x,(ZD W ws).count x+(if o=x then 1 else 0)=ws.count x+(if l.2=x then 1 else 0):=by
 cases hW:W with
 |nil=>exact absurd hW h.ne
 |cons p R=>
  subst hW;obtain⟨o,ho,_⟩:=h.mv p Qo;cases hl:(p::R).getLast? with
  |none=>rw[List.getLast?_eq_none_iff]at hl;cases hl
  |some l=>exact⟨p,R,l,o,rfl,rfl,ho,λx=>Ol x R p ws o ho h.nd (λk a b ha hb=>(h.lnk k a b ha hb).2) l hl⟩
theorem SL(h:WayQ cs qs ws W){p:Nat×Option Int}(hp:p∈W):p.1<ws.length:=by obtain⟨o,ho,_⟩:=h.mv p hp;exact(Qg.mp ho).1
theorem Oj{m:Nat}(hd:YH cs qs m ws)(h:WayQ cs qs ws W):YH cs qs m (ZD W ws) where
 len:=(RV W ws).trans hd.len
 wish:=λi t e=>by
  by_cases hi:i∈W.map Prod.fst
  ·obtain⟨p,hp,rfl⟩:=Qs.mp hi;rw[RH W ws h.nd p hp (SL h hp)]at e;obtain⟨o,_,_,hq⟩:=h.mv p hp;exact hq t (Qt e)
  ·rw[SA W ws hi]at e;exact hd.wish i t e
 cop:=λk c hc=>by
  obtain⟨p,R,l,o,hW,hl,ho,hcnt⟩:=Gz h;have h1:=hcnt (some (k:Int));have h2:=hd.cop k c hc;by_cases hx:l.2=some (k:Int)
  ·rw[Qq hx]at h1;rcases h.fin p l (by rw[hW];rfl) hl with e|e|⟨t,e,c',hc',hlt⟩
   ·rw[e]at hx;cases hx
   ·rw[ho,hx]at e;rw[Qq (Qt e)]at h1;omega
   ·rw[hx]at e;have e:k=t:=by have:=Qt e;omega
    subst e;rw[hc]at hc';cases hc';split at h1<;>omega
  ·rw[QG hx]at h1;split at h1<;>omega
theorem Tt{i:Nat}{o:Option Int}(h:ws[i]?=some o):ws.getD i none=o:=by rw[QH,h];rfl
end
def oD:D->Option (Option Int)
 |.none=>some none
 |.int u=>some (some u)
 |_=>none
theorem Rb(o:Option Int):oD (UO o)=some o:=by cases o<;>rfl
theorem MN{t:D}{o:Option Int}(h:oD t=some o):t=UO o:=by cases t<;>cases h<;>rfl
def moB(ls:L3)(ws:LO)(i:Nat)(t:D):Bool:=
 match oD t with
 |some o=>!decide (o=ws.getD i none)&&o.all (λu=>decide (u∈(ls.getD i []).flatten))
 |none=>false
def ZR(ls:L3)(ws:LO):D->Bool
 |.tuple [a,t]=>Yy ls.length a&&moB ls ws ((whI a).getD 0).toNat t
 |_=>false
def MvQ(qs:LP)(ws:LO)(p:Nat×Option Int):Prop:=∃o,ws[p.1]?=some o/\p.2≠o/\∀t,p.2=some t->((p.1:Int),t)∈qs
section
variable{cs:List Int}{ls:L3}{ws:LO}{W:List (Nat×Option Int)}
theorem P0(hl:ws.length=ls.length){i:Nat}(hi:i<ls.length){o:Option Int}:moB ls ws i (UO o)=true ↔ MvQ (Kn 0 ls) ws (i,o):=by
 have hw:ws[i]?=some (ws[i]'(by omega)):=Qd _;have hs:ls[i]?=some ls[i]:=Qd hi;have e1:ws.getD i none=ws[i]'(by omega):=by rw[QH,hw];rfl
 have e2:ls.getD i []=ls[i]:=by rw[QH,hs];rfl
 unfold moB;rw[Rb,e1,e2];constructor
 ·intro h;have h:(!decide (o=ws[i]'(by omega))&&o.all (λu=>decide (u∈ls[i].flatten)))=true:=h;rw[Q2]at h;refine⟨_,hw,λe=>?_,λt e=>?_⟩
  ·rw[QM e]at h;cases h.1
  ·have e:o=some t:=e;subst e;have:=Qa (show decide (t∈ls[i].flatten)=true from h.2);have:=RK (k:=0) hs this;rw[Jd]at this;exact this
 ·rintro⟨o',h1,h2,h3⟩;rw[hw]at h1;cases h1
  show(!decide (o=ws[i]'(by omega))&&o.all (λu=>decide (u∈ls[i].flatten)))=true
  rw[QC h2];cases o with
  |none=>rfl
  |some t=>
   obtain⟨j,rs,hj,e,hm⟩:=TD (h3 t rfl);have e:i=j:=by have:((i:Nat):Int)=((0+j:Nat):Int):=e;omega
   subst e;rw[hs]at hj;cases hj;exact QM hm
theorem Oi(hl:ws.length=ls.length){p:Nat×Option Int}:ZR ls ws (U4 p)=true ↔ MvQ (Kn 0 ls) ws p:=by
 show((decide ((0:Int)<=(p.1:Nat))&&decide (((p.1:Nat):Int)<ls.length))&&moB ls ws (((p.1:Nat):Int)).toNat (UO p.2))=true ↔ _
 rw[QX,Q2,Q2,Jn,Jn];constructor
 ·rintro⟨⟨_,h⟩,h2⟩;exact(P0 hl (by omega)).mp h2
 ·intro h;obtain⟨o,ho,_⟩:=id h;have:=(Qg.mp ho).1;exact⟨⟨by omega,by omega⟩,(P0 hl (by omega)).mpr h⟩
theorem DK{x:D}(h:ZR ls ws x=true):∃p,x=U4 p:=by
 cases x with
 |tuple xs=>
  rcases xs with _|⟨a,_|⟨t,_|⟨u,r⟩⟩⟩
  ·cases h
  ·cases h
  ·have h:(Yy ls.length a&&moB ls ws ((whI a).getD 0).toNat t)=true:=h;rw[Q2]at h;obtain⟨i,rfl,h0,_⟩:=Nh h.1;have h2:=h.2;unfold moB at h2;cases ho:oD t with
   |none=>rw[ho]at h2;cases h2
   |some o=>refine⟨(i.toNat,o),?_⟩;rw[MN ho];show _=PyData.tuple [.int ((i.toNat:Nat):Int),UO o];rw[Int.toNat_of_nonneg h0]
  ·cases h
 |_=>cases h
theorem Nd(hl:ws.length=ls.length):∀{xs:List D},xs.all (ZR ls ws)=true->∃W:List (Nat×Option Int),xs=W.map U4/\∀p∈W,MvQ (Kn 0 ls) ws p
 |[],_=>⟨[],rfl,λ_ h=>by cases h⟩
 |x::r,h=>by
  rw[List.all_cons,Q2]at h;obtain⟨p,rfl⟩:=DK h.1;obtain⟨W,rfl,hW⟩:=Nd hl h.2;refine⟨p::W,rfl,λq hq=>?_⟩;cases hq with
  |head=>exact(Oi hl).mp h.1
  |tail _ hq=>exact hW q hq
theorem AR(g:Good cs ls)(hl:ws.length=ls.length)(x:D):Y7 [.list (ls.map Ko),U0 ws,x]=some (.bool (ZR ls ws x)):=by
 have l7:=g.l7
 let S0:Option Sl:=some (.pub (.list (ls.map Ko)))
 let S1:Option Sl:=some (.pub (U0 ws))
 let S2:Option Sl:=some (.pub x)
 refine KW (ρ:=[S0,S1,S2,none,none]) rfl ?_;unfold Vc;have hlen:U6 [.list (ls.map Ko)]=some (.int ls.length):=by rw[Zc,Qb]
 apply Kp;cases x with
 |dict kvs=>exact Kh (b:=true) (Ti (OL (UF rfl))) (λ_=>Kc UM (ZQ rfl)) λz=>by cases z
 |tuple xs=>
  rcases xs with _|⟨a,_|⟨t,_|⟨u,r⟩⟩⟩
  ·exact Kh (b:=true) (Yk (Z3 (UF rfl) rfl) (UT (K4 rfl Sr) UM Xj)) (λ_=>Kc UM (ZQ rfl)) λz=>by cases z
  ·exact Kh (b:=true) (Yk (Z3 (UF rfl) rfl) (UT (K4 rfl Sr) UM Xj)) (λ_=>Kc UM (ZQ rfl)) λz=>by cases z
  ·refine Kh (b:=false) (Yk (Z3 (UF rfl) rfl) (UT (K4 rfl Sr) UM Xj)) (λz=>by cases z) λ_=>KB (Kk ?_)
   let S3:Option Sl:=some (.pub a)
   let S4:Option Sl:=some (.pub t)
   refine U2 (ρ1:=[S0,S1,S2,S3,S4]) (VH (UF rfl) (KD rfl (U3 (UR (Qa rfl) rfl) (U3 (UR (Qa rfl) rfl) KE)))) ?_;have e0:ZR ls ws (.tuple [a,t])=(Yy ls.length a&&moB ls ws ((whI a).getD 0).toNat t):=rfl;apply Kp;refine Kh (b:=!Yy ls.length a) (ρ1:=[S0,S1,S2,S3,S4]) (Yl (YK (Ka (UL (UF rfl) (UL (K4 rfl hlen) UQ)) rfl (DU a ls.length)))) (λz=>Kc UM (ZQ ?_)) λz=>KB (Kk ?_)
   ·rw[Bool.not_eq_true']at z;rw[e0,z];rfl
   rw[JR]at z;rw[e0,z,Bool.true_and];obtain⟨i,rfl,h0,h1⟩:=Nh z;obtain⟨n,rfl⟩:∃n:Nat,i=n:=⟨i.toNat,by omega⟩
   show Ho _ _ λo=>o=.rt (.bool (moB ls ws (((n:Nat):Int)).toNat t));rw[QX];have hn:n<ls.length:=by omega
   have hw:ws[n]?=some (ws[n]'(by omega)):=Qd _;have hs:ls[n]?=some ls[n]:=Qd hn;have hix:oIx (U0 ws) (.int ((n:Nat):Int))=some (UO (ws[n]'(by omega))):=KQ (by rw[Qf,hw];rfl);have hix2:oIx (.list (ls.map Ko)) (.int ((n:Nat):Int))=some (Ko ls[n]):=KQ (by rw[Qf,hs];rfl);have e1:ws.getD n none=ws[n]'(by omega):=by rw[QH,hw];rfl
   have e2:ls.getD n []=ls[n]:=by rw[QH,hs];rfl
   apply Kp;refine Kh (b:=isNon t) (ρ1:=[S0,S1,S2,S3,S4]) (Kl (k:=isNon) (UF rfl)) (λz=>?_) λz=>KB (Kk ?_)
   ·have ht:t=.none:=by cases t<;>first|rfl|cases z
    subst ht;refine Kc (Kl (k:=λd=>Ur (!isNon d)) (Ks rfl (UF rfl) hix)) (ZQ ?_);have:moB ls ws n .none=(!decide (none=ws.getD n none)&&true):=rfl;rw[this,e1,Bool.and_true];cases ws[n]'(by omega)<;>rfl
   ·have hm:moB ls ws n t=(whB t&&((oD t).any λo=>!decide (o=ws.getD n none)&&o.all (λu=>decide (u∈(ls.getD n []).flatten)))):=by
     unfold moB;cases t<;>first|rfl|cases z
    rw[hm,e1,e2];refine Kc (Xz (Ka (UL (UF rfl) UQ) rfl (RW t)) λz2=>?_) rfl;cases t with
    |int u=>
     refine Xz (t:=!decide (some u=ws[n]'(by omega))) (Kl (Zq rfl (Ks rfl (UF rfl) hix) (SZ (a:=some u)))) λ_=>?_
     have hr:decide ((0:Int)<(Zs u ls[n]:Nat))=decide (u∈ls[n].flatten):=by
      by_cases hm:u∈ls[n].flatten
      ·rw[QM hm,QM (by have:=Me hm;omega)]
      ·rw[QC hm,QC (λh=>hm (Ag (by omega)))]
     rw[show(Option.all (λu=>decide (u∈ls[n].flatten)) (some u))=decide (u∈ls[n].flatten)from rfl,←hr];exact Kl (UT (Ka (UL (Ks rfl (UF rfl) hix2) (UL (UF rfl) UQ)) rfl (Mf u ls[n])) UM rfl)
    |_=>cases z2
  ·refine Kh (b:=true) (Yk (Z3 (UF rfl) rfl) (UT (K4 rfl Sr) UM (by rw[Xj,QC (by rw[QB,QB,QB];omega)];rfl))) (λ_=>Kc UM (ZQ rfl)) λz=>by cases z
 |_=>exact Kh (b:=true) (Ti (Z3 (UF rfl) rfl)) (λ_=>Kc UM (ZQ rfl)) λz=>by cases z
def LnkQ(ws:LO)(W:List (Nat×Option Int)):Prop:=∀(k:Nat) p q,W[k]?=some p->W[k+1]?=some q->p.2≠none/\ws[q.1]?=some p.2
theorem Az(hw:∀p∈W,p.1<ws.length)(hl:W.length<=1000):∃b,Y6 [U0 ws,.list (W.map U4)]=some (.bool b)/\(b=true ↔ LnkQ ws W):=by
 let S0:Option Sl:=some (.pub (U0 ws))
 let S1:Option Sl:=some (.pub (.list (W.map U4)))
 have key:∃r,Y6 [U0 ws,.list (W.map U4)]=some r/\∃b,r=.bool b/\(b=true ↔ LnkQ ws W):=by
  refine YT (ρ:=[S0,S1,none,none]) rfl ?_;unfold Vb;have hlen:U6 [.list (W.map U4)]=some (.int W.length):=by rw[Zc,Qb]
  apply Kp;apply Zg (λi ρ=>(∃x2 x3,ρ=[S0,S1,x2,x3])/\∀(k:Nat) p q,k<i->W[k]?=some p->W[k+1]?=some q->p.2≠none/\ws[q.1]?=some p.2)
  case h1=>exact Ov (UL UM (UL (K4 rfl hlen) UQ)) (Np (by omega) (by omega) (by omega) (by omega))
  case h0=>exact⟨⟨_,_,rfl⟩,λk _ _ h=>absurd h (JT k)⟩
  case hst=>
   rintro k d ρ hk ⟨⟨x2,x3,rfl⟩,hin⟩;obtain⟨rfl,hkl⟩:=Wv hk;have hk1:k+1<W.length:=by omega
   have hp:W[k]?=some W[k]:=Qd _;have hq:W[k+1]?=some W[k+1]:=Qd hk1;have e1:(1:Int)+(k:Nat)=((k+1:Nat):Int):=by omega
   refine⟨_,UR (Qa rfl) rfl,?_⟩;rw[e1];unfold OB
   have hixk:oIx (.list (W.map U4)) (.int (((k+1:Nat):Int)-1))=some (U4 W[k]):=by
    have e:(((k+1:Nat):Int)-1)=((k:Nat):Int):=by omega
    rw[e];exact KQ (by rw[Qf,hp];rfl)
   have hixk1:oIx (.list (W.map U4)) (.int ((k+1:Nat):Int))=some (U4 W[k+1]):=KQ (by rw[Qf,hq];rfl);have hwl:=hw W[k+1] (Je _);have hww:ws[(W[k+1]).1]?=some (ws[(W[k+1]).1]'(hwl)):=Qd _;have hixd:oIx (U0 ws) (.int (((W[k+1]).1:Nat):Int))=some (UO (ws[(W[k+1]).1]'(hwl))):=KQ (by rw[Qf,hww];rfl)
   let S2:Option Sl:=some (.pub (.int ((k+1:Nat):Int)))
   let S3:Option Sl:=some (.pub (UO (W[k]).2))
   refine U2 (ρ1:=[S0,S1,S2,S3]) (Ke (UT (Ks rfl (UT (UF rfl) UM ZO) hixk) UM (show oIx (U4 W[k]) (.int 1)=some (UO (W[k]).2)from rfl)) (Qa rfl) rfl) ?_;refine Kh (b:=isNon (UO (W[k]).2) || !decide (ws[(W[k+1]).1]'(hwl)=(W[k]).2)) (ρ1:=[S0,S1,S2,S3]) (Pm (Kl (k:=isNon) (UF rfl)) λ_=>UT (Ks rfl (UT (Ks rfl (UF rfl) hixk1) UM (show oIx (U4 W[k+1]) (.int 0)=some (.int ((W[k+1]).1:Nat))from rfl)) hixd) (UF rfl) SZ) (λz=>Kc UM (RD ?_)) λz=>KB (K3 ⟨⟨_,_,rfl⟩,?_⟩)
   ·refine⟨_,rfl,false,rfl,λh=>(by cases h),λh=>?_⟩;obtain⟨h1,h2⟩:=h k _ _ hp hq;rw[hww]at h2;rw[QM (Qt h2)]at z;cases h3:(W[k]).2 with
    |none=>exact absurd h3 h1
    |some t=>rw[h3]at z;cases z
   ·rw[Bool.or_eq_false_iff]at z;intro j p q hj hp' hq';by_cases e:j=k
    ·subst e;rw[hp]at hp';rw[hq]at hq';cases hp';cases hq';refine⟨λe=>?_,?_⟩
     ·rw[e]at z;cases z.1
     ·rw[hww];by_cases e:ws[(W[j+1]).1]'(hwl)=(W[j]).2
      ·exact JW some e
      ·rw[QC e]at z;cases z.2
    ·exact hin j p q (by omega) hp' hq'
  case hend=>rintro ρ ⟨⟨x2,x3,rfl⟩,hin⟩;refine Kk (Kc UM ⟨_,rfl,true,rfl,λ_=>?_,λ_=>rfl⟩);intro k p q hp hq;refine hin k p q ?_ hp hq;have:=(Qg.mp hq).1;rw[YM];omega
 obtain⟨r,h,b,rfl,hb⟩:=key;exact⟨b,h,hb⟩
def IsW(cs:List Int)(ls:L3)(ws:LO)(d:D):Prop:=∃W,d=.list (W.map U4)/\WayQ cs (Kn 0 ls) ws W
theorem DJ{W U:List (Nat×Option Int)}(h:W.map U4=U.map U4):W=U:=by
 refine List.map_inj_right (f:=U4) (λp q e=>?_) |>.mp h
 obtain⟨a,x⟩:=p;obtain⟨b,y⟩:=q;have e:PyData.tuple [.int (a:Nat),UO x]=.tuple [.int (b:Nat),UO y]:=e;injection e with e;injection e with e1 e2;injection e1 with e1;injection e2 with e2
 have:x=y:=by have:=JW oD e2;rw[Rb,Rb]at this;exact Qt this
 rw[this,Int.ofNat.inj e1]
theorem Ab(g:Good cs ls)(hl:ws.length=ls.length){d:D}(hs:∀xs,d=.list xs->xs.length<=1000):∃b,Yg [U7 cs ls,U0 ws,d]=some (.bool b)/\(b=true ↔ IsW cs ls ws d):=by
 have l7:=g.l7
 let S0:Option Sl:=some (.pub (U7 cs ls))
 let S1:Option Sl:=some (.pub (U0 ws))
 let S2:Option Sl:=some (.pub d)
 let S3:Option Sl:=some (.pub (.list ((WA cs ws).map int)))
 have key:∃r,Yg [U7 cs ls,U0 ws,d]=some r/\∃b,r=.bool b/\(b=true ↔ IsW cs ls ws d):=by
  refine YT (ρ:=[S0,S1,S2,none,none]) rfl ?_;unfold Va;refine U2 (ρ1:=[S0,S1,S2,S3,none]) (Ke (Ka (UL (UF rfl) (UL (UF rfl) UQ)) rfl (A2 g)) (Qa rfl) rfl) ?_;have no:∀{d:D},(¬IsW cs ls ws d)->∃d1:D,Out.rt (.bool false)=.rt d1/\∃b,d1=.bool b/\(b=true ↔ IsW cs ls ws d):=λh=>⟨_,rfl,false,rfl,(λz=>by cases z),λz=>absurd z h⟩
  apply Kp;cases d with
  |dict kvs=>exact Kh (b:=true) (Ti (OL (UF rfl))) (λ_=>Kc UM (ZQ (no λ⟨W,e,_⟩=>by cases e))) λz=>by cases z
  |list xs=>
   have hx:=hs xs rfl;have hlen:U6 [.list xs]=some (.int xs.length):=Zc;refine Kh (b:=decide ((xs.length:Int)=0)) (ρ1:=[S0,S1,S2,S3,none]) (Yk (Z3 (UF rfl) rfl) (UT (K4 rfl hlen) UM Wo)) (λz=>Kc UM (ZQ (no λ⟨W,e,hW⟩=>hW.ne ?_))) λz=>KB (Kk ?_)
   ·have:=Qa z;injection e with e;rw[e,Qb]at this;exact List.length_eq_zero_iff.mp (by omega)
   have hne:xs≠[]:=λe=>by rw[e]at z;cases z
   apply Kp;have hc:Kq (gN 5) (UK true) (UP 3 Y7 (UI (US 0 (UK (.int 1))) (UI (UD 1) (UI (UD 5) (UG))))) xs (U8 [S0,S1,S2,S3,none]++Up 1 none) []=some (xs.map λx=>.bool (ZR ls ws x)):=by refine YN (λρ=>∃x,ρ=[S0,S1,S2,S3,none,x]) _ _ _ _ (by rw[Qb]) ?_ ⟨none,rfl⟩ (by rw[QN];omega);rintro j y e hj he ρ ⟨x,rfl⟩;rw[Qf,hj]at he;cases he;exact⟨_,UR (Qa rfl) rfl,rfl,Ka (UL (Ks rfl UM Wk) (UL (UF rfl) (UL (UF rfl) UQ))) rfl (AR g hl y),_,rfl⟩
   refine Kh (b:=!xs.all (ZR ls ws)) (ρ1:=[S0,S1,S2,S3,none]) (Yl (YK (Zi (UL (Kl (ZE (K7 (UF rfl) Zp) hc)) UQ) (DT xs)))) (λz=>Kc UM (ZQ (no λ⟨W,e,hW⟩=>?_))) λz=>KB (Kk ?_)
   ·injection e with e
    subst e;rw[Bool.not_eq_true']at z;have:(W.map U4).all (ZR ls ws)=true:=List.all_eq_true.mpr λx hx=>by obtain⟨p,hp,rfl⟩:=Qs.mp hx;exact(Oi hl).mpr (hW.mv p hp)
    rw[this]at z;cases z
   rw[JR]at z;obtain⟨W,rfl,hmv⟩:=Nd hl z;rw[Qb]at hx;have hW0:W≠[]:=λe=>hne (by rw[e];rfl)
   have hlt:∀p∈W,p.1<ws.length:=λp hp=>by obtain⟨o,ho,_⟩:=hmv p hp;exact(Qg.mp ho).1
   have isw:IsW cs ls ws (.list (W.map U4)) ↔ WayQ cs (Kn 0 ls) ws W:=⟨λ⟨U,e,hU⟩=>by injection e with e;rw[DJ e];exact hU,λh=>⟨W,rfl,h⟩⟩
   let ns:List Int:=W.map λp=>((p.1:Nat):Int)
   have hnl:ns.length=W.length:=Qb _
   have hnd:ns.Nodup ↔ (W.map Prod.fst).Nodup:=by
    have e:ns=(W.map Prod.fst).map λn:Nat=>(n:Int):=by rw[QT];rfl
    rw[e];exact⟨λh=>(List.pairwise_map.mp h).imp λh e=>h (by rw[e]),λh=>List.Pairwise.map _ (λa b h e=>h (by omega)) h⟩
   have hc2:Kq (gT 2 (gNC (gN 5) (gNC (gN 6) (gN0)))) (UK true) (UD 5) (W.map U4) (U8 [S0,S1,S2,S3,none]++Up 2 none) []=some (ns.map int):=by
    refine YN (λρ=>∃x y,ρ=[S0,S1,S2,S3,none,x,y]) _ _ _ _ (by rw[Qb,Qb,Qb]) ?_ ⟨none,none,rfl⟩ (by rw[Qb,QN];omega);rintro j y e hj he ρ ⟨x,y',rfl⟩;rw[Qf]at hj;rw[Qf,Qf]at he;cases hp:W[j]? with
    |none=>rw[hp]at hj;cases hj
    |some p=>
    rw[hp]at hj he;cases hj;cases he;exact⟨_,KD rfl (U3 (UR (Qa rfl) rfl) (U3 (UR (Qa rfl) rfl) KE)),rfl,UF rfl,_,_,rfl⟩
   have hun:decide (((Zk ns:Nat):Int)=((W.map U4).length:Nat))=decide (W.map Prod.fst).Nodup:=by
    rw[Qb,←hnl];by_cases h:(W.map Prod.fst).Nodup
    ·rw[QM h,Pc (hnd.mpr h),QM rfl]
    ·rw[QC h,QC (λe=>h (hnd.mp (AB (by omega))))]
   obtain⟨lb,hlb,hlk⟩:=Az hlt hx;apply Kp;refine Kh (b:=!decide (W.map Prod.fst).Nodup || !lb) (ρ1:=[S0,S1,S2,S3,none]) (Pm (UT (Ds (ZE (K7 (UF rfl) Zp) hc2) (by omega)) (K4 rfl hlen) (by rw[Xj,hun])) λ_=>Yl (YK (Ka (UL (UF rfl) (UL (UF rfl) UQ)) rfl hlb))) (λz=>Kc UM (ZQ (no λh=>?_))) λz=>KB (Kk ?_)
   ·have h:=isw.mp h;rw[QM h.nd,hlk.mpr h.lnk]at z;cases z
   rw[Bool.or_eq_false_iff,JR,JR]at z;have nd:=Qa z.1;have lnk:=hlk.mp z.2
   obtain⟨p0,r0,hW1⟩:∃p r,W=p::r:=by
    cases hW':W with
    |nil=>exact absurd hW' hW0
    |cons x r=>exact⟨x,r,rfl⟩
   obtain⟨q,hgl⟩:∃q,W.getLast?=some q:=by
    cases h:W.getLast? with
    |none=>exact absurd (List.getLast?_eq_none_iff.mp h) hW0
    |some q=>exact⟨q,rfl⟩
   have hhd:W.head?=some p0:=by rw[hW1];rfl
   have hqm:q∈W:=JY hgl;have hpm:p0∈W:=by rw[hW1];exact Qo
   have hixq:oIx (.list (W.map U4)) (.int (-1))=some (U4 q):=Rp (by rw[List.getLast?_map,hgl];rfl);have hix0:oIx (.list (W.map U4)) (.int 0)=some (U4 p0):=KQ (j:=0) (by rw[hW1];rfl)
   let S4:Option Sl:=some (.pub (UO q.2))
   refine U2 (ρ1:=[S0,S1,S2,S3,S4]) (Ke (UT (Ks rfl (Tk UM) hixq) UM (show oIx (U4 q) (.int 1)=some (UO q.2)from rfl)) (Qa rfl) rfl) ?_;obtain⟨o0,ho0,_⟩:=hmv p0 hpm;have hixd:oIx (U0 ws) (.int ((p0.1:Nat):Int))=some (UO o0):=KQ (by rw[Qf,ho0];rfl);have tw:UN Ur (UH oEq (US 1 (UH oIx (US 2 (UK (.int 0))) (UK (.int 0)))) (UD 4)) [S0,S1,S2,S3,S4]=.ok (.bool (decide (o0=q.2))) [S0,S1,S2,S3,S4]:=Kl (UT (Ks rfl (UT (Ks rfl UM hix0) UM (show oIx (U4 p0) (.int 0)=some (.int (p0.1:Nat))from rfl)) hixd) (UF rfl) Se);have hone:∀{p' q':Nat×Option Int},W.head?=some p'->W.getLast?=some q'->p'=p0/\q'=q:=λh1 h2=>by rw[hhd]at h1;rw[hgl]at h2;exact⟨(Qt h1).symm,(Qt h2).symm⟩
   cases hq2:q.2 with
   |none=>refine Kc (Tj (t:=true) (u:=true) (Kl (k:=λd=>Ur (isNon d)) (x:=UO q.2) (UF rfl) |>.trans (by rw[hq2];rfl)) λz=>by cases z) ⟨_,rfl,true,rfl,λ_=>isw.mpr ⟨hW0,hmv,nd,lnk,λp' q' h1 h2=>?_⟩,λ_=>rfl⟩;obtain⟨rfl,rfl⟩:=hone h1 h2;exact .inl hq2
   |some t=>
    obtain⟨_,_,_,hqq⟩:=hmv q hqm;obtain⟨i,rs,hi,_,hmem⟩:=TD (hqq t hq2);obtain⟨r,hr1,hr2⟩:=JM.mp hmem;have hr:=(g.rk rs (Qn hi)).there r hr1 t hr2;obtain⟨n,rfl⟩:∃n:Nat,t=n:=⟨t.toNat,by omega⟩
    have hn:n<cs.length:=by omega
    have hixl:oIx (.list ((WA cs ws).map int)) (.int ((n:Nat):Int))=some (.int (cs[n]-((ws.count (some (n:Int)):Nat):Int))):=KQ (by
     unfold WA;rw[Qf,Qf,List.getElem?_range hn];show some (int (cs.getD n 0-_))=_;rw[QH,Qd hn]
     rfl)
    refine Kc (Tj (t:=false) (u:=decide (0<cs[n]-((ws.count (some (n:Int)):Nat):Int)) || decide (o0=q.2)) (Kl (k:=λd=>Ur (isNon d)) (x:=UO q.2) (UF rfl) |>.trans (by rw[hq2];rfl)) λ_=>Tj (Kl (UT (Ks rfl (UF rfl) (by rw[hq2];exact hixl)) UM Py)) λ_=>tw) ⟨_,rfl,_,rfl,?_⟩;rw[Bool.false_or,Bool.or_eq_true,Jn,Jn,isw];constructor
    ·intro h;refine⟨hW0,hmv,nd,lnk,λp' q' h1 h2=>?_⟩;obtain⟨rfl,rfl⟩:=hone h1 h2;rcases h with h|h
     ·exact .inr (.inr ⟨n,hq2,_,Qd hn,by omega⟩)
     ·exact .inr (.inl (by rw[ho0,h]))
    ·intro h;rcases h.fin p0 q hhd hgl with e|e|⟨t',e,c,hc,hlt⟩
     ·rw[hq2]at e;cases e
     ·rw[ho0]at e;exact .inr (Qt e)
     ·rw[hq2]at e;have e:n=t':=by have:=Qt e;omega
      subst e;rw[Qd hn]at hc;cases hc;exact .inl (by omega)
  |_=>exact Kh (b:=true) (Ti (Z3 (UF rfl) rfl)) (λ_=>Kc UM (ZQ (no λ⟨W,e,_⟩=>by cases e))) λz=>by cases z
 obtain⟨r,h,b,rfl,hb⟩:=key;exact⟨b,h,hb⟩
end
section
variable{cs:List Int}{ls:L3}{ws:LO}{W:List (Nat×Option Int)}{o:Ord}{old:Option LO}{ts:List Int}
theorem N3(g:Good cs ls)(ga:YV cs.length ls.length old ts)(dl:Deal cs ls ws):YA [U7 cs ls,Kx o old ts,U0 ws]=some (.int (KI (K6 (KH ls o old ts) 0 ls ws))):=by
 let S0:Option Sl:=some (.pub (U7 cs ls))
 let S1:Option Sl:=some (.pub (Kx o old ts))
 let S2:Option Sl:=some (.pub (U0 ws))
 have hl:=dl.len
 let G:=K6 (KH ls o old ts) 0 ls ws
 refine KW (ρ:=[S0,S1,S2,none,none,none]) rfl ?_;unfold WU;refine U2 (Ke UM (Qa rfl) rfl) ?_;apply Kp;apply Zg (λk ρ=>∃x4 x5,ρ=[S0,S1,S2,pb (.int (KI (G.take k))),x4,x5])
 case h1=>exact Wq (UL (UF rfl) UQ) Ww
 case h0=>exact⟨_,_,rfl⟩
 case hst=>
  rintro k d ρ hk ⟨x4,x5,rfl⟩;obtain⟨x,hx,rfl⟩:=Xf hk;rw[Jd];rw[Qf]at hx;cases hp:ws[k]? with
  |none=>rw[hp]at hx;cases hx
  |some w=>
  rw[hp]at hx;cases hx;have hkl:k<ls.length:=by have:=(Qg.mp hp).1;omega
  have hs:ls[k]?=some ls[k]:=Qd hkl;have hG:G[k]?=some (w.map (KH ls o old ts k ls[k])):=by have:=RI (W:=KH ls o old ts) (k:=0) hs hp;rw[Jd]at this;exact this
  have hsum:KI (G.take (k+1))=KI (G.take k)+(w.map (KH ls o old ts k ls[k])).getD 0:=by
   rw[Ub,hG,Aj]
   congr 1
   exact(N5 (l:=[])).trans (Int.add_zero _)
  refine⟨_,KD rfl (U3 (UR (Qa rfl) rfl) (U3 (UR (Qa rfl) rfl) KE)),?_⟩;unfold OS;cases w with
  |none=>
   refine Kh (b:=false) (V5 (d:=.none) (UF rfl) rfl) (λz=>by cases z) λ_=>KB (K3 ⟨some (.pub (.int (k:Nat))),some (.pub .none),?_⟩)
   rw[hsum];show _=[S0,S1,S2,pb (.int (KI (G.take k)+0)),_,_];rw[Int.add_zero];rfl
  |some t=>
   refine Kh (b:=true) (V5 (d:=.int t) (UF rfl) rfl) (λ_=>Ze (Ke (UT (UF rfl) (Ka (UL (UF rfl) (UL (UF rfl) (UL (UF rfl) (UL (UF rfl) UQ)))) rfl (AA g ga hs (dl.wish k t _ hp hs))) KM) (Qa rfl) rfl) (K3 ⟨some (.pub (.int (k:Nat))),pb (.int t),?_⟩)) λz=>by cases z
   rw[hsum];rfl
 case hend=>rintro ρ ⟨x4,x5,rfl⟩;refine Kk (Kc (UF rfl) ?_);rw[Ym,Qb,List.take_of_length_le (by rw[RJ hl];omega)]
theorem Gy(h:∀p∈W,p.1<ws.length)(hb:Yg [U7 cs ls,U0 ws,.list (W.map U4)]=some (.bool true)):X4 [U7 cs ls,U0 ws,.list (W.map U4)]=some (U0 (ZD W ws)):=by
 let S0:Option Sl:=some (.pub (U7 cs ls))
 let S1:Option Sl:=some (.pub (U0 ws))
 let S2:Option Sl:=some (.pub (.list (W.map U4)))
 refine KW (ρ:=[S0,S1,S2]) rfl ?_;unfold W8;apply Kp;exact Kh (b:=false) (ρ1:=[S0,S1,S2]) (Yl (YK (Ka (UL (UF rfl) (UL (UF rfl) (UL (UF rfl) UQ))) rfl hb))) (λz=>by cases z) λ_=>KB (Kk (Kc (Ka (UL (UF rfl) (UL (UF rfl) UQ)) rfl (DS h)) rfl))
theorem Aa(g:Good cs ls)(hd:YH cs (Kn 0 ls) ls.length ws)(h:WayQ cs (Kn 0 ls) ws W):Yg [U7 cs ls,U0 ws,.list (W.map U4)]=some (.bool true)/\W.length<=7:=by
 have l7:=g.l7;have hl:=hd.len
 have hWl:W.length<=7:=by
  have h1:=VO ws.length (W.map λp=>((p.1:Nat):Int)) (by
   have e:(W.map λp=>((p.1:Nat):Int))=(W.map Prod.fst).map λn:Nat=>(n:Int):=by rw[QT];rfl
   rw[e];exact List.Pairwise.map _ (λa b h e=>h (by omega)) h.nd) (λa ha=>by
   obtain⟨p,hp,rfl⟩:=Qs.mp ha;have:=SL h hp
   omega)
  rw[Qb]at h1;omega
 obtain⟨b,hb,hi⟩:=Ab g hd.len (d:=.list (W.map U4)) (λxs e=>by injection e with e;rw[←e,Qb];omega);rw[hi.mpr ⟨W,rfl,h⟩]at hb;exact⟨hb,hWl⟩
theorem Gx(g:Good cs ls)(ga:YV cs.length ls.length old ts)(hd:YH cs (Kn 0 ls) ls.length ws)(h:WayQ cs (Kn 0 ls) ws W):Y5 [U7 cs ls,Kx o old ts,U0 ws,.list (W.map U4)]=some (.int (KI (K6 (KH ls o old ts) 0 ls (ZD W ws))-KI (K6 (KH ls o old ts) 0 ls ws))):=by
 let S0:Option Sl:=some (.pub (U7 cs ls))
 let S1:Option Sl:=some (.pub (Kx o old ts))
 let S2:Option Sl:=some (.pub (U0 ws))
 let S3:Option Sl:=some (.pub (.list (W.map U4)))
 refine KW (ρ:=[S0,S1,S2,S3]) rfl ?_;unfold W7;refine U2 (ρ1:=[S0,S1,S2,S3]) (Xy (Ka (UL (UF rfl) (UL (UF rfl) UQ)) rfl (P5 g ga))) ?_;exact Kc (UT (Ka (UL (UF rfl) (UL (UF rfl) (UL (Ka (UL (UF rfl) (UL (UF rfl) (UL (UF rfl) UQ))) rfl (Gy (λp hp=>SL h hp) (Aa g hd h).1)) UQ))) rfl (My g ga (Oj hd h).len)) (Ka (UL (UF rfl) (UL (UF rfl) (UL (UF rfl) UQ))) rfl (My g ga hd.len)) ZO) rfl
end
section
variable{cs:List Int}{ls:L3}{ws:LO}{W:List (Nat×Option Int)}
theorem Lp{xs:List Int}:oEq (.list (xs.map int)) (.list [])=some xs.isEmpty:=by have h1:(Uq (xs.map int)).canLay0=true:=NH xs;unfold oEq;rw[Qq ⟨h1,rfl,by have:=NG xs;unfold KS at this;omega⟩];cases xs<;>rfl
end
def Y4(f:Nat->Option Nat):Prop:=∀a b c,f a=some c->f b=some c->a=b
structure Wj(f:Nat->Option Nat)(b:Nat)(A:List Nat):Prop where
 hd:A.head?=some b
 st:∀(k:Nat) x y,A[k]?=some x->A[k+1]?=some y->f x=some y
 ne:∀(k:Nat) x,A[k+1]?=some x->x≠b
structure EndF(f:Nat->Option Nat)(b:Nat)(A:List Nat):Prop where
 wk:Wj f b A
 fin:∀l,A.getLast?=some l->f l=none∨f l=some b
theorem Nc{f:Nat->Option Nat}{b:Nat}{A:List Nat}(hi:Y4 f)(w:Wj f b A):∀(i j:Nat) x,i<j->A[i]?=some x->A[j]?≠some x
 |0,j,x,h,e1,e2=>by
  obtain⟨m,rfl⟩:∃m,j=m+1:=⟨j-1,by omega⟩
  have:x=b:=by have:=w.hd;rw[JS,e1]at this;exact Qt this
  exact w.ne m x e2 this
 |i+1,j,x,h,e1,e2=>by
  obtain⟨m,rfl⟩:∃m,j=m+1:=⟨j-1,by omega⟩
  have l1:=(Qg.mp e1).1;have l2:=(Qg.mp e2).1;have h1:A[i]?=some A[i]:=Qd _;have h2:A[m]?=some A[m]:=Qd _;have e:=hi _ _ x (w.st i _ _ h1 e1) (w.st m _ _ h2 e2);exact Nc hi w i m A[i] (by omega) h1 (by rw[h2,e])
theorem TJ{f:Nat->Option Nat}{b:Nat}{A:List Nat}(hi:Y4 f)(w:Wj f b A):A.Nodup:=by refine List.pairwise_iff_getElem.mpr λi j h1 h2 hij e=>?_;exact Nc hi w i j A[i] hij (Qd h1) (by rw[e];exact Qd h2)
def Pg(f:Nat->Option Nat)(M:List Nat):Prop:=∀c d,c∉M->f c=some d->d∉M
def MM(f:Nat->Option Nat)(M:List Nat):Prop:=∀c d,c∈M->f c=some d->d∈M
theorem N0{f:Nat->Option Nat}{b:Nat}{A M:List Nat}(hs:Pg f M)(w:Wj f b A)(hb:b∉M):∀a∈A,a∉M:=by
 have key:∀(k:Nat) x,A[k]?=some x->x∉M:=λk=>by
  induction k with
  |zero=>intro x e;have:=w.hd;rw[JS,e]at this;rw[Qt this];exact hb
  |succ k ih=>intro x e;have l:=(Qg.mp e).1;have h1:A[k]?=some (A[k]'(by omega)):=Qd _;exact hs _ x (ih _ h1) (w.st k _ _ h1 e)
 intro a ha;obtain⟨k,hk⟩:=Js.mp ha;exact key k a hk
theorem Gw{f:Nat->Option Nat}{b:Nat}{A:List Nat}(w:EndF f b A){a d:Nat}(ha:a∈A)(h:f a=some d):d∈A:=by
 obtain⟨k,hk⟩:=Js.mp ha;have l:=(Qg.mp hk).1;by_cases e:k+1<A.length
 ·have h1:A[k+1]?=some A[k+1]:=Qd e;have:=w.wk.st k _ _ hk h1;rw[h]at this;rw[Qt this];exact Je e
 ·have hl:A.getLast?=some a:=by
   rw[Jq,←hk]
   congr 1
   omega
  rcases w.fin a hl with e|e
  ·rw[e]at h;cases h
  ·rw[h]at e;rw[Qt e];exact List.mem_of_mem_head? (by rw[w.wk.hd];rfl)
theorem DI{f:Nat->Option Nat}{b:Nat}{A:List Nat}(hi:Y4 f)(w:Wj f b A){c d:Nat}(hd:d∈A)(h:f c=some d):c∈A∨d=b:=by
 obtain⟨k,hk⟩:=Js.mp hd;have l:=(Qg.mp hk).1;cases k with
 |zero=>have:=w.hd;rw[JS,hk]at this;exact .inr (Qt this)
 |succ k=>have h1:A[k]?=some (A[k]'(by omega)):=Qd _;have:=hi _ _ d (w.st k _ _ h1 hk) h;exact .inl (this ▸ Je _)
structure MetF(f:Nat->Option Nat)(M:List Nat):Prop where
 nd:M.Nodup
 si:Pg f M
 so:MM f M
theorem DH{f:Nat->Option Nat}:MetF f []:=⟨Ua,(λ_ _ _ _ h=>by cases h),λ_ _ h=>by cases h⟩
theorem Ex{f:Nat->Option Nat}{b:Nat}{A M:List Nat}(hi:Y4 f)(m:MetF f M)(hb:b∉M)(w:EndF f b A)(hc:(∀c,f c≠some b) ∨ ∀l,A.getLast?=some l->f l=some b):MetF f (M++A) where
 nd:=JV.mpr ⟨m.nd,TJ hi w.wk,λa ha x hx e=>N0 m.si w.wk hb x hx (e ▸ ha)⟩
 si:=λc d hc' h hd=>by
  rw[QL,not_or]at hc';rcases QL.mp hd with hd|hd
  ·exact m.si c d hc'.1 h hd
  ·rcases DI hi w.wk hd h with e|rfl
   ·exact hc'.2 e
   ·rcases hc with hc|hc
    ·exact hc c h
    ·cases hA:A.getLast? with
     |none=>rw[List.getLast?_eq_none_iff]at hA;rw[hA]at hd;cases hd
     |some l=>exact hc'.2 (hi _ _ _ (hc l hA) h ▸ JY hA)
 so:=λc d hc' h=>by
  rcases QL.mp hc' with hc'|hc'
  ·exact Q6 _ (m.so c d hc' h)
  ·exact Qz _ (Gw w hc' h)
theorem WJ:∀(a b:List Nat),a.Nodup->(∀x∈a,x∈b)->a.length<=b.length
 |[],_,_,_=>J6 _
 |x::a,b,hn,h=>by
  have hx:=h x Qo;have hn':=JC.mp hn
  have:=WJ a (b.erase x) hn'.2 λy hy=>by
   have hne:y≠x:=λe=>hn'.1 (e ▸ hy)
   exact(List.mem_erase_of_ne hne).mpr (h y (Qu _ hy))
  rw[List.length_erase_of_mem hx]at this;have:=Jy hx;rw[QB];omega
theorem Oh{f:Nat->Option Nat}:∀{U:List Nat}{u:Nat},u∈U->f u=none->(U.filterMap f).length<U.length
 |x::U,u,h,e=>by
  rcases QR.mp h with rfl|h
  ·rw[List.filterMap_cons_none e,QB];have:=List.length_filterMap_le f U;omega
  ·have ih:=Oh h e;rw[JZ];split
   ·rw[QB];omega
   ·rw[QB,QB];omega
theorem Gv{f:Nat->Option Nat}{D M:List Nat}(hD:D.Nodup)(hf:∀a b,f a=some b->a∈D)(m:MetF f M)(h:∀u∈D,u∉M->∃c,f c=some u):∀u∈D,u∉M->f u≠none:=by
 intro u hu hm e
 let U:=D.filter λx=>!M.contains x
 have hU:∀{x},x∈U ↔ x∈D/\x∉M:=by intro x;show x∈D.filter _ ↔ _;rw[Q9];simp
 have h1:U.length<=(U.filterMap f).length:=WJ U _ (hD.filter _) λx hx=>by obtain⟨hxD,hxM⟩:=hU.mp hx;obtain⟨c,hc⟩:=h x hxD hxM;exact List.mem_filterMap.mpr ⟨c,hU.mpr ⟨hf c x hc,λhcm=>hxM (m.so c x hcm hc)⟩,hc⟩
 have h2:=Oh (f:=f) (hU.mpr ⟨hu,hm⟩) e;omega
def mvL(one other:LO):List Nat:=(Uo one.length).filter λi=>!decide (one.getD i none=other.getD i none)
def tkL(one other:LO)(t:Int):List Nat:=(mvL one other).filter λi=>decide (other.getD i none=some t)
def gvL(one other:LO)(t:Int):List Nat:=(mvL one other).filter λi=>decide (one.getD i none=some t)
def prL(one other:LO)(n:Nat):List (Nat×Nat):=(Uo n).flatMap λt:Nat=>(tkL one other (t:Int)).zip (gvL one other (t:Int))
def Kw(ps:List (Nat×Nat))(a:Nat):Option Nat:=(ps.find? λp=>decide (p.1=a)).map (·.2)
section
variable{one other:LO}{n:Nat}
theorem Xi{i:Nat}:i∈mvL one other ↔ i<one.length/\one.getD i none≠other.getD i none:=by unfold mvL;rw[Q9,QY];simp
theorem Sz:(mvL one other).Nodup:=List.nodup_range.filter _
theorem WH{t:Int}{i:Nat}:i∈tkL one other t ↔ i∈mvL one other/\other.getD i none=some t:=by unfold tkL;rw[Q9,Jn]
theorem Rl{t:Int}{i:Nat}:i∈gvL one other t ↔ i∈mvL one other/\one.getD i none=some t:=by unfold gvL;rw[Q9,Jn]
theorem Nb{α β:Type}:∀{as:List α}{bs:List β}{p:α×β},p∈as.zip bs->∃k:Nat,as[k]?=some p.1/\bs[k]?=some p.2
 |[],_,_,h=>by cases h
 |_::_,[],_,h=>by cases h
 |a::as,b::bs,p,h=>by
  rcases QR.mp h with rfl|h
  ·exact⟨0,rfl,rfl⟩
  ·obtain⟨k,h1,h2⟩:=Nb h;exact⟨k+1,h1,h2⟩
theorem WG{p:Nat×Nat}(h:p∈prL one other n):∃t:Nat,t<n/\∃k:Nat,(tkL one other t)[k]?=some p.1/\(gvL one other t)[k]?=some p.2:=by obtain⟨t,ht,hp⟩:=List.mem_flatMap.mp h;obtain⟨k,h1,h2⟩:=Nb hp;exact⟨t,QY.mp ht,k,h1,h2⟩
theorem Na{l:List Nat}(h:l.Nodup){i j x:Nat}(h1:l[i]?=some x)(h2:l[j]?=some x):i=j:=by obtain⟨l1,e1⟩:=Qg.mp h1;obtain⟨l2,e2⟩:=Qg.mp h2;exact(List.getElem_inj h).mp (e1.trans e2.symm)
theorem Gu{p q:Nat×Nat}(hp:p∈prL one other n)(hq:q∈prL one other n)(e:p.1=q.1):p=q:=by
 obtain⟨t,_,k,a1,a2⟩:=WG hp;obtain⟨u,_,m,b1,b2⟩:=WG hq;have h1:=(WH.mp (Qn a1)).2;have h2:=(WH.mp (Qn b1)).2;rw[e,h2]at h1;have:t=u:=by have:=Qt h1;omega
 subst this;have:=Na (Sz.filter _) a1 (by rw[e];exact b1);subst this;rw[a2]at b2;exact Prod.ext e (Qt b2)
theorem Gs{p q:Nat×Nat}(hp:p∈prL one other n)(hq:q∈prL one other n)(e:p.2=q.2):p=q:=by
 obtain⟨t,_,k,a1,a2⟩:=WG hp;obtain⟨u,_,m,b1,b2⟩:=WG hq;have h1:=(Rl.mp (Qn a2)).2;have h2:=(Rl.mp (Qn b2)).2;rw[e,h2]at h1;have:t=u:=by have:=Qt h1;omega
 subst this;have:=Na (Sz.filter _) a2 (by rw[e];exact b2);subst this;rw[a1]at b1;exact Prod.ext (Qt b1) e
theorem Tz{ps:List (Nat×Nat)}{a b:Nat}(h:Kw ps a=some b):(a,b)∈ps:=by
 unfold Kw at h;cases e:ps.find? λp=>decide (p.1=a)with
 |none=>rw[e]at h;cases h
 |some p=>
  rw[e]at h;cases h;have h1:=List.mem_of_find?_eq_some e;have h2:p.1=a:=by have:=List.find?_some e;simpa using this
  rw[←h2];exact h1
theorem NZ{ps:List (Nat×Nat)}{a:Nat}(h:Kw ps a=none):∀b,(a,b)∉ps:=λb hb=>by unfold Kw at h;rw[Option.map_eq_none_iff,List.find?_eq_none]at h;exact h _ hb (QM rfl)
theorem Ts:Y4 (Kw (prL one other n)):=λa b c h1 h2=>JW Prod.fst (Gs (Tz h1) (Tz h2) rfl)
theorem Tn{a b:Nat}(h:Kw (prL one other n) a=some b):a∈mvL one other/\b∈mvL one other/\∃t:Nat,other.getD a none=some (t:Int)/\one.getD b none=some (t:Int):=by obtain⟨t,_,k,h1,h2⟩:=WG (Tz h);have g1:=WH.mp (Qn h1);have g2:=Rl.mp (Qn h2);exact⟨g1.1,g2.1,t,g1.2,g2.2⟩
theorem PZ{α β:Type}:∀{as:List α}{bs:List β}{k:Nat}{a:α}{b:β},as[k]?=some a->bs[k]?=some b->(a,b)∈as.zip bs
 |_::_,_::_,0,_,_,h1,h2=>by cases h1;cases h2;exact Qo
 |_::_,_::_,k+1,_,_,h1,h2=>List.mem_cons_of_mem _ (PZ (k:=k) (by simpa using h1) (by simpa using h2))
theorem Ew{a t:Nat}(ht:t<n)(ha:a∈mvL one other)(h:other.getD a none=some (t:Int))(hn:Kw (prL one other n) a=none):(gvL one other t).length<(tkL one other t).length:=by obtain⟨k,hk⟩:=Js.mp (WH.mpr ⟨ha,h⟩);have l:=(Qg.mp hk).1;apply Decidable.byContradiction;intro hc;have hb:(gvL one other t)[k]?=some ((gvL one other t)[k]'(by omega)):=Qd _;exact NZ hn _ (List.mem_flatMap.mpr ⟨t,QY.mpr ht,PZ hk hb⟩)
theorem RU(x:Option Int):∀(l:LO),l.count x=((Uo l.length).filter λi=>decide (l.getD i none=x)).length
 |[]=>rfl
 |o::l=>by
  rw[QB,List.range_succ_eq_map,List.filter_cons,JD,List.count_cons,RU x l];have e:((λi=>decide ((o::l).getD i none=x)) ∘ Nat.succ)=λi=>decide (l.getD i none=x):=rfl;rw[e];show _=(if decide (o=x)=true then _ else _:List Nat).length
  by_cases h:o=x
  ·rw[if_pos (by simpa using h),if_pos (decide_eq_true h),List.length_cons,List.length_map]
  ·rw[if_neg (by simpa using h),if_neg (by simpa using h),List.length_map,Nat.add_zero]
theorem RT{p q:Nat->Bool}:∀(l:List Nat),(l.filter p).length=(l.filter λi=>q i&&p i).length+(l.filter λi=>!q i&&p i).length
 |[]=>rfl
 |x::l=>by have ih:=RT (p:=p) (q:=q) l;cases hp:p x<;>cases hq:q x<;>simp[hp,hq]<;>omega
theorem Ci(hl:one.length=other.length)(t:Int):other.count (some t)+(gvL one other t).length=one.count (some t)+(tkL one other t).length:=by
 have e1:=RT (p:=λi=>decide (other.getD i none=some t)) (q:=λi=>!decide (one.getD i none=other.getD i none)) (Uo one.length);have e2:=RT (p:=λi=>decide (one.getD i none=some t)) (q:=λi=>!decide (one.getD i none=other.getD i none)) (Uo one.length);have c1:=RU (some t) other;have c2:=RU (some t) one;rw[←hl]at c1;have t1:(tkL one other t).length=((Uo one.length).filter λi=>(!decide (one.getD i none=other.getD i none))&&decide (other.getD i none=some t)).length:=by unfold tkL mvL;rw[List.filter_filter];congr 1;congr 1;funext i;exact Bool.and_comm _ _
 have t2:(gvL one other t).length=((Uo one.length).filter λi=>(!decide (one.getD i none=other.getD i none))&&decide (one.getD i none=some t)).length:=by unfold gvL mvL;rw[List.filter_filter];congr 1;congr 1;funext i;exact Bool.and_comm _ _
 have e3:((Uo one.length).filter λi=>!!decide (one.getD i none=other.getD i none)&&decide (other.getD i none=some t))=(Uo one.length).filter λi=>!!decide (one.getD i none=other.getD i none)&&decide (one.getD i none=some t):=by
  congr 1
  funext i;by_cases h:one.getD i none=other.getD i none
  ·rw[h]
  ·rw[QC h];rfl
 rw[e3]at e1;omega
end
def fwD(p:Nat×Nat):D×D:=(.int (p.1:Nat),.int (p.2:Nat))
def ntD(l:List Nat):List D:=(l.map λi:Nat=>(i:Int)).map int
theorem ZM(l:List Nat):ntD l=l.map λi:Nat=>int (i:Int):=by unfold ntD;rw[QT];rfl
section
variable{one other:LO}
theorem O9(hl:one.length=other.length)(h7:one.length<=7):YD [U0 one,U0 other]=some (.list (ntD (mvL one other))):=by
 let S0:Option Sl:=some (.pub (U0 one))
 let S1:Option Sl:=some (.pub (U0 other))
 refine KW (ρ:=[S0,S1]) rfl ?_;unfold W6
 have hc:Kq (gT 2 (gNC (gN 2) (gNC (gN 3) (gN0)))) (KG oNe 3 (US 1 (UD 2))) (UD 2) (Zx 0 (one.map UO)) (U8 [S0,S1]++Up 2 none) []=some (ntD (mvL one other)):=by
  have hq:Zx 0 (one.map UO)=(Uo one.length).map λi=>.tuple [.int (i:Nat),UO (one.getD i none)]:=by
   refine List.ext_getElem? λi=>?_
   by_cases hi:i<one.length
   ·rw[Qf,List.getElem?_range hi];have hx:(Zx 0 (one.map UO))[i]?=some ((Zx 0 (one.map UO))[i]'(by rw[Ym,Qb];exact hi)):=Qd _;obtain⟨x,h1,h2⟩:=Xf hx;rw[hx,h2,Jd];rw[Qf,Qd hi]at h1;cases h1;show _=some (PyData.tuple [.int (i:Nat),UO (one.getD i none)]);rw[Tt (Qd hi)]
   ·rw[Q5 (by rw[Ym,Qb];omega),Q5 (by rw[Qb,QS];omega)]
  rw[hq,Xh (λd=>match d with | .tuple [.int i,_]=>!decide (one.getD i.toNat none=other.getD i.toNat none)|_=>false) (λd=>match d with | .tuple [i,_]=>i|_=>.none) (λρ=>∃x y,ρ=[S0,S1,x,y])]
  ·rw[Ji,JD,QT,ZM];rfl
  ·rintro d hm ρ ⟨x,y,rfl⟩;obtain⟨i,hi,rfl⟩:=Qs.mp hm;have hi:=QY.mp hi;have ho:other[i]?=some (other[i]'(by omega)):=Qd _;have hix:oIx (U0 other) (.int ((i:Nat):Int))=some (UO (other.getD i none)):=by rw[Tt ho];exact KQ (by rw[Qf,ho];rfl)
   refine⟨_,KD rfl (U3 (UR (Qa rfl) rfl) (U3 (UR (Qa rfl) rfl) KE)),?_,λ_=>UF rfl,_,_,rfl⟩;show KG oNe 3 (US 1 (UD 2)) _=.ok (!decide (one.getD ((i:Nat):Int).toNat none=other.getD ((i:Nat):Int).toNat none)) _;rw[QX];exact Zq rfl (Ks rfl (UF rfl) hix) SZ
  ·exact⟨none,none,rfl⟩
  ·rw[Qb,QS,QN];omega
 exact Kc (Kl (ZE (Wq (UL (UF rfl) UQ) Ww) hc)) rfl
theorem So(n:Nat):prL one other (n+1)=prL one other n++(tkL one other n).zip (gvL one other n):=by unfold prL;rw[List.range_succ,List.flatMap_append];show _++((tkL one other (n:Int)).zip (gvL one other (n:Int))++[])=_;rw[Jh]
theorem R5{α β:Type}:∀(as:List α)(bs:List β),((as.zip bs).map Prod.fst).Sublist as
 |[],_=>List.nil_sublist _
 |_::_,[]=>List.nil_sublist _
 |a::as,b::bs=>(R5 as bs).cons₂ a
theorem RS:∀n:Nat,((prL one other n).map Prod.fst).Nodup
 |0=>Ua
 |n+1=>by rw[So,QF];refine JV.mpr ⟨RS n,(R5 _ _).nodup (Sz.filter _),λa ha b hb e=>?_⟩;obtain⟨p,hp,rfl⟩:=Qs.mp ha;obtain⟨t,ht,k,h1,_⟩:=WG hp;have g1:=(WH.mp (Qn h1)).2;have g2:=(WH.mp ((R5 _ _).subset hb)).2;rw[←e,g1]at g2;have:=Qt g2;omega
theorem Gr(h7:one.length<=7)(n:Nat):(prL one other n).length<=7:=by
 have h1:=WJ _ (mvL one other) (RS (one:=one) (other:=other) n) λx hx=>by obtain⟨p,hp,rfl⟩:=Qs.mp hx;obtain⟨t,ht,k,h1,_⟩:=WG hp;exact(WH.mp (Qn h1)).1
 rw[Qb]at h1;have h2:(mvL one other).length<=one.length:=by have:=Jr (λi=>!decide (one.getD i none=other.getD i none)) (Uo one.length);rw[QS]at this;exact this
 omega
theorem Gq{ps:List (Nat×Nat)}{a b:Nat}(h:a∉ps.map Prod.fst):Yr (ps.map fwD) (.inl (a:Int)) (.int (b:Nat))=(ps++[(a,b)]).map fwD:=by
 unfold Yr;rw[QG,QF]
 ·rfl
 ·intro hc;rw[List.any_eq_true]at hc;obtain⟨q,hq,e⟩:=hc;obtain⟨p,hp,rfl⟩:=Qs.mp hq;have e:Z0 (int (p.1:Nat))=some (.inl ((a:Nat):Int)):=Qa e;have e:some (Sum.inl ((p.1:Nat):Int))=some (Sum.inl (β:=Str) ((a:Nat):Int)):=e;have e:=Sum.inl.inj (Qt e);exact h (Qs.mpr ⟨p,hp,by omega⟩)
end
section
variable{one other:LO}
theorem Og{ws:LO}{j:Nat}{L:List Nat}{t:Int}{R:UE}(hL:L.length<=100)(hw:∀i∈L,i<ws.length)(I:UE->Prop)(h0:I R)
  (hI:∀ρ,I ρ->∀d,∃ρ1,gN 10 d ρ=some ρ1/\UD 10 ρ1=.ok d ρ1/\(∀y,oIx (U0 ws) d=some y->US j (UD 10) ρ1=.ok y ρ1)/\UD 5 ρ1=.ok (.int t) ρ1/\I (U8 ρ1)) :
  Kq (gN 10) (UH oEq (US j (UD 10)) (UD 5)) (UD 10) (ntD L) R []=some (ntD (L.filter λi=>decide (ws.getD i none=some t))):=by
 rw[Xh (λd=>match d with | .int i=>decide (ws.getD i.toNat none=some t)|_=>false) (λd=>d) I]
 ·rw[Ji,J9,ZM,ZM,JD];rfl
 ·intro d hd ρ hρ;obtain⟨ρ1,e1,e2,e3,e4,e5⟩:=hI ρ hρ d;rw[ZM]at hd;obtain⟨i,hi,rfl⟩:=Qs.mp hd;have hil:=hw i hi;have ho:ws[i]?=some ws[i]:=Qd hil;have hix:oIx (U0 ws) (.int ((i:Nat):Int))=some (UO ws[i]):=KQ (by rw[Qf,ho];rfl);refine⟨ρ1,e1,?_,λ_=>e2,e5⟩;show UH oEq _ _ ρ1=.ok (decide (ws.getD ((i:Nat):Int).toNat none=some t)) ρ1;rw[QX,Tt ho];exact UT (e3 _ hix) e4 (Se (b:=some t))
 ·exact h0
 ·rw[ZM,Qb,QN];omega
theorem Ay{n:Nat}(hl:one.length=other.length)(h7:one.length<=7)(hn:n<=6):X3 [.int n,U0 one,U0 other]=some (.dict ((prL one other n).map fwD)):=by
 let S0:Option Sl:=some (.pub (.int n))
 let S1:Option Sl:=some (.pub (U0 one))
 let S2:Option Sl:=some (.pub (U0 other))
 let S3:Option Sl:=some (.pub (.list (ntD (mvL one other))))
 have hm7:(mvL one other).length<=7:=by have:=Jr (λi=>!decide (one.getD i none=other.getD i none)) (Uo one.length);rw[QS]at this;exact QQ this h7
 have hmw:∀i∈mvL one other,i<one.length:=λi hi=>(Xi.mp hi).1;refine KW (ρ:=[S0,S1,S2,none,none,none,none,none,none,none]) rfl ?_;unfold W5;refine U2 (ρ1:=[S0,S1,S2,S3,none,none,none,none,none,none]) (Ke (Ka (UL (UF rfl) (UL (UF rfl) UQ)) rfl (O9 hl h7)) (Qa rfl) rfl) ?_;refine U2 (ρ1:=[S0,S1,S2,S3,some (.deep .dic (.dict [])),none,none,none,none,none]) (El UM (Qa rfl) rfl) ?_;apply Kp;apply Zg (λk ρ=>∃x5 x6 x7 x8 x9,ρ=[S0,S1,S2,S3,some (.deep .dic (.dict ((prL one other k).map fwD))),x5,x6,x7,x8,x9])
 case h1=>exact Wr (UL (UF rfl) UQ) (Wx (by omega) (by omega))
 case h0=>exact⟨_,_,_,_,_,rfl⟩
 case hst=>
  rintro k d ρ hk ⟨x5,x6,x7,x8,x9,rfl⟩;obtain⟨rfl,hkn⟩:=Wv hk;rw[J7];refine⟨_,UR (Qa rfl) rfl,?_⟩;unfold OG
  let S4:Option Sl:=some (.deep .dic (.dict ((prL one other k).map fwD)))
  let S5:Option Sl:=some (.pub (.int (k:Nat)))
  have c1:Kq (gN 10) (UH oEq (US 2 (UD 10)) (UD 5)) (UD 10) (ntD (mvL one other)) (U8 [S0,S1,S2,S3,S4,S5,x6,x7,x8,x9]++Up 1 none) []=some (ntD (tkL one other k)):=
   Og (by omega) (λi hi=>by have:=hmw i hi;omega) (λρ=>∃y4 y6 y7 y8 y9 x,ρ=[S0,S1,S2,S3,y4,S5,y6,y7,y8,y9,x]) ⟨_,_,_,_,_,none,rfl⟩ λρ ⟨y4,y6,y7,y8,y9,x,e⟩ d=>by subst e;exact⟨_,UR (Qa rfl) rfl,UF rfl,λy hy=>Ks rfl (UF rfl) hy,UF rfl,_,_,_,_,_,_,rfl⟩
  let S6:Option Sl:=some (.own (ntD (tkL one other k)))
  refine U2 (ρ1:=[S0,S1,S2,S3,S4,S5,S6,x7,x8,x9]) (Zz (ZE (K7 (UF rfl) Zp) c1) (Qa rfl) rfl) ?_
  have c2:Kq (gN 10) (UH oEq (US 1 (UD 10)) (UD 5)) (UD 10) (ntD (mvL one other)) (U8 [S0,S1,S2,S3,S4,S5,S6,x7,x8,x9]++Up 1 none) []=some (ntD (gvL one other k)):=
   Og (by omega) hmw (λρ=>∃y4 y6 y7 y8 y9 x,ρ=[S0,S1,S2,S3,y4,S5,y6,y7,y8,y9,x]) ⟨_,_,_,_,_,none,rfl⟩ λρ ⟨y4,y6,y7,y8,y9,x,e⟩ d=>by subst e;exact⟨_,UR (Qa rfl) rfl,UF rfl,λy hy=>Ks rfl (UF rfl) hy,UF rfl,_,_,_,_,_,_,rfl⟩
  let S7:Option Sl:=some (.own (ntD (gvL one other k)))
  refine U2 (ρ1:=[S0,S1,S2,S3,S4,S5,S6,S7,x8,x9]) (Zz (ZE (K7 (UF rfl) Zp) c2) (Qa rfl) rfl) ?_
  let Z:=(tkL one other k).zip (gvL one other k)
  have hz:Zf (ntD (tkL one other k)) (ntD (gvL one other k))=Z.map λp:Nat×Nat=>PyData.tuple [.int (p.1:Nat),.int (p.2:Nat)]:=by unfold ntD;rw[CA,List.zip_map,QT];rfl
  have hfew:=Gr (other:=other) h7 (k+1);rw[So,Qj]at hfew;have hfew:(prL one other k).length+Z.length<=7:=hfew;have hnd:=RS (one:=one) (other:=other) (k+1);rw[So,QF]at hnd;apply Zg (λm ρ=>∃y6 y7 x8 x9,ρ=[S0,S1,S2,S3,some (.deep .dic (.dict ((prL one other k++Z.take m).map fwD))),S5,y6,y7,x8,x9])
  case h1=>exact Rc (UL (ZG rfl rfl) (UL (ZG rfl rfl) UQ)) (show Yt [.list (ntD (tkL one other k)),.list (ntD (gvL one other k))]=_ from JW some hz)
  case h0=>exact⟨_,_,_,_,by rw[JJ,Jh];rfl⟩
  case hst=>
   rintro m d ρ hm ⟨y6,y7,x8,x9,rfl⟩;rw[Qf]at hm;cases hp:Z[m]? with
   |none=>rw[hp]at hm;cases hm
   |some p=>
   rw[hp]at hm;cases hm;have hml:m<Z.length:=(Qg.mp hp).1;have hta:Z.take (m+1)=Z.take m++[p]:=by rw[Ub,hp];rfl
   have hnot:p.1∉(prL one other k++Z.take m).map Prod.fst:=λhc=>by
    have hs:((prL one other k++Z.take m)++[p]).Sublist (prL one other k++Z):=by rw[Jm,←hta];exact(List.Sublist.refl _).append (List.take_sublist _ _)
    have h1:=(hs.map Prod.fst).nodup (by rw[QF];exact hnd);rw[QF]at h1;exact(List.nodup_append.mp h1).2.2 _ hc _ (by simp) rfl
   refine⟨_,KD rfl (U3 (UR (Qa rfl) rfl) (U3 (UR (Qa rfl) rfl) KE)),?_⟩;unfold OH;refine Ze (Gi (k:=.inl ((p.1:Nat):Int)) (UF rfl) rfl (UF rfl) rfl rfl (by rw[Qb,Qj,Ju];omega) rfl) (K3 ⟨y6,y7,pb (.int (p.1:Nat)),pb (.int (p.2:Nat)),?_⟩);rw[Gq hnot,hta,Jm];rfl
  case hend=>rintro ρ ⟨y6,y7,y8,y9,rfl⟩;rw[Qb,JN,←So];exact K3 ⟨_,_,_,_,_,rfl⟩
 case hend=>rintro ρ ⟨x5,x6,x7,x8,x9,rfl⟩;rw[YM,Int.sub_zero,QX];exact Kk (Kc (GI rfl rfl) rfl)
def fnD:Option Nat->D
 |none=>.none
 |some c=>.int (c:Nat)
def tkA(other:LO)(a:Nat):D:=U4 (a,other.getD a none)
theorem Of{ps:List (Nat×Nat)}(a:Nat):XH (.dict (ps.map fwD)) (.int ((a:Nat):Int))=some (fnD (Kw ps a)):=by
 show some ((((ps.map fwD).find? λp=>decide (Z0 p.1=some (.inl ((a:Nat):Int)))).map (·.2)).getD .none)=_
 congr 1
 unfold Kw;rw[List.find?_map]
 have e:((λp:D×D=>decide (Z0 p.1=some (.inl ((a:Nat):Int)))) ∘ fwD)=λp:Nat×Nat=>decide (p.1=a):=by
  funext p;show decide (some (Sum.inl (β:=Str) ((p.1:Nat):Int))=some (Sum.inl ((a:Nat):Int)))=decide (p.1=a);by_cases h:p.1=a
  ·rw[h,QM rfl,QM rfl]
  ·rw[QC h,QC (λz=>h (by have:=Sum.inl.inj (Qt z);omega))]
 rw[e];cases ps.find? λp=>decide (p.1=a)<;>rfl
theorem O8{ps:List (Nat×Nat)}:TQ (.dict (ps.map fwD))=true:=by
 show(ps.map fwD).all (λkv=>SS kv.1)=true
 rw[J8,Jb];exact λ_ _=>rfl
theorem Ch{f:Nat->Option Nat}{b c l:Nat}{A:List Nat}(w:Wj f b A)(hl:A.getLast?=some l)(h:f l=some c)(hc:c≠b):Wj f b (A++[c]):=by
 have hne:A≠[]:=λe=>by rw[e]at hl;cases hl
 have hpos:0<A.length:=J0.mpr hne;refine⟨by rw[List.head?_append,w.hd];rfl,λk x y h1 h2=>?_,λk x h1=>?_⟩
 ·have l2:=(Qg.mp h2).1;rw[Qj,QU]at l2;rw[Qm (by omega)]at h1;by_cases e:k+1<A.length
  ·rw[Qm e]at h2;exact w.st k x y h1 h2
  ·have ek:k+1=A.length:=by omega
   rw[Qr (by omega),ek,Nat.sub_self]at h2;cases h2;have:A[k]?=some l:=by rw[←hl,Jq];congr 1;omega
   rw[h1]at this;rw[Qt this];exact h
 ·by_cases e:k+1<A.length
  ·rw[Qm e]at h1;exact w.ne k x h1
  ·have l1:=(Qg.mp h1).1;rw[Qj,QU]at l1;rw[Qr (by omega)]at h1;have:k+1-A.length=0:=by omega
   rw[this]at h1;cases h1;exact hc
theorem Ev{n b:Nat}(hl:one.length=other.length)(h7:one.length<=7):∀(k fuel:Nat)(A:List Nat)(l:Nat),Wj (Kw (prL one other n)) b A->(∀a∈A,a<one.length)->A.getLast?=some l->A.length+k=8->k<fuel ->
  ∃A' l',Yj (KJ (UN (λd=>!isNon d) (UD 4)) (KG oNe 4 (UD 0))) Tu fuel [pb (.int (b:Nat)),pb (.dict ((prL one other n).map fwD)),pb (U0 other),some (.own (A.map (tkA other))),pb (fnD (Kw (prL one other n) l))]=.nx [pb (.int (b:Nat)),pb (.dict ((prL one other n).map fwD)),pb (U0 other),some (.own (A'.map (tkA other))),pb (fnD (Kw (prL one other n) l'))]/\EndF (Kw (prL one other n)) b A'/\∀a∈A',a<one.length:=by
 intro k;induction k with
 |zero=>
  intro fuel A l w hA hl2 hk _;have:=WJ A (Uo one.length) (TJ Ts w) λx hx=>QY.mpr (hA x hx)
  rw[QS]at this;omega
 |succ k ih=>
  intro fuel A l w hA hlast hk hf;obtain⟨fuel,rfl⟩:∃m,fuel=m+1:=⟨fuel-1,by omega⟩
  let f:=Kw (prL one other n)
  let S0:Option Sl:=some (.pub (.int (b:Nat)))
  let S1:Option Sl:=some (.pub (.dict ((prL one other n).map fwD)))
  let S2:Option Sl:=some (.pub (U0 other))
  let S3:Option Sl:=some (.own (A.map (tkA other)))
  have tst:∀(t:Bool),((f l=none∨f l=some b)/\t=false)∨((∃c,f l=some c/\c≠b)/\t=true)->KJ (UN (λd=>!isNon d) (UD 4)) (KG oNe 4 (UD 0)) [S0,S1,S2,S3,pb (fnD (f l))]=.ok t [S0,S1,S2,S3,pb (fnD (f l))]:=λt h=>by
   refine GC (t:=!isNon (fnD (f l))) (V5 (UF rfl) rfl) (λz=>?_) λz=>?_
   ·cases e:f l with
    |none=>rw[e]at z;cases z
    |some c=>
     refine Zq (d:=fnD (some c)) rfl (UF rfl) ?_;show oNe (.int ((c:Nat):Int)) (.int ((b:Nat):Int))=some t;rw[Xj];rcases h with ⟨h|h,rfl⟩|⟨⟨c',h,hc⟩,rfl⟩
     ·rw[h]at e;cases e
     ·rw[h]at e;cases e;rw[QM rfl];rfl
     ·rw[h]at e;cases e;rw[QC (by omega)];rfl
   ·rcases h with ⟨_,rfl⟩|⟨⟨c',h,hc⟩,rfl⟩
    ·rfl
    ·rw[h]at z;cases z
  by_cases hend:f l=none∨f l=some b
  ·refine⟨A,l,?_,⟨w,λl' hl'=>?_⟩,hA⟩
   ·rw[Yj,tst false (.inl ⟨hend,rfl⟩)];rfl
   ·rw[hlast]at hl';cases hl';exact hend
  ·rw[not_or]at hend
   obtain⟨c,hc⟩:∃c,f l=some c:=by
    cases e:f l with
    |none=>exact absurd e hend.1
    |some c=>exact⟨c,rfl⟩
   have hcb:c≠b:=λe=>hend.2 (by rw[hc,e])
   have hcl:c<one.length:=(Xi.mp (Tn hc).2.1).1;have ho:other[c]?=some (other[c]'(by omega)):=Qd _;have hix:oIx (U0 other) (.int ((c:Nat):Int))=some (UO (other.getD c none)):=by rw[Tt ho];exact KQ (by rw[Qf,ho];rfl)
   have hlen:A.length<=8:=by omega
   have hst:Tu [S0,S1,S2,S3,pb (.int (c:Nat))]=.nx [S0,S1,S2,some (.own ((A++[c]).map (tkA other))),pb (fnD (f c))]:=by
    have:Ho Tu [S0,S1,S2,S3,pb (.int (c:Nat))] λo=>o=.nx [S0,S1,S2,some (.own ((A++[c]).map (tkA other))),pb (fnD (f c))]:=by unfold Tu;refine U2 (ρ1:=[S0,S1,S2,some (.own ((A++[c]).map (tkA other))),pb (.int (c:Nat))]) (YU rfl (Tl (UL (UF rfl) (UL (Ks rfl (UF rfl) hix) UQ)) (Qa rfl)) rfl (by rw[Qb];omega) (by rw[QF];rfl)) ?_;exact Ze (Ke (Pw (UF rfl) O8 (UL (UF rfl) UQ) (Of c)) (Qa rfl) rfl) rfl
    exact this.out
   obtain⟨A',l',h1,h2,h3⟩:=ih fuel (A++[c]) c (Ch w hlast hc hcb) (λa ha=>(List.mem_append.mp ha).elim (hA a) λh=>by cases List.mem_singleton.mp h;exact hcl) (by simp) (by rw[List.length_append,List.length_singleton];omega) (by omega);refine⟨A',l',?_,h2,h3⟩;rw[Yj,tst true (.inr ⟨⟨c,hc,hcb⟩,rfl⟩)];dsimp only;rw[Qq rfl];have e4:fnD (f l)=.int (c:Nat):=by rw[hc];rfl
   rw[e4,hst];exact h1
theorem Ah{n b:Nat}(hl:one.length=other.length)(h7:one.length<=7)(hb:b<one.length):∃r,X2 [.int (b:Nat),.dict ((prL one other n).map fwD),U0 other]=some r/\∃A,r=.list (A.map (tkA other))/\EndF (Kw (prL one other n)) b A/\∀a∈A,a<one.length:=by
 let S0:Option Sl:=some (.pub (.int (b:Nat)))
 let S1:Option Sl:=some (.pub (.dict ((prL one other n).map fwD)))
 let S2:Option Sl:=some (.pub (U0 other))
 have ho:other[b]?=some (other[b]'(by omega)):=Qd _;have hix:oIx (U0 other) (.int ((b:Nat):Int))=some (UO (other.getD b none)):=by rw[Tt ho];exact KQ (by rw[Qf,ho];rfl)
 refine YT (ρ:=[S0,S1,S2,none,none]) rfl ?_;unfold W4;refine U2 (ρ1:=[S0,S1,S2,some (.own ([b].map (tkA other))),none]) (Zz (YW (UL (Tl (UL (UF rfl) (UL (Ks rfl (UF rfl) hix) UQ)) (Qa rfl)) UQ) (Qa rfl)) (Qa rfl) rfl) ?_;refine U2 (ρ1:=[S0,S1,S2,some (.own ([b].map (tkA other))),pb (fnD (Kw (prL one other n) b))]) (Ke (Pw (UF rfl) O8 (UL (UF rfl) UQ) (Of b)) (Qa rfl) rfl) ?_;obtain⟨A',l',h1,h2,h3⟩:=Ev (n:=n) (b:=b) hl h7 7 1000 [b] b ⟨rfl,(λk x y _ h=>by cases h),λk x h=>by cases h⟩ (λa ha=>by cases Qy.mp ha;exact hb) rfl rfl (by decide);refine U2 h1 ?_;exact Kc (ZG rfl rfl) ⟨_,rfl,A',rfl,h2,h3⟩
end
section
variable{cs:List Int}{ls:L3}{one other:LO}
theorem VT(l:List Nat):(ntD l).length=l.length:=by rw[ZM,Qb]
theorem Rk{b:Nat}{M:List Nat}:oIn (.int ((b:Nat):Int)) (.list (ntD M))=some (M.contains b):=by
 unfold ntD;rw[Sh]
 congr 1
 rw[Bool.eq_iff_iff,JU,JU];constructor
 ·intro h;obtain⟨i,hi,e⟩:=Qs.mp h;have e:i=b:=by omega
  exact e ▸ hi
 ·exact λh=>Qs.mpr ⟨b,h,rfl⟩
theorem Gp{ps:List (Nat×Nat)}:Xo (.dict (ps.map fwD))=some (ntD (ps.map Prod.snd)):=by unfold Xo;dsimp only;rw[Qq (by rw[J8,Jb];exact λ_ _=>rfl),ZM,QT,QT];rfl
theorem Go{n u:Nat}(h:u∈(prL one other n).map Prod.snd):∃c,Kw (prL one other n) c=some u:=by
 obtain⟨p,hp,rfl⟩:=Qs.mp h;refine⟨p.1,?_⟩;cases e:Kw (prL one other n) p.1 with
 |none=>exact absurd hp (NZ e p.2)
 |some v=>have:=Gu (Tz e) hp rfl;exact JW some (JW Prod.snd this)
def wyD(other:LO)(A:List Nat):D:=.list (A.map (tkA other))
structure Pf(f:Nat->Option Nat)(D:List Nat)(As:List (List Nat)):Prop where
 met:MetF f As.flatten
 sub:∀a∈As.flatten,a∈D
 each:∀A∈As,∃b,EndF f b A
theorem AZ(g:Good cs ls)(hl:one.length=other.length)(h7:one.length<=7):∃r,YC [U7 cs ls,U0 one,U0 other]=some r/\∃As,r=.list (As.map (wyD other))/\Pf (Kw (prL one other cs.length)) (mvL one other) As/\∀u∈mvL one other,u∈As.flatten:=by
 have c6:=g.c6
 let n:=cs.length
 let f:=Kw (prL one other n)
 let mv:=mvL one other
 let led:=(prL one other n).map Prod.snd
 have hmv7:mv.length<=7:=by have:=Jr (λi=>!decide (one.getD i none=other.getD i none)) (Uo one.length);rw[QS]at this;exact QQ this h7
 let S0:Option Sl:=some (.pub (U7 cs ls))
 let S1:Option Sl:=some (.pub (U0 one))
 let S2:Option Sl:=some (.pub (U0 other))
 let S3:Option Sl:=some (.pub (.dict ((prL one other n).map fwD)))
 let S4:Option Sl:=some (.own (ntD led))
 let S5:Option Sl:=some (.pub (.list (ntD mv)))
 have hlc:U6 [.list (cs.map int)]=some (.int cs.length):=by rw[Zc,Qb]
 refine YT (ρ:=[S0,S1,S2,none,none,none,none,none,none,none,none]) rfl ?_;unfold W3;refine U2 (ρ1:=[S0,S1,S2,none,none,none,none,none,none,none,none]) (Xy (Ka (UL (UF rfl) UQ) rfl (SB g))) ?_;refine U2 (ρ1:=[S0,S1,S2,S3,none,none,none,none,none,none,none]) (Ke (Ka (UL (Zi (UL (Ks rfl UM TN) UQ) hlc) (UL (UF rfl) (UL (UF rfl) UQ))) rfl (Ay hl h7 c6)) (Qa rfl) rfl) ?_;refine U2 (ρ1:=[S0,S1,S2,S3,S4,none,none,none,none,none,none]) (Zz (CI (UF rfl) Gp) (Qa rfl) rfl) ?_;refine U2 (ρ1:=[S0,S1,S2,S3,S4,S5,none,none,none,none,none]) (Ke (Ka (UL (UF rfl) (UL (UF rfl) UQ)) rfl (O9 hl h7)) (Qa rfl) rfl) ?_
 let P1:=mv.filter λi=>!led.contains i
 let P2:=mv.filter λi=>led.contains i
 have cc:∀(q:Bool->Bool)(op:D->D->Option Bool),(∀b:Nat,op (.int (b:Nat)) (.list (ntD led))=some (q (led.contains b)))->Kq (gN 11) (KG op 11 (UD 4)) (UD 11) (ntD mv) (Zw [S0,S1,S2,S3,S4,S5,none,none,none,none,none]++Up 1 none) []=some (ntD (mv.filter λi=>q (led.contains i))):=λq op hop=>by
  rw[Xh (λd=>match d with | .int i=>q (led.contains i.toNat)|_=>false) (λd=>d) (λρ=>∃x,ρ=[S0,S1,S2,S3,pb (.list (ntD led)),S5,none,none,none,none,none,x])]
  ·rw[Ji,J9,ZM,ZM,JD];rfl
  ·rintro d hd ρ ⟨x,rfl⟩;rw[ZM]at hd;obtain⟨i,hi,rfl⟩:=Qs.mp hd;refine⟨_,UR (Qa rfl) rfl,?_,λ_=>UF rfl,_,rfl⟩;show KG op 11 (UD 4) _=.ok (q (led.contains ((i:Nat):Int).toNat)) _;rw[QX];exact Zq rfl (UF rfl) (hop i)
  ·exact⟨none,rfl⟩
  ·rw[VT,QN];omega
 have c1:=cc (λb=>!b) ZI (λb=>by unfold ZI;rw[Rk];rfl);have c2:=cc (λb=>b) oIn (λb=>Rk);have hP1:P1.length<=7:=QQ (Jr _ _) hmv7;have hP2:P2.length<=7:=QQ (Jr _ _) hmv7;have fl:∀l:List Nat,(ntD l).all flat=true:=λl=>by rw[ZM,J8,Jb];exact λ_ _=>rfl
 let S6:Option Sl:=some (.pub (.list (ntD (P1++P2))))
 refine U2 (ρ1:=[S0,S1,S2,S3,S4,S5,S6,none,none,none,none]) (Ke (UT (Kl (RL (K7 (UF rfl) Zp) c1 (fl P1))) (Kl (RL (K7 (UF rfl) Zp) c2 (fl P2))) (show UW (.list (ntD P1)) (.list (ntD P2))=some (.list (ntD (P1++P2)))by rw[Xu (by rw[VT,VT];omega),ZM,ZM,ZM,QF])) (Qa rfl) rfl) ?_;refine U2 (Zz (YW UQ (Qa rfl)) (Qa rfl) rfl) ?_;refine U2 (Zz (YW UQ (Qa rfl)) (Qa rfl) rfl) ?_;have hPm:∀b∈P1++P2,b∈mv:=λb hb=>(QL.mp hb).elim (λh=>(Q9.mp h).1) λh=>(Q9.mp h).1;apply Kp;apply Zg (λk ρ=>∃(As:List (List Nat))(x9 x10:Option Sl),ρ=[S0,S1,S2,S3,S4,S5,S6,some (.own (As.map (wyD other))),some (.own (ntD As.flatten)),x9,x10]/\Pf f mv As/\As.length<=k/\∀b∈(P1++P2).take k,b∈As.flatten)
 case h1=>exact K7 (UF rfl) Zp
 case h0=>exact⟨[],none,none,rfl,⟨DH,(λ_ h=>by cases h),λ_ h=>by cases h⟩,Qp _,λ_ h=>by rw[JJ]at h;cases h⟩
 case hst=>
  rintro k d ρ hk ⟨As,x9,x10,rfl,hp,hAl,hin⟩;rw[ZM,Qf]at hk;cases hb:(P1++P2)[k]? with
  |none=>rw[hb]at hk;cases hk
  |some b=>
  rw[hb]at hk;cases hk;have hkl:k<(P1++P2).length:=(Qg.mp hb).1;have hkl':k<14:=by rw[Qj]at hkl;omega
  have hbm:b∈mv:=hPm b (Qn hb);have hta:(P1++P2).take (k+1)=(P1++P2).take k++[b]:=by rw[Ub,hb];rfl
  refine⟨_,UR (Qa rfl) rfl,?_⟩;unfold OD
  let M:=As.flatten
  let S7:Option Sl:=some (.own (As.map (wyD other)))
  let S8:Option Sl:=some (.own (ntD M))
  let S9:Option Sl:=some (.pub (.int (b:Nat)))
  refine Kh (b:=!M.contains b) (ρ1:=[S0,S1,S2,S3,S4,S5,S6,S7,S8,S9,x10]) (RN (UF rfl) rfl (by unfold ZI;rw[Rk];rfl)) (λz=>?_) λz=>KB (K3 ⟨As,_,_,rfl,hp,by omega,λc hc=>?_⟩)
  ·have hbM:b∉M:=λh=>by rw[JU.mpr h]at z;cases z
   obtain⟨r,hw,A,rfl,hE,hAr⟩:=Ah (n:=n) (b:=b) hl h7 (Xi.mp hbm).1
   let S10:Option Sl:=some (.pub (wyD other A))
   refine U2 (ρ1:=[S0,S1,S2,S3,S4,S5,S6,S7,S8,S9,S10]) (Ke (Ka (UL (UF rfl) (UL (UF rfl) (UL (UF rfl) UQ))) rfl hw) (Qa rfl) rfl) ?_;have hAn:=TJ Ts hE.wk
   have hA7:A.length<=7:=by
    have:=WJ A (Uo one.length) hAn λx hx=>QY.mpr (hAr x hx)
    rw[QS]at this;omega
   have hAm:∀a∈A,a∈mv:=λa ha=>by
    obtain⟨j,hj⟩:=Js.mp ha;cases j with
    |zero=>have:=hE.wk.hd;rw[JS,hj]at this;rw[Qt this];exact hbm
    |succ j=>have l:=(Qg.mp hj).1;exact(Tn (hE.wk.st j _ _ (Qd (by omega)) hj)).2.1
   have hc:Kq (gT 2 (gNC (gN 11) (gNC (gN 12) (gN0)))) (UK true) (UD 11) (A.map (tkA other)) (U8 [S0,S1,S2,S3,S4,S5,S6,S7,S8,S9,S10]++Up 2 none) []=some (ntD A):=by
    refine YN (λρ=>∃x y,ρ=[S0,S1,S2,S3,none,S5,S6,none,none,S9,S10,x,y]) _ _ _ _ (by rw[Qb,Qb,Qb]) ?_ ⟨none,none,rfl⟩ (by rw[Qb,QN];omega);rintro j y e hj he ρ ⟨x,y',rfl⟩;rw[Qf]at hj;rw[Qf,Qf]at he;cases hq:A[j]? with
    |none=>rw[hq]at hj;cases hj
    |some a=>
    rw[hq]at hj he;cases hj;cases he;exact⟨_,KD rfl (U3 (UR (Qa rfl) rfl) (U3 (UR (Qa rfl) rfl) KE)),rfl,UF rfl,_,_,rfl⟩
   have hMl:M.length<=7:=QQ (WJ M mv hp.met.nd hp.sub) hmv7;refine U2 (ρ1:=[S0,S1,S2,S3,S4,S5,S6,S7,some (.own (ntD (M++A))),S9,S10]) (GB rfl (ZE (K7 (UF rfl) Zp) hc) rfl (by rw[VT,VT];omega) (by rw[ZM,ZM,ZM,QF];rfl)) ?_
   have hcyc:(∀c,f c≠some b) ∨ ∀l,A.getLast?=some l->f l=some b:=by
    by_cases hbl:b∈led
    ·right;intro l hl2
     have hk1:P1.length<=k:=by apply Decidable.byContradiction;intro hc;rw[Qm (by omega)]at hb;have:=(Q9.mp (Qn hb)).2;rw[JU.mpr hbl]at this;cases this
     have hon:=Gv Sz (λa c h=>(Tn h).1) hp.met (λu hu hun=>by
      by_cases hul:u∈led
      ·exact Go hul
      ·refine absurd (hin u ?_) hun;have hu1:u∈P1:=List.mem_filter.mpr ⟨hu,by simpa using hul⟩;obtain⟨j,hj⟩:=Js.mp hu1;have jl:=(Qg.mp hj).1;exact List.mem_iff_getElem?.mpr ⟨j,by rw[List.getElem?_take_of_lt (by omega),Qm jl];exact hj⟩)
     have hlA:l∈A:=JY hl2;rcases hE.fin l hl2 with e|e
     ·exact absurd e (hon l (hAm l hlA) (N0 hp.met.si hE.wk hbM l hlA))
     ·exact e
    ·left;intro c hc;exact hbl (Qs.mpr ⟨(c,b),Tz hc,rfl⟩)
   refine Ze (YU rfl (UF rfl) rfl (by rw[Qb];omega) rfl) (K3 ⟨As++[A],S9,S10,?_,⟨?_,λa ha=>?_,λB hB=>?_⟩,?_,λc hc=>?_⟩)
   ·rw[QF,JG];show _=[S0,S1,S2,S3,S4,S5,S6,some (Sl.own (As.map (wyD other)++[wyD other A])),some (Sl.own (ntD (M++(A++[])))),S9,S10];rw[Jh];rfl
   ·rw[JG];show MetF f (M++(A++[]));rw[Jh];exact Ex Ts hp.met hbM hE hcyc
   ·rw[JG]at ha;rcases QL.mp ha with h|h
    ·exact hp.sub a h
    ·exact hAm a (by simpa using h)
   ·rcases QL.mp hB with h|h
    ·exact hp.each B h
    ·cases Qy.mp h;exact⟨b,hE⟩
   ·rw[Qj,QU];omega
   ·rw[JG];rw[hta]at hc;rcases QL.mp hc with h|h
    ·exact Q6 _ (hin c h)
    ·cases Qy.mp h;refine Qz _ ?_;have:b∈A:=List.mem_of_mem_head? (by rw[hE.wk.hd];rfl);simpa using this
  ·rw[JR]at z;rw[hta]at hc;rcases QL.mp hc with h|h
   ·exact hin c h
   ·cases Qy.mp h;exact List.contains_iff_mem.mp z
 case hend=>
  rintro ρ ⟨As,x9,x10,rfl,hp,_,hin⟩;refine Kk (Kc (ZG rfl rfl) ⟨_,rfl,As,rfl,hp,λu hu=>hin u ?_⟩);rw[VT,JN];by_cases hul:led.contains u=true
  ·exact Qz _ (Q9.mpr ⟨hu,hul⟩)
  ·exact List.mem_append_left _ (List.mem_filter.mpr ⟨hu,by simpa using hul⟩)
end
def wyL(other:LO)(A:List Nat):List (Nat×Option Int):=A.map λa=>(a,other.getD a none)
theorem Rj{other:LO}(A:List Nat):(wyL other A).map Prod.fst=A:=by unfold wyL;rw[QT];exact J9 A
def gnF(f:Int×Int->Int)(one other:LO)(a:Nat):Int:=ZA f a (other.getD a none)-ZA f a (one.getD a none)
theorem RG(f:Int×Int->Int){other:LO}:∀(A:List Nat)(one:LO),A.Nodup->(∀a∈A,a<one.length)->Km f 0 (ZD (wyL other A) one)=Km f 0 one+(A.map (gnF f one other)).sum
 |[],one,_,_=>by show Km f 0 one=Km f 0 one+0;omega
 |a::A,one,hn,hl=>by
  have hn:=JC.mp hn;have ha:one[a]?=some (one.getD a none):=by rw[QH,Qd (hl a Qo)];rfl
  have ih:=RG f (other:=other) A (one.set a (other.getD a none)) hn.2 λb hb=>by rw[Q3];exact hl b (Qu _ hb)
  have e:A.map (gnF f (one.set a (other.getD a none)) other)=A.map (gnF f one other):=JH λb hb=>by
   have:a≠b:=λe=>hn.1 (e ▸ hb)
   have e:(one.set a (other.getD a none)).getD b none=one.getD b none:=by rw[QH,Ql this,QH]
   unfold gnF;rw[e]
  rw[e,Ng f ha,Jd]at ih;show Km f 0 (ZD (wyL other A) (one.set a (other.getD a none)))=Km f 0 one+(gnF f one other a::A.map (gnF f one other)).sum;rw[ih,List.sum_cons];unfold gnF;omega
theorem O7(h:Nat->Int):∀(As:List (List Nat)),(As.map λA=>(A.map h).sum).sum=(As.flatten.map h).sum
 |[]=>rfl
 |A::As=>by rw[Qv,List.sum_cons,O7 h As,QP,QF,List.sum_append]
section
variable{cs:List Int}{ls:L3}{one other:LO}{o:Ord}{old:Option LO}{ts:List Int}
theorem Wn{ws:LO}{a:Nat}(h:a<ws.length):ws[a]?=some (ws.getD a none):=by rw[QH,Qd h];rfl
theorem Lo(A:List Nat):wyD other A=.list ((wyL other A).map U4):=by unfold wyD wyL;rw[QT];rfl
theorem Eu{qs:LP}{m:Nat}(hp:Ph cs.length m qs)(d1:YH cs qs m one)(d2:YH cs qs m other){A:List Nat}{b:Nat}(hE:EndF (Kw (prL one other cs.length)) b A)(hA:∀a∈A,a∈mvL one other):WayQ cs qs one (wyL other A) where
 ne:=λe=>by have:=hE.wk.hd;rw[List.map_eq_nil_iff.mp e]at this;cases this
 mv:=λp h=>by obtain⟨a,ha,rfl⟩:=Qs.mp h;have hm:=Xi.mp (hA a ha);refine⟨_,Wn hm.1,λe=>hm.2 e.symm,λt ht=>d2.wish a t ?_⟩;have:=Wn (ws:=other) (a:=a) (by have:=d1.len;have:=d2.len;omega);rw[this];exact JW some ht
 nd:=by rw[Rj];exact TJ Ts hE.wk
 lnk:=λk p q h1 h2=>by
  unfold wyL at h1 h2;rw[Qf]at h1 h2;cases e1:A[k]? with
  |none=>rw[e1]at h1;cases h1
  |some x=>
  cases e2:A[k+1]? with
  |none=>rw[e2]at h2;cases h2
  |some y=>
  rw[e1]at h1;rw[e2]at h2;cases h1;cases h2;obtain⟨_,hy,t,h1,h2⟩:=Tn (hE.wk.st k x y e1 e2);have:=Wn (Xi.mp hy).1;refine⟨?_,?_⟩
  ·show other.getD x none≠none;rw[h1];exact λz=>by cases z
  ·show one[y]?=some (other.getD x none);rw[this,h1,h2]
 fin:=λp q h1 h2=>by
  unfold wyL at h1 h2;rw[List.head?_map,hE.wk.hd]at h1;cases h1;rw[List.getLast?_map]at h2;cases e:A.getLast? with
  |none=>rw[e]at h2;cases h2
  |some l=>
  rw[e]at h2;cases h2;have hl:=hA l (JY e);rcases hE.fin l e with h|h
  ·cases e3:other.getD l none with
   |none=>exact .inl e3
   |some t=>
    have hlo:l<other.length:=by have:=(Xi.mp hl).1;have:=d1.len;have:=d2.len;omega
    have hq:=hp.lo _ (d2.wish l t (by rw[Wn hlo,e3]));have h3:0<=t:=hq.2.2.1;have h4:t<cs.length:=hq.2.2.2;obtain⟨n,rfl⟩:∃n:Nat,t=n:=⟨t.toNat,by omega⟩
    have hn:n<cs.length:=by omega
    have h5:=Ew hn hl e3 h;have h6:=Ci (one:=one) (other:=other) (by rw[d1.len,d2.len]) (n:Int);have h7:=d2.cop n _ (Qd hn);exact .inr (.inr ⟨n,e3,_,Qd hn,by omega⟩)
  ·obtain⟨_,hb,t,h1,h2⟩:=Tn h;refine .inr (.inl ?_);show one[b]?=some (other.getD l none);rw[Wn (Xi.mp hb).1,h1,h2]
theorem Et(hl:one.length=other.length){M:List Nat}(hn:M.Nodup)(h1:∀a∈M,a∈mvL one other)(h2:∀a∈mvL one other,a∈M):ZD (wyL other M) one=other:=by
 apply List.ext_getElem?;intro i;by_cases hi:i∈M
 ·have hil:=(Xi.mp (h1 i hi)).1;have:=RH (wyL other M) one (by rw[Rj];exact hn) (i,other.getD i none) (Qs.mpr ⟨i,hi,rfl⟩) hil;rw[Wn (ws:=other) (by omega)];exact this
 ·rw[SA (wyL other M) one (by rw[Rj];exact hi)];by_cases hil:i<one.length
  ·have e:one.getD i none=other.getD i none:=Decidable.byContradiction λc=>hi (h2 i (Xi.mpr ⟨hil,c⟩))
   rw[Wn hil,Wn (ws:=other) (by omega),e]
  ·rw[Q5 (by omega),Q5 (by omega)]
abbrev Xe(ls:L3)(o:Ord)(old:Option LO)(ts:List Int)(ws:LO):Int:=KI (K6 (KH ls o old ts) 0 ls ws)
theorem Sy{ws:LO}(h:ws.length=ls.length):Xe ls o old ts ws=Km (WO (YZ ls o old ts)) 0 ws:=(On ls ws ls 0 (λj rs h=>by rw[Jd,QH,h];rfl) h).symm
theorem Gn(g:Good cs ls)(d1:YH cs (Kn 0 ls) ls.length one)(d2:YH cs (Kn 0 ls) ls.length other):∃As:List (List Nat),YC [U7 cs ls,U0 one,U0 other]=some (.list ((As.map (wyL other)).map λW=>.list (W.map U4)))/\As.length<=7/\(∀A∈As,WayQ cs (Kn 0 ls) one (wyL other A))/\ZD (wyL other As.flatten) one=other/\(∀f,(As.map λA=>Km f 0 (ZD (wyL other A) one)-Km f 0 one).sum=Km f 0 other-Km f 0 one)/\As.flatten.Nodup:=by
 have l7:=g.l7;have e1:=d1.len;have e2:=d2.len;obtain⟨r,hr,As,rfl,hq,hm⟩:=AZ (one:=one) (other:=other) g (by omega) (by omega);have hlt:∀a∈As.flatten,a<one.length:=λa ha=>(Xi.mp (hq.sub a ha)).1;have hin:∀A∈As,∀a∈A,a∈As.flatten:=λA hA a ha=>List.mem_flatten.mpr ⟨A,hA,ha⟩;have hd:=Et (by omega) hq.met.nd hq.sub hm
 have hAl:As.length<=As.flatten.length:=by
  have:∀(B:List (List Nat)),(∀A∈B,A≠[])->B.length<=B.flatten.length:=by
   intro B;induction B with
   |nil=>intro _;exact Qp _
   |cons A B ih=>intro h;have h1:=ih λX hX=>h X (Qu _ hX);have h2:=J0.mpr (h A Qo);rw[QP,Qj,QB];omega
  refine this As λA hA e=>?_
  obtain⟨b,hE⟩:=hq.each A hA;have:=hE.wk.hd;rw[e]at this;cases this
 have hfl:=WJ As.flatten (Uo one.length) hq.met.nd λa ha=>QY.mpr (hlt a ha);rw[QS]at hfl
 refine⟨As,?_,by omega,λA hA=>?_,hd,λf=>?_,hq.met.nd⟩
 ·rw[hr,QT]
  congr 2
  exact JH λA _=>Lo A
 ·obtain⟨b,hE⟩:=hq.each A hA;exact Eu (Ac g) d1 d2 hE λa ha=>hq.sub a (hin A hA a ha)
 ·have e:(As.map λA=>Km f 0 (ZD (wyL other A) one)-Km f 0 one)=As.map λA=>(A.map (gnF f one other)).sum:=JH λA hA=>by
   obtain⟨b,hE⟩:=hq.each A hA;rw[RG f A one (TJ Ts hE.wk) λa ha=>hlt a (hin A hA a ha)];omega
  have h:=RG f (other:=other) As.flatten one hq.met.nd hlt;rw[hd]at h;rw[e,O7,h];omega
theorem Ln(g:Good cs ls)(d1:YH cs (Kn 0 ls) ls.length one)(d2:YH cs (Kn 0 ls) ls.length other):∃As:List (List Nat),YC [U7 cs ls,U0 one,U0 other]=some (.list ((As.map (wyL other)).map λW=>.list (W.map U4)))/\As.length<=7/\(∀A∈As,WayQ cs (Kn 0 ls) one (wyL other A))/\ZD (wyL other As.flatten) one=other/\(∀f,(As.map λA=>Km f 0 (ZD (wyL other A) one)-Km f 0 one).sum=Km f 0 other-Km f 0 one):=by obtain⟨As,h1,h2,h3,h4,h5,_⟩:=Gn g d1 d2;exact⟨As,h1,h2,h3,h4,h5⟩
end
section
variable{cs:List Int}{ls:L3}
theorem Sn:∀{a b:LO},a.map UO=b.map UO->a=b
 |[],[],_=>rfl
 |[],_::_,h=>by cases h
 |_::_,[],h=>by cases h
 |x::a,y::b,h=>by
  rw[Qv,Qv,List.cons.injEq]at h;rw[Sn h.2];cases x with
  |none=>cases y with
   |none=>rfl
   |some _=>cases h.1
  |some _=>cases y with
   |none=>cases h.1
   |some _=>cases h.1;rfl
abbrev V0(cs:List Int)(ls:L3)(j:Nat)(ws:LO):Prop:=ws.length=j/\(∀(i:Nat) t rs,ws[i]?=some (some t)->ls[i]?=some rs->t∈rs.flatten)/\∀(k:Nat) c,cs[k]?=some c->((ws.count (some (k:Int)):Nat):Int)<=c
abbrev PY(cs:List Int)(ls:L3)(j:Nat)(ds:List D)(a:Nat)(es:List D):Prop:=∀a'<a,∀ws,ds[a']?=some (U0 ws)->∀o,V0 cs ls (j+1) (ws++[o])->U0 (ws++[o])∈es
abbrev ML(cs:List Int)(ls:L3)(j:Nat)(ρ:UE):Prop:=∃(s1 x2 x3 x4 x5:Option Sl)(ds:List D),ρ=[pb (U7 cs ls),s1,x2,x3,x4,x5]/\(s1=some (.pub (.list ds))∨s1=some (.own ds))/\ds.length<=4 ^ j/\(∀d∈ds,V1 cs ls j d)/\∀ws,V0 cs ls j ws->U0 ws∈ds
abbrev Pe(cs:List Int)(ls:L3)(j:Nat)(ds:List D)(a:Nat)(ρ:UE):Prop:=∃(es:List D)(y4 y5:Option Sl),ρ=[pb (U7 cs ls),pb (.list ds),pb (.int j),some (.own es),y4,y5]/\es.length<=4*a/\(∀d∈es,V1 cs ls (j+1) d)/\PY cs ls j ds a es
abbrev Pd(cs:List Int)(ls:L3)(j:Nat)(ds:List D)(ws th:LO)(a b:Nat)(ρ:UE):Prop:=∃(es:List D)(y5:Option Sl),ρ=[pb (U7 cs ls),pb (.list ds),pb (.int j),some (.own es),pb (U0 ws),y5]/\es.length<=4*a+b/\(∀d∈es,V1 cs ls (j+1) d)/\PY cs ls j ds a es/\∀b'<b,∀u,th[b']?=some u->V0 cs ls (j+1) (ws++[u])->U0 (ws++[u])∈es
theorem Cg{ws:LO}{o:Option Int}{j:Nat}(h:V0 cs ls (j+1) (ws++[o])):V0 cs ls j ws:=by
 obtain⟨h1,h2,h3⟩:=h;rw[Qj]at h1;refine⟨by simpa using h1,λi t rs e er=>?_,λk c e=>?_⟩
 ·have hi:=(Qg.mp e).1;exact h2 i t rs (by rw[Qm hi];exact e) er
 ·have:=h3 k c e;rw[List.count_append]at this;omega
theorem Es(g:Good cs ls)(hn:cs.length<4)(hm:ls.length<=4):∃r,XU [U7 cs ls]=some r/\∃ds,r=.list ds/\ds.length<=256/\(∀d∈ds,∃ws,d=U0 ws/\Deal cs ls ws)/\∀ws,Deal cs ls ws->U0 ws∈ds:=by
 refine YT (ρ:=[pb (U7 cs ls),none,none,none,none,none]) rfl ?_;unfold WT;refine U2 (Zz (YW (UL (Zt UQ (Qa rfl)) UQ) (Qa rfl)) (Qa rfl) rfl) ?_
 let S0:Option Sl:=some (.pub (U7 cs ls))
 apply Kp;apply Zg (ML cs ls)
 case h1=>exact Wr (UL (Zi (UL (Ks rfl UM Wk) UQ) Zc) UQ) (Wx (by rw[Qb];omega) (by omega))
 case h0=>
  refine⟨_,none,none,none,none,[.list []],rfl,.inr rfl,Qp _,λd hd=>?_,λws hw=>?_⟩
  ·rw[Qy.mp hd];exact⟨[],rfl,rfl,λi t rs e=>by simp at e,λk c e=>by have:=g.c7 c (List.mem_of_getElem? e);simp;omega⟩
  ·rw[List.length_eq_zero_iff.mp hw.1];exact Qy.mpr rfl
 case hst=>
  rintro j d ρ hj ⟨s1,x2,x3,x4,x5,ds,rfl,hs1,h4,hp,hall⟩;obtain⟨rfl,hjl⟩:=Wv hj;rw[Qb]at hjl;have hjm:j<ls.length:=by omega
  have h16:4 ^ j<=64:=by
   have:j=0∨j=1∨j=2∨j=3:=by omega
   rcases this with rfl|rfl|rfl|rfl<;>decide
  have hls:ls[j]?=some ls[j]:=Qd hjm;have gr:=g.rk _ (Je hjm);have hfl:=RM gr;refine⟨_,UR (Qa rfl) rfl,?_⟩;unfold OP;rw[J7]
  let S2:Option Sl:=some (.pub (.int j))
  refine U2 (ρ1:=[S0,s1,S2,some (.own []),x4,x5]) (Zz (YW UQ (Qa rfl)) (Qa rfl) rfl) ?_
  let S1:Option Sl:=some (.pub (.list ds))
  have hv:UD 1 [S0,s1,S2,some (.own []),x4,x5]=.ok (.list ds) [S0,S1,S2,some (.own []),x4,x5]:=by
   rcases hs1 with rfl|rfl
   ·exact UF rfl
   ·exact ZG rfl rfl
  apply Kp;apply Zg (Pe cs ls j ds)
  case h1=>exact K7 hv Zp
  case h0=>exact⟨[],x4,x5,rfl,Qp _,(λd h=>by cases h),λa' h=>absurd h (JT _)⟩
  case hst=>
   rintro a d ρ ha ⟨es,y4,y5,rfl,he4,hep,hhad⟩;have hal:a<ds.length:=(Qg.mp ha).1;obtain⟨ws,rfl,hwl,hw1,hw2⟩:=hp d (Qn ha);refine⟨_,UR (Qa rfl) rfl,?_⟩;unfold OQ
   let S4:Option Sl:=some (.pub (U0 ws))
   obtain⟨th,hthe⟩:∃th:LO,th=none::(ZF ls[j].flatten).map some:=⟨_,rfl⟩
   have hth:th.length<=4:=by rw[hthe,QB,Qb,(YL _).length_eq];omega
   have hit:UW (.list [.none]) (.list ((ZF ls[j].flatten).map int))=some (.list (th.map UO)):=by rw[Xu (by rw[Qb,(YL _).length_eq];show 1+_<=_;omega),hthe];show _=some (Uq (.none::((ZF ls[j].flatten).map some).map UO));rw[QT];rfl
   have hw:=Ma (cs:=cs) hls (by omega);apply Zg (Pd cs ls j ds ws th a)
   case h1=>exact K7 (UT (Zt (UL UM UQ) (Qa rfl)) (Ka (UL (UF rfl) (UL (UF rfl) UQ)) rfl hw) hit) Zp
   case h0=>exact⟨es,y5,rfl,he4,hep,hhad,λb' h=>absurd h (JT _)⟩
   case hst=>
    rintro b d ρ hb ⟨fs,z5,rfl,hf4,hfp,hfh,hfb⟩;rw[Qf]at hb;cases hz:th[b]? with
    |none=>rw[hz]at hb;cases hb
    |some u=>
    rw[hz]at hb;cases hb;have hbl:b<th.length:=(Qg.mp hz).1;refine⟨_,UR (Qa rfl) rfl,?_⟩;unfold OR;generalize hQ:Xl (Pe cs ls j ds (a+1)) _=Q
    have happ:∀hg:V1 cs ls (j+1) (.list (ws.map UO++[UO u])),Ho (KY 3 (UH UW (UD 4) (Kj (UI (UD 5) (UG))))) [S0,S1,S2,some (.own fs),S4,pb (UO u)] (Xl (Pd cs ls j ds ws th a (b+1)) Q):=by
     intro hg;refine Ze (YU rfl (UT (UF rfl) (Zt (UL (UF rfl) UQ) (Qa rfl)) (Xu (x:=ws.map UO) (by rw[Qb];show _+1<=_;omega))) rfl (by omega) rfl) (K3 ⟨fs++[.list (ws.map UO++[UO u])],pb (UO u),rfl,by rw[Qj];show _+1<=_;omega,λx hx=>?_,λa' h vs hv o ho=>Q6 _ (hfh a' h vs hv o ho),λb' h v hv hpv=>?_⟩)
     ·rcases QL.mp hx with h|h
      ·exact hfp x h
      ·rw[Qy.mp h];exact hg
     ·by_cases hbb:b'=b
      ·subst hbb;rw[hz]at hv;cases hv;refine Qz _ (Qy.mpr ?_);unfold U0;rw[QF];rfl
      ·exact Q6 _ (hfb b' (by omega) v hv hpv)
    cases u with
    |none=>
     refine Kh (b:=true) (ρ1:=[S0,S1,S2,some (.own fs),S4,some (.pub .none)]) (Ti (Kl (k:=isNon) (x:=PyData.none) (UF rfl))) (λ_=>happ ?_) λz=>by cases z
     have:=N4 (o:=none) (rs:=ls[j]) (by rw[hwl];exact hls) hw1 hw2 (λt e=>by cases e) (λk c e=>by cases e);rw[hwl]at this;exact this
    |some t=>
     have htm:t∈ls[j].flatten:=by
      have hm:=Qn hz;rw[hthe]at hm;rcases QR.mp hm with h|h
      ·cases h
      ·obtain⟨t',ht',e⟩:=Qs.mp h;cases e;exact(YL _).mem_iff.mp ht'
     have htn:=gr.flat t htm;obtain⟨k,rfl⟩:∃k:Nat,t=k:=⟨t.toNat,by omega⟩
     have hkl:k<cs.length:=by omega
     have hct:oIx (.list (cs.map int)) (.int (k:Int))=some (.int (cs.getD k 0)):=Sj hkl;have hcg:cs[k]?=some (cs.getD k 0):=by rw[QH,Qd hkl];rfl
     refine Kh (b:=decide (((ws.count (some (k:Int)):Nat):Int)<cs.getD k 0)) (ρ1:=[S0,S1,S2,some (.own fs),S4,pb (.int k)]) (Yk (Kl (k:=isNon) (x:=int k) (UF rfl)) (UT (Nq (UF rfl) (UL (UF rfl) UQ) Md) (UT (Ks rfl UM TN) (UF rfl) hct) rfl)) (λhh=>happ ?_) λhh=>?_
     ·have hlt:((ws.count (some (k:Int)):Nat):Int)<cs.getD k 0:=Qa hh
      have:=N4 (cs:=cs) (o:=some (k:Int)) (rs:=ls[j]) (by rw[hwl];exact hls) hw1 hw2 (λt' e=>by cases e;exact htm) (λk' c e ec=>by
       have e2:k=k':=by injection e with e;omega
       subst e2;rw[hcg]at ec;cases ec;exact hlt)
      rw[hwl]at this;exact this
     ·refine KB (K3 ⟨fs,pb (.int k),rfl,by omega,hfp,hfh,λb' h v hv hpv=>?_⟩);by_cases hbb:b'=b
      ·subst hbb;rw[hz]at hv;cases hv;have h1:=hpv.2.2 k _ hcg;rw[List.count_append,List.count_singleton]at h1;have h2:=Jz hh;rw[if_pos (by simp)]at h1;omega
      ·exact hfb b' (by omega) v hv hpv
   case hend=>
    rintro ρ ⟨fs,z5,rfl,hf4,hfp,hfh,hfb⟩;rw[Qb]at hf4 hfb;refine K3 ⟨fs,_,_,rfl,by omega,hfp,λa' h vs hv o ho=>?_⟩;by_cases haa:a'=a
    ·subst haa;rw[ha]at hv;have e:ws=vs:=Sn (by injection hv with hv;exact(PyData.list.injEq _ _).mp hv);subst e
     have hom:o∈th:=by
      rw[hthe];cases o with
      |none=>exact Qo
      |some t=>have:=ho.2.1 ws.length t ls[j] (by rw[Qr (Qp _),Nat.sub_self];rfl) (by rw[hwl];exact hls);exact Qu _ (List.mem_map_of_mem ((YL _).mem_iff.mpr this))
     obtain⟨b',hb',e⟩:=JX.mp hom;exact hfb b' hb' o (by rw[Qd hb',e]) ho
    ·exact hfh a' (by omega) vs hv o ho
  case hend=>
   rintro ρ ⟨es,y4,y5,rfl,he4,hep,hhad⟩;refine Kk (Ze (Ke (ZG rfl rfl) (Qa rfl) rfl) (K3 ⟨_,_,_,_,_,es,rfl,.inl rfl,?_,hep,λvs hv=>?_⟩))
   ·rw[Nat.pow_succ];omega
   ·rcases List.eq_nil_or_concat vs with rfl|⟨ws,o,rfl⟩
    ·have:=hv.1;cases this
    ·rw[List.concat_eq_append]at hv⊢;obtain⟨a',ha',e⟩:=JX.mp (hall ws (Cg hv));exact hhad a' ha' ws (by rw[Qd ha',e]) o hv
 case hend=>
  rintro ρ ⟨s1,x2,x3,x4,x5,ds,rfl,hs1,h4,hp,hall⟩;rw[YM,Qb,show((ls.length:Int)-0).toNat=ls.length by omega]at h4 hp hall
  have h64:4 ^ ls.length<=256:=by
   have:=g.l1;have:ls.length=1∨ls.length=2∨ls.length=3∨ls.length=4:=by omega
   rcases this with e|e|e|e<;>rw[e]<;>decide
  have fin:∃d,(Out.rt (.list ds))=.rt d/\∃ds,d=.list ds/\ds.length<=256/\(∀d∈ds,∃ws,d=U0 ws/\Deal cs ls ws)/\∀ws,Deal cs ls ws->U0 ws∈ds:=⟨_,rfl,ds,rfl,by omega,(λd hd=>by obtain⟨ws,e,h1,h2,h3⟩:=hp d hd;exact⟨ws,e,⟨h1,h2,h3⟩⟩),λws dw=>hall ws ⟨dw.len,dw.wish,dw.cop⟩⟩
  rcases hs1 with rfl|rfl
  ·exact Kk (Kc (UF rfl) fin)
  ·exact Kk (Kc (ZG rfl rfl) fin)
end
section
variable{cs:List Int}{ls:L3}{one other:LO}{o:Ord}{old:Option LO}{ts:List Int}
theorem O6{P:LO->Prop}:∀{ds:List D},(∀d∈ds,∃ws,d=U0 ws/\P ws)->∃us:List LO,ds=us.map U0/\∀u∈us,P u
 |[],_=>⟨[],rfl,λ_ h=>by cases h⟩
 |d::ds,h=>by
  obtain⟨us,e,hu⟩:=O6 λx hx=>h x (Qu _ hx)
  obtain⟨w,e1,hw⟩:=h d Qo;refine⟨w::us,by rw[e,e1];rfl,λu hu'=>?_⟩;rcases QR.mp hu' with rfl|hx
  ·exact hw
  ·exact hu u hx
theorem Er(g:Good cs ls)(ga:YV cs.length ls.length old ts)(d1:Deal cs ls one)(d2:Deal cs ls other):∃r,XT [U7 cs ls,Kx o old ts,U0 one,U0 other]=some r/\∃gs:List Int,r=.list (gs.map int)/\gs.length<=7/\gs.sum=Xe ls o old ts other-Xe ls o old ts one/\∀x∈gs,∃u,Deal cs ls u/\x=Xe ls o old ts u-Xe ls o old ts one:=by
 have q1:=Nf d1;have q2:=Nf d2;obtain⟨As,hw,hl,hA,_,hs⟩:=Ln g q1 q2
 let S0:Option Sl:=some (.pub (U7 cs ls))
 let S1:Option Sl:=some (.pub (Kx o old ts))
 let S2:Option Sl:=some (.pub (U0 one))
 let S3:Option Sl:=some (.pub (U0 other))
 refine YT (ρ:=[S0,S1,S2,S3]) rfl ?_;unfold WS
 let gf:List Nat->Int:=λA=>Xe ls o old ts (ZD (wyL other A) one)-Xe ls o old ts one
 have hc:Kq (gN 4) (UK true) (UP 4 Y5 (UI (UD 0) (UI (UD 1) (UI (UD 2) (UI (UD 4) (UG)))))) ((As.map (wyL other)).map λW=>.list (W.map U4)) (U8 [S0,S1,S2,S3]++Up 1 none) []=some ((As.map gf).map int):=by
  refine YN (λρ=>∃x,ρ=[S0,S1,S2,S3,x]) _ _ _ _ (by rw[Qb,Qb,Qb,Qb]) ?_ ⟨none,rfl⟩ (by rw[Qb,Qb,QN];omega);rintro j y e hj he ρ ⟨x,rfl⟩;rw[Qf,Qf]at hj he;cases hq:As[j]? with
  |none=>rw[hq]at hj;cases hj
  |some A=>
  rw[hq]at hj he;cases hj;cases he;exact⟨_,UR (Qa rfl) rfl,rfl,Ka (UL (UF rfl) (UL (UF rfl) (UL (UF rfl) (UL (UF rfl) UQ)))) rfl (Gx g ga q1 (hA A (Qn hq))),_,rfl⟩
 refine Kc (Kl (ZE (K7 (Ka (UL (UF rfl) (UL (UF rfl) (UL (UF rfl) UQ))) rfl hw) Zp) hc)) ⟨_,rfl,As.map gf,rfl,by rw[Qb];exact hl,?_,λx hx=>?_⟩
 ·have hs:=hs (WO (YZ ls o old ts));rw[Sy d2.len,Sy d1.len,←hs]
  congr 1
  refine JH λA hA=>?_;show Xe ls o old ts (ZD (wyL other A) one)-Xe ls o old ts one=_;rw[Sy (by rw[RV];exact d1.len),Sy d1.len]
 ·obtain⟨A,hA',rfl⟩:=Qs.mp hx;exact⟨_,Cj (Oj q1 (hA A hA')),rfl⟩
theorem PX{α:Type}(p q:α->D)(us:List α):Zf (us.map p) (us.map q)=us.map λu=>.tuple [p u,q u]:=by unfold Zf;rw[List.zip_map',QT];rfl
theorem Cf(b:Bool):oNe (.bool b) (.bool b)=some false:=by cases b<;>rfl
theorem PV:∀{gs:List Int},0<gs.sum->∃x∈gs,0<x
 |[],h=>absurd h (by decide)
 |x::gs,h=>by
  by_cases hx:0<x
  ·exact⟨x,Qo,hx⟩
  ·rw[List.sum_cons]at h;obtain⟨y,hy,h2⟩:=PV (gs:=gs) (by omega);exact⟨y,Qu _ hy,h2⟩
theorem Ep:∀ns:List Int,ns.length<=63->XS [.list (ns.map int)]=some (.bool true):=by
 intro ns hns
 let S0:Option Sl:=some (.pub (.list (ns.map int)))
 refine KW (ρ:=[S0,none,none,none,none,none,none,none,none,none,none,none,none]) rfl ?_;unfold WR;obtain⟨r,hr,cs,ls,rfl,g,hT,hA,_⟩:=At 3 3 3 (ns:=ns) (by omega) 0
 let S1:Option Sl:=some (.pub (U7 cs ls))
 refine U2 (ρ1:=[S0,S1,none,none,none,none,none,none,none,none,none,none,none]) (Ke (Ka (UL (UF rfl) (UL UM (UL UM (UL UM (UL UM UQ))))) rfl hr) (Qa rfl) rfl) ?_;obtain⟨v5,hv5⟩:=SJ ns 5 (by omega);obtain⟨r,ha,o,old,ts,rfl,ga⟩:=DX g v5 5
 let S2:Option Sl:=some (.pub (Kx o old ts))
 refine U2 (ρ1:=[S0,S1,S2,none,none,none,none,none,none,none,none,none,none]) (Ke (Ka (UL (UF rfl) (UL (Ka (UL (UF rfl) (UL UM UQ)) rfl hv5) (UL UM UQ))) rfl ha) (Qa rfl) rfl) ?_;obtain⟨r,hall,ds,rfl,hdl,hds,hfull⟩:=Es g (by omega) (by omega);obtain⟨us,rfl,hus⟩:=O6 hds;rw[Qb]at hdl
 let S3:Option Sl:=some (.pub (.list (us.map U0)))
 refine U2 (ρ1:=[S0,S1,S2,S3,none,none,none,none,none,none,none,none,none]) (Ke (Ka (UL (UF rfl) UQ) rfl hall) (Qa rfl) rfl) ?_
 let wh:=Xe ls o old ts
 let vs:=us.map λu=>int (wh u)
 have hc:Kq (gN 13) (UK true) (UP 3 YA (UI (UD 1) (UI (UD 2) (UI (UD 13) (UG))))) (us.map U0) (U8 [S0,S1,S2,S3,none,none,none,none,none,none,none,none,none]++Up 1 none) []=some vs:=by
  refine YN (λρ=>∃x,ρ=[S0,S1,S2,S3,none,none,none,none,none,none,none,none,none,x]) _ _ _ _ (by rw[Qb,Qb]) ?_ ⟨none,rfl⟩ (by rw[Qb,QN];omega);rintro j y e hj he ρ ⟨x,rfl⟩;rw[Qf]at hj he;cases hq:us[j]? with
  |none=>rw[hq]at hj;cases hj
  |some u=>
  rw[hq]at hj he;cases hj;cases he;exact⟨_,UR (Qa rfl) rfl,rfl,Ka (UL (UF rfl) (UL (UF rfl) (UL (UF rfl) UQ))) rfl (N3 g ga (hus u (Qn hq))),_,rfl⟩
 let P4:Option Sl:=some (.pub (.list vs))
 let O4:Option Sl:=some (.own vs)
 refine U2 (ρ1:=[S0,S1,S2,S3,O4,none,none,none,none,none,none,none,none]) (Zz (ZE (K7 (UF rfl) Zp) hc) (Qa rfl) rfl) ?_;obtain⟨v6,hv6⟩:=SJ ns 6 (by omega);apply Kp;apply Zg (λ_ ρ=>∃x4 x5 x6 x7 x8 x9 x10 x11 x12,(x4=O4∨x4=P4)/\ρ=[S0,S1,S2,S3,x4,x5,x6,x7,x8,x9,x10,x11,x12])
 case h1=>exact Wq (UL (UT (Zt (UL (Ka (UL (UF rfl) (UL UM UQ)) rfl hv6) UQ) (Qa rfl)) (Sa (UF rfl) (XA UM) (XA UM) Sq) (DV (by omega))) UQ) Ww
 case h0=>exact⟨_,_,_,_,_,_,_,_,_,.inl rfl,rfl⟩
 case hst=>
  rintro i d ρ hi ⟨x4,x5,x6,x7,x8,x9,x10,x11,x12,h4,rfl⟩;obtain⟨x,hx,rfl⟩:=Xf hi;obtain⟨c,rfl⟩:=DW hx;rw[Jd];refine⟨_,KD rfl (U3 (UR (Qa rfl) rfl) (U3 (UR (Qa rfl) rfl) KE)),?_⟩;unfold OM
  let S5:Option Sl:=some (.pub (.int (i:Nat)))
  let S6:Option Sl:=some (.pub (.int c))
  obtain⟨r,hd0,ws,rfl,dl⟩:=BI g c (30+(i:Nat))
  let S7:Option Sl:=some (.pub (U0 ws))
  let S8:Option Sl:=some (.pub (.int (wh ws)))
  refine U2 (ρ1:=[S0,S1,S2,S3,x4,S5,S6,S7,x8,x9,x10,x11,x12]) (Ke (Ka (UL (UF rfl) (UL (UF rfl) (UL (UT UM (UF rfl) KM) UQ))) rfl hd0) (Qa rfl) rfl) ?_;refine U2 (ρ1:=[S0,S1,S2,S3,x4,S5,S6,S7,S8,x9,x10,x11,x12]) (Ke (Ka (UL (UF rfl) (UL (UF rfl) (UL (UF rfl) UQ))) rfl (N3 g ga dl)) (Qa rfl) rfl) ?_;refine U2 (ρ1:=[S0,S1,S2,S3,x4,S5,S6,S7,S8,pb (.bool true),x10,x11,x12]) (Ke UM (Qa rfl) rfl) ?_
  have hz:Yv (UI (UD 3) (UI (UD 4) (UG))) [S0,S1,S2,S3,x4,S5,S6,S7,S8,pb (.bool true),x10,x11,x12]=.ok (us.map λu=>.tuple [U0 u,.int (wh u)]) [S0,S1,S2,S3,P4,S5,S6,S7,S8,pb (.bool true),x10,x11,x12]:=by
   rcases h4 with rfl|rfl
   ·exact Rc (UL (UF rfl) (UL (ZG rfl rfl) UQ)) (JW some (PX _ _ us))
   ·exact Rc (UL (UF rfl) (UL (UF rfl) UQ)) (JW some (PX _ _ us))
  apply Kp;apply Zg (λk ρ=>∃(b:Bool)(y10 y11 y12:Option Sl),ρ=[S0,S1,S2,S3,P4,S5,S6,S7,S8,pb (.bool b),y10,y11,y12]/\(b=true->∀u∈us.take k,wh u<=wh ws)/\(b=false->∃u∈us,wh ws<wh u))
  case h1=>exact hz
  case h0=>exact⟨true,_,_,_,rfl,(λ_ u h=>by rw[JJ]at h;cases h),λh=>by cases h⟩
  case hst=>
   rintro k d ρ hk ⟨b,y10,y11,y12,rfl,hb1,hb2⟩;rw[Qf]at hk;cases hu:us[k]? with
   |none=>rw[hu]at hk;cases hk
   |some u=>
   rw[hu]at hk;cases hk;have hta:us.take (k+1)=us.take k++[u]:=by rw[Ub,hu];rfl
   refine⟨_,KD rfl (U3 (UR (Qa rfl) rfl) (U3 (UR (Qa rfl) rfl) KE)),?_⟩;unfold ON
   let S9:Option Sl:=some (.pub (.bool b))
   let S10:Option Sl:=some (.pub (U0 u))
   let S11:Option Sl:=some (.pub (.int (wh u)))
   obtain⟨r,hg,gs,rfl,hgl,hgs,hgx⟩:=Er (o:=o) g ga dl (hus u (Qn hu))
   let S12:Option Sl:=some (.pub (.list (gs.map int)))
   refine U2 (ρ1:=[S0,S1,S2,S3,P4,S5,S6,S7,S8,S9,S10,S11,S12]) (Ke (Ka (UL (UF rfl) (UL (UF rfl) (UL (UF rfl) (UL (UF rfl) UQ)))) rfl hg) (Qa rfl) rfl) ?_;apply Kp;refine Kh (b:=false) (ρ1:=[S0,S1,S2,S3,P4,S5,S6,S7,S8,S9,S10,S11,S12]) (UT (Zi (UL (UF rfl) UQ) Nn) (UT (UF rfl) (UF rfl) ZO) (by rw[hgs,Xj,QM rfl];rfl)) (λz=>by cases z) λ_=>KB (Kk ?_)
   let fs:=gs.filter λx=>decide (0<x)
   have hc:Kq (gN 13) (KG (oIB λi j=>decide (j<i)) 13 (UK (.int 0))) (UD 13) (gs.map int) (U8 [S0,S1,S2,S3,P4,S5,S6,S7,S8,S9,S10,S11,S12]++Up 1 none) []=some (fs.map int):=by
    rw[Xh (λd=>match d with | .int i=>decide (0<i)|_=>false) (λd=>d) (λρ=>∃x,ρ=[S0,S1,S2,S3,P4,S5,S6,S7,S8,S9,S10,S11,S12,x])]
    ·rw[Ji,J9,JD];rfl
    ·rintro d hd ρ ⟨x,rfl⟩;obtain⟨i,hi,rfl⟩:=Qs.mp hd;exact⟨_,UR (Qa rfl) rfl,Zq rfl UM Py,λ_=>UF rfl,_,rfl⟩
    ·exact⟨none,rfl⟩
    ·rw[Qb,QN];omega
   refine Ze (Ke (Xz (t:=b) (u:=fs.isEmpty) (UF rfl) λ_=>Kl (UT (Kl (ZE (K7 (UF rfl) Zp) hc)) (Zt UQ (Qa rfl)) Lp)) (Qa rfl) rfl) (K3 ⟨b&&fs.isEmpty,S10,S11,S12,rfl,λh v hv=>?_,λh=>?_⟩)
   ·rw[Q2]at h;rw[hta]at hv;rcases QL.mp hv with hv|hv
    ·exact hb1 h.1 v hv
    ·cases Qy.mp hv;apply Decidable.byContradiction;intro hn;obtain⟨x,hx,h0⟩:=PV (gs:=gs) (by rw[hgs];show 0<wh u-wh ws;omega);have:x∈fs:=Q9.mpr ⟨hx,QM h0⟩;rw[List.isEmpty_iff.mp h.2]at this;cases this
   ·cases b with
    |false=>exact hb2 rfl
    |true=>
     rw[Bool.true_and]at h;cases hf:fs with
     |nil=>rw[hf]at h;cases h
     |cons x r=>
      have hx:x∈fs:=by rw[hf];exact Qo
      obtain⟨hx,h0⟩:=Q9.mp hx;have h0:=Qa h0;obtain⟨v,hv,rfl⟩:=hgx x hx;obtain⟨w,hw,e⟩:=Qs.mp (hfull v hv);have:w=v:=Sn (by unfold U0 at e;injection e);have h0:0<wh v-wh ws:=h0;exact⟨v,this ▸ hw,by omega⟩
  case hend=>
   rintro ρ ⟨b,y10,y11,y12,rfl,hb1,hb2⟩;rw[Qb,JN]at hb1;refine Kk ?_;obtain⟨w,hw,e⟩:=Qs.mp (hfull ws dl);have e:w=ws:=Sn (by unfold U0 at e;injection e);have hws:ws∈us:=e ▸ hw
   have hm:Xm [.list vs]=some (.int (most (us.map wh))):=by
    have:vs=(us.map wh).map int:=by rw[QT];rfl
    rw[this];exact RE (by rw[Qb];exact Jy hws)
   have hbe:decide (wh ws=most (us.map wh))=b:=by
    cases b with
    |true=>refine QM (O5 (Qs.mpr ⟨ws,hws,rfl⟩) λa ha=>?_).symm;obtain⟨u,hu,rfl⟩:=Qs.mp ha;exact hb1 rfl u hu
    |false=>
     refine QC λe=>?_
     obtain⟨u,hu,h⟩:=hb2 rfl;have:=Sg (Qs.mpr ⟨u,hu,rfl⟩:wh u∈us.map wh);omega
   exact Kh (b:=false) (Zq rfl (Kl (Zq rfl (Zi (UL (UF rfl) UQ) hm) (by rw[Wo,hbe]))) (Cf b)) (λz=>by cases z) λ_=>KB (K3 ⟨_,_,_,_,_,_,_,_,_,.inr rfl,rfl⟩)
 case hend=>rintro ρ ⟨x4,x5,x6,x7,x8,x9,x10,x11,x12,h4,rfl⟩;exact Kk (Kc UM rfl)
end
end W
open PySem PySem.W PyProof.Rows
set_option maxRecDepth 100000 in
set_option maxHeartbeats 0 in
theorem PySem.Challenge.cw_wishdeal_k31_whole_best_where_no_way_gai_holds : PySem.Challenge.rw_wishdeal_k31_whole_best_where_no_way_gai.Holds := by
 w_on;o_law
 refine holds_open (q:=W.q0) (loose:=[]) (Xt:=λs=>xlAt W.q0 [] s&&recOk [] s) (XP:=XL W.q0 []) (Yf:=Hook.obs .none) (Ya:=Hook.val .none) (YP:=Hook.says .none) (N:=4832) (d:=W.d_bq) (kwd:=[])
  W.Lk (Hook.of .none) (Hook.keeps .none) (λs e=>xl_of s (Bool.and_eq_true_iff.mp e).1) XL.keeps (by rfl) (by rfl) (by rfl)
  (λs e=>recFacts_of (Bool.and_eq_true_iff.mp e).2) (by rfl) (by assumption) (by decide +kernel) ⟨rfl,rfl,rfl,rfl,rfl,by decide +kernel⟩ ?hw (W.walk W.Ep)
 case hw=>w_witness2


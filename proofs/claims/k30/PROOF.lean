import PyProof.Rows.All
import Wide.All
import OpenK.AllK
import Wide.FinOn
import Lean
import PyProof.EqAt
import PyProof.EqKinds
import PyProof.TupleCall
import PyProof.EnumMake
import PyProof.ZipIter
import PyProof.ExcClass2
import PyProof.ExcInit
import PyProof.ExcBaseAll.ValueError
import PyProof.FString2
import PyProof.ExcArgsOwn
import PyProof.InstStoreFacts
import ObjForm.Fk.InstStore
import ObjForm.Fk.InstLoad
import PyProof.StationsW
import PyProof.RulesAs
import PyProof.NsDelKeeps
import OpenK.KMore
import PyProof.IsiBase
import OpenK.KNot
import PyProof.Rows.RuleN_isinstance
import PyProof.NeData
import PyProof.P3In
import PyProof.StrWalks
import PyProof.ConsumeWalk
import PyProof.SliceStr2
import PyProof.MeetsStr
import KE.KItem
import KE.KUnpack
import KE.KRevSl
import PyProof.Rows.SetFrom
import PyProof.SetRoads
import PyProof.Rows.Range3
import PyProof.CallType
import PyProof.Rows.CallKwBuiltin
import PyProof.Rows.MinMaxN
import PyProof.SumWalkG
import PyProof.Rows.SeqMore
import PyProof.Rows.SortWalk
import PyProof.Rows.SumAny
import PyProof.Rows.SeqMore2
import KE.KSortTup
import PyProof.Rows.SortShellK
import PyProof.ReprRoads
import PyProof.ReprBulk
import PyProof.CallFns
import PyProof.NeKinds
import PyProof.Rows.StrJoinMade
import PyProof.StrCalls
import KE.KIntText
import PyProof.ReprDict
import PyProof.DictIter
import PyProof.Rows.DictUnroll
import PyProof.MeetsStr2
import PyProof.Rows.StrNews
import PyProof.StrLawsChain
import PyProof.Rows.StrItems
import PyProof.SeqRoads2
import PySem.Challenge.RW_wishdeal_k30_whole_ways_in_any_order
set_option compiler.extract_closed false
set_option Elab.async false
set_option linter.all false
set_option maxRecDepth 100000
set_option maxHeartbeats 4000000
theorem Qa:type_of% @of_decide_eq_true:=@of_decide_eq_true
theorem Qr:type_of% @if_pos:=@if_pos
theorem Qu:type_of% @decide_eq_false:=@decide_eq_false
theorem QJ:type_of% @if_neg:=@if_neg
theorem QL:type_of% @decide_eq_true:=@decide_eq_true
theorem Ja:type_of% @decide_eq_true_eq:=@decide_eq_true_eq
theorem Jz:type_of% @of_decide_eq_false:=@of_decide_eq_false
theorem JG:type_of% @congrArg:=@congrArg
open List renaming getElem?_eq_getElem→Qb,length_map→Qe,getElem?_eq_some_iff→Qf,getElem?_map→Qg,length_append→Qk,getElem?_set_ne→Ql,getElem?_append_left→Qn,mem_of_getElem?→Qp,mem_cons_self→Qq,getElem?_append_right→Qs,mem_map→Qt,mem_append_right→Qw,map_cons→Qx,getElem?_replicate→Qz,length_cons→QA,getD_eq_getElem?_getD→QC,size_toArray→QE,mem_cons_of_mem→QF,getElem?_set_self→QG,map_append→QI,mem_singleton→QK,mem_append→QM,flatten_cons→QO,mem_cons→QP,lookup_cons→QQ,length_replicate→QR,length_range→QS,mem_range→QT,map_map→QY,length_singleton→Q0,length_nil→Q2,length_set→Q3,getElem?_eq_none→Q4,append_nil→Q5,mem_iff_getElem?→Q7,replicate_succ→Q9,zip_cons_cons→Jb,all_eq_true→Jc,getElem_mem→Jd,mem_append_left→Je,length_take→Jg,mem_flatten→Jh,mem_filter→Jk,nil_append→Jl,pairwise_cons→Jm,append_assoc→Jp,nodup_append→Jq,flatten_append→Jr,length_filter_le→Jt,contains_iff_mem→JB,drop_eq_getElem_cons→JC,getLast?_eq_getElem?→JE,getLast?_eq_none_iff→JF,mem_of_getLast?→JI,getElem?_take_of_lt→JJ,any_cons→JK,take_zero→JM,getElem?_cons_succ→JN,take_length→JP,head?_eq_getElem?→JR,filter_map→JS,mem_of_mem_take→JT,nodup_nil→JU,filterMap_cons→JW,length_pos_iff→JY,nodup_cons→JZ,all_map→J5,map_id'→J6,take_succ→J7,range→Uk,replicate→Ul,Pairwise→Uw
open PySem renaming wpAny_bind→Qd,wpAny_pure→Qj,wpAny_mono→Qy,wpAny_loadPart_at→QH,wpAny_truthy_bool→QU,wpAny_standAt→Q8,wpAny_isSubtype_exc→Ji,wpAny_passesOwn→Jj,wpAny_pyIter_list→Jv,mem_of_lookup→JL,Value→Ua,Shared→Ub,Program→Uc,Addr→Ud,FuncData→Ue,Expr→Uf,sizeLine→Ug,wpAny→Uh,starEach→Ui,compareOp→Uj,assignEach→Uy,foldedSetIterable→Uz
open PySem.Heap renaming lt_size→Qh,get?_push_of_some→Qi,get?_push_size→Qv
open Nat renaming le_refl→Qm,lt_of_lt_of_le→QB,ne_of_lt→QD,le_trans→QN,le_of_not_lt→QW,lt_irrefl→Jf,ne_of_gt→Jw,zero_add→Jx,le_succ→JH,zero_le→J8
open Option.some renaming inj→Qo
open Bool renaming and_eq_true→QX,false_ne_true→Ju,not_eq_false'→JA,false_eq_true→JQ,or_eq_false_iff→JV,eq_iff_iff→J0
open Int renaming toNat_natCast→QZ,le_refl→Jy,not_lt→J9
open Array renaming getD_eq_getD_getElem?→Q6,getElem?_eq_getElem→JD,length_toList→JX
open PySem.W.Fast renaming te1987589406359920131→Jn
open PyProof.Rows renaming callWith_type1→Jo
open PySem.W renaming kia_one→Js
open Option renaming getD_some→JO
open Array.Perm renaming refl→J4
open PySem.PyData renaming list→Um,bool→Uo,str→Up,strOk→Uq,canLayAll0→Ur,depth→Us,eqv→Ut,shown→Ux
open PySem.PassesOwn renaming never→Uu
open PySem.Str renaming ofString→Uv
abbrev L3:=List (List (List Int))
abbrev LO:=List (Option Int)
abbrev LP:=List (Int×Int)
open PySem.W (Frag)
open PySem.PyData (int)
open List (replicate)
namespace DL
open PySem PySem.Spec PySem.W PyProof.Rows
def topRunT(tb:String->Option Builtin)(p:Uc)(w:World)(m:Nat)(ann:Option Ua):Nat->SharedT->Thread->Option SharedT
 |0,_,_=>none
 |n+1,s,t=>match through t,stepOk m ann t with
  |true,_=>some s
  |false,false=>none
  |false,true=>match stepT (denote tb) p w s t with
   |some x=>topRunT tb p w m ann n x.1 x.2
   |none=>none
theorem Nn{tb:String->Option Builtin}{p:Uc}{w:World}{m:Nat}{ann:Option Ua}:∀{n:Nat}{s s':SharedT}{t:Thread},topRunT tb p w m ann n s t=some s'->topRun tb p w m ann n s.abs t=some s'.abs
 |0,_,_,_,h=>by cases h
 |n+1,s,s',t,h=>by
  rw[topRunT]at h;rw[topRun];cases ht:through t with
  |true=>rw[ht]at h;cases h;rfl
  |false=>
   rw[ht]at h;cases hk:stepOk m ann t with
   |false=>rw[hk]at h;cases h
   |true=>
    rw[hk]at h;dsimp only at h⊢;cases hs:stepT (denote tb) p w s t with
    |none=>rw[hs]at h;cases h
    |some x=>rw[hs]at h;rw[stepT_spec hs];exact Nn h
def btOf(l:List Obj):BT:=(l.foldl (λ(x:BT×Nat) o=>(x.1.ins x.2 o,x.2+1)) (.nil,0)).1
noncomputable def T0 (w:World) (os:OsState):SharedT:=⟨btOf (boot_heap w.params).objs.toList,11,(boot_heap w.params).life,#[],boot_drawn,boot_toks,os⟩
theorem Ek(w:World)(os:OsState):(T0 w os).abs=⟨boot_heap w.params,#[],boot_drawn,boot_toks,os⟩:=by kernel_rfl
theorem Dk(w:World):((boot_heap w.params).isNs mainGlobals&&(#[]:Array GenState).size==0,(boot_heap w.params).objs.size,(boot_heap w.params).nsMap mainGlobals "__annotations__")=(true,11,some (.ref 6)):=by kernel_rfl
noncomputable abbrev Li (p q:Uc) (loose:List Str) (Xt:Ub->Bool) (w:World) (t:SharedT):=
 ((staticsOk (importedModules p.main.body) (boot_heap w.params) t.abs.heap&&namesBound p t.abs.heap&&gensDone t.abs&&laidKept (boot_heap w.params) t.abs.heap),openSeen q loose (importedModules p.main.body) Xt true t.abs)
theorem GY{p q:Uc}{loose:List Str}{Xt:Ub->Bool}{N M:Nat}(e:opening p=plainProg p.main.scope.names)(hN:Nat.ble 600 N=true)(f:∀s,fenceModules? p s=some s)(le:Nat.ble M N=true)
  (run:∀(w:World)(os:OsState),(topRunT treeTable p w 11 (some (.ref 6)) M (T0 w os) (topStub p)).map (Li p q loose Xt w)=some (true,openGood q loose)):LeftO p q loose Xt (Hook.obs .none) (Hook.val .none) N:=λw=>by
 obtain⟨⟨h,gs,d,k,os⟩,e0,e'⟩:=Option.map_eq_some_iff.mp (boot_open e hN f w);have e':(h,gs,d,k)=(boot_heap w.params,#[],boot_drawn,boot_toks):=e';obtain⟨rfl,rfl,rfl,rfl⟩:h=boot_heap w.params/\gs=#[]/\d=boot_drawn/\k=boot_toks:=by simpa only[Prod.mk.injEq]using e'
 obtain⟨t,ht,l⟩:=Option.map_eq_some_iff.mp (run w os);have hr:=Nn ht;rw[Ek]at hr;have r:=topRun_mono (N-M) _ _ _ _ hr;rw[show M+(N-M)=N by have:=Nat.le_of_ble_eq_true le;omega]at r;obtain⟨l1,l2⟩:=Prod.mk.inj l;have z:=Dk w;obtain⟨z1,z2,z3⟩:_/\_/\_:=by simpa only[Prod.mk.injEq]using z
 have tf:topFrom treeTable p w N ⟨boot_heap w.params,#[],boot_drawn,boot_toks,os⟩=some t.abs:=by
  unfold topFrom;dsimp only;rw[z1,z2,z3,r]
  show(match staticsOk (importedModules p.main.body) (boot_heap w.params) t.abs.heap&&namesBound p t.abs.heap&&gensDone t.abs&&laidKept (boot_heap w.params) t.abs.heap with|true=>some t.abs|false=>none)=_
  rw[l1]
 unfold openEnds;rw[e0]
 show(topFrom treeTable p w N _).map _=_
 rw[tf];exact JG some (Prod.ext l2 rfl)
end DL
open PySem in
lay_quick PySem.Challenge.pw_wishdeal_k30_whole_ways_in_any_order DL.topRunT PySem.W.openGood PySem.W.staticsOk PySem.W.namesBound PySem.W.laidKept PySem.W.xlAt
namespace W
open PySem PySem.Spec DL
abbrev p0:Uc:=PySem.Challenge.pw_wishdeal_k30_whole_ways_in_any_order
def Yo:List Nat:=[1,2,3,5,6,8,9,10,11,12,13,14,15,16,17,19,20,21,22,24,26,27,28,29,30,32,33,34,35,36,37,38,39,40,41]
def ixL:List Nat:=[5,6,12,13,14,15,16,17,19,20,21,22,24,26,27,28,29,30,32,33,34,35,36,37,38,39,40,41]
abbrev q0:Uc:=PySem.W.view p0 Yo
theorem Lh:∀(w:World)(os:OsState),(PySem.W.Fast.tw10708255244068714335 PySem.W.Fast.tw14364793385576792824 PySem.W.Fast.tw15544463708914534981 w 11 (some (.ref 6)) 1728 (T0 w os) (PySem.W.topStub PySem.W.Fast.tw15544463708914534981)).map (λt=>((PySem.W.Fast.tw13471830651028734593 (PySem.W.Fast.tw5923862056798008813 (Program.main PySem.W.Fast.tw15544463708914534981).body) (PySem.W.boot_heap w.params) t.abs.heap&&PySem.W.Fast.tw4683006035507612052 PySem.W.Fast.tw15544463708914534981 t.abs.heap&&PySem.W.gensDone t.abs&&PySem.W.Fast.tw16898566250750103049 (PySem.W.boot_heap w.params) t.abs.heap),PySem.W.Fast.tw4187177175401517315 (PySem.W.view PySem.W.Fast.tw15544463708914534981 Yo) [] (PySem.W.Fast.tw5923862056798008813 (Program.main PySem.W.Fast.tw15544463708914534981).body) (λs=>PySem.W.Fast.tw4757257242682413121 (PySem.W.view PySem.W.Fast.tw15544463708914534981 Yo) [] s&&PySem.W.recOk [] s) true t.abs))=some (true,PySem.W.Fast.tw3486900944545009338 (PySem.W.view PySem.W.Fast.tw15544463708914534981 Yo) []):=by intro w os;kernel_rfl
theorem Lg:PySem.W.LeftO p0 q0 [] (λs=>PySem.W.xlAt q0 [] s&&PySem.W.recOk [] s) (PySem.W.Hook.obs .none) (PySem.W.Hook.val .none) 3356:=by
 refine GY (M:=1728) (by kernel_rfl) rfl (λs=>by kernel_rfl) rfl λw os=>?_
 have h:=Lh w os;rw[←PySem.W.Fast.te10708255244068714335,←PySem.W.Fast.te14364793385576792824,←PySem.W.Fast.te4187177175401517315,←PySem.W.Fast.te5923862056798008813,←PySem.W.Fast.te13471830651028734593,←PySem.W.Fast.te4683006035507612052,←PySem.W.Fast.te16898566250750103049,←PySem.W.Fast.te4757257242682413121,←PySem.W.Fast.te3486900944545009338,←PySem.W.Fast.te15544463708914534981]at h;exact h
end W
namespace L2
open PySem PySem.Spec PyProof.Rows
abbrev Key:=Sum Int Str
def WQ:Key->Ua->Bool
 |.inl k,v=>Value.isInt k v
 |.inr x,v=>Value.isStrOf x v
def keyH(w:World):Key->Int
 |.inl k=>hashInt k
 |.inr x=>hashStr w x
theorem Y8:∀{k:Key}{v:Ua},WQ k v=true->(∃i t,k=Sum.inl i/\v=Value.int i t)∨(∃x t,k=Sum.inr x/\v=Value.str x t)
 |.inl i,v,h=>by obtain⟨t,e⟩:=Value.isInt_shape (k:=i) (v:=v) h;exact .inl ⟨i,t,rfl,e⟩
 |.inr x,v,h=>by obtain⟨t,e⟩:=Value.isStrOf_shape (x:=x) (v:=v) h;exact .inr ⟨x,t,rfl,e⟩
theorem Dj(i:Int)(t:Tok):WQ (.inl i) (.int i t)=true:=by simp[WQ,Value.isInt]
theorem Di(x:Str)(t:Tok):WQ (.inr x) (.str x t)=true:=by simp[WQ,Value.isStrOf]
theorem LA(a b:Int):decide ((Sum.inl a:Key)=Sum.inl b)=(a==b):=by
 by_cases e:a=b
 ·subst e;simp
 ·have h:¬(Sum.inl a:Key)=Sum.inl b:=λq=>e (Sum.inl.inj q)
  rw[Qu h];exact(beq_eq_false_iff_ne.mpr e).symm
theorem Lz(a b:Str):decide ((Sum.inr a:Key)=Sum.inr b)=decide (a=b):=by
 by_cases e:a=b
 ·subst e;simp
 ·have h:¬(Sum.inr a:Key)=Sum.inr b:=λq=>e (Sum.inr.inj q)
  rw[Qu h,Qu e]
theorem Ly(a:Int)(b:Str):decide ((Sum.inl a:Key)=Sum.inr b)=false:=Qu (λq=>nomatch q)
theorem Lx(a:Str)(b:Int):decide ((Sum.inr a:Key)=Sum.inl b)=false:=Qu (λq=>nomatch q)
def ZF(prog:Uc)(w:World):PySem.KeyKind prog w Key where
 is:=WQ
 hash:=keyH w
 inj:=λv a b ha hb=>by
  rcases Y8 ha with ⟨i,t,rfl,rfl⟩|⟨x,t,rfl,rfl⟩
  ·rcases Y8 hb with ⟨j,u,rfl,e⟩|⟨y,u,rfl,e⟩
   ·injection e with e1 _;rw[e1]
   ·exact nomatch e
  ·rcases Y8 hb with ⟨j,u,rfl,e⟩|⟨y,u,rfl,e⟩
   ·exact nomatch e
   ·injection e with e1 _;rw[e1]
 byValue:=λk v h=>by rcases Y8 h with ⟨i,t,rfl,rfl⟩|⟨x,t,rfl,rfl⟩<;>rfl
 pyHash:=λhv h=>by
  rcases Y8 hv with ⟨i,t,rfl,rfl⟩|⟨x,t,rfl,rfl⟩
  ·exact wpAny_pyHash_int h
  ·exact wpAny_pyHash_str h
 eqBool:=λhu hv h=>by
  rcases Y8 hu with ⟨i,t,rfl,rfl⟩|⟨x,t,rfl,rfl⟩
  ·rcases Y8 hv with ⟨j,u,rfl,rfl⟩|⟨y,u,rfl,rfl⟩
   ·rw[LA]at h;exact wpAny_eqBool_int h
   ·rw[Ly]at h;exact SeqAt.EqAt.int_str i t y u _ _ _ _ h
  ·rcases Y8 hv with ⟨j,u,rfl,rfl⟩|⟨y,u,rfl,rfl⟩
   ·rw[Lx]at h;exact SeqAt.EqAt.str_int x t j u _ _ _ _ h
   ·rw[Lz]at h;exact wpAny_eqBool_str h
 «strs»:=λk x t v h=>by
  rcases Y8 h with ⟨i,u,rfl,e⟩|⟨y,u,rfl,e⟩
  ·exact nomatch e
  ·injection e with e1 _
   subst e1;cases v<;>rfl
theorem Cj(prog:Uc)(w:World)(i:Int)(t:Tok):(ZF prog w).is (.inl i) (.int i t)=true:=Dj i t
theorem Ci(prog:Uc)(w:World)(x:Str)(t:Tok):(ZF prog w).is (.inr x) (.str x t)=true:=Di x t
inductive V where
 |non|bl (b:Bool)|int (i:Int)|str (x:Str)|byt (b:Array UInt8)|flt (b:UInt64)|ref (a:Ud)|ty (n:String)
 deriving DecidableEq
def RelV:V->Ua->Prop
 |.non,u=>u=Value.none
 |.bl b,u=>u=Value.bool b
 |.int i,u=>∃t,u=Value.int i t
 |.str x,u=>∃t,u=Value.str x t
 |.byt b,u=>∃t,u=Value.bytes b t
 |.flt b,u=>∃t,u=Value.float b t
 |.ref a,u=>u=Value.ref a
 |.ty n,u=>u=Value.type n
abbrev Vals:List V->List Ua->Prop:=Paired RelV
theorem Vals.length{xs:List V}{us:List Ua}(r:Vals xs us):xs.length=us.length:=Paired.length r
theorem Vals.get:∀{xs:List V}{us:List Ua}{i:Nat}{x:V},Vals xs us->xs[i]?=some x->∃u,us[i]?=some u/\RelV x u
 |_,_,_,_,.nil,e=>by simp at e
 |_,_,0,_,.cons r _,e=>by simp at e;subst e;exact⟨_,rfl,r⟩
 |_,_,i+1,x,.cons _ t,e=>by obtain⟨u,h1,h2⟩:=Vals.get (i:=i) (x:=x) t (by simpa using e);exact⟨u,by simpa using h1,h2⟩
theorem Vals.set{x:V}{u:Ua}(r:RelV x u):∀{xs:List V}{us:List Ua}(i:Nat),Vals xs us->Vals (xs.set i x) (us.set i u)
 |_,_,_,.nil=>.nil
 |_,_,0,.cons _ t=>.cons r t
 |_,_,i+1,.cons q t=>.cons q (Vals.set r i t)
theorem Vals.append:∀{xs ys:List V}{us ws:List Ua},Vals xs us->Vals ys ws->Vals (xs++ys) (us++ws)
 |_,_,_,_,.nil,s=>s
 |_,_,_,_,.cons r t,s=>.cons r (Vals.append t s)
theorem Vals.take:∀{xs:List V}{us:List Ua}(n:Nat),Vals xs us->Vals (xs.take n) (us.take n)
 |_,_,0,_=>.nil
 |_,_,_+1,.nil=>.nil
 |_,_,n+1,.cons r t=>.cons r (Vals.take n t)
theorem Vals.drop:∀{xs:List V}{us:List Ua}(n:Nat),Vals xs us->Vals (xs.drop n) (us.drop n)
 |_,_,0,r=>r
 |_,_,_+1,.nil=>.nil
 |_,_,n+1,.cons _ t=>Vals.drop n t
def RelO:Option V->Option Ua->Prop
 |some v,some u=>RelV v u
 |none,none=>True
 |_,_=>False
def KV{κ:Type}:List (κ×V)->List (κ×Ua)->Prop:=Paired λ(p:κ×V) (q:κ×Ua)=>p.1=q.1/\RelV p.2 q.2
def kV:Key->V
 |.inl i=>.int i
 |.inr x=>.str x
inductive HO where
  |lst (xs:List V)
  |tup (xs:List V)
  |dK (kvs:List (Key×V))|dT (kvs:List (List Key×V))
  |set (S:Int->Bool) (n:Nat)
  |ins (C dx:Ud) (fs:List (Str×V))
  |own (x:Ud)
  |xd (fs:List (Str×V))
  |met (f x:Ud)
  |rng (lo hi:Int)
  |frz (o:Obj) (u:HO)
  |tbl (ps:Array Ua)
  |ext (φ:Heap->Prop)
abbrev Hp:=Ud->Option HO
def upd(H:Hp)(a:Ud)(o:HO):Hp:=λb=>if b=a then some o else H b
theorem Ki{H:Hp}{a:Ud}{o:HO}:upd H a o a=some o:=by unfold upd;rw[Qr rfl]
theorem U0{H:Hp}{a b:Ud}{o:HO}(h:b≠a):upd H a o b=H b:=by unfold upd;rw[QJ h]
theorem Lf{H:Hp}{a b:Ud}{o u:HO}(h:H a=some o)(h':H b=some u)(d:o≠u):a≠b:=by intro e;subst e;rw[h]at h';exact d (Qo h')
theorem K3{H:Hp}{a b:Ud}{o:HO}(h:H a=some o)(h':H b=none):a≠b:=by intro e;subst e;rw[h]at h';cases h'
section
variable(P:Uc)(w:World)
def Kz(H:Hp)(h:Heap)(a:Ud):HO->Prop
 |.lst xs=>xs.length<=Ug/\∃(its:List Ua)(n:Nat),Vals xs its/\h.get? a=some {cls:=.type "list", data:=.seq its.toArray n}
 |.tup xs=>xs.length<=Ug/\∃its:List Ua,Vals xs its/\IsTup h a its.toArray
 |.dK kvs=>kvs.length<=Ug/\(a==sysModules)=false/\∃vs,KV kvs vs/\h.DictOf (ZF P w) a vs
 |.dT kvs=>kvs.length<=Ug/\(a==sysModules)=false/\∃xs:List (List Key×Ud×Ua),
   Paired (λ(p:List Key×V) (q:List Key×Ud×Ua)=>p.1=q.1/\H q.2.1=some (.tup (p.1.map kV))/\RelV p.2 q.2.2) kvs xs /\
   ∃o es ep,h.get? a=some o/\o.ExactDict/\o.data=.dict es ep/\es.toList=xs.map (entryOfKey (tupleKind (ZF P w)))/\(xs.map (·.1)).Nodup
 |.set S n=>h.SetOf (intKind P w) a S n
 |.ins C dx fs=>H dx=some (.own a)/\fs.length<=1000/\dx≠a/\h.get? a=some (PySem.W.instObj C dx) /\
   ∃mA,h.Ns1 dx mA/\(∀f,RelO (fs.lookup f) (mA f))/\PySem.Within mA (fs.map (·.1))
 |.own _=>∃o,h.get? a=some o
 |.xd fs=>∃mA,h.Ns1 a mA/\∀f,RelO (fs.lookup f) (mA f)
 |.rng lo hi=>∃t u v,h.get? a=some {cls:=.type "range", data:=.fields #[.int lo t,.int hi u,.int 1 v]}
 |.frz o u=>h.get? a=some o/\Kz H h a u
 |.tbl ps=>h.get? a=some {cls:=.none,data:=.fields ps}
 |.met f x=>h.get? a=some (PySem.W.methodObj (.ref f) (.ref x))
 |.ext φ=>φ h/\(∃o,h.get? a=some o)/\∀h1 h2:Heap,φ h1->(∀o,h1.get? a=some o->h2.get? a=some o)->φ h2
def HOk(H:Hp)(h:Heap):Prop:=∀a o,H a=some o->Kz P w H h a o
end
section
variable{P:Uc}{w:World}{H H':Hp}{h h':Heap}{a:Ud}{o:HO}
theorem Kz.lt(x:Kz P w H h a o):a<h.objs.size:=by
 cases o with
 |lst xs=>obtain⟨_,_,_,_,e⟩:=x;exact Qh e
 |tup xs=>obtain⟨_,_,_,p⟩:=x;exact p.lt
 |dK kvs=>obtain⟨_,_,_,_,o,_,_,e,_⟩:=x;exact Qh e
 |dT kvs=>obtain⟨_,_,_,_,o,_,_,e,_⟩:=x;exact Qh e
 |set S n=>obtain⟨o,_,_,_,e,_⟩:=x;exact Qh e
 |ins C dx fs=>obtain⟨_,_,_,e,_⟩:=x;exact Qh e
 |own y=>obtain⟨_,e⟩:=x;exact Qh e
 |xd fs=>obtain⟨_,⟨_,_,_,e,_⟩,_⟩:=x;exact Qh e
 |rng lo hi=>obtain⟨_,_,_,e⟩:=x;exact Qh e
 |frz ob u=>obtain⟨e,_⟩:=x;exact Qh e
 |tbl ps=>exact Qh (show h.get? a=some _ from x)
 |met f y=>exact Qh (show h.get? a=some _ from x)
 |ext φ=>obtain⟨_,⟨_,e⟩,_⟩:=x;exact Qh e
theorem Paired.mapP{α β:Type}{F G:α->β->Prop}:∀{l₁:List α}{l₂:List β},Paired F l₁ l₂->(∀a b,F a b->G a b)->Paired G l₁ l₂
 |_,_,.nil,_=>.nil
 |_,_,.cons r t,f=>.cons (f _ _ r) (Paired.mapP t f)
theorem Kz.stay(x:Kz P w H h a o)(k:∀b u,(b=a∨H b=some (.own a))->h.get? b=some u->h'.get? b=some u)
  (ho:∀b,H b=some (.own a)->H' b=some (.own a)) (ht:∀b xs,H b=some (.tup xs)->H' b=some (.tup xs)):Kz P w H' h' a o:=by
 induction o with
 |lst xs=>obtain⟨z,its,n,r,e⟩:=x;exact⟨z,its,n,r,k _ _ (.inl rfl) e⟩
 |tup xs=>obtain⟨z,its,r,ob,e,c⟩:=x;exact⟨z,its,r,ob,k _ _ (.inl rfl) e,c⟩
 |dK kvs=>obtain⟨z,y,vs,r,ob,es,ep,e,c⟩:=x;exact⟨z,y,vs,r,ob,es,ep,k _ _ (.inl rfl) e,c⟩
 |dT kvs=>obtain⟨z,y,xs,r,ob,es,ep,e,c⟩:=x;exact⟨z,y,xs,Paired.mapP r λp q z=>⟨z.1,ht _ _ z.2.1,z.2.2⟩,ob,es,ep,k _ _ (.inl rfl) e,c⟩
 |set S n=>obtain⟨ob,es,ep,t,e,c⟩:=x;exact⟨ob,es,ep,t,k _ _ (.inl rfl) e,c⟩
 |ins C dx fs=>obtain⟨d,z,ne,e,mA,⟨od,es,ep,e2,c⟩,r⟩:=x;exact⟨ho _ d,z,ne,k _ _ (.inl rfl) e,mA,⟨od,es,ep,k _ _ (.inr d) e2,c⟩,r⟩
 |own y=>obtain⟨ob,e⟩:=x;exact⟨ob,k _ _ (.inl rfl) e⟩
 |xd fs=>obtain⟨mA,⟨od,es,ep,e,c⟩,r⟩:=x;exact⟨mA,⟨od,es,ep,k _ _ (.inl rfl) e,c⟩,r⟩
 |rng lo hi=>obtain⟨t,u,v,e⟩:=x;exact⟨t,u,v,k _ _ (.inl rfl) e⟩
 |frz ob u ih=>obtain⟨e,q⟩:=x;exact⟨k _ _ (.inl rfl) e,ih q⟩
 |tbl ps=>have e:h.get? a=some {cls:=.none,data:=.fields ps}:=x;show h'.get? a=some {cls:=.none,data:=.fields ps};exact k a _ (.inl rfl) e
 |met f y=>have e:h.get? a=some (PySem.W.methodObj (.ref f) (.ref y)):=x;show h'.get? a=some (PySem.W.methodObj (.ref f) (.ref y));exact k a _ (.inl rfl) e
 |ext φ=>obtain⟨p,⟨o,e⟩,st⟩:=x;exact⟨st _ _ p λo q=>k _ _ (.inl rfl) q,⟨o,k _ _ (.inl rfl) e⟩,st⟩
theorem HOk.lt(x:HOk P w H h)(e:H a=some o):a<h.objs.size:=(x a o e).lt
theorem HOk.fresh(x:HOk P w H h)(e:h.objs.size<=a):H a=none:=by
 cases q:H a with
 |none=>rfl
 |some u=>exact absurd (QB (x.lt q) e) (Jf _)
theorem HOk.kept(x:HOk P w H h)(k:∀b u,h.get? b=some u->h'.get? b=some u):HOk P w H h':=λa o e=>
 (x a o e).stay (λb u _ q=>k b u q) (λ_ q=>q) λ_ _ q=>q
theorem HOk.laid(x:HOk P w H h)(k:∀b u,h.get? b=some u->h'.get? b=some u)(hp:h.objs.size<=a)(new:Kz P w (upd H a o) h' a o):HOk P w (upd H a o) h':=λb u e=>by
 have hn:=x.fresh hp;by_cases hb:b=a
 ·subst hb;rw[Ki]at e;cases e;exact new
 ·rw[U0 hb]at e;exact(x b u e).stay (λc v _ q=>k c v q) (λc q=>by rw[U0 (K3 q hn)];exact q) λc xs q=>by rw[U0 (K3 q hn)];exact q
end
def Rd(H:Hp)(a:Ud)(u:HO):Prop:=H a=some u ∨ ∃o,H a=some (.frz o u)
theorem Rd.ok{P:Uc}{w:World}{H:Hp}{h:Heap}{a:Ud}{u:HO}(r:Rd H a u)(x:HOk P w H h):Kz P w H h a u:=by
 rcases r with r|⟨o,r⟩
 ·exact x a u r
 ·obtain⟨_,q⟩:=x a _ r;exact q
def Mut:Option HO->Prop
 |some (.lst _)=>True
 |some (.dK _)=>True
 |some (.dT _)=>True
 |some (.set _ _)=>True
 |some (.ins _ _ _)=>True
 |some (.ext _)=>True
 |_=>False
section
variable{P:Uc}{w:World}{H:Hp}{h h':Heap}{x e:Ud}{o':HO}
theorem HOk.write(ok:HOk P w H h)(mu:Mut (H x))(he:e=x∨H e=some (.own x))(k:∀b u,b≠e->h.get? b=some u->h'.get? b=some u)(heo:∃u,h'.get? e=some u)
  (new:Kz P w (upd H x o') h' x o'):HOk P w (upd H x o') h':=λb u q=>by
 have nown:∀c y,H c=some (.own y)->c≠x:=λc y r z=>by subst z;rw[r]at mu;exact mu
 have ntup:∀c xs,H c=some (.tup xs)->c≠x:=λc xs r z=>by subst z;rw[r]at mu;exact mu
 by_cases hb:b=x
 ·subst hb;rw[Ki]at q;cases q;exact new
 ·rw[U0 hb]at q;by_cases hbe:b=e
  ·have q':H b=some (.own x):=by
    rcases he with z|z
    ·exact absurd (hbe.trans z) hb
    ·rw[hbe];exact z
   rw[q]at q';cases q';obtain⟨v,hv⟩:=heo;exact⟨v,by rw[hbe];exact hv⟩
  ·refine(ok b u q).stay (λc v hc r=>k c v ?_ r) (λc r=>by rw[U0 (nown c b r)];exact r) λc xs r=>by rw[U0 (ntup c xs r)];exact r
   rcases hc with rfl|hc
   ·exact hbe
   ·rintro rfl;rcases he with z|z
    ·exact nown c b hc z
    ·rw[hc]at z;cases z;exact hb rfl
end
structure Un(fs ex:List Ud)(H H':Hp)(h h':Heap):Prop where
 keep:∀b o,h.get? b=some o->H b=none->b∉fs->b∉ex->h'.get? b=some o
 slot:∀b o,h.get? b=some o->H b=none->b∈fs->b∉ex->∃sl,h'.get? b=some {o with slots:=sl}
 free:∀b o,h.get? b=some o->H b=none->b∉ex->H' b=none
 there:∀b o,h.get? b=some o->b∉ex->∃o',h'.get? b=some o'
 tups:∀b xs,H b=some (.tup xs)->H' b=some (.tup xs)
 frzs:∀b o u,H b=some (.frz o u)->H' b=some (.frz o u)
 tbls:∀b ps,H b=some (.tbl ps)->∃more,H' b=some (.tbl (ps++more))
section
variable{fs fs' ex ex':List Ud}{H H1 H2:Hp}{h h1 h2 h':Heap}{a x e:Ud}{o:HO}
theorem Un.any(u:Un fs ex H H1 h h1){b:Ud}{ob:Obj}(q:h.get? b=some ob)(n:H b=none)(hx:b∉ex):∃sl,h1.get? b=some {ob with slots:=sl}:=by
 by_cases hb:b∈fs
 ·exact u.slot b ob q n hb hx
 ·exact⟨ob.slots,u.keep b ob q n hb hx⟩
theorem Un.kept(k:∀b u,h.get? b=some u->h'.get? b=some u):Un fs ex H H h h':=
 ⟨λb ob q _ _ _=>k b ob q,λb ob q _ _ _=>⟨ob.slots,k b ob q⟩,λ_ _ _ n _=>n,λb ob q _=>⟨ob,k b ob q⟩,λ_ _ q=>q,λ_ _ _ q=>q,λ_ ps q=>⟨#[],by rw[q];simp⟩⟩
theorem Un.refl:Un fs ex H H h h:=Un.kept λ_ _ q=>q
theorem Un.laid(k:∀b u,h.get? b=some u->h'.get? b=some u)(hp:h.objs.size<=a)(hn:H a=none):Un fs ex H (upd H a o) h h' where
 keep:=λb u q _ _ _=>k b u q
 slot:=λb u q _ _ _=>⟨u.slots,k b u q⟩
 free:=λb u q n _=>by rw[U0 (QD (QB (Qh q) hp))];exact n
 there:=λb u q _=>⟨u,k b u q⟩
 tups:=λb xs q=>by rw[U0 (K3 q hn)];exact q
 frzs:=λb u xs q=>by rw[U0 (K3 q hn)];exact q
 tbls:=λb ps q=>⟨#[],by rw[U0 (K3 q hn),q];simp⟩
theorem Un.write(mu:Mut (H x))(he:e=x∨H e=some (.own x))(k:∀b u,b≠e->h.get? b=some u->h'.get? b=some u)(heo:∃u,h'.get? e=some u):Un fs ex H (upd H x o) h h':=by
 have hx:∀b,H b=none->b≠x:=λb n z=>by subst z;rw[n]at mu;exact mu
 have hb:∀b,H b=none->b≠e:=λb n z=>by
  subst z;rcases he with r|r
  ·exact hx b n r
  ·rw[n]at r;cases r
 have hm:∀b u,H b=some u->¬Mut (some u)->b≠x:=λb u q nm z=>by subst z;rw[q]at mu;exact nm mu
 refine⟨λb u q n _ _=>k b u (hb b n) q,λb u q n _ _=>⟨u.slots,k b u (hb b n) q⟩,λb u q n _=>by rw[U0 (hx b n)];exact n,λb u q _=>?_,
  λb xs q=>by rw[U0 (hm b _ q λz=>z)];exact q,λb u xs q=>by rw[U0 (hm b _ q λz=>z)];exact q,λb ps q=>⟨#[],by rw[U0 (hm b _ q λz=>z),q];simp⟩⟩
 by_cases hbe:b=e
 ·subst hbe;exact heo
 ·exact⟨u,k b u hbe q⟩
end
def trk(h:Heap)(H:Hp):List Ud:=(Uk h.objs.size).filter λa=>(H a).isSome
def Zk(h:Heap)(H:Hp):Heap:=PySem.W.hideAll h (trk h H)
theorem Dh(h:Heap)(H:Hp):(Zk h H).objs.size=h.objs.size:=PySem.W.hideAll_size _ _
theorem Ej{h:Heap}{H:Hp}{b:Ud}{o:Obj}(e:h.get? b=some o)(n:H b=none):(Zk h H).get? b=some o:=
 PySem.W.hideAll_get _ e λhm=>by have q:(H b).isSome=true:=(Jk.mp hm).2;rw[n]at q;simp at q
theorem GX{h:Heap}{H:Hp}{b:Ud}{o:Obj}(e:(Zk h H).get? b=some o):h.get? b=some o/\H b=none:=by
 have e':h.get? b=some o:=PySem.W.of_hideAll (trk h H) e;refine⟨e',?_⟩;cases q:H b with
 |none=>rfl
 |some x=>have hm:b∈trk h H:=List.mem_filter.mpr ⟨List.mem_range.mpr (Heap.lt_size e'),by simp[q]⟩;have z:(Zk h H).get? b=none:=PySem.W.hideAll_none (trk h H) hm;rw[z]at e;cases e
structure Mod(K:Frag)(mg:Str->Option Ua)(base:Heap):Prop where
 kin:K.In base
 glob:base.Ns mainGlobals mg
 blt:∃mb,base.Ns builtinsNs mb/\∀x:Str,x ≠ "__name__" -> mb x=bootBuiltins x
 nolimit:base.NoLimit
structure Cx where
 prog:Uc
 w:World
 K:Frag
 mg:Str->Option Ua
 base:Heap
 A:Around
 N:List Str
 s₀:Ub
 H₀:Hp
 env:Env
 outer:List Env
 stack:List Env
 ex:List Ud
 fn:Str->Bool
 calm:Bool
 pn:List (Ud×Obj)
 xe:Ua->Ub->Prop
def frs(l:List Env):List Ud:=l.filterMap (·.frame)
abbrev Cx.fs(X:Cx):List Ud:=frs X.outer
def Vis(sc:Scope)(x:Str):Prop:=sc.names.lookup x=some .local∨sc.names.lookup x=some .cell∨sc.names.lookup x=some .free
def Loc(sc:Scope)(x:Str):Prop:=sc.names.lookup x=some .local∨sc.names.lookup x=some .cell
def Look(env:Env)(h:Heap)(m:Str->Option Ua)(x:Str)(u:Ua):Prop:=
 (env.kindOf x=some .local/\m x=some u)∨((env.kindOf x=some .cell∨env.kindOf x=some .free)/\∃c,env.cells.lookup x=some c/\h.IsCell c (some u))
structure Cx.Ok(X:Cx):Prop where
 mod:Mod X.K X.mg X.base
 kind:X.env.scope.kind=.function
 glob:X.env.globals=mainGlobals
 blt:X.env.builtins=builtinsNs
 above:X.s₀.heap.objs.size<=X.env.locals
 inj:∀x y c,X.env.cells.lookup x=some c->X.env.cells.lookup y=some c->x=y
 has:∀x,(X.env.kindOf x=some .cell∨X.env.kindOf x=some .free)->∃c,X.env.cells.lookup x=some c
 cab:∀x c,X.fn x=true->X.env.cells.lookup x=some c->X.s₀.heap.objs.size<=c
 hd:X.calm=true->X.A.handled=none
 frames:X.A.frames=some X.stack
 stk:X.stack=X.outer∨(X.stack=X.env::X.outer/\X.env.frame=some X.env.locals)
 exf:∀b∈X.ex,b≠X.env.locals/\∀x c,X.env.cells.lookup x=some c->c≠b
 bs:∀b o,X.base.get? b=some o->X.s₀.heap.get? b=some o/\X.H₀ b=none
 bsz:X.base.objs.size<=X.s₀.heap.objs.size
 noex:∀b o,X.base.get? b=some o->b∉X.ex
 exfs:∀b∈X.ex,b∉X.fs
 funs:X.s₀.heap.FunFrames X.base X.outer
 frf:∀b∈X.fs,X.H₀ b=none
structure Inv(X:Cx)(pins:List (Ud×Obj))(σ:List (Option V))(H:Hp)(s:Ub):Prop where
 ok:X.Ok
 os:s.os=X.s₀.os
 bare:AllBare s.gens
 base:Un X.fs X.ex X.H₀ H X.s₀.heap s.heap
 loc:∃m,s.heap.Ns X.env.locals m/\∀(i:Nat)(x:Str)(v:V),X.N[i]?=some x->σ[i]?=some (some v)->Vis X.env.scope x->∃u,RelV v u/\Look X.env s.heap m x u
 cell:∀x c,X.env.cells.lookup x=some c->∃v,s.heap.IsCell c v
 free:H X.env.locals=none
 freeC:∀x c,X.env.cells.lookup x=some c->H c=none
 pin:∀p∈X.pn++pins,s.heap.get? p.1=some p.2/\H p.1=none/\p.1≠X.env.locals/\p.1∉X.fs/\∀v,p.2.data≠.cell v
 hok:HOk X.prog X.w H s.heap
 len:σ.length=X.N.length
section
variable{X:Cx}{pins:List (Ud×Obj)}{σ:List (Option V)}{H H':Hp}{s:Ub}{h':Heap}
theorem Cx.Ok.nofr(ok:X.Ok){b:Ud}{o:Obj}(e:X.base.get? b=some o):b∉X.fs:=λhb=>by have:=(ok.funs.mem hb).1;rw[e]at this;cases this
theorem Inv.bs(I:Inv X pins σ H s):∀b o,X.base.get? b=some o->s.heap.get? b=some o/\H b=none:=λb o e=>
 ⟨I.base.keep b o (I.ok.bs b o e).1 (I.ok.bs b o e).2 (I.ok.nofr e) (I.ok.noex b o e),I.base.free b o (I.ok.bs b o e).1 (I.ok.bs b o e).2 (I.ok.noex b o e)⟩
theorem Inv.bk(I:Inv X pins σ H s):∀b o,X.base.get? b=some o->s.heap.get? b=some o:=λb o e=>(I.bs b o e).1
theorem Inv.mod(I:Inv X pins σ H s):Mod X.K X.mg X.base:=I.ok.mod
theorem Inv.kIn(I:Inv X pins σ H s):X.K.In s.heap:=I.ok.mod.kin.keeps I.bk
theorem Inv.lt(I:Inv X pins σ H s):X.env.locals<s.heap.objs.size:=let ⟨_,hn,_⟩:=I.loc;hn.lt
theorem Inv.sz(I:Inv X pins σ H s):X.s₀.heap.objs.size<=s.heap.objs.size:=QN I.ok.above (Nat.le_of_lt I.lt)
theorem Inv.nofs(I:Inv X pins σ H s){a:Ud}(h:s.heap.objs.size<=a):a∉X.fs:=λhb=>by obtain⟨_,o,ho,_⟩:=I.ok.funs.mem hb;exact absurd (QB (Qh ho) (QN I.sz h)) (Jf _)
theorem Inv.cne(I:Inv X pins σ H s):∀x c,X.env.cells.lookup x=some c->c≠X.env.locals:=λx c e z=>by obtain⟨v,o,ho,hd⟩:=I.cell x c e;obtain⟨m,⟨o',es,ep,ho',hd',_⟩,_⟩:=I.loc;rw[z,ho']at ho;cases ho;rw[hd']at hd;cases hd
theorem Inv.funs(I:Inv X pins σ H s):s.heap.FunFrames X.base X.outer:=by
 have all:∀(l:List Env),(∀b∈frs l,b∈X.fs)->X.s₀.heap.FunFrames X.base l->s.heap.FunFrames X.base l:=by
  intro l;induction l with
  |nil=>intro _ _;trivial
  |cons env r ih=>
   intro hs hl;obtain⟨hk,⟨L,o,hf,hn,ho,hd⟩,hr⟩:=hl;have hL:L∈X.fs:=hs L (by unfold frs;rw[JW,hf];exact Qq);obtain⟨sl,e⟩:=I.base.slot L o ho (I.ok.frf L hL) hL λz=>I.ok.exfs L z hL
   exact⟨hk,⟨L,_,hf,hn,e,hd⟩,ih (λb hb=>hs b (by unfold frs;rw[JW,hf];exact QF _ hb)) hr⟩
 exact all X.outer (λ_ hb=>hb) I.ok.funs
theorem Inv.stack(I:Inv X pins σ H s):s.heap.FunFrames X.base X.stack:=by
 rcases I.ok.stk with e|⟨e,hf⟩
 ·rw[e];exact I.funs
 ·rw[e];obtain⟨m,hn,_⟩:=I.loc;refine .cons (by rw[I.ok.kind];decide) hf hn ?_ I.funs;exact Heap.get?_none_of_le (QN I.ok.bsz I.ok.above)
theorem Inv.stkSub(I:Inv X pins σ H s):∀b∈frs X.stack,b∈X.env.locals::X.fs:=λb hb=>by
 rcases I.ok.stk with e|⟨e,hf⟩
 ·rw[e]at hb;exact QF _ hb
 ·rw[e]at hb;unfold frs at hb;rw[JW,hf]at hb;exact hb
theorem Inv.stkFree(I:Inv X pins σ H s):∀b∈frs X.stack,H b=none:=λb hb=>by
 rcases QP.mp (I.stkSub b hb)with e|hb
 ·rw[e];exact I.free
 ·obtain⟨_,o,ho,_⟩:=I.ok.funs.mem hb;exact I.base.free b o ho (I.ok.frf b hb) λz=>I.ok.exfs b z hb
theorem Inv.step{g':Array GenState}{t':Nat}{d':Drawn}{ch:List Ud}(I:Inv X pins σ H s)
  (hch:∀b∈ch,(b∈X.ex∨X.s₀.heap.objs.size<=b)/\b≠X.env.locals/\(∀x c,X.env.cells.lookup x=some c->c≠b)/\∀p∈X.pn++pins,p.1≠b)
  (keep:∀b o,b≠X.env.locals->b∉X.fs->b∉ch->s.heap.get? b=some o->H b=none->h'.get? b=some o)
  (slot:∀b o,b≠X.env.locals->b∈X.fs->b∉ch->s.heap.get? b=some o->H b=none->∃sl,h'.get? b=some {o with slots:=sl}) (free:∀b o,b∉ch->s.heap.get? b=some o->H b=none->H' b=none)
  (there:∀b o,b∉ch->s.heap.get? b=some o->∃o',h'.get? b=some o')
  (tups:∀b xs,H b=some (.tup xs)->H' b=some (.tup xs)) (frzs:∀b o u,H b=some (.frz o u)->H' b=some (.frz o u)) (tbls:∀b ps,H b=some (.tbl ps)->∃more,H' b=some (.tbl (ps++more)))
  (ns:∀m,s.heap.Ns X.env.locals m->h'.Ns X.env.locals m) (hok:HOk X.prog X.w H' h') (hg:AllBare g') :
  Inv X pins σ H' {s with heap:=h',gens:=g',drawn:=d',toks:=t'}:=by
 have neL:∀b o,X.s₀.heap.get? b=some o->b≠X.env.locals:=λb o e=>QD (QB (Qh e) I.ok.above)
 have neC:∀b o,X.s₀.heap.get? b=some o->b∉X.ex->b∉ch:=λb o e hx hb=>by
  rcases(hch b hb).1 with z|z
  ·exact hx z
  ·exact absurd (QB (Qh e) z) (Jf _)
 have cellK:∀x c,X.env.cells.lookup x=some c->∀v,s.heap.IsCell c v->h'.IsCell c v:=λx c e v ⟨o,ho,hd⟩=>by
  have nch:c∉ch:=λz=>(hch c z).2.2.1 x c e rfl
  by_cases hc:c∈X.fs
  ·obtain⟨sl,q⟩:=slot c o (I.cne x c e) hc nch ho (I.freeC x c e);exact⟨_,q,hd⟩
  ·exact⟨o,keep c o (I.cne x c e) hc nch ho (I.freeC x c e),hd⟩
 refine⟨I.ok,I.os,hg,⟨λb o e n hb hx=>?_,λb o e n hb hx=>?_,λb o e n hx=>?_,λb o e hx=>?_,λb xs e=>tups b xs (I.base.tups b xs e),λb o xs e=>frzs b o xs (I.base.frzs b o xs e),λb ps e=>?_⟩,?_,λx c e=>?_,?_,λx c e=>?_,λp hp=>?_,hok,I.len⟩
 ·exact keep b o (neL b o e) hb (neC b o e hx) (I.base.keep b o e n hb hx) (I.base.free b o e n hx)
 ·obtain⟨sl,e1⟩:=I.base.slot b o e n hb hx;obtain⟨sl',e2⟩:=slot b _ (neL b o e) hb (neC b o e hx) e1 (I.base.free b o e n hx);exact⟨sl',e2⟩
 ·obtain⟨o',e1⟩:=I.base.there b o e hx;exact free b o' (neC b o e hx) e1 (I.base.free b o e n hx)
 ·obtain⟨o',e1⟩:=I.base.there b o e hx;exact there b o' (neC b o e hx) e1
 ·obtain⟨m1,e1⟩:=I.base.tbls b ps e;obtain⟨m2,e2⟩:=tbls b _ e1;exact⟨m1++m2,by rw[e2,Array.append_assoc]⟩
 ·obtain⟨m,hn,hl⟩:=I.loc;refine⟨m,ns m hn,λi x v e1 e2 e3=>?_⟩;obtain⟨u,r,l⟩:=hl i x v e1 e2 e3;refine⟨u,r,?_⟩;rcases l with l|⟨k,c,e,z⟩
  ·exact .inl l
  ·exact .inr ⟨k,c,e,cellK x c e _ z⟩
 ·obtain⟨v,z⟩:=I.cell x c e;exact⟨v,cellK x c e v z⟩
 ·obtain⟨m,⟨o,_,_,ho,_⟩,_⟩:=I.loc;exact free _ o (λz=>(hch _ z).2.1 rfl) ho I.free
 ·obtain⟨v,o,ho,hd⟩:=I.cell x c e;exact free c o (λz=>(hch c z).2.2.1 x c e rfl) ho (I.freeC x c e)
 ·obtain⟨e,n,ne,nf,d⟩:=I.pin p hp;have nch:p.1∉ch:=λz=>(hch p.1 z).2.2.2 p hp rfl
  exact⟨keep p.1 p.2 ne nf nch e n,free p.1 p.2 nch e n,ne,nf,d⟩
theorem Inv.un{t':Nat}(I:Inv X pins σ H s)(u:Un X.fs [] H H' s.heap h')(hok:HOk X.prog X.w H' h'):Inv X pins σ H' {s with heap:=h',toks:=t'}:=by obtain⟨m,⟨o,es,ep,ho,r⟩,_⟩:=id I.loc;obtain⟨sl,hL⟩:=u.any ho I.free (by simp);exact I.step (g':=s.gens) (d':=s.drawn) (ch:=[]) (λ_ z=>nomatch z) (λb o _ hb _ e n=>u.keep b o e n hb (by simp)) (λb o _ hb _ e n=>u.slot b o e n hb (by simp)) (λb o _ e n=>u.free b o e n (by simp)) (λb o _ e=>u.there b o e (by simp)) u.tups u.frzs u.tbls (λm' hm=>by obtain⟨o',es',ep',ho',r'⟩:=hm;rw[ho]at ho';cases ho';exact⟨_,es',ep',hL,r'⟩) hok I.bare
theorem Inv.call{g':Array GenState}{t':Nat}{d':Drawn}{ch:List Ud}(I:Inv X pins σ H s)(u:Un (frs X.stack) ch H H' s.heap h')(hok:HOk X.prog X.w H' h')(hg:AllBare g')
  (hch:∀b∈ch,(b∈X.ex∨X.s₀.heap.objs.size<=b)/\b≠X.env.locals/\(∀x c,X.env.cells.lookup x=some c->c≠b)/\∀p∈X.pn++pins,p.1≠b) :
  Inv X pins σ H' {s with heap:=h',gens:=g',drawn:=d',toks:=t'}:=by
 obtain⟨m,⟨o,es,ep,ho,r⟩,_⟩:=id I.loc;obtain⟨sl,hL⟩:=u.any ho I.free λz=>(hch _ z).2.1 rfl
 exact I.step (ch:=ch) hch (λb o hL hb hc e n=>u.keep b o e n (λz=>(QP.mp (I.stkSub b z)).elim hL hb) hc) (λb o _ _ hc e n=>u.any e n hc) (λb o hc e n=>u.free b o e n hc) (λb o hc e=>u.there b o e hc) u.tups u.frzs u.tbls (λm' hm=>by obtain⟨o',es',ep',ho',r'⟩:=hm;rw[ho]at ho';cases ho';exact⟨_,es',ep',hL,r'⟩) hok hg
theorem Inv.turned{t':Nat}{it:Ud}(I:Inv X pins σ H s)(k:∀b o,b≠it->s.heap.get? b=some o->h'.get? b=some o)(hn:H it=none)(hL:it≠X.env.locals)
  (h1:it∈X.ex∨X.s₀.heap.objs.size<=it) (h2:∀x c,X.env.cells.lookup x=some c->c≠it) (h3:∀p∈X.pn++pins,p.1≠it):Inv X pins σ H {s with heap:=h',toks:=t'}:=by
 have nit:∀b u,H b=some u->b≠it:=λb u e z=>by rw[z,hn]at e;cases e
 refine I.step (g':=s.gens) (d':=s.drawn) (ch:=[it]) (λb hb=>?_) (λb o _ _ hc e _=>k b o (λz=>hc (by simp[z])) e) (λb o _ _ hc e _=>⟨o.slots,k b o (λz=>hc (by simp[z])) e⟩) (λ_ _ _ _ n=>n)
  (λb o hc e=>⟨o,k b o (λz=>hc (by simp[z])) e⟩) (λ_ _ e=>e) (λ_ _ _ e=>e) (λb ps e=>⟨#[],by rw[e];simp⟩) (λm hm=>?_) (λb u e=>?_) I.bare
 ·have e:b=it:=by simpa using hb
  subst e;exact⟨h1,hL,h2,h3⟩
 ·obtain⟨o,es,ep,ho,r⟩:=hm;exact⟨o,es,ep,k _ o (Ne.symm hL) ho,r⟩
 ·refine(I.hok b u e).stay (λc v hc q=>k c v ?_ q) (λ_ q=>q) λ_ _ q=>q
  rcases hc with z|z
  ·rw[z];exact nit b u e
  ·exact nit c _ z
theorem Inv.tok(I:Inv X pins σ H s)(t:Nat):Inv X pins σ H {s with toks:=t}:=I.un (h':=s.heap) (t':=t) Un.refl I.hok
theorem Inv.kept{t':Nat}(I:Inv X pins σ H s)(k:∀b u,s.heap.get? b=some u->h'.get? b=some u):Inv X pins σ H {s with heap:=h',toks:=t'}:=I.un (Un.kept k) (I.hok.kept k)
theorem Inv.laid{a:Ud}{o:HO}{t':Nat}(I:Inv X pins σ H s)(k:∀b u,s.heap.get? b=some u->h'.get? b=some u)(hp:s.heap.objs.size<=a)(new:Kz X.prog X.w (upd H a o) h' a o) :
  Inv X pins σ (upd H a o) {s with heap:=h',toks:=t'}:=I.un (Un.laid k hp (I.hok.fresh hp)) (I.hok.laid k hp new)
theorem Inv.write{x e:Ud}{o:HO}{t':Nat}(I:Inv X pins σ H s)(mu:Mut (H x))(he:e=x∨H e=some (.own x))(k:∀b u,b≠e->s.heap.get? b=some u->h'.get? b=some u)(heo:∃u,h'.get? e=some u)
  (new:Kz X.prog X.w (upd H x o) h' x o):Inv X pins σ (upd H x o) {s with heap:=h',toks:=t'}:=I.un (Un.write mu he k heo) (I.hok.write mu he k heo new)
theorem Inv.pins_of{pins':List (Ud×Obj)}(I:Inv X pins σ H s)(h:∀p∈pins',s.heap.get? p.1=some p.2/\H p.1=none/\p.1≠X.env.locals/\p.1∉X.fs/\∀v,p.2.data≠.cell v):Inv X pins' σ H s:=
 ⟨I.ok,I.os,I.bare,I.base,I.loc,I.cell,I.free,I.freeC,λp hp=>(QM.mp hp).elim (λz=>I.pin p (Je _ z)) (h p),I.hok,I.len⟩
theorem OB{N:List Str}(hN:N.Nodup){i j:Nat}{x:Str}(a:N[i]?=some x)(b:N[j]?=some x):i=j:=by obtain⟨h1,e1⟩:=Qf.mp a;obtain⟨h2,e2⟩:=Qf.mp b;exact(List.getElem_inj hN).mp (e1.trans e2.symm)
theorem OC{M:Model}{A:Around}{E:Ua->Ub->Prop}{i:Nat}{x:Str}{v:V}{u:Ua}{Q:Unit->Ub->Prop}(I:Inv X pins σ H s)(hN:X.N.Nodup)(hi:X.N[i]?=some x)(hx:Loc X.env.scope x)(r:RelV v u)
  (h:∀s',Inv X pins (σ.set i (some v)) H s'->(∃a,Heap.SameBut a s.heap s'.heap/\(a=X.env.locals∨X.env.cells.lookup x=some a))->Q () s') (hf:X.fn x=true∨X.env.scope.names.lookup x=some .local:=by first|exact .inl rfl|exact .inr rfl|assumption):Uh M A (storeName X.env x u) Q E s:=by
 obtain⟨m,hn,hl⟩:=id I.loc;have hcls:(X.env.scope.kind==.class || (X.env.scope.kind==.module&&X.env.locals != X.env.globals))=false:=by rw[I.ok.kind];rfl
 have hiσ:i<σ.length:=by rw[I.len];exact(Qf.mp hi).1
 have cne:=I.cne
 have tracked:∀{a:Ud}{h':Heap},(∃o,s.heap.get? a=some o/\H a=none)->Heap.SameBut a s.heap h'->HOk X.prog X.w H h':=λ{a h'} ha hs b ob e=>by
  obtain⟨_,_,hfree⟩:=ha;refine(I.hok b ob e).stay (λc w' hc q=>(hs.2 c ?_).trans q) (λ_ q=>q) λ_ _ q=>q
  rintro rfl;rcases hc with rfl|hc
  ·rw[hfree]at e;cases e
  ·rw[hfree]at hc;cases hc
 rcases hx with hk|hk
 ·refine wpAny_storeName_local hk hn (λh' hn' hs=>?_) hcls;obtain⟨oL,_,_,hoL,_⟩:=id hn;refine h _ ⟨I.ok,I.os,I.bare,⟨λb o e n hb hx=>?_,λb o e n hb hx=>?_,I.base.free,λb o e hx=>?_,I.base.tups,I.base.frzs,I.base.tbls⟩,⟨_,hn',λj y v' e1 e2 e3=>?_⟩,λy c e=>?_,I.free,I.freeC,λp hp=>?_,tracked ⟨oL,hoL,I.free⟩ hs,by simpa using I.len⟩ ⟨_,hs,.inl rfl⟩
  ·exact(hs.2 b (QD (QB (Qh e) I.ok.above))).trans (I.base.keep b o e n hb hx)
  ·obtain⟨sl,e1⟩:=I.base.slot b o e n hb hx;exact⟨sl,(hs.2 b (QD (QB (Qh e) I.ok.above))).trans e1⟩
  ·obtain⟨o',e1⟩:=I.base.there b o e hx;exact⟨o',(hs.2 b (QD (QB (Qh e) I.ok.above))).trans e1⟩
  ·by_cases hj:j=i
   ·subst hj;rw[hi]at e1;cases e1;rw[QG hiσ]at e2;cases e2;exact⟨u,r,.inl ⟨hk,by simp⟩⟩
   ·rw[Ql (Ne.symm hj)]at e2;obtain⟨u',r',q⟩:=hl j y v' e1 e2 e3;refine⟨u',r',?_⟩;rcases q with ⟨k,e⟩|⟨k,c,e,z⟩
    ·refine .inl ⟨k,?_⟩;have:y≠x:=λe=>hj (OB hN e1 (e ▸ hi))
     simp[this,e]
    ·exact .inr ⟨k,c,e,z.sameBut hs (cne y c e)⟩
  ·obtain⟨w',z⟩:=I.cell y c e;exact⟨w',z.sameBut hs (cne y c e)⟩
  ·obtain⟨e,n,ne,nf,d⟩:=I.pin p hp;exact⟨(hs.2 p.1 ne).trans e,n,ne,nf,d⟩
 ·have hfn:X.fn x=true:=by
   rcases hf with z|z
   ·exact z
   ·rw[z]at hk;cases hk
  obtain⟨c,hc⟩:=I.ok.has x (.inl hk);obtain⟨w',z⟩:=I.cell x c hc;refine wpAny_storeName_cell I.ok.kind hk hc z (λh' hc' hs=>?_);obtain⟨oc,hoc,hocd⟩:=id z;refine h {s with heap:=h'} ⟨I.ok,I.os,I.bare,⟨λb o e n hb hx=>?_,λb o e n hb hx=>?_,I.base.free,λb o e hx=>?_,I.base.tups,I.base.frzs,I.base.tbls⟩,⟨m,hn.sameBut hs (Ne.symm (cne x c hc)),λj y v' e1 e2 e3=>?_⟩,λy c' e=>?_,I.free,I.freeC,λp hp=>?_,tracked ⟨oc,hoc,I.freeC x c hc⟩ hs,by simpa using I.len⟩ ⟨c,hs,.inr hc⟩
  ·exact(hs.2 b (QD (QB (Qh e) (I.ok.cab x c hfn hc)))).trans (I.base.keep b o e n hb hx)
  ·obtain⟨sl,e1⟩:=I.base.slot b o e n hb hx;exact⟨sl,(hs.2 b (QD (QB (Qh e) (I.ok.cab x c hfn hc)))).trans e1⟩
  ·obtain⟨o',e1⟩:=I.base.there b o e hx;exact⟨o',(hs.2 b (QD (QB (Qh e) (I.ok.cab x c hfn hc)))).trans e1⟩
  ·by_cases hj:j=i
   ·subst hj;rw[hi]at e1;cases e1;rw[QG hiσ]at e2;cases e2;exact⟨u,r,.inr ⟨.inl hk,c,hc,hc'⟩⟩
   ·rw[Ql (Ne.symm hj)]at e2;obtain⟨u',r',q⟩:=hl j y v' e1 e2 e3;refine⟨u',r',?_⟩;rcases q with q|⟨k,c',e,z'⟩
    ·exact .inl q
    ·refine .inr ⟨k,c',e,z'.sameBut hs ?_⟩;rintro rfl;exact hj (OB hN e1 (I.ok.inj _ _ _ e hc ▸ hi))
  ·by_cases hcc:c'=c
   ·subst hcc;exact⟨_,hc'⟩
   ·obtain⟨w2,z2⟩:=I.cell y c' e;exact⟨w2,z2.sameBut hs hcc⟩
  ·obtain⟨e,n,ne,nf,d⟩:=I.pin p hp;refine⟨(hs.2 p.1 ?_).trans e,n,ne,nf,d⟩;intro q;rw[q,hoc]at e;have q':oc=p.2:=Qo e;exact d w' (by rw[←q'];exact hocd)
theorem OA{M:Model}{A:Around}{E:Ua->Ub->Prop}{i:Nat}{x:Str}{v:V}{u:Ua}{Q:Unit->Ub->Prop}(I:Inv X pins σ H s)(hN:X.N.Nodup)(hi:X.N[i]?=some x)(hx:Loc X.env.scope x)(r:RelV v u)
  (h:∀s',Inv X pins (σ.set i (some v)) H s'->Q () s') (hf:X.fn x=true∨X.env.scope.names.lookup x=some .local:=by first|exact .inl rfl|exact .inr rfl|assumption):Uh M A (storeName X.env x u) Q E s:=
 OC I hN hi hx r (λs' I' _=>h s' I') hf
theorem Inv.call'{s':Ub}{ch:List Ud}(I:Inv X pins σ H s)(ho:s'.os=s.os)(u:Un (frs X.stack) ch H H' s.heap s'.heap)(hok:HOk X.prog X.w H' s'.heap)(hg:AllBare s'.gens)
  (hch:∀b∈ch,(b∈X.ex∨X.s₀.heap.objs.size<=b)/\b≠X.env.locals/\(∀x c,X.env.cells.lookup x=some c->c≠b)/\∀p∈X.pn++pins,p.1≠b):Inv X pins σ H' s':=by
 obtain⟨h',g',d',t',o'⟩:=s';have e:o'=s.os:=ho;subst e;exact I.call (g':=g') (t':=t') (d':=d') u hok hg hch
end
abbrev XK:=Ua->Option Ud->Hp->Prop
abbrev St:=List (Option V)
abbrev VK:=V->Hp->Prop
abbrev TE:=St->Hp->VK->Prop
abbrev TT:=St->Hp->(Bool->Hp->Prop)->Prop
abbrev TA:=St->Hp->(List V->Hp->Prop)->Prop
structure Ends where
 nx:St->Hp->Prop
 rt:VK
 bk:St->Hp->Prop:=λ_ _=>False
 ct:St->Hp->Prop:=λ_ _=>False
abbrev TS:=Ends->St->Hp->Prop
def EP(X:Cx)(pins:List (Ud×Obj))(σ:St)(Q:VK)(u:Ua)(s':Ub):Prop:=∃v H',Inv X pins σ H' s'/\RelV v u/\Q v H'
def TP(X:Cx)(pins:List (Ud×Obj))(σ:St)(Q:Bool->Hp->Prop)(b:Bool)(s':Ub):Prop:=∃H',Inv X pins σ H' s'/\Q b H'
def AP(X:Cx)(pins:List (Ud×Obj))(σ:St)(Q:List V->Hp->Prop)(us:List Ua)(s':Ub):Prop:=∃vs H',Inv X pins σ H' s'/\Vals vs us/\Q vs H'
def SP(X:Cx)(pins:List (Ud×Obj))(D:Ends)(f:Flow)(s':Ub):Prop:=
 match f with
 |.next=>∃σ' H',Inv X pins σ' H' s'/\D.nx σ' H'
 |.brk=>∃σ' H',Inv X pins σ' H' s'/\D.bk σ' H'
 |.cont=>∃σ' H',Inv X pins σ' H' s'/\D.ct σ' H'
 |.ret u=>∃v σ' H',Inv X pins σ' H' s'/\RelV v u/\D.rt v H'
def PE(X:Cx)(e:Uf)(t:TE):Prop:=
 ∀(pins:List (Ud×Obj))(s:Ub)(σ:St)(H:Hp)(Q:VK),Inv X pins σ H s->t σ H Q->Uh (model X.prog X.w) X.A (eval e X.env) (EP X pins σ Q) X.xe s
def PT(X:Cx)(e:Uf)(t:TT):Prop:=
 ∀(pins:List (Ud×Obj))(s:Ub)(σ:St)(H:Hp)(Q:Bool->Hp->Prop),Inv X pins σ H s->t σ H Q->Uh (model X.prog X.w) X.A (isTrue e X.env (eval e X.env)) (TP X pins σ Q) X.xe s
def PW(X:Cx)(e:Uf)(t:TT):Prop:=
 ∀(whole:Sem Ua)(pins:List (Ud×Obj))(s:Ub)(σ:St)(H:Hp)(Q:Bool->Hp->Prop),Inv X pins σ H s->t σ H Q->Uh (model X.prog X.w) X.A (isTrue e X.env whole) (TP X pins σ Q) X.xe s
theorem PW.pt{X:Cx}{e:Uf}{t:TT}(h:PW X e t):PT X e t:=h _
def PA(X:Cx)(es:List Uf)(t:TA):Prop:=
 ∀(pos:Pos)(pins:List (Ud×Obj))(s:Ub)(σ:St)(H:Hp)(Q:List V->Hp->Prop),Inv X pins σ H s->t σ H Q->Uh (model X.prog X.w) X.A (spliced (backTo pos (Ui es X.env))) (AP X pins σ Q) X.xe s
def PS(X:Cx)(st:Stmt)(t:TS):Prop:=
 ∀(pins:List (Ud×Obj))(s:Ub)(σ:St)(H:Hp)(D:Ends),Inv X pins σ H s->t D σ H->Uh (model X.prog X.w) X.A (exec st X.env) (SP X pins D) X.xe s
def PSs(X:Cx)(st:List Stmt)(t:TS):Prop:=
 ∀(pins:List (Ud×Obj))(s:Ub)(σ:St)(H:Hp)(D:Ends),Inv X pins σ H s->t D σ H->Uh (model X.prog X.w) X.A (execs st X.env) (SP X pins D) X.xe s
theorem thn{α:Type}{t:Sem α}{Q Q':α->Ub->Prop}{M:Model}{A:Around}{E:Ua->Ub->Prop}{s:Ub}(h:Uh M A t Q E s)(hQ:∀a s,Q a s->Q' a s):Uh M A t Q' E s:=Qy h hQ λ_ _ x=>x
section
variable{X:Cx}
def Km(i:Nat):TE:=λσ H Q=>∃v,σ[i]?=some (some v)/\Q v H
def tC(v:V):TE:=λ_ H Q=>Q v H
theorem RN{i:Nat}{x:Str}{pos:Pos}(hN:X.N[i]?=some x)(hv:Vis X.env.scope x)(hd:(x==("__debug__" : Str))=false:=by decide)(hcd:(x==("__classdict__" : Str))=false:=by decide):PE X (.Name x pos) (Km i):=by
 intro pins s σ H Q I h;obtain⟨v,e,h⟩:=h;obtain⟨m,hn,hl⟩:=I.loc;obtain⟨u,r,l⟩:=hl i x v hN e hv;have fin:EP X pins σ Q u s:=⟨v,H,I,r,h⟩;rcases l with ⟨hk,hm⟩|⟨hk,c,hc,hcell⟩
 ·exact wpAny_Name (wpAny_loadName_local I.ok.kind hk hn hm fin) hd
 ·rcases hk with hk|hk
  ·exact wpAny_Name (wpAny_loadName_cell I.ok.kind hk hc hcell fin) hd
  ·exact wpAny_Name (wpAny_loadName_free I.ok.kind hk hc hcell fin hcd) hd
theorem Lw{i j pos}:PE X (.Constant (.int i) j pos) (tC (.int i)):=λ_ _ _ H _ I h=>wpAny_Constant_int ⟨.int i,H,I.tok _,⟨_,rfl⟩,h⟩
theorem Le{b j pos}:PE X (.Constant (.bool b) j pos) (tC (.bl b)):=λ_ _ _ H _ I h=>Constant_bool ⟨.bl b,H,I,rfl,h⟩
theorem Lv{j pos}:PE X (.Constant .none j pos) (tC .non):=λ_ _ _ H _ I h=>Constant_none ⟨.non,H,I,rfl,h⟩
def Gl(X:Cx)(x:Str):Prop:=X.env.kindOf x=some .globalImplicit
theorem Px{E:Ua->Ub->Prop}{pins:List (Ud×Obj)}{s:Ub}{σ:St}{H:Hp}{x:Str}{u:Ua}{pos:Pos}{Q:Ua->Ub->Prop}(I:Inv X pins σ H s)(hg:Gl X x)(hm:X.mg x=some u)(h:Q u s)
  (hd:(x==("__debug__" : Str))=false:=by decide):Uh (model X.prog X.w) X.A (eval (.Name x pos) X.env) Q E s:=
 Calls.Name_function_global I.ok.kind hg (Calls.loadGlobal_global (by rw[I.ok.glob];exact I.mod.glob.keeps I.bk) hm h) hd
theorem XJ{E:Ua->Ub->Prop}{pins:List (Ud×Obj)}{s:Ub}{σ:St}{H:Hp}{x:Str}{u:Ua}{pos:Pos}{Q:Ua->Ub->Prop}(I:Inv X pins σ H s)(hg:Gl X x)(hm:X.mg x=none)(hv:bootBuiltins x=some u)(h:Q u s)
  (hn:x ≠ "__name__" :=by decide) (hd:(x==("__debug__" : Str))=false:=by decide):Uh (model X.prog X.w) X.A (eval (.Name x pos) X.env) Q E s:=by
 obtain⟨mb,h1,h2⟩:=I.mod.blt;exact Calls.Name_function_global I.ok.kind hg (Calls.loadGlobal_builtin (by rw[I.ok.glob];exact I.mod.glob.keeps I.bk) hm (by rw[I.ok.blt];exact h1.keeps I.bk) ((h2 x hn).trans hv) h) hd
theorem GW{x:Str}{v:V}{u:Ua}{pos:Pos}(hg:Gl X x)(hm:X.mg x=some u)(r:RelV v u)(hd:(x==("__debug__" : Str))=false:=by decide):PE X (.Name x pos) (tC v):=
 λ_ _ _ H _ I h=>Px I hg hm ⟨v,H,I,r,h⟩ hd
theorem GV{x:Str}{v:V}{u:Ua}{pos:Pos}(hg:Gl X x)(hm:X.mg x=none)(hv:bootBuiltins x=some u)(r:RelV v u)(hn:x ≠ "__name__" :=by decide)(hd:(x==("__debug__" : Str))=false:=by decide):PE X (.Name x pos) (tC v):=
 λ_ _ _ H _ I h=>XJ I hg hm hv ⟨v,H,I,r,h⟩ hn hd
variable{a b:Uf}{ta tb:TE}{pos:Pos}
def PC(X:Cx)(op:CmpOp)(a b:Uf)(t:TE):Prop:=
 ∀(pins:List (Ud×Obj))(s:Ub)(σ:St)(H:Hp)(Q:VK),Inv X pins σ H s->t σ H Q ->
  Uh (model X.prog X.w) X.A (eval a X.env) (λv s₁=>Uh (model X.prog X.w) X.A (eval b X.env) (λu s₂=>Uh (model X.prog X.w) X.A (Uj op v u) (EP X pins σ Q) X.xe s₂) X.xe s₁) X.xe s
theorem Oz(b:Uf){op:CmpOp}(h:op≠.In)(h2:op≠.NotIn):behindInMarks op b=false:=by
 have e1:(op==CmpOp.In)=false:=by cases op<;>first|rfl|exact absurd rfl h
 have e2:(op==CmpOp.NotIn)=false:=by cases op<;>first|rfl|exact absurd rfl h2
 cases b<;>simp[behindInMarks,e1,e2]
def tIsN(ta:TE):TE:=λσ H Q=>ta σ H λx H1=>Q (.bl (decide (x=.non))) H1
def Ld(ta:TE):TE:=λσ H Q=>ta σ H λx H1=>Q (.bl (!decide (x=.non))) H1
theorem RelV.none_iff{x:V}{v:Ua}(r:RelV x v):(v==Value.none)=decide (x=.non):=by
 cases x with
 |non=>cases r;rfl
 |bl _=>cases r;rfl
 |int _=>obtain⟨t,rfl⟩:=r;rfl
 |str _=>obtain⟨t,rfl⟩:=r;rfl
 |byt _=>obtain⟨t,rfl⟩:=r;rfl
 |flt _=>obtain⟨t,rfl⟩:=r;rfl
 |ref _=>cases r;rfl
 |ty _=>cases r;rfl
theorem RM{j pos'}(ha:PE X a ta):PC X .Is a (.Constant .none j pos') (tIsN ta):=by intro pins s σ H Q I h;refine thn (ha pins s σ H _ I h) λv s1 ⟨x,H1,I1,r1,q1⟩=>?_;exact Constant_none (is_none_gen ⟨.bl _,H1,I1,by rw[r1.none_iff];rfl,q1⟩)
theorem Pw{j pos'}(ha:PE X a ta):PC X .IsNot a (.Constant .none j pos') (Ld ta):=by intro pins s σ H Q I h;refine thn (ha pins s σ H _ I h) λv s1 ⟨x,H1,I1,r1,q1⟩=>?_;exact Constant_none (isnot_none_gen ⟨.bl _,H1,I1,by rw[r1.none_iff];rfl,q1⟩)
def tB(t:TE):TT:=λσ H Q=>t σ H λx H1=>∃c,x=.bl c/\Q c H1
theorem RL{op:CmpOp}{t:TE}(h:PC X op a b t)(h1:behindInMarks op b=false:=by first|exact Oz _ (by decide) (by decide)|rfl):PE X (.Compare a [op] [b] pos) t:=λpins s σ H Q I hw=>wpAny_Compare1 (h pins s σ H Q I hw) h1
theorem RK{op:CmpOp}{t:TE}(h:PC X op a b t)(h1:behindInMarks op b=false:=by first|exact Oz _ (by decide) (by decide)|rfl):PT X (.Compare a [op] [b] pos) (tB t):=by intro pins s σ H Q I hw;refine wpAny_isTrue_Compare1 (thn (h pins s σ H _ I hw) λv s1 h1=>thn h1 λu s2 h2=>thn h2 λc s3 ⟨x,H1,I1,r1,q1⟩=>?_) h1;obtain⟨d,rfl,q⟩:=q1;cases r1;exact QU ⟨H1,I1,q⟩
theorem Lu{e:Uf}{t:TE}(h:PE X e t)(he:∀whole,isTrue e X.env whole=(do let v ←whole;standAt e.pos;holding [v] (truthy v)):=by intro _;rfl):PT X e (tB t):=by intro pins s σ H Q I hw;refine isTrue_plain (thn (h pins s σ H _ I hw) λv s1 ⟨x,H1,I1,r1,q1⟩=>?_) (he _);obtain⟨d,rfl,q⟩:=q1;cases r1;exact QU ⟨H1,I1,q⟩
variable{tA tB':TT}{rest:List Uf}
def tAnd(t u:TT):TT:=λσ H Q=>t σ H λc H1=>if c=true then u σ H1 Q else Q false H1
def tOr(t u:TT):TT:=λσ H Q=>t σ H λc H1=>if c=true then Q true H1 else u σ H1 Q
def tNot(t:TT):TT:=λσ H Q=>t σ H λc H1=>Q (!c) H1
theorem GU(ha:PT X a tA):PW X (.BoolOp .And [a] pos) tA:=by
 intro wh pins s σ H Q I h;refine isTrue_and (thn (ha pins s σ H Q I h) λc s1 e=>?_);cases c with
 |true=>exact isTrue_and_nil e
 |false=>exact e
theorem Lr(ha:PT X a tA):PW X (.BoolOp .Or [a] pos) tA:=by
 intro wh pins s σ H Q I h;refine isTrue_or (thn (ha pins s σ H Q I h) λc s1 e=>?_);cases c with
 |false=>exact isTrue_or_nil e
 |true=>exact e
theorem Lq(ha:PT X a tA)(hb:PW X (.BoolOp .And (b::rest) pos) tB'):PW X (.BoolOp .And (a::b::rest) pos) (tAnd tA tB'):=by
 intro wh pins s σ H Q I h;refine isTrue_and (thn (ha pins s σ H _ I h) λc s1 ⟨H1,I1,q1⟩=>?_);cases c with
 |true=>exact hb wh pins s1 σ H1 Q I1 q1
 |false=>exact⟨H1,I1,q1⟩
theorem Lc(ha:PT X a tA)(hb:PW X (.BoolOp .Or (b::rest) pos) tB'):PW X (.BoolOp .Or (a::b::rest) pos) (tOr tA tB'):=by
 intro wh pins s σ H Q I h;refine isTrue_or (thn (ha pins s σ H _ I h) λc s1 ⟨H1,I1,q1⟩=>?_);cases c with
 |true=>exact⟨H1,I1,q1⟩
 |false=>exact hb wh pins s1 σ H1 Q I1 q1
theorem Lp(ha:PT X a tA):PT X (.UnaryOp .Not a pos) (tNot tA):=by intro pins s σ H Q I h;exact isTrue_not (ha pins s σ H (λc H1=>Q (!c) H1) I h)
def Lb(ta tb:TE):TE:=λσ H Q=>ta σ H λx H1=>∃c,x=.bl c/\if c=true then tb σ H1 Q else Q (.bl false) H1
def tOrV(ta tb:TE):TE:=λσ H Q=>ta σ H λx H1=>∃c,x=.bl c/\if c=true then Q (.bl true) H1 else tb σ H1 Q
def La(ta:TE):TE:=λσ H Q=>ta σ H λx H1=>∃c,x=.bl c/\Q (.bl (!c)) H1
theorem Lo{op}{t:TE}(h:PE X a t):PE X (.BoolOp op [a] pos) t:=λpins s σ H Q I hw=>BoolOp_one (h pins s σ H Q I hw)
theorem Ln(ha:PE X a ta)(hb:PE X (.BoolOp .And (b::rest) pos) tb):PE X (.BoolOp .And (a::b::rest) pos) (Lb ta tb):=by
 intro pins s σ H Q I h;refine BoolOp_and (thn (ha pins s σ H _ I h) λv s1 ⟨x,H1,I1,r1,q1⟩=>?_);obtain⟨c,rfl,q1⟩:=q1;cases r1;refine QU ?_;cases c with
 |true=>exact hb pins s1 σ H1 Q I1 q1
 |false=>exact⟨.bl false,H1,I1,rfl,q1⟩
theorem M9(ha:PE X a ta)(hb:PE X (.BoolOp .Or (b::rest) pos) tb):PE X (.BoolOp .Or (a::b::rest) pos) (tOrV ta tb):=by
 intro pins s σ H Q I h;refine BoolOp_or (thn (ha pins s σ H _ I h) λv s1 ⟨x,H1,I1,r1,q1⟩=>?_);obtain⟨c,rfl,q1⟩:=q1;cases r1;refine QU ?_;cases c with
 |false=>exact hb pins s1 σ H1 Q I1 q1
 |true=>exact⟨.bl true,H1,I1,rfl,q1⟩
theorem Lm(ha:PE X a ta):PE X (.UnaryOp .Not a pos) (La ta):=by intro pins s σ H Q I h;refine UnaryOp_ (thn (ha pins s σ H _ I h) λv s1 ⟨x,H1,I1,r1,q1⟩=>?_);obtain⟨c,rfl,q1⟩:=q1;cases r1;exact not_of (QU ⟨.bl (!c),H1,I1,rfl,q1⟩)
end
def SqL(K:Frag)(H:Hp)(a:Ud)(xs:List V):Prop:=
 Rd H a (.lst xs) ∨
  ∃(o:Obj)(its:Array Ua)(n:Nat),K.lookup a=some o/\o.cls=.type "list" /\ o.dict=none/\o.data=.seq its n/\its.size<=Ug/\Vals xs its.toList
def SqT(K:Frag)(H:Hp)(a:Ud)(xs:List V):Prop:=
 Rd H a (.tup xs) ∨
  ∃(o:Obj)(its:Array Ua)(n:Nat),K.lookup a=some o/\o.cls=.type "tuple" /\ o.data=.seq its n/\its.size<=Ug/\Vals xs its.toList
def absV:Ua->Option V
 |.none=>some .non
 |.bool b=>some (.bl b)
 |.int i _=>some (.int i)
 |.str x _=>some (.str x)
 |.bytes b _=>some (.byt b)
 |.float b _=>some (.flt b)
 |.ref a=>some (.ref a)
 |.type n=>some (.ty n)
 |_=>none
theorem RelV.abs{x:V}{u:Ua}(r:RelV x u):absV u=some x:=by
 cases x with
 |non=>cases r;rfl
 |bl _=>cases r;rfl
 |int _=>obtain⟨t,rfl⟩:=r;rfl
 |str _=>obtain⟨t,rfl⟩:=r;rfl
 |byt _=>obtain⟨t,rfl⟩:=r;rfl
 |flt _=>obtain⟨t,rfl⟩:=r;rfl
 |ref _=>cases r;rfl
 |ty _=>cases r;rfl
theorem RelV.inj{x y:V}{u:Ua}(r:RelV x u)(q:RelV y u):x=y:=Qo (r.abs.symm.trans q.abs)
theorem Vals.inj:∀{xs ys:List V}{us:List Ua},Vals xs us->Vals ys us->xs=ys
 |_,_,_,.nil,.nil=>rfl
 |_,_,_,.cons r t,.cons r' t'=>by rw[r.inj r',Vals.inj t t']
section
variable{X:Cx}{pins:List (Ud×Obj)}{σ:St}{H:Hp}{s:Ub}{a:Ud}{xs ys:List V}
theorem SqL.of{K:Frag}(h:H a=some (.lst xs)):SqL K H a xs:=.inl (.inl h)
theorem SqT.of{K:Frag}(h:H a=some (.tup xs)):SqT K H a xs:=.inl (.inl h)
theorem Inv.list(I:Inv X pins σ H s)(h:SqL X.K H a xs):∃its:List Ua,Vals xs its/\PlainL s.heap a its.toArray/\xs.length<=Ug:=by
 rcases h with h|⟨o,its,n,hk,hc,hd,hs,hz,r⟩
 ·obtain⟨z,its,n,r,e⟩:=h.ok I.hok;exact⟨its,r,⟨_,n,e,rfl,rfl,rfl⟩,z⟩
 ·refine⟨its.toList,r,⟨o,n,I.kIn a o hk,hc,hd,by simpa using hs⟩,?_⟩;have e:=r.length;simp only[JX]at e;omega
theorem Inv.tuple(I:Inv X pins σ H s)(h:SqT X.K H a xs):∃its:List Ua,Vals xs its/\IsTup s.heap a its.toArray/\xs.length<=Ug:=by
 rcases h with h|⟨o,its,n,hk,hc,hs,hz,r⟩
 ·obtain⟨z,its,r,p⟩:=h.ok I.hok;exact⟨its,r,p,z⟩
 ·refine⟨its.toList,r,⟨o,I.kIn a o hk,hc,n,by simpa using hs⟩,?_⟩;have e:=r.length;simp only[JX]at e;omega
theorem Inv.list_inj(I:Inv X pins σ H s)(h:SqL X.K H a xs)(h':SqL X.K H a ys):xs=ys:=by
 obtain⟨its,r,⟨o,n,e,_,_,d⟩,_⟩:=I.list h;obtain⟨its',r',⟨o',n',e',_,_,d'⟩,_⟩:=I.list h';rw[e]at e';cases e';rw[d]at d';injection d' with d1 _
 have:its=its':=by simpa using congrArg Array.toList d1
 subst this;exact r.inj r'
theorem Inv.tuple_inj(I:Inv X pins σ H s)(h:SqT X.K H a xs)(h':SqT X.K H a ys):xs=ys:=by
 obtain⟨its,r,⟨o,e,_,n,d⟩,_⟩:=I.tuple h;obtain⟨its',r',⟨o',e',_,n',d'⟩,_⟩:=I.tuple h';rw[e]at e';cases e';rw[d]at d';injection d' with d1 _
 have:its=its':=by simpa using congrArg Array.toList d1
 subst this;exact r.inj r'
end
abbrev Cx.wish(X:Cx)(E:Ua->Ub->Prop):Cx:={X with xe:=E}
abbrev Cx.nox(X:Cx):Cx:=X.wish λ_ _=>False
theorem Cx.Ok.wish{X:Cx}(ok:X.Ok)(E:Ua->Ub->Prop):(X.wish E).Ok:=
 ⟨ok.mod,ok.kind,ok.glob,ok.blt,ok.above,ok.inj,ok.has,ok.cab,ok.hd,ok.frames,ok.stk,ok.exf,ok.bs,ok.bsz,ok.noex,ok.exfs,ok.funs,ok.frf⟩
theorem Cx.Ok.unwish{X:Cx}{E:Ua->Ub->Prop}(ok:(X.wish E).Ok):X.Ok:=
 ⟨ok.mod,ok.kind,ok.glob,ok.blt,ok.above,ok.inj,ok.has,ok.cab,ok.hd,ok.frames,ok.stk,ok.exf,ok.bs,ok.bsz,ok.noex,ok.exfs,ok.funs,ok.frf⟩
section
variable{X:Cx}{pins:List (Ud×Obj)}{σ:St}{H:Hp}{s:Ub}{E:Ua->Ub->Prop}
theorem Inv.wish(I:Inv X pins σ H s)(E:Ua->Ub->Prop):Inv (X.wish E) pins σ H s:=⟨I.ok.wish E,I.os,I.bare,I.base,I.loc,I.cell,I.free,I.freeC,I.pin,I.hok,I.len⟩
theorem Inv.unwish(I:Inv (X.wish E) pins σ H s):Inv X pins σ H s:=⟨I.ok.unwish,I.os,I.bare,I.base,I.loc,I.cell,I.free,I.freeC,I.pin,I.hok,I.len⟩
theorem SP.unwish{D:Ends}{f:Flow}{s':Ub}(h:SP (X.wish E) pins D f s'):SP X pins D f s':=by
 cases f with
 |next=>obtain⟨σ',H',I,q⟩:=h;exact⟨σ',H',I.unwish,q⟩
 |brk=>obtain⟨σ',H',I,q⟩:=h;exact⟨σ',H',I.unwish,q⟩
 |cont=>obtain⟨σ',H',I,q⟩:=h;exact⟨σ',H',I.unwish,q⟩
 |ret u=>obtain⟨v,σ',H',I,r,q⟩:=h;exact⟨v,σ',H',I.unwish,r,q⟩
theorem PSs.nox{st:List Stmt}{t:TS}(h:PSs X.nox st t):PSs X st t:=λpins s σ H D I hw=>
 Qy (h pins s σ H D (I.wish _) hw) (λ_ _ q=>q.unwish) λ_ _ z=>False.elim z
end
section
variable{X:Cx}{st:Stmt}{rest:List Stmt}{t u:TS}{e:Uf}{te:TE}{pos:Pos}
def NP:TS:=λD σ H=>D.nx σ H
def tSeq(t u:TS):TS:=λD σ H=>t {D with nx:=u D} σ H
theorem GT:PSs X [] NP:=λ_ _ σ H _ I h=>wpAny_execs_nil ⟨σ,H,I,h⟩
theorem Ei(h1:PS X st t)(h2:PSs X rest u):PSs X (st::rest) (tSeq t u):=by
 intro pins s σ H D I h;refine wpAny_execs_cons (thn (h1 pins s σ H {D with nx:=u D} I h) λf s1 q=>?_);cases f with
 |next=>obtain⟨σ',H',I',q⟩:=q;exact h2 pins s1 σ' H' D I' q
 |ret v=>exact q
 |brk=>exact q
 |cont=>exact q
theorem GS(h1:PS X st t):PSs X [st] t:=by
 intro pins s σ H D I h;refine wpAny_execs_cons (thn (h1 pins s σ H D I h) λf s1 q=>?_);cases f with
 |next=>exact wpAny_execs_nil q
 |ret v=>exact q
 |brk=>exact q
 |cont=>exact q
theorem Inv.quiet{pins:List (Ud×Obj)}{σ:St}{H:Hp}{s:Ub}(I:Inv X pins σ H s):interactive X.env=false:=by simp[interactive,I.ok.kind]
def NO(te:TE):TS:=λD σ H=>te σ H λ_ H1=>D.nx σ H1
theorem Sd(he:PE X e te)(hs:swapsWith e none pos.line X.env=pure false:=by rfl):PS X (.Expr e pos) (NO te):=by intro pins s σ H D I h;exact wpAny_Expr_any (thn (he pins s σ H _ I h) λv s1 ⟨x,H1,I1,r1,q1⟩=>⟨σ,H1,I1,q1⟩) I.quiet hs
def tRet(te:TE):TS:=λD σ H=>te σ H D.rt
theorem Ll(he:PE X e te):PS X (.Return (some e) pos) (tRet te):=by intro pins s σ H D I h;exact wpAny_Return_some (thn (he pins s σ H _ I h) λv s1 ⟨x,H1,I1,r1,q1⟩=>⟨x,σ,H1,I1,r1,q1⟩)
def tIfS(c:TT)(t u:TS):TS:=λD σ H=>c σ H λb H1=>if b=true then t D σ H1 else u D σ H1
theorem NN{c:Uf}{a b:List Stmt}{tc:TT}(hc:PT X c tc)(ha:PSs X a t)(hb:PSs X b u):PS X (.If c a b pos) (tIfS tc t u):=by
 intro pins s σ H D I h;refine wpAny_If (thn (hc pins s σ H _ I h) λd s1 ⟨H1,I1,q1⟩=>?_);cases d with
 |true=>exact ha pins s1 σ H1 D I1 q1
 |false=>exact hb pins s1 σ H1 D I1 q1
end
abbrev TG:=V->St->Hp->(St->Hp->Prop)->Prop
abbrev TGs:=List V->St->Hp->(St->Hp->Prop)->Prop
def PG(X:Cx)(target:Uf)(t:TG):Prop:=
 ∀(pins:List (Ud×Obj))(s:Ub)(σ:St)(H:Hp)(v:V)(u:Ua)(Q:St->Hp->Prop),Inv X pins σ H s->RelV v u->t v σ H Q ->
  Uh (model X.prog X.w) X.A (assign target X.env u) (λ_ s'=>∃σ' H',Inv X pins σ' H' s'/\Q σ' H') X.xe s
def PGs(X:Cx)(ts:List Uf)(t:TGs):Prop:=
 ∀(pins:List (Ud×Obj))(s:Ub)(σ:St)(H:Hp)(vs:List V)(us:List Ua)(Q:St->Hp->Prop),Inv X pins σ H s->Vals vs us->t vs σ H Q ->
  Uh (model X.prog X.w) X.A (assignInOrder ((Uy ts X.env).map (·.2)) us) (λ_ s'=>∃σ' H',Inv X pins σ' H' s'/\Q σ' H') X.xe s
section
variable{X:Cx}{pos:Pos}
def TN(i:Nat):TG:=λv σ H Q=>Q (σ.set i (some v)) H
theorem Pv{i:Nat}{x:Str}(hN:X.N.Nodup)(hi:X.N[i]?=some x)(hx:Loc X.env.scope x)(hf:X.fn x=true∨X.env.scope.names.lookup x=some .local:=by first|exact .inl rfl|exact .inr rfl|assumption):PG X (.Name x pos) (TN i):=by intro pins s σ H v u Q I r h;exact wpAny_assign_Name (OA I hN hi hx r (λs' I'=>⟨_,H,I',h⟩) hf)
def gNil:TGs:=λvs σ H Q=>vs=[]/\Q σ H
def NM(t:TG)(u:TGs):TGs:=λvs σ H Q=>∃v r,vs=v::r/\t v σ H λσ' H'=>u r σ' H' Q
theorem GR:PGs X [] gNil:=by intro pins s σ H vs us Q I r h;obtain⟨e,h⟩:=h;subst e;cases r;exact assignInOrder_nil ⟨σ,H,I,h⟩
theorem ED{e:Uf}{es:List Uf}{t:TG}{u:TGs}(h1:PG X e t)(h2:PGs X es u)
  (hs:(Uy (e::es) X.env).map (·.2)=assign e X.env::(Uy es X.env).map (·.2):=by rfl):PGs X (e::es) (NM t u):=by
 intro pins s σ H vs us Q I r h;obtain⟨v,vr,e1,h⟩:=h;subst e1;cases r with
 |cons r rr=>rw[hs];refine assignInOrder_cons (thn (h1 pins s σ H _ _ _ I r h) λ_ s1 ⟨σ1,H1,I1,q1⟩=>?_);exact h2 pins s1 σ1 H1 _ _ Q I1 rr q1
def gTup(K:Frag)(n:Nat)(t:TGs):TG:=λv σ H Q=>∃a xs,v=.ref a/\SqT K H a xs/\xs.length=n/\t xs σ H Q
theorem Lk{es:List Uf}{k:Nat}{t:TGs}{n:Nat}(hc:X.calm=true)(h:PGs X es t)
  (hn:(Uy es X.env).length=n:=by rfl) (hst:(Uy es X.env).findIdx? (·.1)=none:=by rfl):PG X (.Tuple es k pos) (gTup X.K n t):=by
 intro pins s σ H v u Q I r hw;obtain⟨a,xs,e1,hq,hl,hw⟩:=hw;subst e1;cases r;obtain⟨its,rv,ht,hz⟩:=I.tuple hq;refine assign_Tuple_tuple (I.ok.hd hc) ht (by simp[hn,←hl,rv.length]) hst λh' hx=>?_
 have I1:Inv X pins σ H {s with heap:=h'}:=I.kept (t':=s.toks) λb o e=>hx b o (QD (Qh e)) e;exact h pins _ σ H xs _ Q I1 (by simpa using rv) hw
def tAsg(te:TE)(g:TG):TS:=λD σ H=>te σ H λx H1=>g x σ H1 D.nx
theorem Lj{tg e:Uf}{te:TE}{g:TG}(he:PE X e te)(hg:PG X tg g)(hs:swapsWithSole [tg] e pos.line X.env=pure false:=by rfl)(hw:swappedStores [tg] e X.env=pure none:=by rfl)
  (h1:(Uy [tg] X.env).map (·.2)=[assign tg X.env]:=by rfl):PS X (.Assign [tg] e pos) (tAsg te g):=by
 intro pins s σ H D I h;refine wpAny_Assign_stores (thn (he pins s σ H _ I h) λv s1 ⟨x,H1,I1,r1,q1⟩=>?_) hs hw;rw[h1];exact thn (hg pins s1 σ H1 x v _ I1 r1 q1) λ_ s2 q=>q
theorem T8{i:Nat}{x:Str}{e:Uf}{te:TE}{pos':Pos}(hN:X.N.Nodup)(hi:X.N[i]?=some x)(hx:Loc X.env.scope x)(he:PE X e te)(hs:swapsWith e (some (.Name x pos')) pos.line X.env=pure false:=by rfl)(hf:X.fn x=true∨X.env.scope.names.lookup x=some .local:=by first|exact .inl rfl|exact .inr rfl|assumption) :
  PS X (.Assign [.Name x pos'] e pos) (tAsg te (TN i)):=by
 intro pins s σ H D I h;refine wpAny_Assign_Name (thn (he pins s σ H _ I h) λv s1 ⟨y,H1,I1,r1,q1⟩=>?_) hs;exact OA I1 hN hi hx r1 (λs2 I2=>⟨_,H1,I2,q1⟩) hf
end
section
variable{X:Cx}{pos:Pos}
def L9(c:TT)(tb:TS):TS:=λD σ H=>∃W:Nat->St->Hp->Prop,(∃m,W m σ H)/\∀m σ H,W m σ H ->
 c σ H λb H1=>if b=true then ∃N:St->Hp->Prop,(∀σ' H',N σ' H'->∃m',m'<m/\W m' σ' H')/\tb {D with nx:=N,ct:=N,bk:=D.nx} σ H1 else D.nx σ H1
theorem EC{c:Uf}{body:List Stmt}{tc:TT}{tb:TS}(hp:PassesOwn (model X.prog X.w) X.A X.env X.xe)(hc:PT X c tc)(hb:PSs X body tb):PS X (.While c body [] pos) (L9 tc tb):=by
 intro pins s σ H D I h;obtain⟨W,⟨m0,w0⟩,turn⟩:=h;refine wpAny_While (codeAny_whileLoop (λn s'=>∃σ' H',Inv X pins σ' H' s'/\W n σ' H') ?_ m0 ⟨σ,H,I,w0⟩);rintro n s1 ⟨σ1,H1,I1,w1⟩;refine Jj hp (thn (hc pins s1 σ1 H1 _ I1 (turn n σ1 H1 w1)) λb s2 ⟨H2,I2,q2⟩=>?_);cases b with
 |true=>
  obtain⟨N,hN,q2⟩:=q2;rw[Qr rfl];refine Jj hp (thn (hb pins s2 σ1 H2 _ I2 q2) λf s3 q3=>?_);cases f with
  |next=>obtain⟨σ3,H3,I3,n3⟩:=q3;obtain⟨m',hm,w3⟩:=hN σ3 H3 n3;exact⟨m',hm,σ3,H3,I3,w3⟩
  |cont=>obtain⟨σ3,H3,I3,n3⟩:=q3;obtain⟨m',hm,w3⟩:=hN σ3 H3 n3;exact⟨m',hm,σ3,H3,I3,w3⟩
  |brk=>exact q3
  |ret v=>exact q3
 |false=>rw[QJ Ju];exact wpAny_execs_nil ⟨σ1,H2,I2,q2⟩
end
structure It where
 go:Nat->Hp->Prop
 yld:Nat->Hp->V->Hp->Prop
 stop:Nat->Hp->Prop
def Kp(X:Cx)(pins:List (Ud×Obj))(H:Hp)(b:Ud):Prop:=
 H b=none/\b≠X.env.locals/\b∉X.fs/\(b∈X.ex∨X.s₀.heap.objs.size<=b)/\(∀x c,X.env.cells.lookup x=some c->c≠b)/\∀p∈X.pn++pins,p.1≠b
theorem Inv.fpOk{X:Cx}{pins:List (Ud×Obj)}{σ:St}{H H':Hp}{s:Ub}{b:Ud}(I:Inv X pins σ H s)(hb:s.heap.objs.size<=b)(hn:H' b=none):Kp X pins H' b:=by
 refine⟨hn,Jw (QB I.lt hb),I.nofs hb,.inr (QN I.sz hb),λx c e z=>?_,λp hp z=>?_⟩
 ·obtain⟨v,q⟩:=I.cell x c e;exact absurd (QB q.lt (by rw[z];exact hb)) (Jf _)
 ·exact absurd (QB (Qh (I.pin p hp).1) (by rw[z];exact hb)) (Jf _)
structure Turn(P:Uc)(w:World)(K:Frag)(tg:Uf)(J:It)(fp:List Ud)(it:Ud)(tn:Nat->Heap->Prop):Prop where
 mem:it∈fp
 obj:∀i h,tn i h->∀b∈fp,∃o,h.get? b=some o/\∀v,o.data≠.cell v
 keep:∀i h h',tn i h->(∀b∈fp,∀o,h.get? b=some o->h'.get? b=some o)->tn i h'
 item:∀(X:Cx),X.prog=P->X.w=w->X.K=K->X.calm=true->∀(i:Nat)(pins:List (Ud×Obj))(s:Ub)(σ:St)(H:Hp)(E:Ua->Ub->Prop),Inv X pins σ H s->(∀b∈fp,Kp X pins H b)->tn i s.heap->J.go i H ->
  Uh (model P w) X.A (pyNext (.ref it)) (λr s1=>∃u,r=some u /\
   Uh (model P w) X.A (letOwnedTupleGo tg (.ref it) u) (λ_ s2=>∃x H',Inv X pins σ H' s2/\RelV x u/\J.yld i H x H'/\tn (i+1) s2.heap/\∀b∈fp,H' b=none) E s1) E s
 done:∀(X:Cx),X.prog=P->X.w=w->X.K=K->X.calm=true->∀(i:Nat)(pins:List (Ud×Obj))(s:Ub)(σ:St)(H:Hp)(E:Ua->Ub->Prop),Inv X pins σ H s->(∀b∈fp,Kp X pins H b)->tn i s.heap->J.stop i H ->
  Uh (model P w) X.A (pyNext (.ref it)) (λr s1=>r=none/\Inv X pins σ H s1) E s
 self:∀(A:Around)(i:Nat)(s:Ub)(Q:Ua->Ub->Prop)(E:Ua->Ub->Prop),tn i s.heap->Q (.ref it) s->Uh (model P w) A (pyIter (.ref it)) Q E s
abbrev TI:=St->Hp->(It->Hp->Prop)->Prop
def PIE(X:Cx)(pins:List (Ud×Obj))(σ:St)(tg:Uf)(R:It->Hp->Prop)(itv:Ua)(s2:Ub):Prop:=
 ∃(it:Ud)(fp:List Ud)(tn:Nat->Heap->Prop)(J:It)(H':Hp),itv=.ref it/\Inv X pins σ H' s2/\Turn X.prog X.w X.K tg J fp it tn/\tn 0 s2.heap/\(∀b∈fp,Kp X pins H' b)/\R J H'
def PI(X:Cx)(tg iter:Uf)(wi:TI):Prop:=
 ∀(pins:List (Ud×Obj))(s:Ub)(σ:St)(H:Hp)(R:It->Hp->Prop),Inv X pins σ H s->wi σ H R ->
  Uh (model X.prog X.w) X.A (eval iter X.env) (λv s1=>Uh (model X.prog X.w) X.A (pyIter v) (PIE X pins σ tg R) X.xe s1) X.xe s
theorem V2{M:Model}{A:Around}{E:Ua->Ub->Prop}{s:Ub}{tg:Uf}{it:Ud}{u:Ua}{o:Obj}{n:String}{vs:Array Ua}{Q:Unit->Ub->Prop}(ho:s.heap.get? it=some o)(hc:o.cls=.type n)(hd:o.data=.fields vs)
  (hn:["enumerate", "zip", "dict_itemiterator", "dict_reverseitemiterator", "odict_iterator", "itertools.zip_longest", "itertools.pairwise"].contains n=false) (hQ:Q () s):Uh M A (letOwnedTupleGo tg (.ref it) u) Q E s:=by
 unfold letOwnedTupleGo
 cases tg<;>first
  |exact Qj hQ
  |(cases u<;>first
    |exact Qj hQ
    |(
      refine Qd (wpAny_load ho ?_);rw[hc,hd];show Uh M A (if(["enumerate", "zip", "dict_itemiterator", "dict_reverseitemiterator", "odict_iterator", "itertools.zip_longest", "itertools.pairwise"].contains n&&vs[0]?==some (rawInt _))=true then _ else _) Q E s;rw[QJ (by intro h;rw[hn,Bool.false_and]at h;cases h)];exact Qj hQ))
def Itl(K:Frag)(a:Ud):It:=
 ⟨λi H=>∃xs x,SqL K H a xs/\xs[i]?=some x,λi H x H'=>H'=H/\∀xs,SqL K H a xs->xs[i]?=some x,λi H=>∃xs,SqL K H a xs/\xs.length<=i⟩
def Itt(K:Frag)(a:Ud):It:=
 ⟨λi H=>∃xs x,SqT K H a xs/\xs[i]?=some x,λi H x H'=>H'=H/\∀xs,SqT K H a xs->xs[i]?=some x,λi H=>∃xs,SqT K H a xs/\xs.length<=i⟩
def Itr(lo:Int)(n:Nat):It:=⟨λi _=>i<n,λi H x H'=>H'=H/\x=.int (lo+i),λi _=>n<=i⟩
theorem DT{P:Uc}{w:World}{K:Frag}{tg:Uf}(a it:Ud):Turn P w K tg (Itl K a) [it] it (λi h=>h.IsListIter it a i) where
 mem:=by simp
 obj:=λi h st b hb=>by
  have e:b=it:=by simpa using hb
  subst e;obtain⟨o,e,c,d⟩:=st;exact⟨o,e,λv z=>by rw[d]at z;cases z⟩
 keep:=λi h h' st k=>st.at λo e=>k it (by simp) o e
 item:=by
  intro X hP hw hK hc i pins s σ H E I hf st hg;subst hP hw hK;obtain⟨xs,x,hq,hx⟩:=hg;obtain⟨its,rv,p,hz⟩:=I.list hq;obtain⟨u,hu,ru⟩:=rv.get hx;obtain⟨f0,f1,f2,f3,f4,f5⟩:=hf it (by simp);refine wpAny_pyNext_list_item st p.isList (x:=u) (by simpa using hu) λh' st' sb=>?_
  have I1:Inv X pins σ H {s with heap:=h'}:=I.turned (t':=s.toks) (λb o hb e=>(sb.2 b hb).trans e) f0 f1 f3 f4 f5;obtain⟨o,e,c,d⟩:=id st';exact⟨u,rfl,V2 (s:={s with heap:=h'}) e c d (by decide) ⟨x,H,I1,ru,⟨rfl,λys hy=>by rw[I.list_inj hy hq];exact hx⟩,st',λb hb=>(hf b hb).1⟩⟩
 done:=by intro X hP hw hK hc i pins s σ H E I hf st hg;subst hP hw hK;obtain⟨xs,hq,hx⟩:=hg;obtain⟨its,rv,p,hz⟩:=I.list hq;obtain⟨f0,f1,f2,f3,f4,f5⟩:=hf it (by simp);have hl:=rv.length;exact wpAny_pyNext_list_end (I.ok.hd hc) st p.isList (by simp;omega) λh' eb=>⟨rfl,I.turned (t':=s.toks) (λb o hb e=>eb b o hb e) f0 f1 f3 f4 f5⟩
 self:=λ_ _ _ _ _ st h=>wpAny_pyIter_listiter st h
theorem D7{P:Uc}{w:World}{K:Frag}{tg:Uf}(a it:Ud):Turn P w K tg (Itt K a) [it] it (λi h=>h.IsTupleIter it a i) where
 mem:=by simp
 obj:=λi h st b hb=>by
  have e:b=it:=by simpa using hb
  subst e;obtain⟨o,e,c,d⟩:=st;exact⟨o,e,λv z=>by rw[d]at z;cases z⟩
 keep:=λi h h' st k=>st.at λo e=>k it (by simp) o e
 item:=by
  intro X hP hw hK hc i pins s σ H E I hf st hg;subst hP hw hK;obtain⟨xs,x,hq,hx⟩:=hg;obtain⟨its,rv,p,hz⟩:=I.tuple hq;obtain⟨u,hu,ru⟩:=rv.get hx;obtain⟨f0,f1,f2,f3,f4,f5⟩:=hf it (by simp);refine wpAny_pyNext_tuple_item st (show s.heap.IsTuple a its.toArray from p) (x:=u) (by simpa using hu) λh' st' sb=>?_
  have I1:Inv X pins σ H {s with heap:=h'}:=I.turned (t':=s.toks) (λb o hb e=>(sb.2 b hb).trans e) f0 f1 f3 f4 f5;obtain⟨o,e,c,d⟩:=id st';exact⟨u,rfl,V2 (s:={s with heap:=h'}) e c d (by decide) ⟨x,H,I1,ru,⟨rfl,λys hy=>by rw[I.tuple_inj hy hq];exact hx⟩,st',λb hb=>(hf b hb).1⟩⟩
 done:=by intro X hP hw hK hc i pins s σ H E I hf st hg;subst hP hw hK;obtain⟨xs,hq,hx⟩:=hg;obtain⟨its,rv,p,hz⟩:=I.tuple hq;obtain⟨f0,f1,f2,f3,f4,f5⟩:=hf it (by simp);have hl:=rv.length;exact wpAny_pyNext_tuple_end (I.ok.hd hc) st (show s.heap.IsTuple a its.toArray from p) (by simp;omega) λh' eb=>⟨rfl,I.turned (t':=s.toks) (λb o hb e=>eb b o hb e) f0 f1 f3 f4 f5⟩
 self:=λ_ _ _ _ _ st h=>wpAny_pyIter_tupleiter st h
theorem D6{P:Uc}{w:World}{K:Frag}{tg:Uf}(it:Ud)(lo:Int)(n:Nat):Turn P w K tg (Itr lo n) [it] it (λi h=>IsRangeIter h it (lo+(i:Nat)*1) ((n:Int)-(i:Nat)) 1) where
 mem:=by simp
 obj:=λi h st b hb=>by
  have e:b=it:=by simpa using hb
  subst e;exact⟨_,st,λv z=>by have z':Data.fields _=Data.cell v:=z;cases z'⟩
 keep:=λi h h' st k=>k it (by simp) _ st
 item:=by
  intro X hP hw hK hc i pins s σ H E I hf st hg;subst hP hw hK;obtain⟨f0,f1,f2,f3,f4,f5⟩:=hf it (by simp);have W:=Walks.range (prog:=X.prog) (w:=X.w) (I.ok.hd hc) it lo 1 n;refine W.item i s _ _ hg st λv h' tk hv st' kk=>?_
  obtain⟨t,rfl⟩:=hv;have I1:Inv X pins σ H {s with heap:=h',toks:=tk}:=I.turned (λb o hb e=>kk b o (by simpa using hb) e) f0 f1 f3 f4 f5;refine⟨_,rfl,V2 (s:={s with heap:=h',toks:=tk}) (n:= "range_iterator") st' rfl rfl (by decide) ⟨.int (lo+i),H,I1,⟨t,?_⟩,⟨rfl,rfl⟩,st',λb hb=>(hf b hb).1⟩⟩;rw[Int.mul_one]
 done:=by intro X hP hw hK hc i pins s σ H E I hf st hg;subst hP hw hK;obtain⟨f0,f1,f2,f3,f4,f5⟩:=hf it (by simp);exact wpAny_pyNext_range_end (I.ok.hd hc) st (by have:n<=i:=hg;omega) λh' eb=>⟨rfl,I.turned (t':=s.toks) (λb o hb e=>eb b o hb e) f0 f1 f3 f4 f5⟩
 self:=λ_ _ _ _ _ st h=>wpAny_pyIter_rangeiter st h
section
variable{X:Cx}{tg:Uf}
theorem Oy{pins:List (Ud×Obj)}{σ:St}{H:Hp}{s:Ub}{R:It->Hp->Prop}{E:Ua->Ub->Prop}{lo hi:Int}{t u v:Tok}{tk:Nat}(I:Inv X pins σ H s)(h1 : -(2 ^ 62)<=lo)(h2:lo<2 ^ 62)(h3 : -(2 ^ 62)<=hi)(h4:hi<2 ^ 62)
  (q:R (Itr lo (hi-lo).toNat) H):Uh (model X.prog X.w) X.A (pyIter (.ref s.heap.objs.size)) (PIE X pins σ tg R) E {s with heap:=s.heap.push {cls:=.type "range", data:=.fields #[.int lo t,.int hi u,.int 1 v]},toks:=tk}:=by
 refine wpAny_pyIter_range (IsRange.new ..) (small_one h1 h2 h3 h4) ?_;have I1:Inv X pins σ H {s with heap:=s.heap.push {cls:=.type "range", data:=.fields #[.int lo t,.int hi u,.int 1 v]},toks:=tk}:=I.kept λb o e=>Qi _ e
 refine⟨(s.heap.push {cls:=.type "range", data:=.fields #[.int lo t,.int hi u,.int 1 v]}).objs.size,[(s.heap.push {cls:=.type "range", data:=.fields #[.int lo t,.int hi u,.int 1 v]}).objs.size],_,_,H,rfl,
  I1.kept (t':=tk) λb o e=>Qi _ e,D6 _ lo (hi-lo).toNat,?_,λb hb=>?_,q⟩
 ·have e1:lo+((0:Nat):Int)*1=lo:=by simp
  have e2:(((hi-lo).toNat:Nat):Int)-((0:Nat):Int)=Builtin.Range.rangeSize lo hi 1:=by rw[rangeSize_one];split<;>omega
  show IsRangeIter _ _ (lo+((0:Nat):Int)*1) ((((hi-lo).toNat:Nat):Int)-((0:Nat):Int)) 1;rw[e1,e2];exact Qv _ rfl
 ·have e:b=(s.heap.push {cls:=.type "range", data:=.fields #[.int lo t,.int hi u,.int 1 v]}).objs.size:=by simpa using hb
  subst e;exact I1.fpOk (Qm _) (I1.hok.fresh (Qm _))
def NL(ta:TA):TI:=λσ H R=>ta σ H λvs H1=>∃j:Int,vs=[.int j] /\ -(2 ^ 62)<=j/\j<2 ^ 62/\R (Itr 0 j.toNat) H1
def NK(ta:TA):TI:=λσ H R=>ta σ H λvs H1=>∃i j:Int,vs=[.int i,.int j]/\(-(2 ^ 62)<=i/\i<2 ^ 62 /\ -(2 ^ 62)<=j/\j<2 ^ 62)/\R (Itr i (j-i).toNat) H1
theorem DS{a:Uf}{ta:TA}{p pos:Pos}(hg:Gl X "range")(hm:X.mg "range" = none)(ha:PA X [a] ta)(hs:Ui [a] X.env=[(false,eval a X.env)]:=by rfl):PI X tg (.Call (.Name "range" p) [a] [] pos) (NL ta):=by
 intro pins s σ H R I h;refine Call_ (XJ I hg hm boot_range (Jo (thn (ha pos pins s σ H _ I h) λus s1 ⟨vs,H1,I1,r1,q1⟩=>?_) hs rfl));obtain⟨j,e,q1,q2,q⟩:=q1;subst e;cases r1 with
 |cons r rr=>cases rr;obtain⟨t,rfl⟩:=r;exact call_range_1 (Oy I1 (by omega) (by omega) q1 q2 (by simpa using q))
theorem DR{a b:Uf}{ta:TA}{p pos:Pos}(hg:Gl X "range")(hm:X.mg "range" = none)(ha:PA X [a,b] ta)(hs:Ui [a,b] X.env=[(false,eval a X.env),(false,eval b X.env)]:=by rfl)(hs2:Ui [b] X.env=[(false,eval b X.env)]:=by rfl) :
  PI X tg (.Call (.Name "range" p) [a,b] [] pos) (NK ta):=by
 intro pins s σ H R I h;refine Call_ (XJ I hg hm boot_range (Jo (thn (ha pos pins s σ H _ I h) λus s1 ⟨vs,H1,I1,r1,q1⟩=>?_) (by rw[hs,hs2]) (by rw[hs2];rfl)));obtain⟨i,j,e,⟨q1,q2,q3,q4⟩,q⟩:=q1;subst e;cases r1 with
 |cons r rr=>
  cases rr with
  |cons r' rr=>cases rr;obtain⟨t,rfl⟩:=r;obtain⟨t',rfl⟩:=r';exact call_range_2 (Oy I1 q1 q2 q3 q4 q)
def tFor(wi:TI)(g:TG)(tb:TS):TS:=λD σ H=>wi σ H λJ H1=>∃W:Nat->Nat->St->Hp->Prop,(∃m,W 0 m σ H1)/\∀i m σ H,W i m σ H ->
 (J.stop i H/\D.nx σ H)∨(J.go i H/\∃N:St->Hp->Prop,(∀σ' H',N σ' H'->∃m',m'<m/\W (i+1) m' σ' H')/\∀x H',J.yld i H x H'->g x σ H' λσ2 H2=>tb {D with nx:=N,ct:=N,bk:=D.nx} σ2 H2)
def WV(fp:List Ud)(h:Heap):List (Ud×Obj):=fp.filterMap λb=>(h.get? b).map λo=>(b,o)
theorem W4{fp:List Ud}{h:Heap}{b:Ud}{o:Obj}(hb:b∈fp)(e:h.get? b=some o):(b,o)∈WV fp h:=List.mem_filterMap.mpr ⟨b,hb,by rw[e];rfl⟩
theorem DQ{fp:List Ud}{h:Heap}{p:Ud×Obj}(hp:p∈WV fp h):p.1∈fp/\h.get? p.1=some p.2:=by
 obtain⟨b,hb,e⟩:=List.mem_filterMap.mp hp;cases q:h.get? b with
 |none=>rw[q]at e;cases e
 |some o=>rw[q]at e;have e':(b,o)=p:=Qo e;subst e';exact⟨hb,q⟩
theorem Inv.pinned{pins:List (Ud×Obj)}{σ:St}{H:Hp}{s:Ub}{fp:List Ud}(I:Inv X pins σ H s)(hf:∀b∈fp,Kp X pins H b)(ho:∀b∈fp,∃o,s.heap.get? b=some o/\∀v,o.data≠.cell v):Inv X (pins++WV fp s.heap) σ H s:=
 I.pins_of λp hp=>(QM.mp hp).elim (λz=>I.pin p (Qw _ z)) λz=>by obtain⟨hb,e⟩:=DQ z;obtain⟨f0,f1,f2,_⟩:=hf p.1 hb;obtain⟨o,e',d⟩:=ho p.1 hb;rw[e]at e';cases e';exact⟨e,f0,f1,f2,d⟩
theorem Inv.unpinned{pins pl:List (Ud×Obj)}{σ:St}{H:Hp}{s:Ub}(I:Inv X (pins++pl) σ H s):Inv X pins σ H s:=I.pins_of λp hp=>I.pin p (Qw _ (Je _ hp))
theorem L8{iter:Uf}{body:List Stmt}{wi:TI}{g:TG}{tb:TS}{pos:Pos}(hp:PassesOwn (model X.prog X.w) X.A X.env X.xe)(hc:X.calm=true)(hi:PI X tg iter wi)(hg:PG X tg g)(hb:PSs X body tb)
  (hs:∀x,Uz iter X.env x=pure x:=by intro _;rfl):PS X (.For tg iter body [] pos) (tFor wi g tb):=by
 intro pins s σ H D I h;refine wpAny_For (thn (hi pins s σ H _ I h) λv s1 h1=>thn h1 λitv s2 h2=>?_) hs;obtain⟨it,fp,tn,J,H2,e,I2,T,st2,f2,W,⟨m0,w0⟩,turn⟩:=h2;subst e;have stat:∀{H':Hp},(∀b∈fp,H' b=none)->∀b∈fp,Kp X pins H' b:=λhn b hb=>⟨hn b hb,(f2 b hb).2⟩;refine codeAny_forLoop_any (λn s'=>∃i σ' H',Inv X pins σ' H' s'/\tn i s'.heap/\(∀b∈fp,H' b=none)/\W i n σ' H') ?_ m0 ⟨0,σ,H2,I2,st2,λb hb=>(f2 b hb).1,w0⟩;rintro n s3 ⟨i,σ3,H3,I3,st3,fr3,w3⟩;rcases turn i n σ3 H3 w3 with ⟨stop,qn⟩|⟨go,N,hN,step⟩
 ·refine Jj hp (thn (T.done X rfl rfl rfl hc i pins s3 σ3 H3 X.xe I3 (stat fr3) st3 stop) λr s4 ⟨hr,I4⟩=>?_);subst hr;exact wpAny_execs_nil ⟨σ3,H3,I4,qn⟩
 ·refine Jj hp (thn (T.item X rfl rfl rfl hc i pins s3 σ3 H3 X.xe I3 (stat fr3) st3 go) λr s4 ⟨u,hr,h4⟩=>?_);subst hr;refine Jj hp (thn h4 λ_ s5 ⟨x,H5,I5,r5,y5,st5,fr5⟩=>?_);have I5':=I5.pinned (stat fr5) (T.obj _ _ st5);refine Jj hp (thn (hg _ s5 σ3 H5 x u _ I5' r5 (step x H5 y5)) λ_ s6 ⟨σ6,H6,I6,q6⟩=>?_);refine Jj hp (thn (hb _ s6 σ6 H6 _ I6 q6) λf s7 q7=>?_);have again:∀{σ7:St}{H7:Hp},Inv X (pins++WV fp s5.heap) σ7 H7 s7->N σ7 H7->∃m,m<n/\∃i σ' H',Inv X pins σ' H' s7/\tn i s7.heap/\(∀b∈fp,H' b=none)/\W i m σ' H':=λ{σ7 H7} I7 n7=>by obtain⟨m',hm,w7⟩:=hN σ7 H7 n7;refine⟨m',hm,i+1,σ7,H7,I7.unpinned,T.keep _ _ _ st5 λb hb o e=>(I7.pin (b,o) (Qw _ (Qw _ (W4 hb e)))).1,λb hb=>?_,w7⟩;obtain⟨o,e,d⟩:=T.obj _ _ st5 b hb;exact(I7.pin (b,o) (Qw _ (Qw _ (W4 hb e)))).2.1
  cases f with
  |next=>obtain⟨σ7,H7,I7,n7⟩:=q7;exact again I7 n7
  |cont=>obtain⟨σ7,H7,I7,n7⟩:=q7;exact again I7 n7
  |brk=>obtain⟨σ7,H7,I7,q7⟩:=q7;exact⟨σ7,H7,I7.unpinned,q7⟩
  |ret v=>obtain⟨x7,σ7,H7,I7,r7,q7⟩:=q7;exact⟨x7,σ7,H7,I7.unpinned,r7,q7⟩
end
abbrev R2:=V->V->Hp->VK->Prop
def OpR(X:Cx)(f:Ua->Ua->Sem Ua)(r:R2):Prop:=
 ∀(pins:List (Ud×Obj))(s:Ub)(σ:St)(H:Hp)(x y:V)(v u:Ua)(Q:VK),Inv X pins σ H s->RelV x v->RelV y u->r x y H Q ->
  Uh (model X.prog X.w) X.A (f v u) (EP X pins σ Q) X.xe s
def UnR(X:Cx)(f:Ua->Sem Ua)(r:V->Hp->VK->Prop):Prop:=
 ∀(pins:List (Ud×Obj))(s:Ub)(σ:St)(H:Hp)(x:V)(v:Ua)(Q:VK),Inv X pins σ H s->RelV x v->r x H Q ->
  Uh (model X.prog X.w) X.A (f v) (EP X pins σ Q) X.xe s
def ZI(X:Cx)(f:Ua)(r:List V->Hp->VK->Prop):Prop:=
 ∀(pins:List (Ud×Obj))(s:Ub)(σ:St)(H:Hp)(xs:List V)(us:List Ua)(Q:VK),Inv X pins σ H s->Vals xs us->r xs H Q ->
  Uh (model X.prog X.w) X.A (call f us) (EP X pins σ Q) X.xe s
def tOp(r:R2)(ta tb:TE):TE:=λσ H Q=>ta σ H λx H1=>tb σ H1 λy H2=>r x y H2 Q
def tUn(r:V->Hp->VK->Prop)(ta:TE):TE:=λσ H Q=>ta σ H λx H1=>r x H1 Q
def rI(C:Int->Int->Prop)(g:Int->Int->V):R2:=λx y H Q=>∃i j,x=.int i/\y=.int j/\C i j/\Q (g i j) H
def rI0(g:Int->Int->V):R2:=λx y H Q=>∃i j,x=.int i/\y=.int j/\Q (g i j) H
def rU(g:Int->V):V->Hp->VK->Prop:=λx H Q=>∃i,x=.int i/\Q (g i) H
section
variable{X:Cx}{a b c:Uf}{ta tb tc:TE}{pos:Pos}
theorem WG(ha:PE X a ta)(hb:PE X b tb){pins:List (Ud×Obj)}{s:Ub}{σ:St}{H:Hp}{R:V->V->Hp->Prop}(I:Inv X pins σ H s)
  (h:ta σ H λx H1=>tb σ H1 λy H2=>R x y H2) {Q:Ua->Ub->Prop} {f:Ua->Ua->Sem Ua}
  (hf:∀v u s2 x y H2,Inv X pins σ H2 s2->RelV x v->RelV y u->R x y H2->Uh (model X.prog X.w) X.A (f v u) Q X.xe s2) :
  Uh (model X.prog X.w) X.A (eval a X.env) (λv s₁=>Uh (model X.prog X.w) X.A (eval b X.env) (λu s₂=>Uh (model X.prog X.w) X.A (f v u) Q X.xe s₂) X.xe s₁) X.xe s:=by
 refine thn (ha pins s σ H _ I h) λv s1 ⟨x,H1,I1,r1,q1⟩=>?_;refine thn (hb pins s1 σ H1 _ I1 q1) λu s2 ⟨y,H2,I2,r2,q2⟩=>?_;exact hf v u s2 x y H2 I2 r1 r2 q2
theorem NJ{op:Operator}{r:R2}(ho:OpR X (binaryOp op) r)(ha:PE X a ta)(hb:PE X b tb):PE X (.BinOp a op b pos) (tOp r ta tb):=by intro pins s σ H Q I h;exact wpAny_BinOp (WG ha hb I h λv u s2 x y H2 I2 rx ry q=>ho pins s2 σ H2 x y v u Q I2 rx ry q)
theorem NI{op:UnaryOp}{r:V->Hp->VK->Prop}(ho:UnR X (unaryOp op) r)(ha:PE X a ta):PE X (.UnaryOp op a pos) (tUn r ta):=by intro pins s σ H Q I h;exact UnaryOp_ (thn (ha pins s σ H _ I h) λv s1 ⟨x,H1,I1,r1,q1⟩=>ho pins s1 σ H1 x v Q I1 r1 q1)
theorem opI{f:Ua->Ua->Sem Ua}{C:Int->Int->Prop}{g:Int->Int->Int}
  (rule:∀(i j:Int)(t u:Tok)(s:Ub)(Q:Ua->Ub->Prop)(E:Ua->Ub->Prop),C i j->Q (.int (g i j) s.toks) {s with toks:=s.toks+1}->Uh (model X.prog X.w) X.A (f (.int i t) (.int j u)) Q E s) :
  OpR X f (rI C λi j=>.int (g i j)):=by
 intro pins s σ H x y v u Q I rx ry h;obtain⟨i,j,rfl,rfl,hc,q⟩:=h;obtain⟨t,rfl⟩:=rx;obtain⟨t',rfl⟩:=ry;exact rule i j t t' s _ _ hc ⟨.int (g i j),H,I.tok _,⟨_,rfl⟩,q⟩
theorem opI0{f:Ua->Ua->Sem Ua}{g:Int->Int->Int}
  (rule:∀(i j:Int)(t u:Tok)(s:Ub)(Q:Ua->Ub->Prop)(E:Ua->Ub->Prop),Q (.int (g i j) s.toks) {s with toks:=s.toks+1}->Uh (model X.prog X.w) X.A (f (.int i t) (.int j u)) Q E s) :
  OpR X f (rI0 λi j=>.int (g i j)):=by
 intro pins s σ H x y v u Q I rx ry h;obtain⟨i,j,rfl,rfl,q⟩:=h;obtain⟨t,rfl⟩:=rx;obtain⟨t',rfl⟩:=ry;exact rule i j t t' s _ _ ⟨.int (g i j),H,I.tok _,⟨_,rfl⟩,q⟩
theorem Xa{f:Ua->Ua->Sem Ua}{g:Int->Int->Bool}
  (rule:∀(i j:Int)(t u:Tok)(s:Ub)(Q:Ua->Ub->Prop)(E:Ua->Ub->Prop),Q (.bool (g i j)) s->Uh (model X.prog X.w) X.A (f (.int i t) (.int j u)) Q E s) :
  OpR X f (rI0 λi j=>.bl (g i j)):=by
 intro pins s σ H x y v u Q I rx ry h;obtain⟨i,j,rfl,rfl,q⟩:=h;obtain⟨t,rfl⟩:=rx;obtain⟨t',rfl⟩:=ry;exact rule i j t t' s _ _ ⟨.bl (g i j),H,I,rfl,q⟩
def CPow(i j:Int):Prop:=0<=j/\j<=1000000/\i.natAbs<2 ^ 64
def CMul(i j:Int):Prop:=(-(2 ^ 64)<i/\i<2 ^ 64)∨(-(2 ^ 64)<j/\j<2 ^ 64)
theorem CMul.ok{i j:Int}(h:CMul i j):IntMulOk i j:=by
 rcases h with ⟨h1,h2⟩|⟨h1,h2⟩
 ·exact .of_left (intBits_le_64 h1 h2)
 ·exact .of_right (intBits_le_64 h1 h2)
theorem L7:OpR X (binaryOp .Add) (rI0 λi j=>.int (i+j)):=opI0 λ_ _ _ _ _ _ _ q=>add_int q
theorem L6:OpR X (binaryOp .Sub) (rI0 λi j=>.int (i-j)):=opI0 λ_ _ _ _ _ _ _ q=>sub_int q
theorem L5:OpR X (binaryOp .Mult) (rI CMul λi j=>.int (i*j)):=opI λ_ _ _ _ _ _ _ hc q=>mul_int q hc.ok
theorem L4:OpR X (binaryOp .Mod) (rI (λ_ j=>0<j) λi j=>.int (i % j)):=opI λi j _ _ _ _ _ hc q=>by have h1:(0:Int)<j:=hc;exact mod_int' (by omega) (by rw[Int.fmod_eq_emod_of_nonneg i (by omega)];exact q)
theorem L1:OpR X (binaryOp .Pow) (rI CPow λi j=>.int (i ^ j.toNat)):=opI λ_ _ _ _ _ _ _ hc q=>pow_int_small hc.1 hc.2.1 hc.2.2 q
theorem unI{f:Ua->Sem Ua}{g:Int->Int}
  (rule:∀(i:Int)(t:Tok)(s:Ub)(Q:Ua->Ub->Prop)(E:Ua->Ub->Prop),Q (.int (g i) s.toks) {s with toks:=s.toks+1}->Uh (model X.prog X.w) X.A (f (.int i t)) Q E s) :
  UnR X f (rU λi=>.int (g i)):=by
 intro pins s σ H x v Q I rx h;obtain⟨i,rfl,q⟩:=h;obtain⟨t,rfl⟩:=rx;exact rule i t s _ _ ⟨.int (g i),H,I.tok _,⟨_,rfl⟩,q⟩
theorem L0:UnR X (unaryOp .USub) (rU λi=>.int (-i)):=unI λ_ _ _ _ _ q=>neg_int q
end
section
variable{X:Cx}{a b c:Uf}{ta tb tc:TE}{pos:Pos}
theorem T7{pins:List (Ud×Obj)}{σ:St}{H:Hp}{s:Ub}{Q:VK}{k k':Bool}(I:Inv X pins σ H s)(q:Q (.bl k) H)(e:k=k'):EP X pins σ Q (.bool k') s:=by subst e;exact⟨.bl k,H,I,rfl,q⟩
theorem NH:OpR X (Uj .Lt) (rI0 λi j=>.bl (decide (i<j))):=Xa λ_ _ _ _ _ _ _ q=>lt_int q
theorem NG:OpR X (Uj .LtE) (rI0 λi j=>.bl (decide (i<=j))):=Xa λ_ _ _ _ _ _ _ q=>le_int q
theorem NF:OpR X (Uj .Gt) (rI0 λi j=>.bl (decide (j<i))):=Xa λ_ _ _ _ _ _ _ q=>gt_int q
theorem NE:OpR X (Uj .GtE) (rI0 λi j=>.bl (decide (j<=i))):=Xa λ_ _ _ _ _ _ _ q=>ge_int q
theorem DP:OpR X (Uj .In) (λx y H Q=>∃i j,x=.str i/\y=.str j/\Q (.bl (!(Builtin.Str.occurrences j i 0 j.length 1).isEmpty)) H):=by intro pins s σ H x y v u Q I rx ry h;obtain⟨i,j,rfl,rfl,q⟩:=h;obtain⟨t,rfl⟩:=rx;obtain⟨t',rfl⟩:=ry;exact in_str (T7 I q rfl)
theorem CN:OpR X (Uj .NotIn) (λx y H Q=>∃i j,x=.str i/\y=.str j/\Q (.bl (!(!(Builtin.Str.occurrences j i 0 j.length 1).isEmpty))) H):=by intro pins s σ H x y v u Q I rx ry h;obtain⟨i,j,rfl,rfl,q⟩:=h;obtain⟨t,rfl⟩:=rx;obtain⟨t',rfl⟩:=ry;exact notIn_str (T7 I q rfl)
theorem OpR.or{f:Ua->Ua->Sem Ua}{r r':R2}(h:OpR X f r)(h':OpR X f r'):OpR X f (λx y H Q=>r x y H Q∨r' x y H Q):=by
 intro pins s σ H x y v u Q I rx ry q;rcases q with q|q
 ·exact h pins s σ H x y v u Q I rx ry q
 ·exact h' pins s σ H x y v u Q I rx ry q
theorem LZ(b:Uf){op:CmpOp}(h:op≠.In:=by decide)(h2:op≠.NotIn:=by decide):behindInMarks op b=false:=by
 have e1:(op==CmpOp.In)=false:=by cases op<;>first|rfl|exact absurd rfl h
 have e2:(op==CmpOp.NotIn)=false:=by cases op<;>first|rfl|exact absurd rfl h2
 cases b<;>simp[behindInMarks,e1,e2]
theorem PH{op:CmpOp}{r:R2}(ho:OpR X (Uj op) r)(ha:PE X a ta)(hb:PE X b tb)(hm:behindInMarks op b=false):PE X (.Compare a [op] [b] pos) (tOp r ta tb):=by intro pins s σ H Q I h;exact wpAny_Compare1 (WG ha hb I h λv u s2 x y H2 I2 rx ry q=>ho pins s2 σ H2 x y v u Q I2 rx ry q) hm
def Rw(t:TE):TT:=λσ H Q=>t σ H λx H'=>∃k,x=.bl k/\Q k H'
theorem Sc{op:CmpOp}{r:R2}(ho:OpR X (Uj op) r)(ha:PE X a ta)(hb:PE X b tb)(hm:behindInMarks op b=false):PT X (.Compare a [op] [b] pos) (Rw (tOp r ta tb)):=by
 intro pins s σ H Q I h
 refine wpAny_isTrue_Compare1 (thn (ha pins s σ H _ I h) λv s1 ⟨x,H1,I1,r1,q1⟩=>thn (hb pins s1 σ H1 _ I1 q1) λu s2 ⟨y,H2,I2,r2,q2⟩=>
  thn (ho pins s2 σ H2 x y v u _ I2 r1 r2 q2) λc s3 ⟨z,H3,I3,r3,k,e,q3⟩=>?_) hm
 subst e;cases r3;exact QU ⟨H3,I3,q3⟩
def RJ(r r':R2)(ta tb tc:TE):TE:=λσ H Q=>ta σ H λx H1=>tb σ H1 λy H2=>r x y H2 λz H3=>∃k,z=.bl k /\
 (if k=true then tc σ H3 λw' H4=>r' y w' H4 Q else Q (.bl false) H3)
theorem EB{op op':CmpOp}{r r':R2}(ho:OpR X (Uj op) r)(ho':OpR X (Uj op') r')(ha:PE X a ta)(hb:PE X b tb)(hc:PE X c tc)
  (hm:lastMarks [op,op'] [b,c]=false:=by with_unfolding_all rfl):PE X (.Compare a [op,op'] [b,c] pos) (RJ r r' ta tb tc):=by
 intro pins s σ H Q I h
 refine Compare_chain (thn (ha pins s σ H _ I h) λv s1 ⟨x,H1,I1,r1,q1⟩=>chain_link (thn (hb pins s1 σ H1 _ I1 q1) λu s2 ⟨y,H2,I2,r2,q2⟩=>
  thn (ho pins s2 σ H2 x y v u _ I2 r1 r2 q2) λd s3 ⟨z,H3,I3,r3,k,e,q3⟩=>?_)) hm
 subst e;cases r3;refine QU ?_;cases k with
 |false=>exact ite_ff ⟨.bl false,H3,I3,rfl,q3⟩
 |true=>exact ite_tt (chain_last (thn (hc pins s3 σ H3 _ I3 q3) λw' s4 ⟨z',H4,I4,r4,q4⟩=>ho' pins s4 σ H4 y z' u w' Q I4 r2 r4 q4))
theorem EA{op op':CmpOp}{r r':R2}(ho:OpR X (Uj op) r)(ho':OpR X (Uj op') r')(ha:PE X a ta)(hb:PE X b tb)(hc:PE X c tc)
  (hm:lastMarks [op,op'] [b,c]=false:=by with_unfolding_all rfl):PT X (.Compare a [op,op'] [b,c] pos) (Rw (RJ r r' ta tb tc)):=by
 intro pins s σ H Q I h
 refine isTrue_chain (thn (ha pins s σ H _ I h) λv s1 ⟨x,H1,I1,r1,q1⟩=>test_link (thn (hb pins s1 σ H1 _ I1 q1) λu s2 ⟨y,H2,I2,r2,q2⟩=>
  thn (ho pins s2 σ H2 x y v u _ I2 r1 r2 q2) λd s3 ⟨z,H3,I3,r3,k,e,q3⟩=>?_)) hm
 subst e;cases r3;refine QU ?_;cases k with
 |false=>obtain⟨k',e',q'⟩:=q3;cases e';exact ite_ff ⟨H3,I3,q'⟩
 |true=>refine ite_tt (test_last (thn (hc pins s3 σ H3 _ I3 q3) λw' s4 ⟨z',H4,I4,r4,q4⟩=>thn (ho' pins s4 σ H4 y z' u w' _ I4 r2 r4 q4) λd' s5 ⟨z2,H5,I5,r5,k2,e2,q5⟩=>?_));subst e2;cases r5;exact QU ⟨H5,I5,q5⟩
theorem V8:(Ug:Nat)<2 ^ 63:=by rw[sizeLine_eq];decide
theorem D5:OpR X (binaryOp .Add) (λx y H Q=>∃i j,x=.str i/\y=.str j/\i.length+j.length<=Ug/\Q (.str (i++j)) H):=by intro pins s σ H x y v u Q I rx ry h;obtain⟨i,j,rfl,rfl,hz,q⟩:=h;obtain⟨t,rfl⟩:=rx;obtain⟨t',rfl⟩:=ry;exact add_str (λt' tk=>⟨.str (i++j),H,I.tok _,⟨_,rfl⟩,q⟩) hz
theorem Rv{x:V}{us:List Ua}(r:Vals [x] us):∃u,us=[u]/\RelV x u:=by
 cases r with
 |cons r1 r2=>cases r2;exact⟨_,rfl,r1⟩
theorem TM{x y:V}{us:List Ua}(r:Vals [x,y] us):∃u w',us=[u,w']/\RelV x u/\RelV y w':=by
 cases r with
 |cons r1 r2=>
  cases r2 with
  |cons r3 r4=>cases r4;exact⟨_,_,rfl,r1,r3⟩
theorem DO(hc:X.calm=true):ZI X (.builtin "max") (λxs H Q=>∃i j,xs=[.int i,.int j]/\Q (.int (if j > i then j else i)) H):=by
 intro pins s σ H xs us Q I r h;obtain⟨i,j,rfl,q⟩:=h;obtain⟨u,w',rfl,⟨t,rfl⟩,⟨t',rfl⟩⟩:=TM r;refine max_two_ints (I.ok.hd hc) λh' tk k=>⟨_,H,I.kept k,?_,q⟩
 by_cases hj:j > i
 ·rw[Qr hj,Qr hj];exact⟨_,rfl⟩
 ·rw[QJ hj,QJ hj];exact⟨_,rfl⟩
def LenV(K:Frag)(x:V)(H:Hp)(n:Nat):Prop:=
 match x with
 |.str y=>y.length<=Ug/\n=y.length
 |.byt y=>y.size<=Ug/\n=y.size
 |.ref p=>(∃xs,SqL K H p xs/\n=xs.length) ∨ ∃xs,SqT K H p xs/\n=xs.length
 |_=>False
theorem Ox:ZI X (.builtin "len") (λxs H Q=>∃x n,xs=[x]/\LenV X.K x H n/\Q (.int n) H):=by
 intro pins s σ H xs us Q I r h;obtain⟨x,n,rfl,e,q⟩:=h;obtain⟨u,rfl,rx⟩:=Rv r;have hl:=V8;have hs:Ug=16777216:=sizeLine_eq;cases x with
 |str y=>obtain⟨t,rfl⟩:=rx;obtain⟨hy,e'⟩:y.length<=Ug/\n=y.length:=e;subst e';exact len_str (by omega) ⟨.int _,H,I.tok _,⟨_,rfl⟩,q⟩
 |byt y=>obtain⟨t,rfl⟩:=rx;obtain⟨hy,e'⟩:y.size<=Ug/\n=y.size:=e;subst e';exact PySem.W.len_bytes (by omega) ⟨.int _,H,I.tok _,⟨_,rfl⟩,q⟩
 |ref p=>
  cases rx;have e':(∃xs,SqL X.K H p xs/\n=xs.length) ∨ ∃xs,SqT X.K H p xs/\n=xs.length:=e;rcases e' with ⟨xs,hx,e'⟩|⟨xs,hx,e'⟩
  ·subst e';obtain⟨its,r',pl,hz⟩:=I.list hx;have hlen:=r'.length;exact Calls.call_len_list pl.isList (by simp only[QE];omega) ⟨.int xs.length,H,I.tok _,⟨_,by simp only[QE];rw[hlen]⟩,q⟩
  ·subst e';obtain⟨its,r',pl,hz⟩:=I.tuple hx;have hlen:=r'.length;exact len_tuple pl (by simp only[QE];omega) ⟨.int xs.length,H,I.tok _,⟨_,by simp only[QE];rw[hlen]⟩,q⟩
 |_=>exact(show False from e).elim
end
structure Room(k:Nat)(A:Around):Prop where
 hd:A.handled=none
 dp:A.depth+3*k+5<recursionLimit
 un:A.units+16*k+200<cLine
 gd:A.guards=some []
theorem Room.mono{j k:Nat}{A:Around}(r:Room k A)(h:j<=k):Room j A:=⟨r.hd,by have:=r.dp;omega,by have:=r.un;omega,r.gd⟩
theorem Room.deeper{k:Nat}{A:Around}(r:Room (k+1) A)(env:Env):Room k (A.deeper env):=
 ⟨r.hd,by have:=r.dp;show A.depth+1+3*k+5<_;omega,by have:=r.un;show A.units+3+16*k+200<_;omega,r.gd⟩
theorem Room.depth{k:Nat}{A:Around}(r:Room k A):A.depth<recursionLimit:=by have:=r.dp;omega
theorem Room.units{k:Nat}{A:Around}(r:Room k A):A.units+64<cLine:=by have:=r.un;omega
def tNil:TA:=λ_ H Q=>Q [] H
def NC(ta:TE)(tr:TA):TA:=λσ H Q=>ta σ H λx H1=>tr σ H1 λxs H2=>Q (x::xs) H2
section
variable{X:Cx}{e:Uf}{es:List Uf}{te:TE}{t:TA}{pos:Pos}
theorem Yt:PA X [] tNil:=λ_ _ _ _ H Q I h=>Calls.spliced_nil ⟨[],H,I,.nil,h⟩
theorem Z0(ha:PE X e te)(hr:PA X es t)(hs:Ui (e::es) X.env=(false,eval e X.env)::Ui es X.env:=by rfl):PA X (e::es) (NC te t):=by intro pos pins s σ H Q I h;rw[hs];show Uh _ _ (spliced ((false,eval e X.env)::backTo pos (Ui es X.env))) _ _ s;refine Calls.spliced_cons (thn (ha pins s σ H _ I h) λu s1 ⟨x,H1,I1,r1,q1⟩=>?_);exact thn (hr pos pins s1 σ H1 _ I1 q1) λus s2 ⟨xs,H2,I2,r2,q2⟩=>⟨x::xs,H2,I2,.cons r1 r2,q2⟩
def tTup(t:TA):TE:=λσ H Q=>t σ H λxs H1=>xs.length<=Ug/\∀p,H1 p=none->Q (.ref p) (upd H1 p (.tup xs))
def tLst(t:TA):TE:=λσ H Q=>t σ H λxs H1=>xs.length<=Ug/\∀p,H1 p=none->Q (.ref p) (upd H1 p (.lst xs))
theorem LY{x1}(h:PA X es t):PE X (.Tuple es x1 pos) (tTup t):=by intro pins s σ H Q I hq;refine wpAny_Tuple_spliced (thn (h pos pins s σ H _ I hq) λus s1 ⟨xs,H1,I1,r,z,q⟩=>⟨by rw[←r.length];exact z,?_⟩);have hf:H1 s1.heap.objs.size=none:=I1.hok.fresh (Qm _);refine⟨.ref s1.heap.objs.size,upd H1 s1.heap.objs.size (.tup xs),I1.laid (t':=s1.toks) (λb u e=>Qi _ e) (Qm _) ?_,rfl,q _ hf⟩;exact⟨z,us,r,⟨_,Qv _ rfl,rfl,_,rfl⟩⟩
theorem RI(h:PA X es t):PE X (.List es pos) (tLst t):=by intro pins s σ H Q I hq;refine wpAny_List_spliced (thn (h pos pins s σ H _ I hq) λus s1 ⟨xs,H1,I1,r,z,q⟩=>⟨by rw[←r.length];exact z,?_⟩);have hf:H1 s1.heap.objs.size=none:=I1.hok.fresh (Qm _);refine⟨.ref s1.heap.objs.size,upd H1 s1.heap.objs.size (.lst xs),I1.laid (t':=s1.toks) (λb u e=>Qi _ e) (Qm _) ?_,rfl,q _ hf⟩;exact⟨z,us,0,r,Qv _ rfl⟩
end
abbrev Sp:=List V->Hp->VK->XK->Prop
abbrev CXT:=List Env->Hp->Ub->XK->Ua->Ub->Prop
structure Env0(P:Uc)(w:World)(K:Frag)(mg:Str->Option Ua)(base:Heap)(A:Around)(outer:List Env)(s:Ub)(H:Hp):Prop where
 frames:A.frames=some outer
 mod:Mod K mg base
 bs:∀b o,base.get? b=some o->s.heap.get? b=some o/\H b=none
 bsz:base.objs.size<=s.heap.objs.size
 funs:s.heap.FunFrames base outer
 frf:∀b∈frs outer,H b=none
 hok:HOk P w H s.heap
 bare:AllBare s.gens
def CE(outer:List Env)(P:Uc)(w:World)(H:Hp)(s:Ub)(Q:VK)(u:Ua)(s':Ub):Prop:=
 ∃v H',s'.os=s.os/\AllBare s'.gens/\Un (frs outer) [] H H' s.heap s'.heap/\HOk P w H' s'.heap/\RelV v u/\Q v H'
def CR(CX:CXT)(outer:List Env)(P:Uc)(w:World)(H:Hp)(s:Ub)(Q:VK)(E:XK)(r:Result)(s':Ub):Prop:=
 match r with
 |.ok (.ret u)=>CE outer P w H s Q u s'
 |.ok _=>False
 |.error e=>CX outer H s E e s'
structure FnOk(P:Uc)(w:World)(K:Frag)(mg:Str->Option Ua)(base:Heap)(CX:CXT)(k:Nat)(f:Ud)(fd:Ue)(ps:List Str)(sp:Sp):Prop where
 len:∀vs H Q E,sp vs H Q E->vs.length=ps.length
 run:∀(A:Around)(outer:List Env)(s:Ub)(H:Hp)(args:Args)(us:List Ua)(vs:List V)(Q:VK)(E:XK),Room k A->Env0 P w K mg base A outer s H->BindsTo s fd args (ps.zip us)->Vals vs us->sp vs H Q E ->
  codeAny (model P w) A (.call (.ref f) args) (CR CX outer P w H s Q E) s
section
variable{X:Cx}{pins:List (Ud×Obj)}{σ:St}{H:Hp}{s s':Ub}
theorem Inv.env0(I:Inv X pins σ H s):Env0 X.prog X.w X.K X.mg X.base X.A X.stack s H:=
 ⟨I.ok.frames,I.ok.mod,I.bs,QN I.ok.bsz I.sz,I.stack,I.stkFree,I.hok,I.bare⟩
theorem Inv.after{Q:VK}{u:Ua}(I:Inv X pins σ H s)(h:CE X.stack X.prog X.w H s Q u s'):EP X pins σ Q u s':=by obtain⟨v,H',os,bare,un,hok,r,q⟩:=h;obtain⟨hh,g,d,t,os'⟩:=s';obtain rfl:os'=s.os:=os;exact⟨v,H',I.call (h':=hh) (g':=g) (d':=d) (t':=t) (ch:=[]) un hok bare (λb z=>absurd z (by simp)),r,q⟩
end
def NB(sp:Sp)(dvs:List V)(E:XK)(t:TA):TE:=λσ H Q=>t σ H λvs H1=>sp (vs++dvs) H1 Q E
def XF(K:Frag)(fd:Ue)(ps:List Str)(ds:List Ua):Prop:=
 ∀(s:Ub)(us:List Ua),K.In s.heap->(us++ds).length=ps.length->BindsTo s fd ⟨us,[]⟩ (ps.zip (us++ds))
theorem XF.all{K:Frag}{fd:Ue}{ps:List Str}(h:∀us:List Ua,us.length=ps.length->bindArgs fd ⟨us,[]⟩=pure (ps.zip us)):XF K fd ps []:=λs us _ hl=>by rw[Q5]at hl⊢;exact .of_eq (h us hl)
def T6(CX:CXT)(X:Cx)(E:XK):Prop:=∀(pins:List (Ud×Obj))(σ:St)(H:Hp)(s:Ub)(e:Ua)(s':Ub),Inv X pins σ H s->CX X.stack H s E e s'->X.xe e s'
section
variable{X:Cx}{CX:CXT}{k:Nat}{f C:Ud}{fd:Ue}{ps:List Str}{sp:Sp}{dvs:List V}{ds:List Ua}{E:XK}{x m:Str}{p pos apos:Pos}{e o:Uf}{es:List Uf}{ta:TE}{t:TA}
theorem LX{pins:List (Ud×Obj)}{σ:St}{H:Hp}{s:Ub}{Q:VK}{us:List Ua}{vs:List V}(F:FnOk X.prog X.w X.K X.mg X.base CX k f fd ps sp)(hr:Room k X.A)(hb:XF X.K fd ps ds)(hd:Vals dvs ds)(hx:T6 CX X E)
  (I:Inv X pins σ H s) (r:Vals vs us) (h:sp (vs++dvs) H Q E):Uh (model X.prog X.w) X.A (call (.ref f) us) (EP X pins σ Q) X.xe s:=by
 have r2:Vals (vs++dvs) (us++ds):=r.append hd;have hl:(us++ds).length=ps.length:=by rw[←r2.length];exact F.len _ _ _ _ h
 refine wpAny_call (codeAny_mono (F.run X.A X.stack s H ⟨us,[]⟩ (us++ds) (vs++dvs) Q E hr I.env0 (hb s us I.kIn hl) r2 h) λr s' hq=>?_);cases r with
 |error e=>exact hx pins σ H s e s' I hq
 |ok fl=>
  cases fl with
  |ret u=>exact I.after hq
  |next=>exact False.elim hq
  |brk=>exact False.elim hq
  |cont=>exact False.elim hq
theorem PF(F:FnOk X.prog X.w X.K X.mg X.base CX k f fd ps sp)(hr:Room k X.A)(hg:Gl X x)(hm:X.mg x=some (.ref f))(hk:PySem.W.keepIn X.K (.ref f)=true)(hb:XF X.K fd ps ds)(hd:Vals dvs ds)(hx:T6 CX X E)
  (ha:PA X (e::es) t) (hdb:(x==("__debug__" : Str))=false:=by decide) (he:Ui (e::es) X.env=(false,eval e X.env)::Ui es X.env:=by rfl) (hpl:(backTo pos (Ui es X.env)).any (·.1)=false:=by rfl) :
  PE X (.Call (.Name x p) (e::es) [] pos) (NB sp dvs E t):=by
 intro pins s σ H Q I h;refine wpAny_Call_Name_kw (Px I hg hm ?_ hdb);refine PySem.W.callWith_K (h₀:=X.base) I.ok.mod.kin hk (thn (ha pos pins s σ H _ I h) λus s1 ⟨vs,H1,I1,r,q⟩=>⟨I1.kIn,?_⟩) he hpl;exact LX F hr hb hd hx I1 r q
end
structure Vz(N P:List Str)(sc:Scope):Prop where
 kind:sc.kind=.function
 co:sc.isCoroutine=false
 gen:sc.isGenerator=false
 nd:N.Nodup
 pre:N.take P.length=P
 par:∀x∈P,sc.names.lookup x=some .local∨sc.names.lookup x=some .cell
 nofree:∀y∈sc.names,y.2≠.free
theorem OR{kindOf:Str->Option NameKind}{x:Str}:∀{binds:List (Str×Ua)}{m:Str->Option Ua},(∀v,(x,v)∉binds)->bindL kindOf binds m x=m x
 |[],_,_=>rfl
 |(n,v)::r,m,h=>by
  unfold bindL;rw[OR λw hw=>h w (QF _ hw)];split
  ·have:x≠n:=by rintro rfl;exact h v Qq
   simp[this]
  ·rfl
theorem OQ{kindOf:Str->Option NameKind}{x:Str}:∀{binds:List (Str×Ua)}{m:Str->Option Ua},(∀v,(x,v)∉binds)->bindC kindOf binds m x=m x
 |[],_,_=>rfl
 |(n,v)::r,m,h=>by
  unfold bindC;rw[OQ λw hw=>h w (QF _ hw)];split
  ·rfl
  ·have:x≠n:=by rintro rfl;exact h v Qq
   simp[this]
theorem OP{kindOf:Str->Option NameKind}{x:Str}{v:Ua}:∀{P:List Str}{vs:List Ua}{i:Nat}{m:Str->Option Ua},P.Nodup->P[i]?=some x->vs[i]?=some v->kindOf x=some .local ->
  bindL kindOf (P.zip vs) m x=some v
 |[],_,_,_,_,h,_,_=>by simp at h
 |_::_,[],_,_,_,_,h,_=>by simp at h
 |p::P,w::vs,0,m,nd,h1,h2,hk=>by simp at h1 h2;subst h1;subst h2;show bindL kindOf ((p,w)::P.zip vs) m p=_;unfold bindL;rw[OR λv hv=>(JZ.mp nd).1 (List.of_mem_zip hv).1,Qr hk];simp
 |p::P,w::vs,i+1,m,nd,h1,h2,hk=>by show bindL kindOf ((p,w)::P.zip vs) m x=_;unfold bindL;exact OP (i:=i) (List.nodup_cons.mp nd).2 (by simpa using h1) (by simpa using h2) hk
theorem OO{kindOf:Str->Option NameKind}{x:Str}{v:Ua}:∀{P:List Str}{vs:List Ua}{i:Nat}{m:Str->Option Ua},P.Nodup->P[i]?=some x->vs[i]?=some v->kindOf x≠some .local ->
  bindC kindOf (P.zip vs) m x=some v
 |[],_,_,_,_,h,_,_=>by simp at h
 |_::_,[],_,_,_,_,h,_=>by simp at h
 |p::P,w::vs,0,m,nd,h1,h2,hk=>by simp at h1 h2;subst h1;subst h2;show bindC kindOf ((p,w)::P.zip vs) m p=_;unfold bindC;rw[OQ λv hv=>(JZ.mp nd).1 (List.of_mem_zip hv).1,QJ hk];simp
 |p::P,w::vs,i+1,m,nd,h1,h2,hk=>by show bindC kindOf ((p,w)::P.zip vs) m x=_;unfold bindC;exact OO (i:=i) (List.nodup_cons.mp nd).2 (by simpa using h1) (by simpa using h2) hk
def Yn(N:List Str)(vs:List V):St:=vs.map some++Ul (N.length-vs.length) none
def ZO(CX:CXT)(P:Uc)(w:World)(K:Frag)(mg:Str->Option Ua)(base:Heap)(N:List Str)(qual:Str)(scope:Scope)(f:Ud)(cd:Ua)(A:Around)(outer:List Env)(s:Ub)(H:Hp)(E:XK):Cx where
 prog:=P
 w:=w
 K:=K
 mg:=mg
 base:=base
 A:=A.deeper (envOfC qual scope s.heap.objs.size f cd)
 N:=N
 s₀:=s
 H₀:=H
 env:=envOfC qual scope s.heap.objs.size f cd
 outer:=outer
 stack:=envOfC qual scope s.heap.objs.size f cd::outer
 ex:=[]
 calm:=true
 fn:=λ_=>true
 pn:=[]
 xe:=λe s'=>Uh (model P w) (A.deeper (envOfC qual scope s.heap.objs.size f cd)) (leaving (envOfC qual scope s.heap.objs.size f cd) e) (λ_ s''=>CX outer H s E e s'') (λe' s''=>CX outer H s E e' s'') s'
theorem Of{sc:Scope}{n:Nat}{x:Str}(h:sc.names.lookup x=some .cell):∃c,(cellsFrom n sc.names []).lookup x=some c:=by have q:=PySem.W.cellsFrom_some sc.names n [] (.inl h);exact Option.isSome_iff_exists.mp q
theorem DN{CX:CXT}{P:Uc}{w:World}{K:Frag}{mg:Str->Option Ua}{base:Heap}{N ps:List Str}{qual:Str}{scope:Scope}{f:Ud}{cd:Ua}{A:Around}{outer:List Env}{s s1:Ub}{H:Hp}{E:XK}{us:List Ua}{vs:List V}
  (S:Vz N ps scope) (hd:A.handled=none) (e0:Env0 P w K mg base A outer s H) (hl:vs.length=ps.length) (r:Vals vs us)
  (x:InCallC s s.heap.objs.size (bindL (envOfC qual scope s.heap.objs.size f cd).kindOf (ps.zip us) λ_=>none) (cellsFrom (s.heap.objs.size+1) scope.names []) (bindC (envOfC qual scope s.heap.objs.size f cd).kindOf (ps.zip us) λ_=>none) s1) :
  Inv (ZO CX P w K mg base N qual scope f cd A outer s H E) [] (Yn N vs) H s1:=by
 have hpl:ps.length<=N.length:=by have:=JG List.length S.pre;rw[Jg]at this;omega
 obtain⟨h1,tk,rfl,hk⟩:=x.done;have noA:∀b:Ud,b∉(ZO CX P w K mg base N qual scope f cd A outer s H E).ex:=λb z=>absurd (show b∈([]:List Ud)from z) (by simp)
 refine⟨⟨e0.mod,S.kind,rfl,rfl,Qm _,λy z c h1 h2=>?_,λy hy=>?_,λy c _ h=>?_,λ_=>hd,Around.frames_deeper e0.frames,.inr ⟨rfl,rfl⟩,λb z=>absurd z (noA b),e0.bs,e0.bsz,λb _ _=>noA b,λb z=>absurd z (noA b),e0.funs,e0.frf⟩,
  rfl,e0.bare,Un.kept hk,⟨_,x.toInCall.ns,λi y v h1 h2 h3=>?_⟩,λy c h=>⟨_,x.cell y c h⟩,e0.hok.fresh (Nat.le_refl _),λy c h=>?_,λp hp=>absurd (show p∈([]:List (Ud×Obj))from hp) (by simp),e0.hok.kept hk,?_⟩
 ·exact name_of_addr x.apart (JL h1) (JL h2)
 ·have hy:scope.names.lookup y=some .cell∨scope.names.lookup y=some .free:=hy;rcases hy with hy|hy
  ·exact Of hy
  ·exact absurd rfl (S.nofree _ (JL hy))
 ·exact Nat.le_of_lt (x.above y c (JL h))
 ·have hi:i<vs.length:=by
   unfold Yn at h2;by_cases hi:i<vs.length
   ·exact hi
   ·rw[List.getElem?_append_right (by simpa using hi)]at h2;rw[Qz]at h2;split at h2<;>cases h2
  have ha:vs[i]?=some v:=by
   unfold Yn at h2;rw[List.getElem?_append_left (by simpa using hi),List.getElem?_map]at h2;cases e:vs[i]? with
   |none=>rw[e]at h2;cases h2
   |some a=>rw[e]at h2;cases h2;rfl
  obtain⟨u,hu,rv⟩:=r.get ha;have hp:ps[i]?=some y:=by rw[←S.pre,JJ (by omega)];exact h1
  have ndP:ps.Nodup:=by rw[←S.pre];exact S.nd.sublist (List.take_sublist _ _)
  refine⟨u,rv,?_⟩;rcases S.par y (Qp hp)with k|k
  ·exact .inl ⟨k,OP ndP hp hu k⟩
  ·obtain⟨c,e⟩:=Of (n:=s.heap.objs.size+1) k;refine .inr ⟨.inl k,c,e,?_⟩;have q:=x.cell y c e;rw[OO ndP hp hu (by show scope.names.lookup y≠_;rw[k];decide)]at q;exact q
 ·exact e0.hok.fresh (Nat.le_of_lt (x.above y c (JL h)))
 ·unfold Yn;show _=N.length;rw[Qk,Qe,QR];omega
theorem NA{CX:CXT}{P:Uc}{w:World}{K:Frag}{mg:Str->Option Ua}{base:Heap}{k:Nat}{f:Ud}{name qual:Str}{params:Arguments}{body:List Stmt}{scope:Scope}{dV kV doc pm cdv ct oc:Ua}{an od:Option Ud}
  {osl:Array (Option Ua)} {N ps:List Str} {sp:Sp} (lk:K.lookup f=some ⟨oc,od,.func (PySem.W.fnOf name qual params body scope dV kV doc pm an cdv ct),osl⟩) (hcd:PySem.W.codeIn K cdv qual=true) (S:Vz N ps scope)
  (len:∀vs H Q E,sp vs H Q E->vs.length=ps.length)
  (hbody:∀(A:Around)(outer:List Env)(s:Ub)(H:Hp)(vs:List V)(Q:VK)(E:XK),Room k (A.deeper (envOfC qual scope s.heap.objs.size f cdv))->sp vs H Q E ->
   ∃t,PSs (ZO CX P w K mg base N qual scope f cdv A outer s H E) body t/\t {nx:=λ_ H'=>Q .non H',rt:=Q} (Yn N vs) H) :
  FnOk P w K mg base CX (k+1) f (PySem.W.fnOf name qual params body scope dV kV doc pm an cdv ct) ps sp:=by
 refine⟨len,λA outer s H args us vs Q E hr e0 hb r hsp=>?_⟩;have hl:=len _ _ _ _ hsp;have KX:K.In s.heap:=e0.mod.kin.keeps λb o e=>(e0.bs b o e).1;have lim:s.heap.NoLimit:=e0.mod.nolimit.keeps λb o e=>(e0.bs b o e).1
 have hkind:∀y∈ps.zip us,scope.names.lookup y.1=some .local∨(scope.names.lookup y.1=some .cell/\((cellsFrom (s.heap.objs.size+1) scope.names []).lookup y.1).isSome=true):=λ⟨n,v⟩ hy=>by
  rcases S.par n (List.of_mem_zip hy).1 with q|q
  ·exact .inl q
  ·exact .inr ⟨q,PySem.W.cellsFrom_some _ _ _ (.inl q)⟩
 refine codeAny_call_function hr.depth (KX _ _ lk) rfl S.co S.gen rfl (PySem.W.codeRec_of KX hcd) (hb _ _ _ _ ?_);refine wpAny_newFunctionEnv_cells S.kind hkind λenv he s1 x=>?_;subst he
 refine⟨lim.keeps x.toInCall.keep,codeAny_func ?_⟩;obtain⟨t,ht,hq⟩:=hbody A outer s H vs Q E (hr.deeper _) hsp;have I:Inv (ZO CX P w K mg base N qual scope f cdv A outer s H E) [] (Yn N vs) H s1:=DN S hr.hd e0 hl r x;refine Qy (ht [] s1 (Yn N vs) H _ I hq) (λfl s' hs=>?_) λe s' hs=>hs
 have fin:∀{σ':St}{H':Hp}{v:V}{u:Ua},Inv (ZO CX P w K mg base N qual scope f cdv A outer s H E) [] σ' H' s'->RelV v u->Q v H'->CE outer P w H s Q u s':=
  λ{σ' H' v u} J rv q=>⟨v,H',J.os,J.bare,J.base,J.hok,rv,q⟩
 cases fl with
 |ret u=>obtain⟨v,σ',H',J,rv,q⟩:=hs;exact fin J rv q
 |next=>obtain⟨σ',H',J,q⟩:=hs;exact fin (v:=V.non) (u:=Value.none) J rfl q
 |brk=>obtain⟨_,_,_,q⟩:=hs;exact False.elim q
 |cont=>obtain⟨_,_,_,q⟩:=hs;exact False.elim q
section
variable{X:Cx}{x:Str}{p pos:Pos}{e:Uf}{es:List Uf}{t:TA}{id T:String}{r:List V->Hp->VK->Prop}
def tCB(r:List V->Hp->VK->Prop)(t:TA):TE:=λσ H Q=>t σ H λvs H1=>r vs H1 Q
theorem VG(hc:ZI X (.builtin id) r)(hg:Gl X x)(hm:X.mg x=none)(hv:bootBuiltins x=some (.builtin id))(ha:PA X (e::es) t)(hn:x ≠ "__name__" :=by decide)(hdb:(x==("__debug__" : Str))=false:=by decide)
  (he:Ui (e::es) X.env=(false,eval e X.env)::Ui es X.env:=by rfl) (hpl:(backTo pos (Ui es X.env)).any (·.1)=false:=by rfl):PE X (.Call (.Name x p) (e::es) [] pos) (tCB r t):=by
 intro pins s σ H Q I h;refine wpAny_Call_Name_kw (XJ I hg hm hv ?_ hn hdb);exact PyProof.Rows.callWith_builtin1 (thn (ha pos pins s σ H _ I h) λus s1 ⟨vs,H1,I1,r1,q1⟩=>hc pins s1 σ H1 vs us Q I1 r1 q1) he hpl
theorem Ti(hc:ZI X (.type T) r)(hg:Gl X x)(hm:X.mg x=none)(hv:bootBuiltins x=some (.type T))(ha:PA X (e::es) t)(hn:x ≠ "__name__" :=by decide)(hdb:(x==("__debug__" : Str))=false:=by decide)
  (he:Ui (e::es) X.env=(false,eval e X.env)::Ui es X.env:=by rfl) (hpl:(backTo pos (Ui es X.env)).any (·.1)=false:=by rfl):PE X (.Call (.Name x p) (e::es) [] pos) (tCB r t):=by
 intro pins s σ H Q I h;refine wpAny_Call_Name_kw (XJ I hg hm hv ?_ hn hdb);exact Jo (thn (ha pos pins s σ H _ I h) λus s1 ⟨vs,H1,I1,r1,q1⟩=>hc pins s1 σ H1 vs us Q I1 r1 q1) he hpl
end
end L2
namespace HT
open PySem PyProof.Rows
section
variable{prog:Uc}{w:World}{A:Around}{E:Ua->Ub->Prop}{s:Ub}
def sIx(n d:Nat):Option Int->Nat
 |none=>d
 |some v=>if v<0 then(v+(n:Int)).toNat else min v.toNat n
end
end HT
namespace L2
open PySem PySem.Spec PyProof.Rows
abbrev TO:=St->Hp->(Option Int->Hp->Prop)->Prop
def PO(X:Cx)(e:Option Uf)(t:TO):Prop:=
 ∀(pins:List (Ud×Obj))(s:Ub)(σ:St)(H:Hp)(Q:Option Int->Hp->Prop),Inv X pins σ H s->t σ H Q ->
  Uh (model X.prog X.w) X.A (evalPart e X.env) (λu s'=>∃o H',Inv X pins σ H' s'/\IsPart u o/\Q o H') X.xe s
def GQ:TO:=λ_ H Q=>Q none H
def Nz(t:TE):TO:=λσ H Q=>t σ H λx H1=>∃i,x=.int i/\Q (some i) H1
section
variable{X:Cx}{e:Uf}{te:TE}{lo hi:Option Uf}{tl th:TO}{pos p2:Pos}
theorem GP:PO X none GQ:=by intro pins s σ H Q I h;rw[evalPart_none];exact Qj ⟨none,H,I,.none,h⟩
theorem GO(h:PE X e te):PO X (some e) (Nz te):=by
 intro pins s σ H Q I hw;rw[evalPart_some];refine thn (h pins s σ H _ I hw) λu s1 ⟨x,H1,I1,r1,q1⟩=>?_
 obtain⟨i,rfl,q⟩:=q1;obtain⟨t,rfl⟩:=r1;exact⟨some i,H1,I1,.int i t,q⟩
def SlR(X:Cx)(r:V->Option Int->Option Int->Hp->VK->Prop):Prop:=
 ∀(pins:List (Ud×Obj))(s:Ub)(σ:St)(H:Hp)(x:V)(v vl vu:Ua)(lo hi:Option Int)(sl:Ud)(Q:VK),Inv X pins σ H s->RelV x v->s.heap.IsSliceOf sl vl vu .none->IsPart vl lo->IsPart vu hi->r x lo hi H Q ->
  ∃T id,typeLookup (.type T) "__getitem__" = pure (some (.builtin id))/\s.TypeIs v T/\Uh (model X.prog X.w) X.A (getItem v (.ref sl)) (EP X pins σ Q) X.xe s
theorem SlR.or{r r':V->Option Int->Option Int->Hp->VK->Prop}(h:SlR X r)(h':SlR X r'):SlR X (λx lo hi H Q=>r x lo hi H Q∨r' x lo hi H Q):=by
 intro pins s σ H x v vl vu lo hi sl Q I rx hs pl pu q;rcases q with q|q
 ·exact h pins s σ H x v vl vu lo hi sl Q I rx hs pl pu q
 ·exact h' pins s σ H x v vl vu lo hi sl Q I rx hs pl pu q
def tSl(r:V->Option Int->Option Int->Hp->VK->Prop)(te:TE)(tl th:TO):TE:=λσ H Q=>te σ H λx H1=>tl σ H1 λl H2=>th σ H2 λu H3=>r x l u H3 Q
theorem Ez{r:V->Option Int->Option Int->Hp->VK->Prop}(hr:SlR X r)(he:PE X e te)(hl:PO X lo tl)(hu:PO X hi th):PE X (.Subscript e (.Slice lo hi none p2) pos) (tSl r te tl th):=by
 intro pins s σ H Q I h;refine Subscript_ (thn (he pins s σ H _ I h) λv s1 ⟨x,H1,I1,r1,q1⟩=>?_);refine wpAny_Slice (thn (hl pins s1 σ H1 _ I1 q1) λvl s2 ⟨l,H2,I2,pl,q2⟩=>thn (hu pins s2 σ H2 _ I2 q2) λvu s3 ⟨u,H3,I3,pu,q3⟩=>?_);rw[evalPart_none];refine Qj ?_;have I4:Inv X pins σ H3 {s3 with heap:=s3.heap.push {cls:=.type "slice", data:=.fields #[vl,vu,.none]}}:=I3.kept (t':=s3.toks) λb ob q=>Qi _ q
 obtain⟨T,id,hT,ht,hg⟩:=hr pins {s3 with heap:=s3.heap.push {cls:=.type "slice", data:=.fields #[vl,vu,.none]}} σ H3 x v vl vu l u s3.heap.objs.size Q I4 r1 (Heap.IsSliceOf.new ..) pl pu q3;show Uh (model X.prog X.w) X.A (subscriptTail e (.Slice lo hi none p2) v (.ref s3.heap.objs.size)) (EP X pins σ Q) X.xe {s3 with heap:=s3.heap.push {cls:=.type "slice", data:=.fields #[vl,vu,.none]}};exact tail_any (ops:=[.ref s3.heap.objs.size,v]) ht hT hg (by with_unfolding_all rfl)
def Z9(xs:List V)(lo hi:Option Int):List V:=(xs.drop (HT.sIx xs.length 0 lo)).take (HT.sIx xs.length xs.length hi-HT.sIx xs.length 0 lo)
theorem Ch(xs:List V)(lo hi:Option Int):(Z9 xs lo hi).length<=xs.length:=by unfold Z9;rw[Jg,List.length_drop];omega
end
def ixN(n:Nat)(i:Int):Option Nat:=if 0<=i then(if i<n then some i.toNat else none)else if -(n:Int)<=i then some (i+n).toNat else none
def atI{α:Type}(xs:List α)(i:Int):Option α:=(ixN xs.length i).bind λj=>xs[j]?
theorem PD{n:Nat}{i:Int}{j:Nat}(h:ixN n i=some j):seqIndex? i n=some j/\j<n /\ -(n:Int)<=i/\i<n:=by
 unfold ixN at h;by_cases h0:0<=i
 ·rw[Qr h0]at h;by_cases h1:i<n
  ·rw[Qr h1]at h;have e:i.toNat=j:=Qo h;exact⟨by rw[seqIndex_of h0 h1,e],by omega,by omega,h1⟩
  ·rw[QJ h1]at h;cases h
 ·rw[QJ h0]at h;by_cases h1 : -(n:Int)<=i
  ·rw[Qr h1]at h;have e:(i+n).toNat=j:=Qo h;exact⟨by rw[seqIndex_neg (by omega) h1,e],by omega,h1,by omega⟩
  ·rw[QJ h1]at h;cases h
theorem Sb{α:Type}{xs:List α}{i:Int}{v:α}(h:atI xs i=some v):∃j,seqIndex? i xs.length=some j/\xs[j]?=some v/\j<xs.length /\ -(xs.length:Int)<=i/\i<xs.length:=by
 unfold atI at h;cases e:ixN xs.length i with
 |none=>rw[e]at h;cases h
 |some j=>rw[e]at h;obtain⟨h1,h2,h3,h4⟩:=PD e;exact⟨j,h1,h,h2,h3,h4⟩
theorem Ku{α:Type}{xs:List α}{j:Nat}{v:α}(h:xs[j]?=some v):atI xs (j:Int)=some v:=by
 have hj:j<xs.length:=(Qf.mp h).1;have e:ixN xs.length (j:Int)=some j:=by unfold ixN;rw[if_pos (by omega),if_pos (by omega)];simp
 unfold atI;rw[e];exact h
def Sa(b:Uf):Prop:=∀o i,subscripted b false o i=operate [o,i] (getItem o i)
def IxR(X:Cx)(r:R2):Prop:=
 ∀(value slice:Uf)(pins:List (Ud×Obj))(s:Ub)(σ:St)(H:Hp)(x y:V)(v u:Ua)(Q:VK),Inv X pins σ H s->RelV x v->RelV y u->r x y H Q ->
  subscripted slice false v u=operate [v,u] (getItem v u)->Uh (model X.prog X.w) X.A (subscriptTail value slice v u) (EP X pins σ Q) X.xe s
def MtR(X:Cx)(id:String)(r:V->List V->Hp->VK->Prop):Prop:=
 ∀(pins:List (Ud×Obj))(s:Ub)(σ:St)(H:Hp)(x:V)(xs:List V)(v:Ua)(us:List Ua)(Q:VK),Inv X pins σ H s->RelV x v->Vals xs us->r x xs H Q ->
  Uh (model X.prog X.w) X.A (call (.builtin id) (v::us)) (EP X pins σ Q) X.xe s
section
variable{X:Cx}{a b:Uf}{ta tb:TE}{pos:Pos}
theorem IxR.or{r r':R2}(h:IxR X r)(h':IxR X r'):IxR X (λx y H Q=>r x y H Q∨r' x y H Q):=by
 intro value slice pins s σ H x y v u Q I rx ry q hs;rcases q with q|q
 ·exact h value slice pins s σ H x y v u Q I rx ry q hs
 ·exact h' value slice pins s σ H x y v u Q I rx ry q hs
theorem Ru{r:R2}(hr:IxR X r)(ha:PE X a ta)(hb:PE X b tb)(hs:Sa b):PE X (.Subscript a b pos) (tOp r ta tb):=by intro pins s σ H Q I h;exact Subscript_ (WG ha hb I h λv u s2 x y H2 I2 rx ry q=>hr a b pins s2 σ H2 x y v u Q I2 rx ry q (hs _ _))
def rIxL(K:Frag):R2:=λx y H Q=>∃p xs i v,x=.ref p/\y=.int i/\SqL K H p xs/\atI xs i=some v/\Q v H
def rIxT(K:Frag):R2:=λx y H Q=>∃p xs i v,x=.ref p/\y=.int i/\SqT K H p xs/\atI xs i=some v/\Q v H
def rIxS:R2:=λx y H Q=>∃z i c,x=.str z/\y=.int i/\z.length<=Ug/\atI z.cps.toList i=some c/\Q (.str ⟨#[c]⟩) H
theorem GN:IxR X (rIxL X.K):=by
 intro value slice pins s σ H x y v u Q I rx ry h hs;obtain⟨p,xs,i,z,rfl,rfl,hq,he,q⟩:=h;cases rx;obtain⟨t,rfl⟩:=ry;obtain⟨its,r,pl,hz⟩:=I.list hq;obtain⟨j,h1,h2,h3,h4,h5⟩:=Sb he;obtain⟨w,ew,rw'⟩:=r.get h2;have hl:=r.length;have hn:=V8;have fin:EP X pins σ Q w s:=⟨z,H,I,rw',q⟩
 by_cases h0:0<=i
 ·have hj:i.toNat=j:=by
   rw[seqIndex_of h0 h5]at h1;exact Qo h1
  exact item_listR pl.isList h0 (by omega) (by rw[hj];simpa using ew) fin hs
 ·have hj:(i+(its.toArray.size:Int)).toNat=j:=by
   rw[seqIndex_neg (by omega) h4]at h1;rw[QE,←hl];exact Qo h1
  exact subscriptTail_builtinR (x:=w) pl.isList.typeIs slot_list_getitem.lookup
   (wpAny_getItem_list_neg (Q:=λr s'=>r=w/\EP X pins σ Q r s') pl.isList (by omega) (by rw[List.size_toArray]<;>omega) (by omega) (by rw[hj];simpa using ew) ⟨rfl,fin⟩) hs
theorem LW:IxR X (rIxT X.K):=by
 intro value slice pins s σ H x y v u Q I rx ry h hs;obtain⟨p,xs,i,z,rfl,rfl,hq,he,q⟩:=h;cases rx;obtain⟨t,rfl⟩:=ry;obtain⟨its,r,pl,hz⟩:=I.tuple hq;obtain⟨j,h1,h2,h3,h4,h5⟩:=Sb he;obtain⟨w,ew,rw'⟩:=r.get h2;have hl:=r.length;have hn:=V8;have fin:EP X pins σ Q w s:=⟨z,H,I,rw',q⟩
 exact subscriptTail_builtinR (x:=w) pl.typeIs slot_tuple_getitem.lookup
  (getItem_tuple (j:=j) (Q:=λr s'=>r=w/\EP X pins σ Q r s') pl (by omega) (by omega) (by rw[List.size_toArray,←hl];exact h1) (by simpa using ew) ⟨rfl,fin⟩) hs
theorem LV:IxR X rIxS:=by
 intro value slice pins s σ H x y v u Q I rx ry h hs;obtain⟨z,i,c,rfl,rfl,hz,he,q⟩:=h;obtain⟨t,rfl⟩:=rx;obtain⟨t',rfl⟩:=ry;obtain⟨j,h1,h2,h3,h4,h5⟩:=Sb he;have hl:z.cps.toList.length=z.length:=by simp[Str.length]
 rw[hl]at h1 h4 h5;have hn:=V8;exact tail_any (typeIs_str s z t) slot_str_getitem.lookup (getItem_str (c:=c) (by have e1:decide (i < -(2 ^ 63:Int))=false:=Qu (by omega);have e2:decide (i ≥ 2 ^ 63)=false:=Qu (by omega);rw[e1,e2,Bool.or_false]) (by rw[h1];simpa using h2) ⟨.str ⟨#[c]⟩,H,I.tok _,⟨_,rfl⟩,q⟩) hs
def rIx(K:Frag):R2:=λx y H Q=>rIxL K x y H Q∨rIxT K x y H Q∨rIxS x y H Q
theorem RH:IxR X (rIx X.K):=GN.or (LW.or LV)
theorem CM(lo hi:Option Int)(n:Nat):(sliceBounds lo hi none n).1=((HT.sIx n 0 lo:Nat):Int)/\(sliceBounds lo hi none n).2.1=((HT.sIx n n hi:Nat):Int)/\(sliceBounds lo hi none n).2.2=1:=by
 refine⟨?_,?_,rfl⟩
 ·cases lo with
  |none=>simp[sliceBounds,HT.sIx]
  |some i=>
   simp only[sliceBounds,HT.sIx,Option.getD_none,show(1:Int) > 0 by decide,if_true];by_cases h:i<0
   ·simp only[h,if_true]<;>omega
   ·simp only[h,if_false]<;>omega
 ·cases hi with
  |none=>simp[sliceBounds,HT.sIx]
  |some i=>
   simp only[sliceBounds,HT.sIx,Option.getD_none,show(1:Int) > 0 by decide,if_true];by_cases h:i<0
   ·simp only[h,if_true]<;>omega
   ·simp only[h,if_false]<;>omega
theorem CZ(its:List Ua)(lo hi:Option Int):slicePick its.toArray lo hi none=((its.drop (HT.sIx its.length 0 lo)).take (HT.sIx its.length its.length hi-HT.sIx its.length 0 lo)).toArray:=by obtain⟨h1,h2,h3⟩:=CM lo hi its.toArray.size;unfold slicePick;rw[h1,h2,h3];simp only[sliceRange_one,pick_run,QE]<;>rfl
def rSlL(K:Frag):V->Option Int->Option Int->Hp->VK->Prop:=λx lo hi H Q=>∃a xs,x=.ref a/\SqL K H a xs/\∀p,H p=none->Q (.ref p) (upd H p (.lst (Z9 xs lo hi)))
theorem GM:SlR X (rSlL X.K):=by intro pins s σ H x v vl vu lo hi sl Q I rx hs pl pu h;obtain⟨a,xs,rfl,hx,q⟩:=h;cases rx;obtain⟨its,r,ht,hz⟩:=I.list hx;have hlen:=r.length;refine⟨"list", _,slot_list_getitem.lookup,ht.isList.typeIs,?_⟩;refine wpAny_getItem_list_slice ht.isList hs pl pu .none (by simp) ?_ (by rw[List.size_toArray]<;>omega);rw[CZ,←hlen];refine⟨.ref s.heap.objs.size,_,I.laid (t':=s.toks) (o:=.lst (Z9 xs lo hi)) (λb ob q=>Qi _ q) (Qm _) ?_,rfl,q _ (I.hok.fresh (Qm _))⟩;exact⟨QN (Ch xs lo hi) hz,_,0,(r.drop (HT.sIx xs.length 0 lo)).take (HT.sIx xs.length xs.length hi-HT.sIx xs.length 0 lo),Qv _ rfl⟩
theorem Nm:ZI X (.type "list") (λxs H Q=>∃p ys,xs=[.ref p]/\(SqL X.K H p ys∨SqT X.K H p ys)/\∀l,H l=none->Q (.ref l) (upd H l (.lst ys))):=by
 intro pins s σ H xs us Q I r h;obtain⟨p,ys,rfl,hq,q⟩:=h;obtain⟨u,rfl,rx⟩:=Rv r;cases rx
 have fin:∀(its:List Ua),Vals ys its->ys.length<=Ug->∀(h':Heap)(c':Nat),(∀b o',s.heap.get? b=some o'->h'.get? b=some o') ->
   h'.get? s.heap.objs.size=some {cls:=.type "list", dict:=none,data:=.seq its.toArray c',slots:=#[]}->EP X pins σ Q (.ref s.heap.objs.size) {s with heap:=h'}:=λits r' hz h' c' kp e=>
  ⟨.ref s.heap.objs.size,_,I.laid (t':=s.toks) kp (Qm _) (show Kz X.prog X.w _ h' _ (.lst ys)from⟨hz,its,c',r',e⟩),rfl,q _ (I.hok.fresh (Qm _))⟩
 rcases hq with hq|hq
 ·obtain⟨its,r',pl,hz⟩:=I.list hq;have hlen:=r'.length;obtain⟨o,ho,hc,n,hd⟩:=pl.isList;exact call_list_seq p (.inl rfl) ho hc hd (λh' c' kp e=>fin its r' hz h' c' kp e) (by simp only[QE]<;>omega)
 ·obtain⟨its,r',pl,hz⟩:=I.tuple hq;have hlen:=r'.length;obtain⟨o,ho,hc,n,hd⟩:=pl;exact call_list_seq p (.inr rfl) ho hc hd (λh' c' kp e=>fin its r' hz h' c' kp e) (by simp only[QE]<;>omega)
def tyV(K:Frag)(T:String)(x:V)(H:Hp):Prop:=match x with
 |.str _=>T = "str"
 |.int _=>T = "int"
 |.ref p=>(T = "list" /\ ∃xs,SqL K H p xs)∨(T = "tuple" /\ ∃o,K.lookup p=some o/\o.cls=.type "tuple" /\ o.dict=none) ∨
   (T = "dict" /\ ((∃kvs,H p=some (.dK kvs)) ∨ ∃kvs,H p=some (.dT kvs)))∨(T = "set" /\ ∃S n,H p=some (.set S n))
 |_=>False
theorem RG{pins:List (Ud×Obj)}{σ:St}{H:Hp}{s:Ub}{T:String}{x:V}{v:Ua}(I:Inv X pins σ H s)(r:RelV x v)(ty:tyV X.K T x H) :
  s.TypeIs v T/\∀a,v=.ref a->∃ob,s.heap.get? a=some ob/\ob.dict=none:=by
 cases x with
 |str z=>obtain⟨t,rfl⟩:=r;cases (show T = "str" from ty);exact⟨typeIs_str s z t,λ_ e=>nomatch e⟩
 |int i=>obtain⟨t,rfl⟩:=r;cases (show T = "int" from ty);exact⟨typeIs_int s i t,λ_ e=>nomatch e⟩
 |ref p=>
  cases r;rcases ty with ⟨rfl,xs,hq⟩|⟨rfl,o,hk,hc,hd⟩|⟨rfl,hk⟩|⟨rfl,S,n,hk⟩
  ·obtain⟨its,_,pl,_⟩:=I.list hq;refine⟨pl.isList.typeIs,λa e=>?_⟩;cases e;obtain⟨o,n,e,c,hd,_⟩:=pl;exact⟨o,e,hd⟩
  ·refine⟨⟨o,I.kIn p o hk,hc⟩,λa e=>?_⟩;cases e;exact⟨o,I.kIn _ o hk,hd⟩
  ·have z:∃o,s.heap.get? p=some o/\o.ExactDict:=by
    rcases hk with ⟨kvs,hk⟩|⟨kvs,hk⟩
    ·obtain⟨_,_,_,_,o,_,_,e,ex,_⟩:=I.hok p _ hk;exact⟨o,e,ex⟩
    ·obtain⟨_,_,_,_,o,_,_,e,ex,_⟩:=I.hok p _ hk;exact⟨o,e,ex⟩
   obtain⟨o,e,ex⟩:=z;refine⟨⟨o,e,ex.1⟩,λa e2=>?_⟩;cases e2;exact⟨o,e,ex.2.1⟩
  ·obtain⟨o,_,_,_,e,ex,_⟩:=I.hok p _ hk;refine⟨⟨o,e,ex.1⟩,λa e2=>?_⟩;cases e2;exact⟨o,e,ex.2.1⟩
 |_=>exact False.elim ty
def tBM0(K:Frag)(T:String)(r:V->List V->Hp->VK->Prop)(to:TE):TE:=λσ H Q=>to σ H λx H1=>tyV K T x H1/\r x [] H1 Q
def tBM(K:Frag)(T:String)(r:V->List V->Hp->VK->Prop)(to:TE)(t:TA):TE:=λσ H Q=>to σ H λx H1=>tyV K T x H1/\t σ H1 λxs H2=>r x xs H2 Q
variable{o e:Uf}{es:List Uf}{to:TE}{t:TA}{name:Str}{apos cpos:Pos}{T id:String}{r:V->List V->Hp->VK->Prop}
theorem LU(pa:PlainAttrs T)(slot:Slot T name id)(hty:typeOf (.builtin id)=pure (.type "method_descriptor"))(hm:MtR X id r)(ho:PE X o to)
  (hbase:attributeBase o name X.env (eval o X.env)=eval o X.env:=by rfl) (hline:(apos.endLine==cpos.line)=true:=by rfl):PE X (.Call (.Attribute o name apos) [] [] cpos) (tBM0 X.K T r to):=by
 intro pins s σ H Q I h;refine wpAny_Call_method0_late hbase hline (thn (ho pins s σ H _ I h) λv s1 ⟨x,H1,I1,r1,ty,q1⟩=>?_);obtain⟨h1,h2⟩:=RG I1 r1 ty;exact⟨T,id,pa,slot,hty,h1,h2,Calls.callWith_builtin rfl (PySem.evalArgs_none (hm pins s1 σ H1 x [] v [] Q I1 r1 .nil q1))⟩
theorem Vk(pa:PlainAttrs T)(slot:Slot T name id)(hty:typeOf (.builtin id)=pure (.type "method_descriptor"))(hm:MtR X id r)(ho:PE X o to)(ha:PA X (e::es) t)
  (hbase:attributeBase o name X.env (eval o X.env)=eval o X.env:=by rfl)
  (hfew:((backTo cpos (Ui (e::es) X.env)).all (λx=>!x.1)&&(backToKw cpos (keywordEach [] X.env)).all (λx=>x.1.isSome)
   && decide ((e::es).length+([]:List Keyword).length+(if([]:List Keyword).isEmpty then 0 else 1)<30))=true:=by rfl)
  (hline:(apos.endLine==cpos.line)=true:=by rfl) (hs:Ui (e::es) X.env=(false,eval e X.env)::Ui es X.env:=by rfl) (hplain:(backTo cpos (Ui es X.env)).any (·.1)=false:=by rfl) :
  PE X (.Call (.Attribute o name apos) (e::es) [] cpos) (tBM X.K T r to t):=by
 intro pins s σ H Q I h;refine wpAny_Call_method_late hbase hfew hline rfl (thn (ho pins s σ H _ I h) λv s1 ⟨x,H1,I1,r1,ty,q1⟩=>?_);obtain⟨h1,h2⟩:=RG I1 r1 ty;refine⟨T,id,pa,slot,hty,h1,h2,?_⟩;have hA:=ha cpos pins s1 σ H1 _ I1 q1;rw[hs]at hA⊢;refine Calls.callWith_builtin (by show(false || (backTo cpos (Ui es X.env)).any (·.1))=false;rw[hplain]<;>rfl) (Calls.evalArgs_plain ?_);exact thn hA λus s2 ⟨vs,H2,I2,r2,q2⟩=>hm pins s2 σ H2 x vs v us Q I2 r1 r2 q2
end
def MtM(X:Cx)(id:String)(r:V->List V->Hp->VK->Prop):Prop:=
 ∀(pins:List (Ud×Obj))(s:Ub)(σ:St)(H:Hp)(x:V)(xs:List V)(v:Ua)(us:List Ua)(Q:VK),Inv X pins σ H s->RelV x v->Vals xs us->r x xs H Q ->
  Uh (model X.prog X.w) X.A (call (.builtin id) (v::us)) (EP X pins σ Q) X.xe s
theorem Vals.one:∀{x:V}{us:List Ua},Vals [x] us->∃u,us=[u]/\RelV x u
 |_,_,.cons r .nil=>⟨_,rfl,r⟩
theorem Vals.two:∀{x y:V}{us:List Ua},Vals [x,y] us->∃u v,us=[u,v]/\RelV x u/\RelV y v
 |_,_,_,.cons r (.cons q .nil)=>⟨_,_,rfl,r,q⟩
theorem Vals.eraseIdx:∀{xs:List V}{us:List Ua}(i:Nat),Vals xs us->Vals (xs.eraseIdx i) (us.eraseIdx i)
 |_,_,_,.nil=>.nil
 |_,_,0,.cons _ t=>t
 |_,_,i+1,.cons r t=>.cons r (Vals.eraseIdx i t)
theorem Vals.reverse{xs:List V}{us:List Ua}(h:Vals xs us):Vals xs.reverse us.reverse:=by
 induction h with
 |nil=>exact .nil
 |cons r t ih=>rw[List.reverse_cons,List.reverse_cons];exact Vals.append ih (.cons r .nil)
theorem Vals.rep{xs:List V}{us:List Ua}(h:Vals xs us):∀k:Nat,Vals (Ul k xs).flatten (Ul k us).flatten
 |0=>.nil
 |k+1=>by rw[Q9,Q9,QO,QO];exact Vals.append h (Vals.rep h k)
theorem ON{α:Type}:∀(l:List α)(i:Nat),(l.eraseIdx i).length<=l.length
 |[],_=>Qm _
 |_::_,0=>JH _
 |_::r,i+1=>Nat.succ_le_succ (ON r i)
theorem OM(its:List Ua):∀(k:Nat)(acc:List Ua),
  List.foldl (λx1 x2=>x1++x2) acc.toArray (Ul k its.toArray)=(acc++(Ul k its).flatten).toArray
 |0,acc=>by simp
 |k+1,acc=>by
  have e:acc.toArray++its.toArray=(acc++its).toArray:=by simp
  have e2:(acc++its)++(Ul k its).flatten=acc++(Ul (k+1) its).flatten:=by rw[Q9,QO,Jp]
  rw[←e2,←OM its k (acc++its),←e,Q9,List.foldl_cons]
section
variable{X:Cx}{pins:List (Ud×Obj)}{σ:St}{H:Hp}{s:Ub}{l b:Ud}{xs ys zs:List V}
theorem Inv.lset{its its':List Ua}{n:Nat}{f:Array Ua->Array Ua}{t':Nat}(I:Inv X pins σ H s)(hH:H l=some (.lst xs))
  (e:s.heap.get? l=some {cls:=.type "list", data:=.seq its.toArray n}) (hf:f its.toArray=its'.toArray) (hv:Vals ys its') (hz:ys.length<=Ug) :
  Inv X pins σ (upd H l (.lst ys)) {s with heap:=s.heap.update l (Obj.mapSeq f),toks:=t'}:=by
 have q:=PySem.IsL.update e f;rw[hf]at q;refine I.write (x:=l) (e:=l) (by rw[hH];exact trivial) (.inl rfl) (λb' u hb hu=>(Heap.get?_update_other s.heap (Obj.mapSeq f) (Ne.symm hb)).trans hu) ⟨_,q⟩ ?_;exact⟨hz,its',_,hv,q⟩
theorem Inv.lnew{its:List Ua}{t':Nat}(I:Inv X pins σ H s)(hv:Vals ys its)(hz:ys.length<=Ug) :
  Inv X pins σ (upd H s.heap.objs.size (.lst ys)) {s with heap:=s.heap.push {cls:=.type "list", data:=.seq its.toArray},toks:=t'}:=
 I.laid (λ_ _ q=>Qi _ q) (Qm _) ⟨hz,its,0,hv,Qv _ rfl⟩
theorem Inv.fresh(I:Inv X pins σ H s):H s.heap.objs.size=none:=I.hok.fresh (Qm _)
theorem Inv.lstM(I:Inv X pins σ H s)(hH:H l=some (.lst xs)):xs.length<=Ug/\∃(its:List Ua)(n:Nat),Vals xs its/\xs.length=its.length/\s.heap.get? l=some {cls:=.type "list", data:=.seq its.toArray n}:=by obtain⟨z,its,n,r,e⟩:=I.hok l _ hH;exact⟨z,its,n,r,r.length,e⟩
theorem Oe{n:Nat}(h:n<=Ug):Builtin.List.listTooLong n=false:=by unfold Builtin.List.listTooLong;exact Qu (by omega)
end
section
variable{X:Cx}
def GL:V->List V->Hp->VK->Prop:=λx vs H Q=>∃l xs y,x=.ref l/\vs=[y]/\H l=some (.lst xs)/\xs.length<Ug/\Q .non (upd H l (.lst (xs++[y])))
theorem OL:MtM X "list.append" GL:=by intro pins s σ H x vs v us Q I rx rv h;obtain⟨l,xs,y,rfl,rfl,hH,hz,q⟩:=h;cases rx;obtain⟨u,rfl,ru⟩:=rv.one;obtain⟨z,its,n,r,hl,e⟩:=I.lstM hH;refine call_meets F.slot_list_append ⟨_,e,rfl⟩ F.entry_list_append (F.args_list_append_2 _ _) (PySem.list_append l its.toArray n u (by rw[QE];omega)) ⟨e,?_⟩;refine⟨.non,_,I.lset (its':=its++[u]) hH e (by simp) (r.append (.cons ru .nil)) ?_,rfl,q⟩;rw[Qk,Q0];omega
def GK:V->List V->Hp->VK->Prop:=λx vs H Q=>∃l b xs zs,x=.ref l/\vs=[.ref b]/\H l=some (.lst xs)/\H b=some (.lst zs)/\xs.length+zs.length<=Ug/\Q .non (upd H l (.lst (xs++zs)))
theorem DM:MtM X "list.extend" GK:=by
 intro pins s σ H x vs v us Q I rx rv h;obtain⟨l,b,xs,zs,rfl,rfl,hH,hB,hz,q⟩:=h;cases rx;obtain⟨u,rfl,ru⟩:=rv.one;cases ru;obtain⟨z,its,n,r,hl,e⟩:=I.lstM hH;obtain⟨z2,its2,n2,r2,hl2,e2⟩:=I.lstM hB;have hsz:its.toArray.size+its2.toArray.size<=Ug:=by rw[QE,QE];omega
 have hlong:¬(!its.toArray.isEmpty&&Builtin.List.listTooLong (its.toArray.size+its2.toArray.size))=true:=by rw[Oe hsz,Bool.and_false];exact Ju
 refine call_meets F.slot_list_extend ⟨_,e,rfl⟩ F.entry_list_extend (F.args_list_extend_2 _ _)
  (AutoSeq1.list_extend_list_list_0 l its.toArray n b its2.toArray n2 hlong (by rw[QE];omega) (by omega)) ⟨e,e2,?_⟩
 refine⟨.non,_,I.lset (its':=its++its2) hH e (by simp) (r.append r2) ?_,rfl,q⟩;rw[Qk];omega
def LS:V->List V->Hp->VK->Prop:=λx vs H Q=>∃l xs i k y,x=.ref l/\vs=[.int i]/\H l=some (.lst xs) /\ -(2 ^ 63)<=i/\i<2 ^ 63/\seqIndex? i xs.length=some k/\xs[k]?=some y/\Q y (upd H l (.lst (xs.eraseIdx k)))
theorem Ey:MtM X "list.pop" LS:=by
 intro pins s σ H x vs v us Q I rx rv h;obtain⟨l,xs,i,k,y,rfl,rfl,hH,h1,h2,hk,hy,q⟩:=h;cases rx;obtain⟨u,rfl,ru⟩:=rv.one;obtain⟨t,rfl⟩:=ru;obtain⟨z,its,n,r,hl,e⟩:=I.lstM hH;obtain⟨w,hw,rw'⟩:=r.get hy
 refine call_meets F.slot_list_pop ⟨_,e,rfl⟩ F.entry_list_pop (F.args_list_pop_2 _ _)
  (MeetsSeq.list_pop_at l its.toArray n i t k w (fitsIndex_both h1 h2) (by rw[QE,←hl];exact hk) (by rw[←Array.getElem?_toList];exact hw) (by rw[QE];omega)) ⟨e,?_⟩
 refine⟨y,_,I.lset (its':=its.eraseIdx k) hH e ?_ (r.eraseIdx k) ?_,rw',q⟩
 ·show its.toArray.eraseIdxIfInBounds k=(its.eraseIdx k).toArray;rw[List.eraseIdxIfInBounds_toArray]
 ·have:=ON xs k;omega
theorem GJ{α:Type}(xs:List α)(k:Nat):(Ul k xs).flatten.length=k*xs.length:=by
 induction k with
 |zero=>simp
 |succ k ih=>rw[Q9,QO,Qk,ih,Nat.succ_mul,Nat.add_comm]
end
section
variable{prog:Uc}{w:World}{A:Around}{E:Ua->Ub->Prop}{s:Ub}
set_option maxRecDepth 100000 in
end
end L2
namespace Att
open PySem PySem.W PySem.Calls PyProof.Rows
theorem CQ{P:Params}{h:Heap}:∀(ns:List Int)(vs:List Ua),WellAll P h vs (ns.map WData.int)->IntsAre vs ns:=by
 intro ns;induction ns with
 |nil=>intro vs w;rw[List.map_nil]at w;cases w;exact .nil
 |cons n ns ih=>
  intro vs w;rw[Qx]at w;cases w with
  |cons a b=>cases a;exact .cons _ _ (ih _ b)
theorem DK{l:OpenLaw}{n:Nat}(hn:l.most=some n){P:Params}{h:Heap}{args:List WData}{vals:List Ua}
  (hpre:l.row.toRowW.claim.pre args=true) (hwl:WellAll P h vals args) :
  ∃a vs ns,vals=[Value.ref a]/\args=[WData.list (ns.map WData.int)]/\h.get? a=some {cls:=.type "list", data:=.seq vs.toArray}/\IntsAre vs ns/\ns.length<=n:=by
 have hsh:WShape.hasAll [] args [.list .int]=true:=(pre_splitW hpre).1;have hc:l.pre.holds [] {args:=args}=true:=(pre_splitW hpre).2;obtain⟨d,r,rfl,h1,h2⟩:=hasAllW_cons hsh;obtain rfl:=hasAllW_nil h2;obtain⟨xs,rfl,h3⟩:=hasW_list h1;obtain⟨ns,rfl⟩:=items_int h3
 have hlen:ns.length<=n:=by
  unfold OpenLaw.pre at hc;have h4:(WTm.not (.lt (.lit (.int (n:Int))) (.len (.arg 0)))).holds [] {args:=[.list (ns.map .int)]}=true:=by have h4:=(holds_andW hc).1;rw[hn]at h4;exact h4
  have h5:=condW_of h4 (w_not (w_lt w_lit (w_len_list (w_arg rfl))));rw[Qe]at h5;refine QW λq=>?_;have q':(n:Int)<((ns.length:Nat):Int):=by omega
  first
   |(rw[QL q']at h5;exact absurd h5 (by decide))
   |(simp at h5;omega)
 cases hwl with
 |cons w1 w2=>
  cases w2;cases w1 with
  |list ho hall=>exact⟨_,_,ns,rfl,rfl,ho,CQ ns _ hall,hlen⟩
theorem DJ(l:OpenLaw)(args:List WData):l.row.toRowW.claim.post args (.bool true) args=true:=
 postW_of (r:=l.row.toRowW) (X:=(true==true))
  (show WShape.has [] (.bool true) .bool=true by first|rfl|decide|simp[WShape.has,WShape.arms,WShape.armsAll])
  (show(WTm.eq .res (.lit (.bool true))).value [] {args:=args,res:=some (.bool true),after:=args}=some (.bool (true==true))from w_eq_bool (w_res rfl) w_lit) rfl
theorem attach_call{l:OpenLaw}{n:Nat}{q:Uc}{loose:List Str}{XP:(Str->Option Ua)->Heap->Prop}{YP:World->Heap->Prop}{d:DefRec}
  (hn:l.most=some n) (hdf:d.params.defaults=[])
  (call:∀(w:World)(s₀ s₁:Ub)(mg mb:Str->Option Ua)(fa:Ud)(o:Obj)(pm cd doc:Ua)(a:Ud)(vs:List Ua)(ns:List Int),
   Ground q loose [] XP w s₀ mg mb s₁.heap->YP w s₁.heap ->
   s₁.heap.get? fa=some o->o.data=.func (docDef d.name d.params d.body d.scope pm cd doc)->s₁.heap.CodeRec cd d.name->mg d.name=some (.ref fa) ->
   s₁.heap.get? a=some {cls:=.type "list", data:=.seq vs.toArray}->IntsAre vs ns->ns.length<=n->s₁.gens=#[] ->
   codeAny (model l.prog w) callerA (.call (.ref fa) ⟨[.ref a],[]⟩) (λr s'=>r=.ok (.ret (.bool true))/\OldK s₁.heap s'.heap/\s'.os=s₁.os/\AllBare s'.gens) s₁) :
  WalkO q loose XP YP l.row.toRowW d [] (λf vs=>PySem.call f vs):=by
 intro w s₀ s₁ mg mb G Y fa o pm cd doc dV kV ho hd hcd hD hmg hg args vals as hpre hlay hrd hwl hlo;obtain rfl:dV=.none:=Dflts.none hD hdf;obtain rfl:kV=.none:=Dflts.noKw hD;obtain⟨a,vs,ns,rfl,rfl,hobj,hints,hlen⟩:=DK hn hpre hwl;refine enter_call (codeAny_mono (call w s₀ s₁ mg mb fa o pm cd doc a vs ns G Y ho (fd_plain hd) hcd hmg hobj hints hlen hg) λr s' hq=>?_);obtain⟨rfl,h2,h3,h4⟩:=hq;exact⟨.inl ⟨.bool true,.bool true,[],rfl,λ_=>rfl,.bool true,DJ l _,λ_=>⟨List.Pairwise.nil,λ_ hm=>(nomatch hm)⟩⟩,h2,h3,h4⟩
end Att
namespace L2
open PySem PySem.Spec PyProof.Rows
theorem W8:∀{vs:List Ua}{ns:List Int},IntsAre vs ns->Vals (ns.map V.int) vs
 |_,_,.nil=>.nil
 |_,_,.cons n t h=>.cons ⟨t,rfl⟩ (W8 h)
def Only(H:Hp):Prop:=∀b,H b=none ∨ ∃o xs,H b=some (.frz o (.lst xs))
theorem Ex{P:Uc}{w:World}{K:Frag}{mg mb:Str->Option Ua}{CX:CXT}{k:Nat}{fa a:Ud}{fd:Ue}{x:Str}{sp:Sp}{s₁:Ub}{vs:List Ua}{ns:List Int}
  (KX:K.In s₁.heap) (hns:s₁.heap.Ns mainGlobals mg) (hb:s₁.heap.Ns builtinsNs mb) (hbb:∀x:Str,x ≠ "__name__" -> mb x=bootBuiltins x) (hlim:s₁.heap.NoLimit) (hg:s₁.gens=#[])
  (ha:s₁.heap.get? a=some {cls:=.type "list", data:=.seq vs.toArray}) (hi:IntsAre vs ns) (hl:ns.length<=Ug) (hr:Room k callerA)
  (F:∀base:Heap,K.In base->base.Ns mainGlobals mg->FnOk P w K mg base CX k fa fd [x] sp) (hbind:∀(s:Ub)(u:Ua),BindsTo s fd ⟨[u],[]⟩ [(x,u)])
  (hsp:∀H:Hp,Only H->SqL K H a (ns.map V.int)->sp [.ref a] H (λv _=>v=.bl true) λ_ _ _=>False)
  (hCX:∀H e s',CX [] H s₁ (λ_ _ _=>False) e s'->False) :
  codeAny (model P w) callerA (.call (.ref fa) ⟨[.ref a],[]⟩) (λr s'=>r=.ok (.ret (.bool true))/\OldK s₁.heap s'.heap/\s'.os=s₁.os/\AllBare s'.gens) s₁:=by
 have rv:=W8 hi;have lenV:=hi.length
 have core:∀H:Hp,Only H->SqL K H a (ns.map V.int)->HOk P w H s₁.heap->(∀b,H b≠none->b=a)->(H a≠none->K.lookup a=none) ->
   codeAny (model P w) callerA (.call (.ref fa) ⟨[.ref a],[]⟩) (λr s'=>r=.ok (.ret (.bool true))/\OldK s₁.heap s'.heap/\s'.os=s₁.os/\AllBare s'.gens) s₁:=by
  intro H hO hS hok hA hK;have base_of:∀{b:Ud}{o:Obj},s₁.heap.get? b=some o->H b=none->(Zk s₁.heap H).get? b=some o:=λe n=>Ej e n
  have noA:∀{b:Ud}{o:Obj}{es:Array DictEntry}{ep:Nat},s₁.heap.get? b=some o->o.data=.dict es ep->H b=none:=λ{b o es ep} e d=>by
   cases q:H b with
   |none=>rfl
   |some u=>have e':b=a:=hA b (by rw[q];simp);subst e';rw[ha]at e;cases e;have d':Data.seq vs.toArray _=Data.dict es ep:=d;cases d'
  have nsK:∀{b:Ud}{m:Str->Option Ua},s₁.heap.Ns b m->(Zk s₁.heap H).Ns b m:=λ{b m} ⟨o,es,ep,e,d,r⟩=>⟨o,es,ep,base_of e (noA e d),d,r⟩
  have hKb:K.In (Zk s₁.heap H):=λb o e=>base_of (KX b o e) (by
   cases q:H b with
   |none=>rfl
   |some u=>have e':b=a:=hA b (by rw[q];simp);subst e';rw[hK (by rw[q];simp)]at e;cases e)
  have hM:Mod K mg (Zk s₁.heap H):=⟨hKb,nsK hns,⟨mb,nsK hb,hbb⟩,let ⟨mc,h1,h2⟩:=hlim;⟨mc,nsK h1,h2⟩⟩
  have e0:Env0 P w K mg (Zk s₁.heap H) callerA [] s₁ H:=⟨rfl,hM,λb o e=>GX e,Nat.le_of_eq (Dh _ _),trivial,λb hb=>absurd (show b∈([]:List Ud)from hb) (by simp),hok,.of_eq hg⟩
  refine codeAny_mono ((F _ hKb (nsK hns)).run callerA [] s₁ H ⟨[.ref a],[]⟩ [.ref a] [.ref a] _ _ hr e0 (hbind s₁ (.ref a)) (.cons rfl .nil) (hsp H hO hS)) λr s' h=>?_
  cases r with
  |error e=>exact(hCX H e s' h).elim
  |ok fl=>
   cases fl with
   |next=>exact False.elim h
   |brk=>exact False.elim h
   |cont=>exact False.elim h
   |ret u=>
    obtain⟨v,H',os,bare,un,hok',r',q⟩:=h;have q':v=.bl true:=q;subst q';obtain rfl:u=Value.bool true:=r';refine⟨rfl,OldK.of_keep λb o e=>?_,os,bare⟩;cases q:H b with
    |none=>exact un.keep b o e q (by intro z;exact absurd (show b∈([]:List Ud)from z) (by simp)) (by simp)
    |some u=>
     rcases hO b with z|⟨ob,xs,z⟩
     ·rw[q]at z;cases z
     ·have z2:=un.frzs b ob _ z;obtain⟨e1,_⟩:=hok b _ z;obtain⟨e2,_⟩:=hok' b _ z2;rw[e]at e1;cases e1;exact e2
 cases hk:K.lookup a with
 |some o=>have e:=KX a o hk;rw[ha]at e;cases e;refine core (λ_=>none) (λ_=>.inl rfl) (.inr ⟨_,vs.toArray,_,hk,rfl,rfl,rfl,by rw[List.size_toArray,lenV];exact hl,by simpa using rv⟩) (λb u z=>by have z':(none:Option HO)=some u:=z;cases z') (λb z=>absurd rfl z) λz=>absurd rfl z
 |none=>
  refine core (λb=>if b=a then some (.frz {cls:=.type "list", data:=.seq vs.toArray} (.lst (ns.map V.int)))else none) (λb=>?_) (.inl (.inr ⟨{cls:=.type "list", data:=.seq vs.toArray},Qr rfl⟩)) (λb u z=>?_) (λb z=>?_) λ_=>hk
  ·by_cases hb:b=a
   ·exact .inr ⟨_,_,Qr hb⟩
   ·exact .inl (QJ hb)
  ·by_cases hb:b=a
   ·have z':=(Qr hb).symm.trans z;cases z';subst hb;exact⟨ha,by rw[Qe];exact hl,vs,_,rv,ha⟩
   ·have z':=(QJ hb).symm.trans z;cases z'
  ·by_cases hb:b=a
   ·exact hb
   ·exact absurd (QJ hb) z
def W3(s:Stmt):Arguments:=match s with
 |.FunctionDef _ a _ _ _ _ _ _ _ _=>a
 |_=>{posonlyargs:=[],args:=[],vararg:=none,kwonlyargs:=[],kw_defaults:=[],kwarg:=none,defaults:=[]}
def Y7(s:Stmt):List Stmt:=match s with
 |.FunctionDef _ _ b _ _ _ _ _ _ _=>b
 |_=>[]
def K4(s:Stmt):Scope:=match s with
 |.FunctionDef _ _ _ _ _ _ sc _ _ _=>sc
 |_=>{kind:=.function,names:=[],isGenerator:=false,isCoroutine:=false}
abbrev CX0:CXT:=λ_ _ _ _ _ _=>False
abbrev E0:XK:=λ_ _ _=>False
theorem Rt{X:Cx}:T6 CX0 X E0:=λ_ _ _ _ _ _ _ h=>h.elim
structure Fun(K:Frag)(x qual:Str)(st:Stmt)(f:Ud)(fd:Ue):Prop where
 ex:∃(oc:Ua)(od:Option Ud)(kV doc pm:Ua)(an:Option Ud)(cdv ct:Ua)(osl:Array (Option Ua)),
  fd=PySem.W.fnOf x qual (W3 st) (Y7 st) (K4 st) .none kV doc pm an cdv ct/\K.lookup f=some ⟨oc,od,.func fd,osl⟩/\PySem.W.codeIn K cdv qual=true
 kp:PySem.W.keepIn K (.ref f)=true
section
variable{P:Uc}{w:World}{K:Frag}{mg:Str->Option Ua}{base:Heap}
theorem Fun.ok{x qual:Str}{st:Stmt}{f:Ud}{fd:Ue}{N ps:List Str}{k:Nat}{sp:Sp}(F:Fun K x qual st f fd)(S:Vz N ps (K4 st))(len:∀vs H Q E,sp vs H Q E->vs.length=ps.length)
  (hbody:∀(cdv:Ua)(A:Around)(outer:List Env)(s:Ub)(H:Hp)(vs:List V)(Q:VK)(E:XK),Room k (A.deeper (envOfC qual (K4 st) s.heap.objs.size f cdv))->sp vs H Q E ->
   ∃t,PSs (ZO CX0 P w K mg base N qual (K4 st) f cdv A outer s H E).nox (Y7 st) t/\t {nx:=λ_ H'=>Q .non H',rt:=Q} (Yn N vs) H):FnOk P w K mg base CX0 (k+1) f fd ps sp:=by
 obtain⟨oc,od,kV,doc,pm,an,cdv,ct,osl,rfl,lk,hcd⟩:=F.ex;refine NA lk hcd S len λA outer s H vs Q E hr hsp=>?_
 obtain⟨t,h,q⟩:=hbody cdv A outer s H vs Q E hr hsp;exact⟨t,h.nox,q⟩
theorem Fun.binds{x qual:Str}{st:Stmt}{f:Ud}{fd:Ue}{ps:List Str}(F:Fun K x qual st f fd)
  (h:∀(kV doc pm:Ua)(an:Option Ud)(cdv ct:Ua)(us:List Ua),us.length=ps.length->bindArgs (PySem.W.fnOf x qual (W3 st) (Y7 st) (K4 st) .none kV doc pm an cdv ct) ⟨us,[]⟩=pure (ps.zip us)):XF K fd ps []:=by
 obtain⟨oc,od,kV,doc,pm,an,cdv,ct,osl,rfl,lk,hcd⟩:=F.ex;exact .all (h kV doc pm an cdv ct)
end
def Same(H H':Hp):Prop:=∀b o,H b=some o->H' b=some o
theorem Same.refl(H:Hp):Same H H:=λ_ _ h=>h
theorem Same.trans{H H1 H2:Hp}(a:Same H H1)(b:Same H1 H2):Same H H2:=λc o h=>b c o (a c o h)
theorem Same.free{H H':Hp}(e:Same H H'){l:Ud}(h:H' l=Option.none):H l=Option.none:=by
 cases q:H l with
 |none=>rfl
 |some o=>rw[e l o q]at h;cases h
theorem Same.seq{K:Frag}{H H':Hp}{a:Ud}{xs:List V}(e:Same H H')(h:SqL K H a xs):SqL K H' a xs:=by
 rcases h with (h|⟨o,h⟩)|h
 ·exact .inl (.inl (e _ _ h))
 ·exact .inl (.inr ⟨o,e _ _ h⟩)
 ·exact .inr h
section
variable{X:Cx}{pins:List (Ud×Obj)}{σ:St}{H:Hp}{s:Ub}{h':Heap}
theorem Inv.turnedNew{t':Nat}{fp:List Ud}{p:Ud}{o:HO}(I:Inv X pins σ H s)(hf:∀b∈fp,Kp X pins H b)
  (k:∀b o,b∉fp->s.heap.get? b=some o->h'.get? b=some o) (hp:s.heap.objs.size<=p) (new:Kz X.prog X.w (upd H p o) h' p o) :
  Inv X pins σ (upd H p o) {s with heap:=h',toks:=t'}:=by
 have hn:H p=none:=I.hok.fresh hp;have trk:∀b u,H b=some u->b∉fp:=λb u e z=>by rw[(hf b z).1]at e;cases e
 refine I.step (g':=s.gens) (d':=s.drawn) (ch:=fp) (λb hb=>?_) (λb o _ _ hc e _=>k b o hc e) (λb o _ _ hc e _=>⟨o.slots,k b o hc e⟩)
  (λb o _ e n=>by rw[U0 (QD (QB (Qh e) hp))];exact n) (λb o hc e=>⟨o,k b o hc e⟩)
  (λb xs e=>by rw[U0 (K3 e hn)];exact e) (λb ob u e=>by rw[U0 (K3 e hn)];exact e) (λb ps e=>⟨#[],by rw[U0 (K3 e hn),e];simp⟩)
  (λm hm=>?_) (λb u e=>?_) I.bare
 ·obtain⟨_,f1,_,f3,f4,f5⟩:=hf b hb;exact⟨f3,f1,f4,f5⟩
 ·obtain⟨ob,es,ep,ho,r⟩:=hm;exact⟨ob,es,ep,k _ ob (λz=>(hf _ z).2.1 rfl) ho,r⟩
 ·by_cases hb:b=p
  ·subst hb;rw[Ki]at e;cases e;exact new
  ·rw[U0 hb]at e;refine(I.hok b u e).stay (λc v hc q=>k c v ?_ q) (λc q=>by rw[U0 (K3 q hn)];exact q) λc xs q=>by rw[U0 (K3 q hn)];exact q
   rcases hc with z|z
   ·rw[z];exact trk b u e
   ·exact trk c _ z
theorem Inv.turnedL{t':Nat}{fp:List Ud}(I:Inv X pins σ H s)(hf:∀b∈fp,Kp X pins H b)
  (k:∀b o,b∉fp->s.heap.get? b=some o->h'.get? b=some o):Inv X pins σ H {s with heap:=h',toks:=t'}:=by
 have trk:∀b u,H b=some u->b∉fp:=λb u e z=>by rw[(hf b z).1]at e;cases e
 refine I.step (g':=s.gens) (d':=s.drawn) (ch:=fp) (λb hb=>?_) (λb o _ _ hc e _=>k b o hc e) (λb o _ _ hc e _=>⟨o.slots,k b o hc e⟩)
  (λ_ _ _ _ n=>n) (λb o hc e=>⟨o,k b o hc e⟩) (λ_ _ e=>e) (λ_ _ _ e=>e) (λb ps e=>⟨#[],by rw[e];simp⟩) (λm hm=>?_) (λb u e=>?_) I.bare
 ·obtain⟨_,f1,_,f3,f4,f5⟩:=hf b hb;exact⟨f3,f1,f4,f5⟩
 ·obtain⟨ob,es,ep,ho,r⟩:=hm;exact⟨ob,es,ep,k _ ob (λz=>(hf _ z).2.1 rfl) ho,r⟩
 ·refine(I.hok b u e).stay (λc v hc q=>k c v ?_ q) (λc q=>q) λc xs q=>q
  rcases hc with z|z
  ·rw[z];exact trk b u e
  ·exact trk c _ z
end
def Ite(K:Frag)(a:Ud):It:=
 ⟨λi H=>∃xs x,SqL K H a xs/\xs[i]?=some x,
  λi H v H'=>∃p x,H p=none/\v=.ref p/\(∀xs,SqL K H a xs->xs[i]?=some x)/\H'=upd H p (.tup [.int i,x]),
  λi H=>∃xs,SqL K H a xs/\xs.length<=i⟩
theorem DI{P:Uc}{w:World}{K:Frag}{elts:List Uf}{x1}{tp:Pos}(a e it:Ud)(hne:e≠it) :
  Turn P w K (.Tuple elts x1 tp) (Ite K a) [e,it] e (λi h=>(∃old,IsEnum h e it i old)/\h.IsListIter it a i) where
 mem:=by simp
 obj:=λi h st b hb=>by
  obtain⟨⟨old,he⟩,o,ho,c,d⟩:=st;have hb':b=e∨b=it:=by simpa using hb
  rcases hb' with rfl|rfl
  ·exact⟨_,he,λv z=>by have z':Data.fields _=Data.cell v:=z;cases z'⟩
  ·exact⟨o,ho,λv z=>by rw[d]at z;cases z⟩
 keep:=λi h h' st k=>by obtain⟨⟨old,he⟩,hi⟩:=st;exact⟨⟨old,k e (by simp) _ he⟩,hi.at λo q=>k it (by simp) o q⟩
 item:=by
  intro X hP hw hK hc i pins s σ H E I hf st hg;subst hP hw hK;obtain⟨⟨old,he⟩,hi⟩:=st;obtain⟨xs,x,hq,hx⟩:=hg;obtain⟨its,rv,p,hz⟩:=I.list hq;obtain⟨u,hu,ru⟩:=rv.get hx;refine wpAny_pyNext_enum_item he hi p.isList (x:=u) (by simpa using hu) hne λh1 out hi1 ht hsz kk=>?_
  refine⟨_,rfl,wpAny_letOwnedTupleGo_enum out λh2 he2 hs2=>?_⟩;have hel:e<s.heap.objs.size:=Qh he;have hs2':Heap.SameBut e h1 h2:=hs2;have ht2:h2.get? s.heap.objs.size=some {cls:=.type "tuple", data:=.seq #[.int i s.toks,u]}:=(hs2'.2 _ (Jw hel)).trans ht
  have kk2:∀b o,b∉[e,it]->s.heap.get? b=some o->h2.get? b=some o:=λb o hb q=>by
   have hbe:b≠e:=λz=>hb (by simp[z])
   have hbi:b≠it:=λz=>hb (by simp[z])
   exact(hs2'.2 b hbe).trans (kk b o hbe hbi q)
  have hn:H s.heap.objs.size=none:=I.hok.fresh (Qm _)
  have I2:Inv X pins σ (upd H s.heap.objs.size (.tup [.int i,x])) {s with heap:=h2,toks:=s.toks+1}:=
   I.turnedNew (fp:=[e,it]) hf kk2 (Qm _) ⟨by show 2<=Ug;decide,[.int i s.toks,u],.cons ⟨_,rfl⟩ (.cons ru .nil),⟨_,ht2,rfl,_,rfl⟩⟩
  refine⟨.ref s.heap.objs.size,_,I2,rfl,⟨_,x,hn,rfl,λys hy=>by rw[I.list_inj hy hq];exact hx,rfl⟩,⟨⟨u,?_⟩,?_⟩,λb hb=>?_⟩
  ·have:=he2;simpa using this
  ·have hi2:h2.IsListIter it a (i+1):=hi1.at λo q=>(hs2'.2 it (Ne.symm hne)).trans q
   exact hi2
  ·have fr:=(hf b hb)
   have hlt:b<s.heap.objs.size:=by
    have hb':b=e∨b=it:=by simpa using hb
    rcases hb' with rfl|rfl
    ·exact hel
    ·obtain⟨o,ho,_⟩:=hi;exact Qh ho
   rw[U0 (QD hlt)];exact fr.1
 done:=by intro X hP hw hK hc i pins s σ H E I hf st hg;subst hP hw hK;obtain⟨⟨old,he⟩,hi⟩:=st;obtain⟨xs,hq,hx⟩:=hg;obtain⟨its,rv,p,hz⟩:=I.list hq;have hl:=rv.length;exact wpAny_pyNext_enum_end (I.ok.hd hc) he hi p.isList (by simp;omega) λh' eb=>⟨rfl,I.turnedL (t':=s.toks) hf λb o hb q=>eb b o (λz=>hb (by simp[z])) q⟩
 self:=λ_ _ _ _ _ st h=>by obtain⟨⟨old,he⟩,_⟩:=st;exact wpAny_pyIter_enum he h
section
variable{X:Cx}
def Ny(K:Frag)(ta:TA):TI:=λσ H R=>ta σ H λvs H1=>∃a xs,vs=[.ref a]/\SqL K H1 a xs/\R (Ite K a) H1
theorem GI{a:Uf}{ta:TA}{p pos:Pos}{elts:List Uf}{x1}{tp:Pos}(hg:Gl X "enumerate")(hm:X.mg "enumerate" = none)(ha:PA X [a] ta)
  (hs:Ui [a] X.env=[(false,eval a X.env)]:=by rfl):PI X (.Tuple elts x1 tp) (.Call (.Name "enumerate" p) [a] [] pos) (Ny X.K ta):=by
 intro pins s σ H R I h;refine Call_ (XJ I hg hm boot_enumerate (Jo (thn (ha pos pins s σ H _ I h) λus s1 ⟨vs,H1,I1,r1,q1⟩=>?_) hs rfl));obtain⟨l,xs,e,hq,q⟩:=q1;subst e;cases r1 with
 |cons r rr=>
  cases rr;cases (show _=Value.ref l from r);obtain⟨its,rv,pl,hz⟩:=I1.list hq;refine call_enumerate_list pl.isList λh' he hi hsz kk=>?_;have I2:Inv X pins σ H1 {s1 with heap:=h'}:=I1.kept (t':=s1.toks) kk;refine wpAny_pyIter_enum he ?_
  refine⟨s1.heap.objs.size+1,[s1.heap.objs.size+1,s1.heap.objs.size],_,_,H1,rfl,I2,DI l _ _ (Nat.succ_ne_self _),⟨⟨_,he⟩,hi⟩,λb hb=>?_,q⟩;have hb':b=s1.heap.objs.size+1∨b=s1.heap.objs.size:=by simpa using hb
  rcases hb' with rfl|rfl
  ·exact I1.fpOk (JH _) (I1.hok.fresh (JH _))
  ·exact I1.fpOk (Qm _) (I1.hok.fresh (Qm _))
end
section
variable{κ:Type}[DecidableEq κ]
def KM(kvs:List (κ×V))(k:κ):Option V:=(kvs.find? λkv=>decide (kv.1=k)).map (·.2)
def KR(kvs:List (κ×V))(k:κ)(v:V):List (κ×V):=
 if(kvs.any λkv=>decide (kv.1=k))=true then kvs.map (λkv=>if kv.1=k then(kv.1,v)else kv)else kvs++[(k,v)]
theorem Tu{p:κ×V}{r:List (κ×V)}{k:κ}(e:p.1=k):KM (p::r) k=some p.2:=by simp[KM,List.find?_cons,e]
theorem Tt{p:κ×V}{r:List (κ×V)}{k:κ}(e:¬p.1=k):KM (p::r) k=KM r k:=by simp[KM,List.find?_cons,e]
theorem Od(k:κ):∀kvs:List (κ×V),(kvs.any λkv=>decide (kv.1=k))=(KM kvs k).isSome
 |[]=>rfl
 |p::r=>by
  rw[JK];by_cases e:p.1=k
  ·simp only[Tu e,QL e,Bool.true_or,Option.isSome_some]
  ·rw[Tt e,Qu e,Bool.false_or];exact Od k r
theorem O4(kvs:List (κ×V))(k:κ)(v:V):(KR kvs k v).length<=kvs.length+1:=by
 unfold KR;split
 ·rw[Qe];omega
 ·rw[Qk,QA,Q2];omega
theorem RelO.isSome_eq{o:Option V}{u:Option Ua}(r:RelO o u):o.isSome=u.isSome:=by
 cases o with
 |none=>cases u with
  |none=>rfl
  |some _=>exact(show False from r).elim
 |some _=>cases u with
  |none=>exact(show False from r).elim
  |some _=>rfl
theorem RelO.getD{o:Option V}{u:Option Ua}{d:V}{d':Ua}(r:RelO o u)(rd:RelV d d'):RelV (o.getD d) (u.getD d'):=by
 cases o with
 |none=>cases u with
  |none=>exact rd
  |some _=>exact(show False from r).elim
 |some _=>cases u with
  |none=>exact(show False from r).elim
  |some _=>exact r
theorem KV.val{kvs:List (κ×V)}{vs:List (κ×Ua)}(r:KV kvs vs)(k:κ):RelO (KM kvs k) (valueAt vs k):=by
 unfold KV at r;induction r with
 |nil=>exact True.intro
 |@cons p q ps qs h t ih=>
  obtain⟨h1,h2⟩:=h;by_cases e:p.1=k
  ·have e':q.1=k:=h1.symm.trans e;have b:valueAt (q::qs) k=some q.2:=by simp[valueAt,List.find?_cons,e']
   rw[Tu e,b];exact h2
  ·have e':¬q.1=k:=λz=>e (h1.trans z)
   have b:valueAt (q::qs) k=valueAt qs k:=by simp[valueAt,List.find?_cons,e']
   rw[Tt e,b];exact ih
theorem KV.any{kvs:List (κ×V)}{vs:List (κ×Ua)}(r:KV kvs vs)(k:κ):(kvs.any λkv=>decide (kv.1=k))=vs.any λkv=>decide (kv.1=k):=by
 unfold KV at r;induction r with
 |nil=>rfl
 |cons h t ih=>rw[JK,JK,ih,h.1]
theorem KV.repl{kvs:List (κ×V)}{vs:List (κ×Ua)}(r:KV kvs vs)(k:κ){y:V}{u:Ua}(ry:RelV y u) :
  KV (kvs.map λkv=>if kv.1=k then(kv.1,y)else kv) (vs.map λkv=>if kv.1=k then(kv.1,u)else kv):=by
 unfold KV at r⊢;induction r with
 |nil=>exact .nil
 |@cons p q ps qs h t ih=>
  rw[Qx,Qx];refine .cons ?_ ih;obtain⟨h1,h2⟩:=h;by_cases e:p.1=k
  ·rw[Qr e,Qr (h1.symm.trans e)];exact⟨h1,ry⟩
  ·rw[QJ e,QJ (λz=>e (h1.trans z))];exact⟨h1,h2⟩
theorem KV.put{kvs:List (κ×V)}{vs:List (κ×Ua)}(r:KV kvs vs)(k:κ){y:V}{u:Ua}(ry:RelV y u):KV (KR kvs k y) (stored vs k u):=by
 unfold KR stored;rw[r.any k];by_cases e:(vs.any λkv=>decide (kv.1=k))=true
 ·rw[Qr e,Qr e];exact r.repl k ry
 ·rw[QJ e,QJ e];exact Paired.snoc r ⟨rfl,ry⟩
theorem KV.length{kvs:List (κ×V)}{vs:List (κ×Ua)}(r:KV kvs vs):kvs.length=vs.length:=Paired.length r
end
theorem TL{P:Uc}{w:World}{k:Key}{u:Ua}(r:RelV (kV k) u):(ZF P w).is k u=true:=by
 cases k with
 |inl i=>obtain⟨t,e⟩:=(show ∃t,u=Value.int i t from r);subst e;exact Cj P w i t
 |inr x=>obtain⟨t,e⟩:=(show ∃t,u=Value.str x t from r);subst e;exact Ci P w x t
theorem OK{P:Uc}{w:World}:∀{ks:List Key}{us:List Ua},Vals (ks.map kV) us->ItemsAre (ZF P w) ks us
 |[],_,r=>by rw[List.map_nil]at r;cases r;exact .nil
 |k::ks,_,r=>by
  rw[Qx]at r;cases r with
  |cons h t=>exact .cons (TL h) (OK t)
abbrev KT(H:Hp):List (List Key×V)->List (List Key×Ud×Ua)->Prop:=Paired λp q=>p.1=q.1/\H q.2.1=some (.tup (p.1.map kV))/\RelV p.2 q.2.2
theorem KT.val{H:Hp}{kvs:List (List Key×V)}{xs:List (List Key×Ud×Ua)}(r:KT H kvs xs)(k:List Key):RelO (KM kvs k) ((atKey xs k).map (·.2)):=by
 induction r with
 |nil=>exact True.intro
 |@cons p q ps qs h t ih=>
  obtain⟨h1,_,h2⟩:=h;by_cases e:p.1=k
  ·have e':q.1=k:=h1.symm.trans e;have b:atKey (q::qs) k=some q.2:=by simp[atKey,List.find?_cons,e']
   rw[Tu e,b];exact h2
  ·have e':¬q.1=k:=λz=>e (h1.trans z)
   have b:atKey (q::qs) k=atKey qs k:=by simp[atKey,List.find?_cons,e']
   rw[Tt e,b];exact ih
theorem KT.repl{H:Hp}{kvs:List (List Key×V)}{xs:List (List Key×Ud×Ua)}(r:KT H kvs xs)(k:List Key){y:V}{u:Ua}(ry:RelV y u) :
  KT H (kvs.map λkv=>if kv.1=k then(kv.1,y)else kv) (xs.map (putAt k u)):=by
 induction r with
 |nil=>exact .nil
 |@cons p q ps qs h t ih=>
  rw[Qx,Qx];refine .cons ?_ ih;obtain⟨h1,h2,h3⟩:=h;unfold putAt;by_cases e:p.1=k
  ·rw[Qr e,Qr (h1.symm.trans e)];exact⟨h1,h2,ry⟩
  ·rw[QJ e,QJ (λz=>e (h1.trans z))];exact⟨h1,h2,h3⟩
theorem KT.put{H:Hp}{kvs:List (List Key×V)}{xs:List (List Key×Ud×Ua)}(r:KT H kvs xs)(k:List Key){b:Ud}{y:V}{u:Ua}(hb:H b=some (.tup (k.map kV)))(ry:RelV y u) :
  KT H (KR kvs k y) (storedH xs k b u):=by
 have e:(kvs.any λkv=>decide (kv.1=k))=(atKey xs k).isSome:=by rw[Od,(r.val k).isSome_eq,Option.isSome_map]
 unfold KR storedH;rw[e];by_cases q:(atKey xs k).isSome=true
 ·rw[Qr q,Qr q];exact r.repl k ry
 ·rw[QJ q,QJ q];exact Paired.snoc r ⟨rfl,hb,ry⟩
theorem KT.keeps{H H':Hp}{kvs:List (List Key×V)}{xs:List (List Key×Ud×Ua)}(r:KT H kvs xs)(ht:∀b ys,H b=some (.tup ys)->H' b=some (.tup ys)):KT H' kvs xs:=
 Paired.mapP r λ_ _ z=>⟨z.1,ht _ _ z.2.1,z.2.2⟩
section
variable{P:Uc}{w:World}{H:Hp}{h:Heap}{a:Ud}
theorem Rs{u:HO}(ok:HOk P w H h)(e:Rd H a u):Kz P w H h a u:=e.ok ok
theorem V1{kvs:List (Key×V)}(ok:HOk P w H h)(e:Rd H a (.dK kvs)):kvs.length<=Ug/\(a==sysModules)=false/\∃vs,KV kvs vs/\h.DictOf (ZF P w) a vs:=
 show Kz P w H h a (.dK kvs)from Rs ok e
theorem Nx{kvs:List (Key×V)}(ok:HOk P w H h)(e:H a=some (.dK kvs)):kvs.length<=Ug/\(a==sysModules)=false/\∃vs,KV kvs vs/\h.DictOf (ZF P w) a vs:=V1 ok (.inl e)
theorem RF{ks:List Key}(ok:HOk P w H h)(e:H a=some (.tup (ks.map kV))):(tupleKind (ZF P w)).is h ks a:=by
 obtain⟨_,its,r,o,h1,h2,n,h3⟩:=(show Kz P w H h a (.tup (ks.map kV))from ok a _ e)
 exact⟨o,its.toArray,n,h1,h2,h3,by simpa using OK r⟩
theorem Nw{kvs:List (List Key×V)}(ok:HOk P w H h)(e:Rd H a (.dT kvs)):kvs.length<=Ug/\(a==sysModules)=false /\
  ∃xs,KT H kvs xs/\h.DictOfH (tupleKind (ZF P w)) a xs:=by
 obtain⟨z,y,xs,r,o,es,ep,h1,h2,h3,h4,h5⟩:=(show Kz P w H h a (.dT kvs)from Rs ok e)
 refine⟨z,y,xs,r,o,es,ep,h1,h2,h3,h4,λx hx=>?_,h5⟩
 have all:∀{l:List (List Key×V)}{m:List (List Key×Ud×Ua)},KT H l m->∀x∈m,(tupleKind (ZF P w)).is h x.1 x.2.1:=by
  intro l m q;induction q with
  |nil=>intro x hx;exact nomatch hx
  |@cons p q ps qs hq t ih=>
   intro x hx;rcases QP.mp hx with e|hx
   ·subst e;exact RF ok (by rw[←hq.1];exact hq.2.1)
   ·exact ih x hx
 exact all r x hx
theorem Nv{kvs:List (List Key×V)}(ok:HOk P w H h)(e:H a=some (.dT kvs)):kvs.length<=Ug/\(a==sysModules)=false /\
  ∃xs,KT H kvs xs/\h.DictOfH (tupleKind (ZF P w)) a xs:=Nw ok (.inl e)
end
def DPut(H:Hp)(a:Ud)(y v:V)(H':Hp):Prop:=
 (∃kvs k,H a=some (.dK kvs)/\y=kV k/\kvs.length<Ug/\H'=upd H a (.dK (KR kvs k v))) ∨
 ∃kvs k b,H a=some (.dT kvs)/\y=.ref b/\H b=some (.tup (k.map kV))/\kvs.length<Ug/\H'=upd H a (.dT (KR kvs k v))
theorem DPut.k{H:Hp}{a:Ud}{kvs:List (Key×V)}{k:Key}{v:V}(e:H a=some (.dK kvs))(hl:kvs.length<Ug):DPut H a (kV k) v (upd H a (.dK (KR kvs k v))):=.inl ⟨kvs,k,e,rfl,hl,rfl⟩
section
variable{X:Cx}{pins:List (Ud×Obj)}{σ:St}{H:Hp}{s:Ub}{a:Ud}{y v:V}{u r:Ua}{o:Option V}{A:Around}{E:Ua->Ub->Prop}
theorem Inv.big(I:Inv X pins σ H s):sysModules<s.heap.objs.size:=by have h:mainGlobals<s.heap.objs.size:=(I.mod.glob.keeps I.bk).lt;exact Nat.lt_trans (by decide) h
theorem PB{h':Heap}{t':Nat}{ob:HO}(I:Inv X pins σ H s)(mu:Mut (H a))(hs:Heap.SameBut a s.heap h')(he:∃q,h'.get? a=some q)(new:Kz X.prog X.w (upd H a ob) h' a ob) :
  Inv X pins σ (upd H a ob) {s with heap:=h',toks:=t'}:=
 I.write (x:=a) (e:=a) mu (.inl rfl) (λb q hb z=>(hs.2 b hb).trans z) he new
theorem LR{P:Uc}{w:World}{H':Hp}{h':Heap}{kvs:List (Key×V)}{vs:List (Key×Ua)}(z:kvs.length<=Ug)(hd:(a==sysModules)=false)(rel:KV kvs vs)(dd:h'.DictOf (ZF P w) a vs) :
  Kz P w H' h' a (.dK kvs):=⟨z,hd,vs,rel,dd⟩
theorem DH{H':Hp}{Q:Unit->Ub->Prop}(hu:A.units+1<cLine)(I:Inv X pins σ H s)(g:DPut H a y v H')(ry:RelV y u)(rv:RelV v r)(h:∀s',Inv X pins σ H' s'->Q () s') :
  Uh (model X.prog X.w) A (setItem (.ref a) u r) Q E s:=by
 rcases g with ⟨kvs,k,e,ey,l,eH⟩|⟨kvs,k,b,e,ey,eb,l,eH⟩
 ·subst ey eH;obtain⟨z,hd,vs,rel,dd⟩:=Nx I.hok e;have hz:vs.length<=Ug:=by rw[←rel.length];exact z
  have hl:(KR kvs k v).length<=Ug:=by have:=O4 kvs k v;omega
  refine wpAny_setItem_pairs (hsz:=hz) (TL ry) dd λh' dd' hs=>h _ ?_;have he:∃q,h'.get? a=some q:=let ⟨q,_,_,hq,_⟩:=dd';⟨q,hq⟩
  exact PB I (by rw[e];exact True.intro) hs he (LR hl hd (rel.put k rv) dd')
 ·subst ey eH;cases (show u=Value.ref b from ry);obtain⟨z,hd,xs,rel,dd⟩:=Nv I.hok e;have hz:xs.length<=Ug:=by rw[←Paired.length rel];exact z
  have hl:(KR kvs k v).length<=Ug:=by have:=O4 kvs k v;omega
  refine wpAny_setItem_heap (hsz:=hz) (tupleKind_room_in1 hu) (RF I.hok eb) dd λh' dd' hs=>h _ ?_
  obtain⟨q,es,ep,hq,h2,h3,h4,_,h5⟩:=dd';refine PB I (by rw[e];exact True.intro) hs ⟨q,hq⟩ ⟨hl,hd,_,(rel.put k eb rv).keeps λc ys ec=>?_,q,es,ep,hq,h2,h3,h4,h5⟩;rw[U0 (Lf ec e (λz=>nomatch z))];exact ec
end
def Nu(td ty tv:TE):TS:=λD σ H=>tv σ H λv H1=>td σ H1 λx H2=>ty σ H2 λy H3=>∃a H4,x=.ref a/\DPut H3 a y v H4/\D.nx σ H4
section
variable{X:Cx}{o i e value:Uf}{pos pos' tpos:Pos}{td ty tv:TE}
theorem GH(hu:X.A.units+1<cLine)(ho:PE X o td)(hi:PE X i ty)(hv:PE X value tv)(hs:swapsWith value (some (.Subscript o i pos')) pos.line X.env=pure false) :
  PS X (.Assign [.Subscript o i pos'] value pos) (Nu td ty tv):=by
 intro pins s σ H D I h;refine wpAny_Assign_Subscript (thn (hv pins s σ H _ I h) λr s1 ⟨v,H1,I1,rv,q1⟩=>thn (ho pins s1 σ H1 _ I1 q1) λu s2 ⟨x,H2,I2,rx,q2⟩=>thn (hi pins s2 σ H2 _ I2 q2) λiv s3 ⟨y,H3,I3,ry,a,H4,ex,g,q3⟩=>?_) hs;subst ex;obtain rfl:u=Value.ref a:=rx;exact DH hu I3 g ry rv λs4 I4=>⟨σ,H4,I4,q3⟩
end
theorem Ew{P:Uc}{w:World}{H:Hp}(h:Heap)(hb:sysModules<h.objs.size):Kz P w H (h.push {cls:=.type "dict", data:=.dict #[]}) h.objs.size (.dK []):=
 ⟨J8 _,beq_eq_false_iff_ne.mpr (Ne.symm (QD hb)),[],.nil,Heap.DictOf.new h⟩
def LQ:TE:=λ_ H Q=>∀p,H p=none->Q (.ref p) (upd H p (.dK []))
section
variable{X:Cx}{pos:Pos}
theorem FG:PE X (.Dict [] [] pos) LQ:=λpins s σ H Q I h=>
 wpAny_Dict_empty ⟨.ref s.heap.objs.size,_,I.laid (a:=s.heap.objs.size) (o:=.dK []) (t':=s.toks) (λ_ _ q=>Qi _ q) (Qm _) (Ew s.heap I.big),rfl,h _ (I.hok.fresh (Qm _))⟩
end
end L2
namespace L2
open PySem PySem.Spec
def ZP(bmB bm:List Ua):Prop:=∀(X:String)(b:Bool),bmB.contains (.type X)=b->bm.contains (.type X)=b
def K5(M:Model)(C:Ud)(name:Str)(r:Option Ua)(h:Heap):Prop:=∀(A:Around)(E:Ua->Ub->Prop)(Q:Option Ua->Ub->Prop)(h':Heap)(g:Array GenState)(d:Drawn)(t:Nat)(os:OsState),
 (∀b o,h.get? b=some o->h'.get? b=some o)->Q r ⟨h',g,d,t,os⟩->Uh M A (typeLookup (.ref C) name) Q E ⟨h',g,d,t,os⟩
theorem K5.keeps{M:Model}{C:Ud}{name:Str}{r:Option Ua}{h h':Heap}(x:K5 M C name r h)(k:∀b o,h.get? b=some o->h'.get? b=some o):K5 M C name r h':=
 λA E Q h2 g d t os k2 q=>x A E Q h2 g d t os (λb o e=>k2 b o (k b o e)) q
theorem K5.at{M:Model}{A:Around}{E:Ua->Ub->Prop}{Q:Option Ua->Ub->Prop}{C:Ud}{name:Str}{r:Option Ua}{h:Heap}{g:Array GenState}{d:Drawn}{t:Nat}{os:OsState}(x:K5 M C name r h)(q:Q r ⟨h,g,d,t,os⟩):Uh M A (typeLookup (.ref C) name) Q E ⟨h,g,d,t,os⟩:=
 x A E Q h g d t os (λ_ _ e=>e) q
section
variable{prog:Uc}{w:World}{A:Around}{E:Ua->Ub->Prop}{h:Heap}{g:Array GenState}{d:Drawn}{t:Nat}{os:OsState}{R:Result->Ub->Prop}
variable{nm q:Str}{C N x:Ud}{bs bm bmB:List Ua}{hdct:Bool}{sn:List Str}{sub:List Ua}{ab:Bool}{col:Option Bool}{dd:Option Ud}{k0 k1 k2 k3 k5:Option Ua}{B newId sa owner:String}{mN mA:Str->Option Ua}{name:Str}{v:Ua}
theorem DG{M:Model}{o:Obj}{nameV:Ua}{Q:Unit->Ub->Prop}(T:ZP bmB bm)(hb:bmB.contains (.type "BaseException")=true)(hC:h.get? C=some (excClassObj nm q C N bs bm hdct sn sub ab col dd k0 k1 k2 k3 k5 newId))
  (hx:h.get? x=some o) (hc:o.cls=.ref C) (hq:Q () ⟨h,g,d,t,os⟩):Uh M A (checkBuiltinCall "BaseException.__getattribute__" ⟨[.ref x,nameV],[]⟩) Q E ⟨h,g,d,t,os⟩:=by
 have hk:builtinKind "BaseException.__getattribute__" = some .slot:=by decide +kernel
 have hsplit:splitId "BaseException.__getattribute__" = some ("BaseException", "__getattribute__"):=by decide +kernel
 have hcB:(Value.ref C::bm).contains (.type "BaseException")=true:=by rw[List.contains_cons,T _ _ hb];rfl
 have ha:=PySem.F.args_bexc_ga (.ref x) nameV;simp only[checkBuiltinCall,hk,hsplit];refine Qd ?_
 ·unfold isInstance
  repeat (first|(with_reducible refine QH hx ?_;rw[hc])|(with_reducible refine Ji hC ?_;rw[hcB])|wp_step)
  exact hq
end
end L2
namespace L2
open PySem PySem.Spec PyProof.Rows PySem.Calls PyProof.V
def XO(fr:Bool)(e C:Ud)(dd:Option Ud):Heap->Prop:=λh=>∃vs sl,h.get? e=some {cls:=.ref C,dict:=dd,data:=.fields vs,slots:=sl}/\(fr=true->vs[1]?=some .none/\∃t0,vs[0]?=some (.ref t0))
abbrev VB:List Ua:=[.type "ValueError", .type "Exception", .type "BaseException", .type "object"]
structure XCls(M:Model)(base:Heap)(C:Ud)(bm:List Ua)(fI:Ud):Prop where
 obj:∃nm q N bs sn sub ab col dd k0 k1 k2 k3 k5,base.get? C=some (excClassObj nm q C N bs bm true sn sub ab col dd k0 k1 k2 k3 k5 "ValueError.__new__")
 tail:ZP VB bm
 init:K5 M C "__init__" (some (.ref fI)) base
 fn:∃o,base.get? fI=some o/\o.cls=.type "function"
 sa:K5 M C "__setattr__" (some (.builtin "object.__setattr__")) base
 ga:K5 M C "__getattribute__" (some (.builtin "BaseException.__getattribute__")) base
 gh:K5 M C "__getattr__" none base
 cl:K5 M C "__class__" (some (.builtin "object.__class__")) base
 pass:∀v,refuseLoop v "__setattr__" bm=pure ()
def XD(dx:Ud)(fs:List (Str×V)):Heap->Prop:=λh=>∃mA,h.Ns1 dx mA/\h.ExactDictFk dx/\(∀f,RelO (fs.lookup f) (mA f))/\PySem.Within mA (fs.map (·.1))
end L2
namespace L2
open PySem PySem.Spec
section
variable{prog:Uc}{w:World}{A:Around}{E:Ua->Ub->Prop}{h:Heap}{g:Array GenState}{d:Drawn}{t:Nat}{os:OsState}{R:Result->Ub->Prop}
variable{nm q:Str}{C N a:Ud}{bs bm bmB:List Ua}{hdct:Bool}{sn:List Str}{sub:List Ua}{ab:Bool}{col:Option Bool}{dd:Option Ud}{k0 k1 k2 k3 k5:Option Ua}{newId:String}{o:Obj}
theorem D4(T:ZP bmB bm)(ho:bmB.contains (.type "object")=true)(hC:h.get? C=some (excClassObj nm q C N bs bm hdct sn sub ab col dd k0 k1 k2 k3 k5 newId))(hx:h.get? a=some o)(hc:o.cls=.ref C)(hq:R (.ok (.ret (.ref C))) ⟨h,g,d,t,os⟩) :
  codeAny (model prog w) A (.call (.builtin "getset_descriptor.__get__") ⟨[.builtin "object.__class__", .ref a,.ref C],[]⟩) R ⟨h,g,d,t,os⟩:=by
 have hT5:(⟨h,g,d,t,os⟩:Ub).TypeIs (.builtin "object.__class__") "getset_descriptor" :=PySem.F.typeOf_object_class;have hcB:(Value.ref C::bm).contains (.type (".".intercalate ("object.__class__".cutAt '.').dropLast))=true:=by rw[PySem.F.owner_object_class,List.contains_cons,T _ _ ho];rfl
 refine codeAny_call_builtin PySem.F.slot_gs_get.plain PySem.F.entry_gs_get (PySem.F.slot_gs_get.check _ _ _ _ _ _ _ _ hT5 (PySem.F.args_gs_get _ _ _) ?_)
 repeat (any_goals (first|assumption|(with_reducible refine QH hx ?_;rw[hc])|(with_reducible refine Ji hC ?_;rw[hcB])|wp_step))
 refine⟨Code.quiet_builtin _ (by decide +kernel),codeAny_builtin PySem.F.entry_object_class ?_⟩;unfold Builtin.«object.__class__»
 repeat (any_goals (first|assumption|(with_reducible refine QH hx ?_;rw[hc])|wp_step))
theorem CL{tk:Tok}{Q:PySem.Fin->Ub->Prop}(T:ZP bmB bm)(ho:bmB.contains (.type "object")=true)(hC:h.get? C=some (excClassObj nm q C N bs bm hdct sn sub ab col dd k0 k1 k2 k3 k5 newId))(fc:K5 (model prog w) C "__class__" (some (.builtin "object.__class__")) h)(hx:h.get? a=some o)(hc:o.cls=.ref C)(hq:Q (.done (.ret (.ref C))) ⟨h,g,d,t,os⟩) :
  Uh (model prog w) A (Builtin.«object.__getattribute__» ⟨[.ref a,.str "__class__" tk],[]⟩) Q E ⟨h,g,d,t,os⟩:=by
 have hT5:(⟨h,g,d,t,os⟩:Ub).TypeIs (.builtin "object.__class__") "getset_descriptor" :=PySem.F.typeOf_object_class;have f5:=PySem.F.typeOf_object_class;have f6:=PySem.F.slot_gs_get.lookup;have f7:=PySem.F.slot_gs_set.lookup
 repeat (any_goals (first|assumption|(with_reducible refine QH hx ?_;rw[hc])|with_reducible refine fc.at ?_|wp_step))
 refine D4 T ho hC hx hc ?_
 repeat (any_goals (first|assumption|wp_step))
theorem O3{Q:Option Ua->Ub->Prop}(FB:ExcAttrFacts "ValueError")(T:ZP VB bm)(hC:h.get? C=some (excClassObj nm q C N bs bm hdct sn sub ab col dd k0 k1 k2 k3 k5 newId))(fc:K5 (model prog w) C "__class__" (some (.builtin "object.__class__")) h)
  (fg:K5 (model prog w) C "__getattribute__" (some (.builtin "BaseException.__getattribute__")) h) (fa:K5 (model prog w) C "__getattr__" none h) (hx:h.get? a=some o) (hc:o.cls=.ref C) (hq:Q (some (.ref C)) ⟨h,g,d,t+1,os⟩) :
  Uh (model prog w) A (getAttr? (.ref a) "__class__") Q E ⟨h,g,d,t,os⟩:=by
 have f3:=FB.ga.bind (.ref a);have hx0:(false&&onTheHeap (Value.builtin "BaseException.__getattribute__"))=false:=rfl;have hx2:(Value.builtin "BaseException.__getattribute__" == Value.builtin "object.__getattribute__")=false:=by decide +kernel
 have hx1:(onTheHeap (Value.ref C)&&Value.builtin "BaseException.__getattribute__" == Value.builtin "object.__getattribute__")=false:=by rw[hx2];rfl
 unfold getAttr? getAttrBy?;refine Qd (wpAny_mkText (Qd (wpAny_attempt ?_)))
 repeat (any_goals (first|assumption|(with_reducible refine QH hx ?_;rw[hc])|with_reducible refine fg.at ?_|with_reducible refine fa.at ?_|wp_step))
 refine codeAny_call_builtin FB.ga.plain PySem.F.entry_bexc_ga (DG T rfl hC hx hc (CL T rfl hC fc hx hc ?_))
 repeat (any_goals (first|assumption|wp_step))
end
end L2
namespace L2
open PySem PySem.Spec PyProof.Rows
section
variable{prog:Uc}{w:World}{A:Around}{E:Ua->Ub->Prop}{h:Heap}{g:Array GenState}{d:Drawn}{t:Nat}{os:OsState}
variable{nm q nm' q':Str}{C N D N' a:Ud}{bs bm bs' bm':List Ua}{hdct hdct':Bool}{sn sn':List Str}{sub sub':List Ua}{ab ab':Bool}{col col':Option Bool}{dd dd':Option Ud}{k0 k1 k2 k3 k5 j0 j1 j2 j3 j5:Option Ua}{newId newId':String}{o:Obj}{b:Bool}
theorem GF{Q:Ua->Ub->Prop}(T:ZP VB bm)(hC:h.get? C=some (excClassObj nm q C N bs bm hdct sn sub ab col dd k0 k1 k2 k3 k5 newId))(hD:h.get? D=some (excClassObj nm' q' D N' bs' bm' hdct' sn' sub' ab' col' dd' j0 j1 j2 j3 j5 newId'))
  (fc:K5 (model prog w) C "__class__" (some (.builtin "object.__class__")) h) (fg:K5 (model prog w) C "__getattribute__" (some (.builtin "BaseException.__getattribute__")) h) (fa:K5 (model prog w) C "__getattr__" none h)
  (hx:h.get? a=some o) (hc:o.cls=.ref C) (hb:(Value.ref C::bm).contains (.ref D)=b) (hq:∀tk,Q (.bool b) ⟨h,g,d,tk,os⟩):Uh (model prog w) A (call (.builtin "isinstance") [.ref a,.ref D]) Q E ⟨h,g,d,t,os⟩:=by
 have hT:(⟨h,g,d,t,os⟩:Ub).TypeIs (.ref D) "type" :=⟨_,hD,rfl⟩
 have f2:=tc_sub;refine call_isinstance_of ?_ (λz=>nomatch z);unfold Builtin.«isinstance.nested»;refine Qd ?_;unfold typeOf;refine Qd (QH hx (Qj ?_));rw[hc];by_cases e:C=D
 ·subst e;have hb1:b=true:=by rw[←hb];simp
  subst hb1;rw[if_pos (by simp)];exact Qd (wpAny_rule (Qj (hq t)))
 ·rw[if_neg (by simp[e])];refine Qd (Qd (QH hD (Qj ?_)));rw[Qr (show(Value.type "type" == Value.type "type")=true by decide)]
  k_delta "plainIsInstance"
  unfold isType isInstance
  repeat (first|(with_reducible refine QH hx ?_;rw[hc])|with_reducible refine QH hD ?_|with_reducible refine QH hC ?_|(with_reducible refine Ji hC ?_;rw[hb])|wp_step)
  cases b with
  |true=>wp_walk;exact hq t
  |false=>
   rw[QJ (by decide)];refine Qd (O3 PySem.F.excAttr_ValueError T hC fc fg fa hx hc ?_)
   repeat (first|with_reducible refine QH hC ?_|(with_reducible refine Ji hC ?_;rw[hb])|wp_step)
   exact hq _
theorem LN{Q:Ua->Ub->Prop}{X:String}(T:ZP VB bm)(hC:h.get? C=some (excClassObj nm q C N bs bm hdct sn sub ab col dd k0 k1 k2 k3 k5 newId))(hX:typeOf (.type X)=pure (.type "type"))
  (fc:K5 (model prog w) C "__class__" (some (.builtin "object.__class__")) h) (fg:K5 (model prog w) C "__getattribute__" (some (.builtin "BaseException.__getattribute__")) h) (fa:K5 (model prog w) C "__getattr__" none h)
  (hx:h.get? a=some o) (hc:o.cls=.ref C) (hb:(Value.ref C::bm).contains (.type X)=b) (hq:∀tk,Q (.bool b) ⟨h,g,d,tk,os⟩):Uh (model prog w) A (call (.builtin "isinstance") [.ref a,.type X]) Q E ⟨h,g,d,t,os⟩:=by
 refine call_isinstance_of ?_ (λz=>nomatch z);unfold Builtin.«isinstance.nested»;refine Qd ?_;have ty:∀{M:Model}{A:Around}{Q:Ua->Ub->Prop}{E:Ua->Ub->Prop},Q (.ref C) ⟨h,g,d,t,os⟩->Uh M A (typeOf (.ref a)) Q E ⟨h,g,d,t,os⟩:=λq=>by unfold typeOf;refine Qd (QH hx (Qj ?_));rw[hc];exact q
 refine ty ?_;rw[if_neg (by simp)];refine Qd (wpAny_of_eq hX ?_);rw[Qr (show(Value.type "type" == Value.type "type")=true by decide)]
 k_delta "plainIsInstance"
 unfold isType isInstance
 repeat (first|(with_reducible refine QH hx ?_;rw[hc])|with_reducible refine QH hC ?_|(with_reducible refine Ji hC ?_;rw[hb])|wp_step)
 cases b with
 |true=>wp_walk;exact hq t
 |false=>
  rw[QJ (by decide)];refine Qd (O3 PySem.F.excAttr_ValueError T hC fc fg fa hx hc ?_)
  repeat (first|with_reducible refine QH hC ?_|(with_reducible refine Ji hC ?_;rw[hb])|wp_step)
  exact hq _
end
def rIsX(KC:Ud->List Ua->Prop):List V->Hp->VK->Prop:=λxs H Q=>∃a C dd bm fr c b,xs=[.ref a,c]/\KC C bm/\H a=some (.ext (XO fr a C dd)) /\
 ((∃D bm',c=.ref D/\KC D bm'/\(Value.ref C::bm).contains (.ref D)=b) ∨ ∃T,c=.ty T/\typeOf (.type T)=pure (.type "type")/\(Value.ref C::bm).contains (.type T)=b)/\Q (.bl b) H
theorem FF{X:Cx}{KC:Ud->List Ua->Prop}(hcls:∀C bm,KC C bm->∃fI,XCls (model X.prog X.w) X.base C bm fI):ZI X (.builtin "isinstance") (rIsX KC):=by
 rintro pins s σ H xs us Q I r ⟨a,C,dd,bm,fr,c,b,rfl,kc,hx,hD,q⟩;cases r with
 |cons ra r=>
 cases r with
 |cons rc r=>
 cases r;have ra':_=Value.ref a:=ra;subst ra';obtain⟨fI,XC⟩:=hcls C bm kc;obtain⟨nm,qn,N,bs,sn,sub,ab,col,dd1,k0,k1,k2,k3,k5,hC⟩:=XC.obj;obtain⟨⟨vs,sl,ga,_⟩,_,_⟩:=I.hok a _ hx;obtain⟨hp,g,d,tk,os⟩:=s;rcases hD with ⟨D,bm',rfl,kd,hb⟩|⟨T,rfl,hT,hb⟩
 ·have rc':_=Value.ref D:=rc;subst rc';obtain⟨fI',XD'⟩:=hcls D bm' kd;obtain⟨nm',qn',N',bs',sn',sub',ab',col',dd2,j0,j1,j2,j3,j5,hD'⟩:=XD'.obj;exact GF XC.tail (I.bk _ _ hC) (I.bk _ _ hD') (XC.cl.keeps I.bk) (XC.ga.keeps I.bk) (XC.gh.keeps I.bk) ga rfl hb λtk'=>⟨.bl b,H,I.tok tk',rfl,q⟩
 ·have rc':_=Value.type T:=rc;subst rc';exact LN XC.tail (I.bk _ _ hC) hT (XC.cl.keeps I.bk) (XC.ga.keeps I.bk) (XC.gh.keeps I.bk) ga rfl hb λtk'=>⟨.bl b,H,I.tok tk',rfl,q⟩
def Nt(nm:Str):List Str:=if nm = "NoWishes" then ["part", "number"]else if nm = "NoAim" then ["part"]else if nm = "NoText" then ["row"]else []
def Rr(K:Frag)(nm:Str):Option Ud:=match PySem.W.nsIn K mainGlobals nm with|some (some (.ref C))=>some C|_=>none
def NmAt(K:Frag)(nm:Str)(C:Ud):Prop:=∃o cd,K.lookup C=some o/\o.data=.cls cd/\cd.name=nm
structure ClsK(K:Frag)(nm:Str)(C:Ud)(bm:List Ua):Prop where
 ad:Rr K nm=some C
 nmd:NmAt K nm C
 up:nm = "DealError" /\ bm=VB∨nm ≠ "DealError" /\ ∃D,Rr K "DealError" = some D/\bm=.ref D::VB/\NmAt K "DealError" D
 cls:∀(M:Model)(h:Heap),K.In h->∃fI,XCls M h C bm fI
 fld:∀(M:Model)(h:Heap),K.In h->∀f∈(["part", "number", "row"]:List Str),K5 M C f none h
def KC(K:Frag):Ud->List Ua->Prop:=λC bm=>∃nm,ClsK K nm C bm
section
variable{K:Frag}{nm x:Str}{C D:Ud}{bm bm':List Ua}
theorem ClsK.ty(c:ClsK K nm C bm)(T:String):(Value.ref C::bm).contains (.type T)=VB.contains (.type T):=by
 rcases c.up with ⟨_,rfl⟩|⟨_,D',g,rfl,n⟩
 ·rfl
 ·rfl
end
section
variable{X:Cx}{e:Uf}{st:Stmt}{sts:List Stmt}{t:TE}{ts:TS}
theorem Nr(k:X.K.In X.base):∀C bm,KC X.K C bm->∃fI,XCls (model X.prog X.w) X.base C bm fI:=λ_ _ ⟨_,c⟩=>c.cls _ _ k
end
end L2
namespace DL
open PySem PySem.Spec L2
open PyProof.Rows hiding St
abbrev D:=PyData
abbrev XW:=V->St->Hp->Prop
abbrev KX0:XW:=λ_ _ _=>False
def XFs(G:Hp)(dd:Option Ud)(fs:List Str)(vs:List V):Prop:=match dd with
 |none=>fs=[]/\vs=[]
 |some dx=>fs.length=vs.length/\G dx=some (.ext (XD dx (fs.zip vs)))
theorem XFs.mono{G G1:Hp}{dd:Option Ud}{fs:List Str}{vs:List V}(e:Same G G1)(h:XFs G dd fs vs):XFs G1 dd fs vs:=by
 cases dd with
 |none=>exact h
 |some dx=>exact⟨h.1,e _ _ h.2⟩
def kD:Key->D
 |.inl i=>.int i
 |.inr x=>.str x
def tkD(k:List Key):D:=.tuple (k.map kD)
def pdD(ks:List (List Key))(ds:List D):List (D×D):=(.bool true,.none)::(ks.map tkD).zip ds
mutual
inductive Rep(K:Frag)(G:Hp):V->D->Prop where
 |non:Rep K G .non .none
 |bl (b:Bool):Rep K G (.bl b) (.bool b)
 |int (i:Int):Rep K G (.int i) (.int i)
 |str (x:Str):Rep K G (.str x) (.str x)
 |lst {a:Ud} {vs:List V} {ds:List D} (h:SqL K G a vs) (r:Reps K G vs ds):Rep K G (.ref a) (.list ds)
 |tup {a:Ud} {vs:List V} {ds:List D} (h:SqT K G a vs) (r:Reps K G vs ds):Rep K G (.ref a) (.tuple ds)
 |dic {a:Ud} (h:G a=some (.dK [])):Rep K G (.ref a) (.dict [])
 |exc {a C:Ud} {dd:Option Ud} {bm:List Ua} {nm:Str} {vs:List V} {ds:List D} (c:ClsK K nm C bm) (h:G a=some (.ext (XO false a C dd))) (hd:XFs G dd (Nt nm) vs) (r:Reps K G vs ds):Rep K G (.ref a) (.dict [(.none,.tuple [.str nm,.list ds])])
 |dct {a:Ud} {ks:List Key} {vs:List V} {ds:List D} {kvs:List (D×D)} (e:kvs=(ks.map kD).zip ds) (hne:ks≠[]) (hl:ks.length=ds.length) (h:G a=some (.dK (ks.zip vs))) (r:Reps K G vs ds):Rep K G (.ref a) (.dict kvs)
 |dtt {a:Ud} {o:Obj} {ks:List (List Key)} {vs:List V} {ds:List D} {kvs:List (D×D)} (e:kvs=pdD ks ds) (hl:ks.length=ds.length) (h:G a=some (.frz o (.dT (ks.zip vs)))) (r:Reps K G vs ds):Rep K G (.ref a) (.dict kvs)
inductive Reps(K:Frag)(G:Hp):List V->List D->Prop where
 |nil:Reps K G [] []
 |cons {v:V} {d:D} {vs:List V} {ds:List D} (h:Rep K G v d) (t:Reps K G vs ds):Reps K G (v::vs) (d::ds)
end
variable{K:Frag}{B G0 G G1 G2 H H1 H2:Hp}
theorem ZH{a:Ud}{xs:List V}(e:Same G G1)(h:SqT K G a xs):SqT K G1 a xs:=by
 rcases h with (h|⟨o,h⟩)|h
 ·exact .inl (.inl (e _ _ h))
 ·exact .inl (.inr ⟨o,e _ _ h⟩)
 ·exact .inr h
theorem Rep.mono(e:Same G G1){v:V}{d:D}(r:Rep K G v d):Rep K G1 v d:=Rep.rec (motive_1:=λv d _=>Rep K G1 v d) (motive_2:=λvs ds _=>Reps K G1 vs ds) .non .bl .int .str (λh _ r=>.lst (e.seq h) r) (λh _ r=>.tup (ZH e h) r) (λh=>.dic (e _ _ h)) (λc h hd _ r=>.exc c (e _ _ h) (hd.mono e) r) (λz n l h _ r=>.dct z n l (e _ _ h) r) (λz l h _ r=>.dtt z l (e _ _ h) r) .nil (λ_ _=>.cons) r
theorem Reps.mono(e:Same G G1){vs:List V}{ds:List D}(r:Reps K G vs ds):Reps K G1 vs ds:=Reps.rec (motive_1:=λv d _=>Rep K G1 v d) (motive_2:=λvs ds _=>Reps K G1 vs ds) .non .bl .int .str (λh _ r=>.lst (e.seq h) r) (λh _ r=>.tup (ZH e h) r) (λh=>.dic (e _ _ h)) (λc h hd _ r=>.exc c (e _ _ h) (hd.mono e) r) (λz n l h _ r=>.dct z n l (e _ _ h) r) (λz l h _ r=>.dtt z l (e _ _ h) r) .nil (λ_ _=>.cons) r
section
variable{v:V}{vs ws:List V}{ds es:List D}
theorem Rep.bl_inv{b:Bool}(h:Rep K G v (.bool b)):v=.bl b:=by cases h;rfl
theorem Rep.int_inv{i:Int}(h:Rep K G v (.int i)):v=.int i:=by cases h;rfl
theorem Rep.str_inv{x:Str}(h:Rep K G v (.str x)):v=.str x:=by cases h;rfl
theorem Rep.lst_inv(h:Rep K G v (.list ds)):∃a vs,v=.ref a/\SqL K G a vs/\Reps K G vs ds:=by
 cases h with
 |lst h r=>exact⟨_,_,rfl,h,r⟩
theorem Rep.tup_inv(h:Rep K G v (.tuple ds)):∃a vs,v=.ref a/\SqT K G a vs/\Reps K G vs ds:=by
 cases h with
 |tup h r=>exact⟨_,_,rfl,h,r⟩
theorem Reps.length:∀{vs:List V}{ds:List D},Reps K G vs ds->vs.length=ds.length
 |_,_,.nil=>rfl
 |_,_,.cons _ t=>by rw[QA,QA,Reps.length t]
theorem Reps.get:∀{vs:List V}{ds:List D}{i:Nat}{d:D},Reps K G vs ds->ds[i]?=some d->∃v,vs[i]?=some v/\Rep K G v d
 |_,_,_,_,.nil,e=>by simp at e
 |_,_,0,_,.cons h _,e=>by simp at e;subst e;exact⟨_,rfl,h⟩
 |_,_,i+1,d,.cons _ t,e=>by obtain⟨u,h1,h2⟩:=Reps.get (i:=i) (d:=d) t (by simpa using e);exact⟨u,by simpa using h1,h2⟩
theorem Reps.append:∀{vs ws:List V}{ds es:List D},Reps K G vs ds->Reps K G ws es->Reps K G (vs++ws) (ds++es)
 |_,_,_,_,.nil,s=>s
 |_,_,_,_,.cons r t,s=>.cons r (Reps.append t s)
theorem Reps.take:∀{vs:List V}{ds:List D}(n:Nat),Reps K G vs ds->Reps K G (vs.take n) (ds.take n)
 |_,_,0,_=>by rw[JM,JM];exact .nil
 |_,_,_+1,.nil=>.nil
 |_,_,n+1,.cons r t=>.cons r (Reps.take n t)
theorem Reps.drop:∀{vs:List V}{ds:List D}(n:Nat),Reps K G vs ds->Reps K G (vs.drop n) (ds.drop n)
 |_,_,0,r=>r
 |_,_,_+1,.nil=>.nil
 |_,_,n+1,.cons _ t=>Reps.drop n t
theorem Reps.reverse:∀{vs:List V}{ds:List D},Reps K G vs ds->Reps K G vs.reverse ds.reverse
 |_,_,.nil=>.nil
 |_,_,.cons r t=>by rw[List.reverse_cons,List.reverse_cons];exact Reps.append (Reps.reverse t) (.cons r .nil)
theorem Reps.set{v:V}{d:D}(r:Rep K G v d):∀{vs:List V}{ds:List D}(i:Nat),Reps K G vs ds->Reps K G (vs.set i v) (ds.set i d)
 |_,_,_,.nil=>.nil
 |_,_,0,.cons _ t=>.cons r t
 |_,_,i+1,.cons q t=>.cons q (Reps.set r i t)
theorem Reps.ints:∀(ns:List Int),Reps K G (ns.map V.int) (ns.map int)
 |[]=>.nil
 |n::ns=>.cons (.int n) (Reps.ints ns)
end
inductive MO where
 |l (vs:List V)|k (kvs:List (Key×V))|t (kvs:List (List Key×V))|s (S:Int->Bool) (n:Nat)
def MO.ho:MO->HO
 |.l vs=>.lst vs
 |.k kvs=>.dK kvs
 |.t kvs=>.dT kvs
 |.s S n=>.set S n
structure Ext(G H G' H':Hp):Prop where
 h:Same H H'
 g:Same G G'
 gh:Same G' H'
 np:∀a(u:MO),H a=some u.ho->G a=none->G' a=none
theorem Ext.refl(e:Same G H):Ext G H G H:=⟨.refl _,.refl _,e,λ_ _ _ q=>q⟩
theorem Kw{p:Ud}{o:HO}(h:H p=none):Same H (upd H p o):=λb u e=>by rw[U0 (K3 e h)];exact e
theorem Ext.new{p:Ud}{o:HO}(e:Same G H)(h:H p=none):Ext G H (upd G p o) (upd H p o):=by
 have hg:G p=none:=e.free h;refine⟨Kw h,Kw hg,λb u q=>?_,λa u q n=>?_⟩
 ·by_cases z:b=p
  ·subst z;rw[Ki]at q⊢;exact q
  ·rw[U0 z]at q⊢;exact e b u q
 ·rw[U0 (K3 q h)];exact n
theorem Ext.hid{p:Ud}{o:HO}(e:Same G H)(h:H p=none):Ext G H G (upd H p o):=
 ⟨Kw h,.refl _,e.trans (Kw h),λ_ _ _ n=>n⟩
inductive Pat where
 |leaf|lst (p:Pat)|tup (ps:List Pat)|dic
mutual
inductive RepO(K:Frag)(G H:Hp):Pat->V->D->List Ud->Prop where
 |leaf {v:V} {d:D} (r:Rep K G v d):RepO K G H .leaf v d []
 |lst {p:Pat} {a:Ud} {vs:List V} {ds:List D} {fp:List Ud} (h:H a=some (.lst vs)) (r:RepOl K G H p vs ds fp):RepO K G H (.lst p) (.ref a) (.list ds) (a::fp)
 |tup {ps:List Pat} {a:Ud} {vs:List V} {ds:List D} {fp:List Ud} (h:H a=some (.tup vs)) (r:RepOs K G H ps vs ds fp):RepO K G H (.tup ps) (.ref a) (.tuple ds) fp
 |dic {a:Ud} {ks:List Key} {vs:List V} {ds:List D} {kvs:List (D×D)} (e:kvs=(ks.map kD).zip ds) (hl:ks.length=ds.length) (h:H a=some (.dK (ks.zip vs))) (r:Reps K G vs ds):RepO K G H .dic (.ref a) (.dict kvs) [a]
inductive RepOl(K:Frag)(G H:Hp):Pat->List V->List D->List Ud->Prop where
 |nil {p:Pat}:RepOl K G H p [] [] []
 |cons {p:Pat} {v:V} {d:D} {vs:List V} {ds:List D} {f1 f2:List Ud} (h:RepO K G H p v d f1) (t:RepOl K G H p vs ds f2):RepOl K G H p (v::vs) (d::ds) (f1++f2)
inductive RepOs(K:Frag)(G H:Hp):List Pat->List V->List D->List Ud->Prop where
 |nil:RepOs K G H [] [] [] []
 |cons {p:Pat} {ps:List Pat} {v:V} {d:D} {vs:List V} {ds:List D} {f1 f2:List Ud} (h:RepO K G H p v d f1) (t:RepOs K G H ps vs ds f2):RepOs K G H (p::ps) (v::vs) (d::ds) (f1++f2)
end
def Yi(K:Frag)(G H:Hp)(M1:Pat->V->D->List Ud->Prop)(M2:Pat->List V->List D->List Ud->Prop)(M3:List Pat->List V->List D->List Ud->Prop):Prop:=
 (∀{p v d fp},RepO K G H p v d fp->M1 p v d fp)/\(∀{p vs ds fp},RepOl K G H p vs ds fp->M2 p vs ds fp)/\∀{ps vs ds fp},RepOs K G H ps vs ds fp->M3 ps vs ds fp
theorem RepO.ind3{M1:Pat->V->D->List Ud->Prop}{M2:Pat->List V->List D->List Ud->Prop}{M3:List Pat->List V->List D->List Ud->Prop}
  (c1:∀{v d},Rep K G v d->M1 .leaf v d []) (c2:∀{p a vs ds fp},H a=some (.lst vs)->M2 p vs ds fp->M1 (.lst p) (.ref a) (.list ds) (a::fp)) (c3:∀{ps a vs ds fp},H a=some (.tup vs)->M3 ps vs ds fp->M1 (.tup ps) (.ref a) (.tuple ds) fp)
  (c4:∀{a:Ud}{ks:List Key}{vs:List V}{ds:List D}{kvs:List (D×D)},kvs=(ks.map kD).zip ds->ks.length=ds.length->H a=some (.dK (ks.zip vs))->Reps K G vs ds->M1 .dic (.ref a) (.dict kvs) [a])
  (c5:∀{p},M2 p [] [] []) (c6:∀{p v d vs ds f1 f2},M1 p v d f1->M2 p vs ds f2->M2 p (v::vs) (d::ds) (f1++f2)) (c7:M3 [] [] [] []) (c8:∀{p ps v d vs ds f1 f2},M1 p v d f1->M3 ps vs ds f2->M3 (p::ps) (v::vs) (d::ds) (f1++f2)) :
  Yi K G H M1 M2 M3:=
 ⟨λh=>RepO.rec (motive_1:=λp v d fp _=>M1 p v d fp) (motive_2:=λp v d fp _=>M2 p v d fp) (motive_3:=λp v d fp _=>M3 p v d fp) c1 (λh _=>c2 h) (λh _=>c3 h) c4 c5 (λ_ _=>c6) c7 (λ_ _=>c8) h,
  λh=>RepOl.rec (motive_1:=λp v d fp _=>M1 p v d fp) (motive_2:=λp v d fp _=>M2 p v d fp) (motive_3:=λp v d fp _=>M3 p v d fp) c1 (λh _=>c2 h) (λh _=>c3 h) c4 c5 (λ_ _=>c6) c7 (λ_ _=>c8) h,
  λh=>RepOs.rec (motive_1:=λp v d fp _=>M1 p v d fp) (motive_2:=λp v d fp _=>M2 p v d fp) (motive_3:=λp v d fp _=>M3 p v d fp) c1 (λh _=>c2 h) (λh _=>c3 h) c4 c5 (λ_ _=>c6) c7 (λ_ _=>c8) h⟩
theorem RepO.mono3(sg:Same G G1)(sh:Same H H1):Yi K G H (RepO K G1 H1) (RepOl K G1 H1) (RepOs K G1 H1):=
 RepO.ind3 (λr=>.leaf (r.mono sg)) (λh r=>.lst (sh _ _ h) r) (λh r=>.tup (sh _ _ h) r) (λe hl h r=>.dic e hl (sh _ _ h) (r.mono sg)) .nil .cons .nil .cons
theorem RepO.mono(sg:Same G G1)(sh:Same H H1){p:Pat}{v:V}{d:D}{fp:List Ud}(r:RepO K G H p v d fp):RepO K G1 H1 p v d fp:=(RepO.mono3 sg sh).1 r
theorem RepO.upd3{a:Ud}{o:HO}(nt:∀vs,H a≠some (.tup vs)):Yi K G H (λp v d fp=>a∉fp->RepO K G (upd H a o) p v d fp) (λp v d fp=>a∉fp->RepOl K G (upd H a o) p v d fp) (λp v d fp=>a∉fp->RepOs K G (upd H a o) p v d fp):=
 RepO.ind3
 (λr _=>.leaf r) (λh r n=>.lst (by rw[U0 (λz=>n (by rw[z];exact Qq))];exact h) (r λz=>n (QF _ z))) (λh r n=>.tup (by rw[U0 (λz=>by subst z;exact nt _ h)];exact h) (r n))
 (λe hl h r n=>.dic e hl (by rw[U0 (λz=>n (by rw[z];exact Qq))];exact h) r) (λ_=>.nil) (λh t n=>.cons (h λz=>n (Je _ z)) (t λz=>n (Qw _ z))) (λ_=>.nil) (λh t n=>.cons (h λz=>n (Je _ z)) (t λz=>n (Qw _ z)))
theorem RepO.upd{a:Ud}{o:HO}(nt:∀vs,H a≠some (.tup vs)){p:Pat}{v:V}{d:D}{fp:List Ud}(r:RepO K G H p v d fp)(n:a∉fp):RepO K G (upd H a o) p v d fp:=(RepO.upd3 nt).1 r n
theorem RepO.rep3(gh:Same G H):Yi K G H (λ_ v d _=>Rep K H v d) (λ_ v d _=>Reps K H v d) (λ_ v d _=>Reps K H v d):=
 RepO.ind3 (λr=>r.mono gh) (λh r=>.lst (SqL.of h) r) (λh r=>.tup (SqT.of h) r)
 (λ{a ks vs ds kvs} e hl h r=>by
  cases ks with
  |nil=>subst e;exact .dic h
  |cons k ks=>exact .dct e (λz=>by cases z) hl h (r.mono gh)) .nil .cons .nil .cons
theorem RepO.rep(gh:Same G H){p:Pat}{v:V}{d:D}{fp:List Ud}(r:RepO K G H p v d fp):Rep K H v d:=(RepO.rep3 gh).1 r
theorem RepO.isl3:Yi K G H (λ_ _ _ fp=>∀a∈fp,∃u:MO,H a=some u.ho) (λ_ _ _ fp=>∀a∈fp,∃u:MO,H a=some u.ho) (λ_ _ _ fp=>∀a∈fp,∃u:MO,H a=some u.ho):=
 RepO.ind3 (λ_ a m=>by cases m)
 (λh r b m=>(QP.mp m).elim (λe=>⟨.l _,e ▸ h⟩) (r b)) (λ_ r=>r) (λ_ _ h _ b m=>⟨.k _,QK.mp m ▸ h⟩) (λa m=>by cases m) (λh t b m=>(QM.mp m).elim (h b) (t b)) (λa m=>by cases m) (λh t b m=>(QM.mp m).elim (h b) (t b))
theorem RepO.isl{p:Pat}{v:V}{d:D}{fp:List Ud}(r:RepO K G H p v d fp):∀a∈fp,∃u:MO,H a=some u.ho:=RepO.isl3.1 r
theorem RepO.uniq3(sh:Same H H1):Yi K G H (λp v _ fp=>∀d' fp',RepO K G1 H1 p v d' fp'->fp=fp') (λp v _ fp=>∀d' fp',RepOl K G1 H1 p v d' fp'->fp=fp') (λp v _ fp=>∀d' fp',RepOs K G1 H1 p v d' fp'->fp=fp'):=
 RepO.ind3
 (λ_ d' fp' h=>by cases h;rfl)
 (λh r d' fp' h'=>by
  cases h' with
  |lst h2 r2=>have e:=sh _ _ h;rw[h2]at e;cases e;rw[r _ _ r2])
 (λh r d' fp' h'=>by
  cases h' with
  |tup h2 r2=>have e:=sh _ _ h;rw[h2]at e;cases e;exact r _ _ r2)
 (λ_ _ _ _ d' fp' h=>by cases h;rfl) (λd' fp' h=>by cases h;rfl)
 (λh t d' fp' h'=>by
  cases h' with
  |cons h2 t2=>rw[h _ _ h2,t _ _ t2])
 (λd' fp' h=>by cases h;rfl)
 (λh t d' fp' h'=>by
  cases h' with
  |cons h2 t2=>rw[h _ _ h2,t _ _ t2])
theorem RepO.uniq(sh:Same H H1){p:Pat}{v:V}{d d':D}{fp fp':List Ud}(r:RepO K G H p v d fp)(r':RepO K G1 H1 p v d' fp'):fp=fp':=(RepO.uniq3 sh).1 r _ _ r'
inductive Sl where
 |pub (d:D)|own (ds:List D)|deep (p:Pat) (d:D)
abbrev UB:=List (Option Sl)
def DpOk(K:Frag)(B G H:Hp)(σ:St)(ρ:UB):Prop:=∃ω:Ud->Nat,
 (∀(i:Nat) p d,ρ[i]?=some (some (.deep p d))->∃v fp,σ[i]?=some (some v)/\RepO K G H p v d fp/\fp.Nodup/\∀a∈fp,B a=none/\G a=none/\ω a=i) /\
 (∀(i:Nat) ds a,ρ[i]?=some (some (.own ds))->σ[i]?=some (some (.ref a))->ω a=i)
theorem DpOk.of{σ:St}{ρ:UB}(h1:∀(i:Nat) p d,ρ[i]?=some (some (.deep p d))->False)(h2:∀(i:Nat) ds,ρ[i]?=some (some (.own ds))->False):DpOk K B G H σ ρ:=
 ⟨λ_=>0,λi p d q=>(h1 i p d q).elim,λi ds a q=>(h2 i ds q).elim⟩
theorem DpOk.map{B1:Hp}{σ σ1:St}{ρ ρ1:UB}(k:DpOk K B G H σ ρ)
  (h1:∀(i:Nat) p d,ρ1[i]?=some (some (.deep p d))->ρ[i]?=some (some (.deep p d))/\σ1[i]?=σ[i]?)
  (h2:∀(i:Nat) ds,ρ1[i]?=some (some (.own ds))->∃es,ρ[i]?=some (some (.own es))/\σ1[i]?=σ[i]?)
  (h3:∀(i:Nat) p d v fp,ρ[i]?=some (some (.deep p d))->σ[i]?=some (some v)->RepO K G H p v d fp->(∀a∈fp,B a=none/\G a=none)->(∀(j:Nat) ds a,ρ[j]?=some (some (.own ds))->σ[j]?=some (some (.ref a))->a∉fp)->RepO K G1 H1 p v d fp/\∀a∈fp,B1 a=none/\G1 a=none):DpOk K B1 G1 H1 σ1 ρ1:=by
 obtain⟨ω,k1,k2⟩:=k;refine⟨ω,λi p d q=>?_,λi ds a q s=>?_⟩
 ·obtain⟨q1,e1⟩:=h1 i p d q;obtain⟨v,fp,s,r,n,w⟩:=k1 i p d q1;obtain⟨r1,w1⟩:=h3 i p d v fp q1 s r (λa m=>⟨(w a m).1,(w a m).2.1⟩) λj ds a qj sj m=>by have z1:=k2 j ds a qj sj;have z2:=(w a m).2.2;rw[z1]at z2;subst z2;rw[q1]at qj;cases qj
  exact⟨v,fp,by rw[e1];exact s,r1,n,λa m=>⟨(w1 a m).1,(w1 a m).2,(w a m).2.2⟩⟩
 ·obtain⟨es,q1,e1⟩:=h2 i ds q;rw[e1]at s;exact k2 i es a q1 s
structure EOk(K:Frag)(B G0 G H:Hp)(σ:St)(ρ:UB):Prop where
 bh:Same B H
 gh:Same G H
 g0:Same G0 G
 np:∀a(u:MO),B a=some u.ho->G0 a=none->G a=none
 len:ρ.length=σ.length
 pub:∀(i:Nat) d,ρ[i]?=some (some (.pub d))->∃v,σ[i]?=some (some v)/\Rep K G v d
 own:∀(i:Nat) ds,ρ[i]?=some (some (.own ds))->∃a vs,σ[i]?=some (some (.ref a))/\B a=none/\G a=none/\H a=some (.lst vs)/\Reps K G vs ds
 sep:∀(i j:Nat) a ds es,ρ[i]?=some (some (.own ds))->ρ[j]?=some (some (.own es))->σ[i]?=some (some (.ref a))->σ[j]?=some (some (.ref a))->i=j
 dp:DpOk K B G H σ ρ
theorem EOk.ext{G' H':Hp}{σ:St}{ρ:UB}(k:EOk K B G0 G H σ ρ)(e:Ext G H G' H'):EOk K B G0 G' H' σ ρ where
 bh:=k.bh.trans e.h
 gh:=e.gh
 g0:=k.g0.trans e.g
 np:=λa o q n=>e.np a o (k.bh a _ q) (k.np a o q n)
 len:=k.len
 pub:=λi d q=>let ⟨v,h1,h2⟩:=k.pub i d q;⟨v,h1,h2.mono e.g⟩
 own:=λi ds q=>let ⟨a,vs,h1,h2,h3,h4,h5⟩:=k.own i ds q;⟨a,vs,h1,h2,e.np a (.l _) h4 h3,e.h a _ h4,h5.mono e.g⟩
 sep:=k.sep
 dp:=k.dp.map (λ_ _ _ q=>⟨q,rfl⟩) (λ_ ds q=>⟨ds,q,rfl⟩) λi p d v fp q s r w n=>⟨r.mono e.g e.h,λa m=>let ⟨_,hl⟩:=r.isl a m;⟨(w a m).1,e.np a _ hl (w a m).2⟩⟩
theorem EOk.publish{σ:St}{ρ:UB}{i:Nat}{ds:List D}(k:EOk K B G0 G H σ ρ)(h:ρ[i]?=some (some (.own ds))) :
  ∃a G',σ[i]?=some (some (.ref a))/\Same G G'/\Rep K G' (.ref a) (.list ds)/\EOk K B G0 G' H σ (ρ.set i (some (.pub (.list ds)))):=by
 obtain⟨a,vs,h1,h2,h3,h4,h5⟩:=k.own i ds h;have sg:Same G (upd G a (.lst vs)):=Kw h3;have hr:Rep K (upd G a (.lst vs)) (.ref a) (.list ds):=.lst (SqL.of Ki) (h5.mono sg);refine⟨a,upd G a (.lst vs),h1,sg,hr,⟨k.bh,λb u q=>?_,k.g0.trans sg,λb o q n=>?_,by rw[Q3];exact k.len,λj d q=>?_,λj es q=>?_,λj l c es fs q1 q2 s1 s2=>?_,?_⟩⟩
 ·by_cases z:b=a
  ·subst z;rw[Ki]at q;cases q;exact h4
  ·rw[U0 z]at q;exact k.gh b u q
 ·have z:b≠a:=λz=>by subst z;rw[h2]at q;cases q
  rw[U0 z];exact k.np b o q n
 ·by_cases z:i=j
  ·subst z;have hl:i<ρ.length:=(Qf.mp h).1;rw[QG hl]at q;cases q;exact⟨.ref a,h1,hr⟩
  ·rw[Ql z]at q;obtain⟨v,g1,g2⟩:=k.pub j d q;exact⟨v,g1,g2.mono sg⟩
 ·by_cases z:i=j
  ·subst z;have hl:i<ρ.length:=(Qf.mp h).1;rw[QG hl]at q;cases q
  ·rw[Ql z]at q;obtain⟨b,ws,g1,g2,g3,g4,g5⟩:=k.own j es q;have zb:b≠a:=λe=>z (k.sep i j a ds es h q h1 (by rw[←e];exact g1))
   exact⟨b,ws,g1,g2,by rw[U0 zb];exact g3,g4,g5.mono sg⟩
 ·have nz:∀{m:Nat}{ts:List D},(ρ.set i (some (Sl.pub (.list ds))))[m]?=some (some (.own ts))->ρ[m]?=some (some (.own ts)):=λ{m ts} q=>by
   by_cases z:i=m
   ·subst z;have hl:i<ρ.length:=(Qf.mp h).1;rw[QG hl]at q;cases q
   ·rw[Ql z]at q;exact q
  exact k.sep j l c es fs (nz q1) (nz q2) s1 s2
 ·have hl:i<ρ.length:=(Qf.mp h).1
  have nz:∀{m:Nat}{s:Sl},(ρ.set i (some (Sl.pub (.list ds))))[m]?=some (some s)->(∃d,s=.pub d)∨ρ[m]?=some (some s):=λ{m s} q=>by
   by_cases z:i=m
   ·subst z;rw[QG hl]at q;cases q;exact .inl ⟨_,rfl⟩
   ·rw[Ql z]at q;exact .inr q
  refine k.dp.map (λm p d q=>?_) (λm es q=>?_) λm p d v fp q s r w n=>⟨r.mono sg (.refl _),λb mb=>⟨(w b mb).1,?_⟩⟩
  ·rcases nz q with ⟨_,e⟩|q
   ·cases e
   ·exact⟨q,rfl⟩
  ·rcases nz q with ⟨_,e⟩|q
   ·cases e
   ·exact⟨es,q,rfl⟩
  ·rw[U0 (λz=>by subst z;exact n i ds b h h1 mb)];exact(w b mb).2
inductive Res(α:Type) where
 |ok (a:α) (ρ:UB)|bad
abbrev M(α:Type):=UB->Res α
def UE{α:Type}(a:α):M α:=λρ=>.ok a ρ
def US{α:Type}(o:Option α):M α:=λρ=>match o with|some a=>.ok a ρ|none=>.bad
def UO{α β:Type}(f:M α)(k:α->M β):M β:=λρ=>match f ρ with | .ok a ρ'=>k a ρ' | .bad=>.bad
section
variable(K:Frag)(B G0:Hp)
def aft{α γ:Type}(R:Hp->γ->α->Prop)(r:Res α)(G:Hp)(σ:St)(Q:γ->Hp->Prop):Prop:=
 match r with
 |.ok d ρ'=>∀v G' H',EOk K B G0 G' H' σ ρ'->Same G G'->R G' v d->Q v H'
 |.bad=>False
def tM{α γ:Type}(R:Hp->γ->α->Prop)(f:M α):St->Hp->(γ->Hp->Prop)->Prop:=λσ H Q=>
 ∃G ρ,EOk K B G0 G H σ ρ/\aft K B G0 R (f ρ) G σ Q
abbrev tD(f:M D):TE:=tM K B G0 (Rep K) f
abbrev tDs(f:M (List D)):TA:=tM K B G0 (Reps K) f
abbrev tBo(f:M Bool):TT:=tM K B G0 (λ_ b c=>b=c) f
abbrev tOi(f:M (Option Int)):TO:=tM K B G0 (λ_ b c=>b=c) f
end
section
variable{K:Frag}{B G0:Hp}{α β γ δ ε:Type}{R:Hp->γ->α->Prop}{S:Hp->δ->β->Prop}{T:Hp->ε->α->Prop}{σ:St}{H:Hp}
theorem aft.mono{r:Res α}{G G':Hp}{Q:γ->Hp->Prop}(e:Same G G')(h:aft K B G0 R r G σ Q):aft K B G0 R r G' σ Q:=by
 cases r with
 |ok d ρ=>exact λv G2 H2 k s q=>h v G2 H2 k (e.trans s) q
 |bad=>exact h
theorem aft.done{d:α}{ρ:UB}{G G' H H':Hp}{v:γ}{Q:γ->Hp->Prop}(h:aft K B G0 R (.ok d ρ) G σ Q)(k:EOk K B G0 G H σ ρ)(e:Ext G H G' H')(r:R G' v d):Q v H':=
 h v G' H' (k.ext e) e.g r
theorem aft.now{d:α}{ρ:UB}{G H:Hp}{v:γ}{Q:γ->Hp->Prop}(h:aft K B G0 R (.ok d ρ) G σ Q)(k:EOk K B G0 G H σ ρ)(r:R G v d):Q v H:=
 h v G H k (.refl _) r
theorem aft.opt{o:Option α}{ρ:UB}{G:Hp}{Q:γ->Hp->Prop}(h:aft K B G0 R (US o ρ) G σ Q):∃d,o=some d/\aft K B G0 R (.ok d ρ) G σ Q:=by
 cases o with
 |none=>exact h.elim
 |some d=>exact⟨d,rfl,h⟩
theorem tM.bind{f:M α}{k:α->M β}{Q:δ->Hp->Prop}(h:tM K B G0 S (UO f k) σ H Q) :
  tM K B G0 R f σ H (λv H1=>∃G ρ d,EOk K B G0 G H1 σ ρ/\R G v d/\aft K B G0 S (k d ρ) G σ Q):=by
 obtain⟨G,ρ,e,a⟩:=h;refine⟨G,ρ,e,?_⟩;unfold UO at a;cases q:f ρ with
 |bad=>rw[q]at a;exact a.elim
 |ok d ρ1=>rw[q]at a;exact λv G' H' e' s r=>⟨G',ρ1,d,e',r,aft.mono s a⟩
theorem tM.bind2{α' γ':Type}{R':Hp->γ'->α'->Prop}{f:M α}{g:α->M α'}{k:α->α'->M β}{Q:δ->Hp->Prop}(mo:∀G G' v d,Same G G'->R G v d->R G' v d)
  (h:tM K B G0 S (UO f λx=>UO (g x) λy=>k x y) σ H Q) :
  tM K B G0 R f σ H (λv H1=>∃x,tM K B G0 R' (g x) σ H1 λu H2=>∃G ρ y,EOk K B G0 G H2 σ ρ/\R G v x/\R' G u y/\aft K B G0 S (k x y ρ) G σ Q):=by
 obtain⟨G,ρ,e,a⟩:=tM.bind (R:=R) h;refine⟨G,ρ,e,?_⟩;cases q:f ρ with
 |bad=>rw[q]at a;exact a.elim
 |ok d ρ1=>
  rw[q]at a;intro v G' H' e' s r;obtain⟨G2,ρ2,d2,e2,r2,a2⟩:=a v G' H' e' s r;refine⟨d2,G2,ρ2,e2,?_⟩;unfold UO at a2;cases q2:g d2 ρ2 with
  |bad=>rw[q2]at a2;exact a2.elim
  |ok d3 ρ3=>rw[q2]at a2;exact λu G3 H3 e3 s3 r3=>⟨G3,ρ3,d3,e3,mo _ _ _ _ s3 r2,r3,aft.mono s3 a2⟩
end
theorem Pz{K:Frag}(G G':Hp)(v:V)(d:D)(e:Same G G')(r:Rep K G v d):Rep K G' v d:=r.mono e
theorem tM.two{K:Frag}{B G0:Hp}{β δ:Type}{S:Hp->δ->β->Prop}{σ:St}{H:Hp}{f g:M D}{k:D->D->M β}{Q:δ->Hp->Prop}{P:V->V->Hp->Prop}
  (h:tM K B G0 S (UO f λx=>UO g λy=>k x y) σ H Q)
  (i:∀v u H2 G ρ x y,EOk K B G0 G H2 σ ρ->Rep K G v x->Rep K G u y->aft K B G0 S (k x y ρ) G σ Q->P v u H2) :
  tD K B G0 f σ H (λv H1=>tD K B G0 g σ H1 λu H2=>P v u H2):=by
 obtain⟨G,ρ,e,a⟩:=tM.bind2 (R:=Rep K) (R':=Rep K) Pz h;refine⟨G,ρ,e,?_⟩;cases q:f ρ with
 |bad=>rw[q]at a;exact a.elim
 |ok d ρ1=>
  rw[q]at a;intro v G' H' e' s r;obtain⟨x,G2,ρ2,e2,a2⟩:=a v G' H' e' s r;refine⟨G2,ρ2,e2,?_⟩;cases q2:g ρ2 with
  |bad=>rw[q2]at a2;exact a2.elim
  |ok d3 ρ3=>rw[q2]at a2;intro u G3 H3 e3 s3 r3;obtain⟨G4,ρ4,y,e4,r4,r5,a5⟩:=a2 u G3 H3 e3 s3 r3;exact i v u H3 G4 ρ4 x y e4 r4 r5 a5
theorem tM.one{K:Frag}{B G0:Hp}{α β γ δ:Type}{R:Hp->γ->α->Prop}{S:Hp->δ->β->Prop}{σ:St}{H:Hp}{f:M α}{k:α->M β}{Q:δ->Hp->Prop}{P:γ->Hp->Prop}
  (h:tM K B G0 S (UO f k) σ H Q) (i:∀v H2 G ρ x,EOk K B G0 G H2 σ ρ->R G v x->aft K B G0 S (k x ρ) G σ Q->P v H2):tM K B G0 R f σ H P:=by
 obtain⟨G,ρ,e,a⟩:=tM.bind (R:=R) h;refine⟨G,ρ,e,?_⟩;cases q:f ρ with
 |bad=>rw[q]at a;exact a.elim
 |ok d ρ1=>rw[q]at a;intro v G' H' e' s r;obtain⟨G2,ρ2,d2,e2,r2,a2⟩:=a v G' H' e' s r;exact i v H' G2 ρ2 d2 e2 r2 a2
section
variable{X:Cx}{B G0:Hp}{e a b:Uf}{pos:Pos}
theorem UW{t t':TE}(h:PE X e t)(i:∀σ H Q,t' σ H Q->t σ H Q):PE X e t':=λpins s σ H Q I q=>h pins s σ H Q I (i σ H Q q)
theorem Zx{t t':TT}(h:PT X e t)(i:∀σ H Q,t' σ H Q->t σ H Q):PT X e t':=λpins s σ H Q I q=>h pins s σ H Q I (i σ H Q q)
theorem Yw{es:List Uf}{t t':TA}(h:PA X es t)(i:∀σ H Q,t' σ H Q->t σ H Q):PA X es t':=λps pins s σ H Q I q=>h ps pins s σ H Q I (i σ H Q q)
theorem poof{eo:Option Uf}{t t':TO}(h:PO X eo t)(i:∀σ H Q,t' σ H Q->t σ H Q):PO X eo t':=λpins s σ H Q I q=>h pins s σ H Q I (i σ H Q q)
theorem KE{st:Stmt}{t t':TS}(h:PS X st t)(i:∀D σ H,t' D σ H->t D σ H):PS X st t':=λpins s σ H D I q=>h pins s σ H D I (i D σ H q)
theorem Rq{st:List Stmt}{t t':TS}(h:PSs X st t)(i:∀D σ H,t' D σ H->t D σ H):PSs X st t':=λpins s σ H D I q=>h pins s σ H D I (i D σ H q)
def UA(i:Nat):M D:=λρ=>match ρ[i]? with
 |some (some (.pub d))=>.ok d ρ
 |some (some (.own ds))=>.ok (.list ds) (ρ.set i (some (.pub (.list ds))))
 |_=>.bad
theorem RE{i:Nat}(h:PE X e (Km i)):PE X e (tD X.K B G0 (UA i)):=UW h λσ H Q ⟨G,ρ,k,a⟩=>by
 unfold UA at a;cases q:ρ[i]? with
 |none=>rw[q]at a;exact a.elim
 |some o=>
  cases o with
  |none=>rw[q]at a;exact a.elim
  |some sl=>
   cases sl with
   |deep _ _=>rw[q]at a;exact a.elim
   |pub d=>rw[q]at a;obtain⟨v,h1,h2⟩:=k.pub i d q;exact⟨v,h1,a.now k h2⟩
   |own ds=>rw[q]at a;obtain⟨ad,G',h1,h2,h3,h4⟩:=k.publish q;exact⟨.ref ad,h1,a (.ref ad) G' H h4 h2 h3⟩
theorem T5{v:V}{d:D}(h:PE X e (tC v))(r:∀G,Rep X.K G v d):PE X e (tD X.K B G0 (UE d)):=UW h λσ H Q ⟨G,ρ,k,a⟩=>a.now k (r G)
theorem LM{i:Int}{j}:PE X (.Constant (.int i) j pos) (tD X.K B G0 (UE (.int i))):=T5 Lw λ_=>.int i
theorem GE{i:Bool}{j}:PE X (.Constant (.bool i) j pos) (tD X.K B G0 (UE (.bool i))):=T5 Le λ_=>.bl i
theorem Fi{j}:PE X (.Constant .none j pos) (tD X.K B G0 (UE .none)):=T5 Lv λ_=>.non
def UG{β:Type}(op:D->D->Option β)(f g:M D):M β:=UO f λx=>UO g λy=>US (op x y)
def OpD(X:Cx)(f:Ua->Ua->Sem Ua)(op:D->D->Option D):Prop:=
 ∃r:R2,OpR X f r/\∀v u G H x y d Q,Same G H->Rep X.K G v x->Rep X.K G u y->op x y=some d->(∀w G' H',Ext G H G' H'->Rep X.K G' w d->Q w H')->r v u H Q
theorem XX{op:Operator}{p:D->D->Option D}{f g:M D}(o:OpD X (binaryOp op) p)(ha:PE X a (tD X.K B G0 f))(hb:PE X b (tD X.K B G0 g)):PE X (.BinOp a op b pos) (tD X.K B G0 (UG p f g)):=by
 obtain⟨r,h,i⟩:=o;refine UW (NJ h ha hb) λσ H Q q=>?_;refine tM.two q λv u H2 G ρ x y k rx ry a=>?_
 obtain⟨d,e,a⟩:=a.opt;exact i v u G H2 x y d Q k.gh rx ry e λw G' H' ex rw=>a.done k ex rw
theorem OpD.or{f:Ua->Ua->Sem Ua}{p q:D->D->Option D}(h:OpD X f p)(h':OpD X f q):OpD X f (λx y=>(p x y).orElse λ_=>q x y):=by
 obtain⟨r,h1,i1⟩:=h;obtain⟨r',h2,i2⟩:=h';refine⟨_,h1.or h2,λv u G H x y d Q s rx ry e k=>?_⟩;dsimp only at e;cases z:p x y with
 |some d'=>rw[z]at e;have e':d'=d:=Qo e;subst e';exact .inl (i1 v u G H x y d' Q s rx ry z k)
 |none=>rw[z]at e;exact .inr (i2 v u G H x y d Q s rx ry e k)
def oII(g:Int->Int->Option D):D->D->Option D
 |.int i,.int j=>g i j
 |_,_=>none
theorem Py{g:Int->Int->Option D}{x y d:D}(e:oII g x y=some d):∃i j,x=.int i/\y=.int j/\g i j=some d:=by
 unfold oII at e;split at e
 ·exact⟨_,_,rfl,rfl,e⟩
 ·cases e
theorem OpD.int{f:Ua->Ua->Sem Ua}{C:Int->Int->Prop}{g:Int->Int->V}{p:Int->Int->Option D}(h:OpR X f (rI C g))(i:∀i j d,p i j=some d->C i j/\∀G,Rep X.K G (g i j) d):OpD X f (oII p):=by refine⟨_,h,λv u G H x y d Q s rx ry e k=>?_⟩;obtain⟨a,b,rfl,rfl,e⟩:=Py e;obtain⟨c,r⟩:=i a b d e;exact⟨a,b,rx.int_inv,ry.int_inv,c,k _ G H (.refl s) (r G)⟩
theorem OpD.int0{f:Ua->Ua->Sem Ua}{g:Int->Int->V}{p:Int->Int->D}(h:OpR X f (rI0 g))(i:∀i j G,Rep X.K G (g i j) (p i j)):OpD X f (oII λi j=>some (p i j)):=by refine⟨_,h,λv u G H x y d Q s rx ry e k=>?_⟩;obtain⟨a,b,rfl,rfl,e⟩:=Py e;cases e;exact⟨a,b,rx.int_inv,ry.int_inv,k _ G H (.refl s) (i a b G)⟩
end
section
variable{X:Cx}{B G0:Hp}{e a b c:Uf}{pos:Pos}
theorem Hi:OpD X (binaryOp .Add) (oII λi j=>some (.int (i+j))):=.int0 L7 λ_ _ _=>.int _
theorem Hg:OpD X (binaryOp .Sub) (oII λi j=>some (.int (i-j))):=.int0 L6 λ_ _ _=>.int _
def YA(i j:Int):Option D:=if(-(2 ^ 64)<i/\i<2 ^ 64)∨(-(2 ^ 64)<j/\j<2 ^ 64)then some (.int (i*j))else none
theorem Fh:OpD X (binaryOp .Mult) (oII YA):=.int L5 λi j d h=>by
 unfold YA at h;split at h
 ·rename_i c;cases h;exact⟨c,λ_=>.int _⟩
 ·cases h
def Xh(i j:Int):Option D:=if 0<j then some (.int (i % j))else none
theorem Hf:OpD X (binaryOp .Mod) (oII Xh):=.int L4 λi j d h=>by
 unfold Xh at h;split at h
 ·rename_i c;cases h;exact⟨c,λ_=>.int _⟩
 ·cases h
theorem FE:OpR X (binaryOp .FloorDiv) (rI (λi j=>0<j/\j<2 ^ 64) λi j=>.int (i / j)):=opI λi j _ _ _ _ _ hc q=>by
 have h1:(0:Int)<j:=hc.1;have h2:j<2 ^ 64:=hc.2;refine floordiv_int (by omega) (by rw[Int.fdiv_eq_ediv_of_nonneg i (by omega)];exact q) (.inl (PyProof.noPylong_of_log2 ?_));have h0:j.natAbs≠0:=by omega
 have:j.natAbs.log2<64:=(Nat.log2_lt h0).mpr (by omega);omega
def Xi(i j:Int):Option D:=if 0<j/\j<2 ^ 64 then some (.int (i / j))else none
theorem He:OpD X (binaryOp .FloorDiv) (oII Xi):=.int FE λi j d h=>by
 unfold Xi at h;split at h
 ·rename_i c;cases h;exact⟨c,λ_=>.int _⟩
 ·cases h
def Xg(i j:Int):Option D:=if 0<=j/\j<=1000000/\i.natAbs<2 ^ 64 then some (.int (i ^ j.toNat))else none
theorem Hd:OpD X (binaryOp .Pow) (oII Xg):=.int L1 λi j d h=>by
 unfold Xg at h;split at h
 ·rename_i c;cases h;exact⟨c,λ_=>.int _⟩
 ·cases h
theorem lim:(1000000:Nat)<=Ug:=by decide
def VR:D->D->Option D
 |.str x,.str y=>if x.length+y.length<=1000000 then some (.str (x++y))else none
 |_,_=>none
theorem Fg:OpD X (binaryOp .Add) VR:=by
 refine⟨_,D5,λv u G H x y d Q s rx ry e k=>?_⟩;unfold VR at e;split at e
 ·split at e
  ·rename_i c;cases e;exact⟨_,_,rx.str_inv,ry.str_inv,QN c lim,k _ G H (.refl s) (.str _)⟩
  ·cases e
 ·cases e
def Nq(K:Frag):R2:=λx y H Q=>∃l b xs zs,x=.ref l/\y=.ref b/\SqL K H l xs/\SqL K H b zs/\xs.length+zs.length<=Ug/\∀p,H p=none->Q (.ref p) (upd H p (.lst (xs++zs)))
theorem Ff:OpR X (binaryOp .Add) (Nq X.K):=by
 intro pins s σ H x y v u Q I rx ry h;obtain⟨l,b,xs,zs,rfl,rfl,hH,hB,hz,q⟩:=h;cases rx;cases ry;obtain⟨its,r,⟨⟨c1,d1,t1,s1⟩,n1,e1,ec1,ed1,et1⟩,z1⟩:=I.list hH;obtain⟨its2,r2,⟨⟨c2,d2,t2,s2⟩,n2,e2,ec2,ed2,et2⟩,z2⟩:=I.list hB;simp only at ec1 ed1 et1 ec2 ed2 et2;subst ec1 ed1 et1 ec2 ed2 et2;have hl:=r.length;have hl2:=r2.length;refine concat_meets ⟨_,e1,rfl⟩ ⟨_,e2,rfl⟩ noFill_list_add seq_list_add PySem.F.slot_list_add PySem.F.entry_list_add (PySem.F.args_list_add_2 _ _) (list_addW l b its.toArray its2.toArray n1 n2 none none s1 s2 (by rw[QE,QE];omega)) ⟨e1,e2,?_⟩;have ea:its.toArray++its2.toArray=(its++its2).toArray:=by simp
 rw[ea];exact⟨.ref _,_,I.lnew (t':=s.toks) (r.append r2) (by rw[Qk];omega),rfl,q _ I.fresh⟩
theorem Np(a:Int)(t:Tok)(l:Ud)(items:Array Ua)(n:Nat)(sl:Array (Option Ua)) :
  Meets (Builtin.«int.__rmul__» ⟨[.int a t,.ref l],[]⟩) (λ_ R s=>s.heap.get? l=some {cls:=.type "list", dict:=none,data:=.seq items n,slots:=sl}/\R (.ok (.ret Value.notImplemented)) s):=
 .of_wp λprog w A R s h=>by obtain⟨hp,g,d,tk,os⟩:=s;obtain⟨hl,h⟩:=h;wp_walk;exact⟨_,rfl,h⟩
theorem mulW(l:Ud)(items:Array Ua)(n:Nat)(x:Int)(u:Tok)(sl:Array (Option Ua))(hc0:¬(!Builtin.List.listFitsIndex x)=true)(hc1:¬items.size*x.toNat > (2 ^ 63-1) / 8)(hc2:¬Builtin.List.listTooLong (items.size*x.toNat)=true) :
  Meets (Builtin.«list.__mul__» ⟨[.ref l,.int x u],[]⟩) (λ_ R s=>s.heap.get? l=some {cls:=.type "list", dict:=none,data:=.seq items n,slots:=sl}/\R (.ok (.ret (Value.ref s.heap.objs.size))) {s with heap:=s.heap.push {cls:=Value.type "list", data:=Data.seq (List.foldl (λx1 x2=>x1++x2) #[] (Ul (if items.isEmpty=true then 0 else x.toNat) items))},toks:=s.toks}):=
 .of_wp λprog w A R s h=>by
  obtain⟨hp,g,d,tk,os⟩:=s;obtain⟨hl,h⟩:=h;have hsz:=AutoListH.joined_fits hc2
  wp_walk;refine wpAny_ite_false (Qu (Nat.not_lt.mpr hsz)) ?_;wp_walk;exact⟨_,rfl,h⟩
def No(K:Frag):R2:=λx y H Q=>∃l k xs,x=.ref l/\y=.int k/\SqL K H l xs /\ -(2 ^ 63)<=k/\k<2 ^ 63/\xs.length*k.toNat<=Ug /\
 ∀p,H p=none->Q (.ref p) (upd H p (.lst (Ul k.toNat xs).flatten))
theorem Fe:OpR X (binaryOp .Mult) (No X.K):=by
 intro pins s σ H x y v u Q I rx ry h;obtain⟨l,k,xs,rfl,rfl,hH,h1,h2,hz,q⟩:=h;cases rx;obtain⟨t,rfl⟩:=ry;obtain⟨its,r,⟨⟨c1,d1,t1,sl⟩,n,e,ec1,ed1,et1⟩,z⟩:=I.list hH;simp only at ec1 ed1 et1;subst ec1 ed1 et1;have hl:=r.length;have hlen:its.toArray.size*k.toNat<=Ug:=by rw[QE,←hl];exact hz
 have hcap:¬its.toArray.size*k.toNat > (2 ^ 63-1) / 8:=by
  have:(Ug:Nat)<=(2 ^ 63-1) / 8:=by decide
  omega
 have hfit:¬(!Builtin.List.listFitsIndex k)=true:=by rw[fitsIndex_both h1 h2];exact Ju
 have hlong:¬Builtin.List.listTooLong (its.toArray.size*k.toNat)=true:=by rw[Oe hlen];exact Ju
 have hnew:List.foldl (λx1 x2=>x1++x2) #[] (Ul (if its.toArray.isEmpty=true then 0 else k.toNat) its.toArray)=(Ul k.toNat its).flatten.toArray:=by
  have f0:∀m:Nat,List.foldl (λx1 x2=>x1++x2) #[] (Ul m its.toArray)=(Ul m its).flatten.toArray:=λm=>by have:=OM its m [];rw[Jl]at this;exact this
  rw[f0];cases its with
  |nil=>simp
  |cons a r'=>rw[if_neg (by simp)]
 refine wpAny_binaryOp_repeat_ref (T:= "list") (U:= "int") (by decide) ⟨_,e,rfl⟩ (λs'=>typeIs_int s' k t) noFill_list_mul F.fills_int_mul F.slot_int_rmul repeat_list F.slot_int_index.lookup
  (call_meets F.slot_int_rmul (typeIs_int s k t) F.entry_int_rmul (F.args_int_rmul_2 _ _) (Np k t l its.toArray n sl)
   ⟨e,rfl,⟨_,e,rfl⟩,call_meets F.slot_list_mul ⟨_,e,rfl⟩ F.entry_list_mul (F.args_list_mul_2 _ _) (mulW l its.toArray n k t sl hfit hcap hlong) ⟨e,?_⟩⟩)
 rw[hnew];exact⟨.ref _,_,I.lnew (t':=s.toks) (r.rep k.toNat) (by rw[GJ,Nat.mul_comm];exact hz),rfl,q _ I.fresh⟩
def VQ:D->D->Option D
 |.list x,.list y=>if x.length+y.length<=1000000 then some (.list (x++y))else none
 |_,_=>none
theorem Fd:OpD X (binaryOp .Add) VQ:=by
 refine⟨_,Ff,λv u G H x y d Q s rx ry e k=>?_⟩;unfold VQ at e;split at e
 ·split at e
  ·rename_i c;cases e;obtain⟨l,vs,rfl,h1,r1⟩:=rx.lst_inv;obtain⟨b,ws,rfl,h2,r2⟩:=ry.lst_inv;refine⟨l,b,vs,ws,rfl,rfl,s.seq h1,s.seq h2,by rw[r1.length,r2.length];exact QN c lim,λp hp=>k _ _ _ (Ext.new s hp) ?_⟩;exact .lst (SqL.of Ki) ((r1.append r2).mono (Kw (s.free hp)))
  ·cases e
 ·cases e
theorem Reps.rep{K:Frag}{G:Hp}{vs:List V}{ds:List D}(r:Reps K G vs ds):∀n:Nat,Reps K G (Ul n vs).flatten (Ul n ds).flatten
 |0=>.nil
 |n+1=>by rw[Q9,Q9,QO,QO];exact r.append (r.rep n)
def VP:D->D->Option D
 |.list x,.int k=>if -1000000<=k/\k<=1000000/\x.length*k.toNat<=1000000 then some (.list (Ul k.toNat x).flatten)else none
 |_,_=>none
theorem Fc:OpD X (binaryOp .Mult) VP:=by
 refine⟨_,Fe,λv u G H x y d Q s rx ry e k=>?_⟩;unfold VP at e;split at e
 ·split at e
  ·rename_i c;cases e;obtain⟨l,vs,rfl,h1,r1⟩:=rx.lst_inv;refine⟨l,_,vs,rfl,ry.int_inv,s.seq h1,by omega,by omega,by rw[r1.length];exact QN c.2.2 lim,λp hp=>k _ _ _ (Ext.new s hp) ?_⟩;exact .lst (SqL.of Ki) ((r1.rep _).mono (Kw (s.free hp)))
  ·cases e
 ·cases e
def U1:D->D->Option D
 |.int i,.int j=>some (.int (i+j))
 |.str x,.str y=>if x.length+y.length<=1000000 then some (.str (x++y))else none
 |.list x,.list y=>if x.length+y.length<=1000000 then some (.list (x++y))else none
 |_,_=>none
def Zh:D->D->Option D
 |.int i,.int j=>some (.int (i-j))
 |_,_=>none
def Kc:D->D->Option D
 |.int i,.int j=>YA i j
 |.list x,.int k=>if -1000000<=k/\k<=1000000/\x.length*k.toNat<=1000000 then some (.list (Ul k.toNat x).flatten)else none
 |_,_=>none
def K0:D->D->Option D
 |.int i,.int j=>Xh i j
 |_,_=>none
def Yy:D->D->Option D
 |.int i,.int j=>Xi i j
 |_,_=>none
def Yx:D->D->Option D
 |.int i,.int j=>Xg i j
 |_,_=>none
theorem OpD.congr{f:Ua->Ua->Sem Ua}{p q:D->D->Option D}(h:OpD X f p)(e:∀x y,q x y=p x y):OpD X f q:=by
 have:q=p:=by funext x y;exact e x y
 rw[this];exact h
theorem Ry:OpD X (binaryOp .Add) U1:=(Hi.or (Fg.or Fd)).congr λx y=>by cases x<;>cases y<;>first|rfl|(simp only[U1,oII,VR,VQ,Option.orElse];done)|(simp only[U1,oII,VR,VQ,Option.orElse];split<;>rfl)
theorem Mh:OpD X (binaryOp .Sub) Zh:=Hg.congr λx y=>by cases x<;>cases y<;>rfl
theorem Rx:OpD X (binaryOp .Mult) Kc:=(Fh.or Fc).congr λx y=>by cases x<;>cases y<;>first|rfl|(simp only[Kc,oII,VP,Option.orElse];done)|(simp only[Kc,oII,VP,Option.orElse];split<;>first|rfl|assumption)
theorem Mg:OpD X (binaryOp .Mod) K0:=Hf.congr λx y=>by cases x<;>cases y<;>rfl
theorem Mf:OpD X (binaryOp .FloorDiv) Yy:=He.congr λx y=>by cases x<;>cases y<;>rfl
theorem Me:OpD X (binaryOp .Pow) Yx:=Hd.congr λx y=>by cases x<;>cases y<;>rfl
end
section
variable{X:Cx}{B G0:Hp}{e a b c:Uf}{pos:Pos}
def OpB(X:Cx)(f:Ua->Ua->Sem Ua)(op:D->D->Option Bool):Prop:=
 ∃r:R2,OpR X f r/\∀v u G H x y d Q,Same G H->Rep X.K G v x->Rep X.K G u y->op x y=some d->Q (.bl d) H->r v u H Q
theorem OpB.or{f:Ua->Ua->Sem Ua}{p q:D->D->Option Bool}(h:OpB X f p)(h':OpB X f q):OpB X f (λx y=>(p x y).orElse λ_=>q x y):=by
 obtain⟨r,h1,i1⟩:=h;obtain⟨r',h2,i2⟩:=h';refine⟨_,h1.or h2,λv u G H x y d Q s rx ry e k=>?_⟩;dsimp only at e;cases z:p x y with
 |some d'=>rw[z]at e;have e':d'=d:=Qo e;subst e';exact .inl (i1 v u G H x y d' Q s rx ry z k)
 |none=>rw[z]at e;exact .inr (i2 v u G H x y d Q s rx ry e k)
theorem OpB.congr{f:Ua->Ua->Sem Ua}{p q:D->D->Option Bool}(h:OpB X f p)(e:∀x y,q x y=p x y):OpB X f q:=by
 have:q=p:=by funext x y;exact e x y
 rw[this];exact h
theorem Fb{op:CmpOp}{p:D->D->Option Bool}{f g:M D}(o:OpB X (Uj op) p)(ha:PE X a (tD X.K B G0 f))(hb:PE X b (tD X.K B G0 g))(hm:behindInMarks op b=false) :
  PT X (.Compare a [op] [b] pos) (tBo X.K B G0 (UG p f g)):=by
 obtain⟨r,h,i⟩:=o;refine Zx (Sc h ha hb hm) λσ H Q q=>?_;refine tM.two q λv u H2 G ρ x y k rx ry a=>?_
 obtain⟨d,e,a⟩:=a.opt;exact i v u G H2 x y d _ k.gh rx ry e ⟨d,rfl,a.now k rfl⟩
def UM{α β:Type}(h:α->β)(f:M α):M β:=UO f λx=>UE (h x)
theorem tM.map{K:Frag}{α β γ δ:Type}{R:Hp->γ->α->Prop}{S:Hp->δ->β->Prop}{σ:St}{H:Hp}{h:α->β}{f:M α}{Q:δ->Hp->Prop}(j:γ->δ)(q:tM K B G0 S (UM h f) σ H Q)
  (i:∀G v x,R G v x->S G (j v) (h x)):tM K B G0 R f σ H (λv H'=>Q (j v) H'):=
 tM.one (R:=R) (f:=f) q λv H2 G ρ x k r a=>aft.now (show aft K B G0 S (.ok (h x) ρ) G σ Q from a) k (i G v x r)
theorem tBo.val{K:Frag}{σ:St}{H:Hp}{f:M Bool}{Q:VK}(q:tD K B G0 (UM Uo f) σ H Q):tBo K B G0 f σ H (λb H'=>Q (.bl b) H'):=
 tM.map (R:=λ_ b c=>b=c) V.bl q λG v x e=>by rw[e];exact .bl x
theorem Fa{op:CmpOp}{p:D->D->Option Bool}{f g:M D}(o:OpB X (Uj op) p)(ha:PE X a (tD X.K B G0 f))(hb:PE X b (tD X.K B G0 g))(hm:behindInMarks op b=false) :
  PE X (.Compare a [op] [b] pos) (tD X.K B G0 (UM Uo (UG p f g))):=by
 obtain⟨r,h,i⟩:=o;refine UW (PH h ha hb hm) λσ H Q q=>?_;refine tM.two (tBo.val q) λv u H2 G ρ x y k rx ry a=>?_
 obtain⟨d,e,a⟩:=a.opt;exact i v u G H2 x y d _ k.gh rx ry e (a.now k rfl)
def X3(p q:D->D->Option Bool)(f g h:M D):M Bool:=UO f λx=>UO g λy=>UO (US (p x y)) λt=>if t=true then UO h λz=>US (q y z)else UE false
theorem DF{op op':CmpOp}{p q:D->D->Option Bool}{f g h:M D}(o:OpB X (Uj op) p)(o':OpB X (Uj op') q)(ha:PE X a (tD X.K B G0 f))(hb:PE X b (tD X.K B G0 g))(hc:PE X c (tD X.K B G0 h))
  (hm:lastMarks [op,op'] [b,c]=false:=by with_unfolding_all rfl):PT X (.Compare a [op,op'] [b,c] pos) (tBo X.K B G0 (X3 p q f g h)):=by
 obtain⟨r,h1,i⟩:=o;obtain⟨r',h2,i'⟩:=o';refine Zx (EA h1 h2 ha hb hc hm) λσ H Q w=>?_;refine tM.two w λv u H2 G ρ x y k rx ry a=>?_
 cases z:p x y with
 |none=>rw[z]at a;exact a.elim
 |some t=>
  rw[z]at a;refine i v u G H2 x y t _ k.gh rx ry z ⟨t,rfl,?_⟩;cases t with
  |false=>rw[QJ Ju];exact⟨false,rfl,aft.now a k rfl⟩
  |true=>
   rw[Qr rfl];refine⟨G,ρ,k,?_⟩;have a4:aft X.K B G0 (λ_ (b:Bool) c=>b=c) ((UO h λz=>US (q y z)) ρ) G σ Q:=a;unfold UO at a4;cases z2:h ρ with
   |bad=>rw[z2]at a4;exact a4.elim
   |ok d ρ1=>rw[z2]at a4;intro w G5 H5 k5 s5 r5;obtain⟨t2,e2,a6⟩:=a4.opt;exact i' u w G5 H5 y d t2 _ k5.gh (ry.mono s5) r5 e2 ⟨t2,rfl,a6 t2 G5 H5 k5 s5 rfl⟩
theorem DE{op op':CmpOp}{p q:D->D->Option Bool}{f g h:M D}(o:OpB X (Uj op) p)(o':OpB X (Uj op') q)(ha:PE X a (tD X.K B G0 f))(hb:PE X b (tD X.K B G0 g))(hc:PE X c (tD X.K B G0 h))
  (hm:lastMarks [op,op'] [b,c]=false:=by with_unfolding_all rfl):PE X (.Compare a [op,op'] [b,c] pos) (tD X.K B G0 (UM Uo (X3 p q f g h))):=by
 obtain⟨r,h1,i⟩:=o;obtain⟨r',h2,i'⟩:=o';refine UW (EB h1 h2 ha hb hc hm) λσ H Q w=>?_;refine tM.two (tBo.val w) λv u H2 G ρ x y k rx ry a=>?_
 cases z:p x y with
 |none=>rw[z]at a;exact a.elim
 |some t=>
  rw[z]at a;refine i v u G H2 x y t _ k.gh rx ry z ⟨t,rfl,?_⟩;cases t with
  |false=>rw[QJ Ju];exact aft.now (v:=false) a k rfl
  |true=>
   rw[Qr rfl];refine⟨G,ρ,k,?_⟩;have a4:aft X.K B G0 (λ_ (b:Bool) c=>b=c) ((UO h λz=>US (q y z)) ρ) G σ (λb H'=>Q (.bl b) H'):=a;unfold UO at a4;cases z2:h ρ with
   |bad=>rw[z2]at a4;exact a4.elim
   |ok d ρ1=>rw[z2]at a4;intro w G5 H5 k5 s5 r5;obtain⟨t2,e2,a6⟩:=a4.opt;exact i' u w G5 H5 y d t2 _ k5.gh (ry.mono s5) r5 e2 (a6 t2 G5 H5 k5 s5 rfl)
def oIB(g:Int->Int->Bool):D->D->Option Bool
 |.int i,.int j=>some (g i j)
 |_,_=>none
theorem OpB.int{f:Ua->Ua->Sem Ua}{g:Int->Int->Bool}(h:OpR X f (rI0 λi j=>.bl (g i j))):OpB X f (oIB g):=by
 refine⟨_,h,λv u G H x y d Q s rx ry e k=>?_⟩;unfold oIB at e;split at e
 ·cases e;exact⟨_,_,rx.int_inv,ry.int_inv,k⟩
 ·cases e
theorem B_lt:OpB X (Uj .Lt) (oIB λi j=>decide (i<j)):=.int NH
theorem B_le:OpB X (Uj .LtE) (oIB λi j=>decide (i<=j)):=.int NG
theorem B_gt:OpB X (Uj .Gt) (oIB λi j=>decide (j<i)):=.int NF
theorem B_ge:OpB X (Uj .GtE) (oIB λi j=>decide (j<=i)):=.int NE
mutual
theorem ZK{pins:List (Ud×Obj)}{s:Ub}{σ:St}{G H:Hp}(I:Inv X pins σ H s)(sg:Same G H):∀{v:V}{d:D}{u:Ua},Rep X.K G v d->RelV v u->d.canLay0=true->∃as,Reads s.heap u d as
 |_,_,_,.non,r,_=>by cases r;exact⟨_,.none⟩
 |_,_,_,.bl b,r,_=>by cases r;exact⟨_,.bool b⟩
 |_,_,_,.int i,r,_=>by obtain⟨t,rfl⟩:=r;exact⟨_,.int i t⟩
 |_,_,_,.str x,r,_=>by obtain⟨t,rfl⟩:=r;exact⟨_,.str x t⟩
 |_,_,_,.lst h q,r,c=>by cases r;obtain⟨its,rv,⟨o,n,e,hc,_,hd⟩,hz⟩:=I.list (sg.seq h);obtain⟨as,ra⟩:=readsAll_of I sg q rv (show Ur _=true by simpa[PyData.canLay0]using c);exact⟨_,.list e hc hd (by simpa using ra)⟩
 |_,_,_,.tup h q,r,c=>by cases r;obtain⟨its,rv,p,hz⟩:=I.tuple (ZH sg h);obtain⟨o,e,hc,n,hd⟩:=p;obtain⟨as,ra⟩:=readsAll_of I sg q rv (show Ur _=true by simpa[PyData.canLay0]using c);exact⟨_,.tuple e hc hd (by simpa using ra)⟩
 |_,_,_,.dic h,r,c=>by simp[PyData.canLay0]at c
 |_,_,_,.exc _ _ _ _,r,c=>by simp[PyData.canLay0]at c
 |_,_,_,.dct _ _ _ _ _,r,c=>by simp[PyData.canLay0]at c
 |_,_,_,.dtt _ _ _ _,r,c=>by simp[PyData.canLay0]at c
theorem readsAll_of{pins:List (Ud×Obj)}{s:Ub}{σ:St}{G H:Hp}(I:Inv X pins σ H s)(sg:Same G H):∀{vs:List V}{ds:List D}{us:List Ua},Reps X.K G vs ds->Vals vs us->Ur ds=true->∃as,ReadsAll s.heap us ds as
 |_,_,_,.nil,r,_=>by cases r;exact⟨_,.nil⟩
 |_,_,_,.cons h t,r,c=>by
  cases r with
  |cons r1 r2=>have c':=c;rw[Ur,QX]at c';obtain⟨as,ra⟩:=ZK I sg h r1 c'.1;obtain⟨bs,rb⟩:=readsAll_of I sg t r2 c'.2;exact⟨_,.cons ra rb⟩
end
def oEq(x y:D):Option Bool:=if x.canLay0=true/\y.canLay0=true/\x.depth<=60 then some (Ut x y)else none
def oNe(x y:D):Option Bool:=if x.canLay0=true/\y.canLay0=true/\x.depth<=60 then some (!Ut x y)else none
theorem B_eq(hu:X.A.units+64<cLine):OpB X (Uj .Eq) oEq:=by
 refine⟨λv u H Q=>∃G x y d,Same G H/\Rep X.K G v x/\Rep X.K G u y/\oEq x y=some d/\Q (.bl d) H,?_,λv u G H x y d Q s rx ry e k=>⟨G,x,y,d,s,rx,ry,e,k⟩⟩;intro pins s σ H x y v u Q I rx ry ⟨G,dx,dy,d,sg,px,py,e,q⟩;unfold oEq at e;split at e
 ·rename_i c;cases e;obtain⟨as,ra⟩:=ZK I sg px rx c.1;obtain⟨bs,rb⟩:=ZK I sg py ry c.2.1;exact SeqAt.compareEq_reads ra rb c.1 c.2.1 (by have:=c.2.2;omega) ⟨.bl _,H,I,rfl,q⟩
 ·cases e
theorem B_ne(hu:X.A.units+64<cLine):OpB X (Uj .NotEq) oNe:=by
 refine⟨λv u H Q=>∃G x y d,Same G H/\Rep X.K G v x/\Rep X.K G u y/\oNe x y=some d/\Q (.bl d) H,?_,λv u G H x y d Q s rx ry e k=>⟨G,x,y,d,s,rx,ry,e,k⟩⟩;intro pins s σ H x y v u Q I rx ry ⟨G,dx,dy,d,sg,px,py,e,q⟩;unfold oNe at e;split at e
 ·rename_i c;cases e;obtain⟨as,ra⟩:=ZK I sg px rx c.1;obtain⟨bs,rb⟩:=ZK I sg py ry c.2.1;exact SeqAt.compareNe_reads ra rb c.1 c.2.1 (by have:=c.2.2;omega) ⟨.bl _,H,I,rfl,q⟩
 ·cases e
def isNon:D->Bool
 |.none=>true
 |_=>false
theorem Rep.isNon{K:Frag}{G:Hp}{v:V}{d:D}(r:Rep K G v d):DL.isNon d=decide (v=.non):=by cases r<;>simp[DL.isNon]
end
section
variable{X:Cx}{B G0:Hp}{e a b c:Uf}{pos:Pos}{es rest:List Uf}
theorem tM.nx{K:Frag}{α β γ δ:Type}{R:Hp->γ->α->Prop}{S:Hp->δ->β->Prop}{σ:St}{G H:Hp}{ρ:UB}{f:M α}{g:α->M β}{Q:δ->Hp->Prop}{P:γ->Hp->Prop}
  (k:EOk K B G0 G H σ ρ) (a:aft K B G0 S (UO f g ρ) G σ Q) (i:∀v H' G' ρ' x,EOk K B G0 G' H' σ ρ'->Same G G'->R G' v x->aft K B G0 S (g x ρ') G' σ Q->P v H'):tM K B G0 R f σ H P:=by
 refine⟨G,ρ,k,?_⟩;unfold UO at a;cases q:f ρ with
 |bad=>rw[q]at a;exact a.elim
 |ok d ρ1=>rw[q]at a;exact λv G' H' e s r=>i v H' G' ρ1 d e s r (aft.mono s a)
def K1(f g:M Bool):M Bool:=UO f λt=>if t=true then g else UE false
def mOr(f g:M Bool):M Bool:=UO f λt=>if t=true then UE true else g
def U8(f:M Bool):M Bool:=UM (λt=>!t) f
theorem GZ{K:Frag}{f g:M Bool}{σ:St}{H:Hp}{Q:Bool->Hp->Prop}(q:tBo K B G0 (K1 f g) σ H Q):tAnd (tBo K B G0 f) (tBo K B G0 g) σ H Q:=
 tM.one (R:=λ_ b c=>b=c) q λv H2 G ρ x k r a=>by
  have r:v=x:=r;subst r;cases v with
  |true=>exact⟨G,ρ,k,a⟩
  |false=>exact aft.now (v:=false) a k rfl
theorem Hc{K:Frag}{f g:M Bool}{σ:St}{H:Hp}{Q:Bool->Hp->Prop}(q:tBo K B G0 (mOr f g) σ H Q):tOr (tBo K B G0 f) (tBo K B G0 g) σ H Q:=
 tM.one (R:=λ_ b c=>b=c) q λv H2 G ρ x k r a=>by
  have r:v=x:=r;subst r;cases v with
  |false=>exact⟨G,ρ,k,a⟩
  |true=>exact aft.now (v:=true) a k rfl
theorem pwof{t t':TT}(h:PW X e t)(i:∀σ H Q,t' σ H Q->t σ H Q):PW X e t':=λwh pins s σ H Q I q=>h wh pins s σ H Q I (i σ H Q q)
theorem FD{f:M Bool}(ha:PT X a (tBo X.K B G0 f)):PW X (.BoolOp .And [a] pos) (tBo X.K B G0 f):=GU ha
theorem HJ{f:M Bool}(ha:PT X a (tBo X.K B G0 f)):PW X (.BoolOp .Or [a] pos) (tBo X.K B G0 f):=Lr ha
theorem HI{f g:M Bool}(ha:PT X a (tBo X.K B G0 f))(hb:PW X (.BoolOp .And (b::rest) pos) (tBo X.K B G0 g)):PW X (.BoolOp .And (a::b::rest) pos) (tBo X.K B G0 (K1 f g)):=pwof (Lq ha hb) λ_ _ _ q=>GZ q
theorem Hb{f g:M Bool}(ha:PT X a (tBo X.K B G0 f))(hb:PW X (.BoolOp .Or (b::rest) pos) (tBo X.K B G0 g)):PW X (.BoolOp .Or (a::b::rest) pos) (tBo X.K B G0 (mOr f g)):=pwof (Lc ha hb) λ_ _ _ q=>Hc q
theorem HH{f:M Bool}(ha:PT X a (tBo X.K B G0 f)):PT X (.UnaryOp .Not a pos) (tBo X.K B G0 (U8 f)):=Zx (Lp ha) λσ H Q q=>tM.map (R:=λ_ b c=>b=c) (λt=>!t) q λ_ v x e=>by rw[e]
def KS(f:M D):M Bool:=UO f λx=>match x with | .bool t=>UE t|_=>λ_=>.bad
theorem HG{f:M D}(h:PE X e (tD X.K B G0 f))(he:∀whole,isTrue e X.env whole=(do let v ←whole;standAt e.pos;holding [v] (truthy v)):=by intro _;rfl):PT X e (tBo X.K B G0 (KS f)):=
 Zx (Lu h he) λσ H Q q=>tM.one (R:=Rep X.K) q λv H2 G ρ x k r a=>by
  cases x with
  |bool t=>exact⟨t,r.bl_inv,aft.now (v:=t) a k rfl⟩
  |_=>exact a.elim
def XE(f g:M D):M D:=UO f λx=>match x with | .bool true=>g | .bool false=>UE (.bool false)|_=>λ_=>.bad
def Yz(f g:M D):M D:=UO f λx=>match x with | .bool true=>UE (.bool true) | .bool false=>g|_=>λ_=>.bad
def Vn(f:M D):M D:=UO f λx=>match x with | .bool t=>UE (.bool (!t))|_=>λ_=>.bad
theorem HF{f g:M D}(ha:PE X a (tD X.K B G0 f))(hb:PE X (.BoolOp .And (b::rest) pos) (tD X.K B G0 g)):PE X (.BoolOp .And (a::b::rest) pos) (tD X.K B G0 (XE f g)):=
 UW (Ln ha hb) λσ H Q q=>tM.one (R:=Rep X.K) q λv H2 G ρ x k r a=>by
  cases x with
  |bool t=>
   refine⟨t,r.bl_inv,?_⟩;cases t with
   |true=>exact⟨G,ρ,k,a⟩
   |false=>exact aft.now a k (.bl false)
  |_=>exact a.elim
theorem Ha{f g:M D}(ha:PE X a (tD X.K B G0 f))(hb:PE X (.BoolOp .Or (b::rest) pos) (tD X.K B G0 g)):PE X (.BoolOp .Or (a::b::rest) pos) (tD X.K B G0 (Yz f g)):=
 UW (M9 ha hb) λσ H Q q=>tM.one (R:=Rep X.K) q λv H2 G ρ x k r a=>by
  cases x with
  |bool t=>
   refine⟨t,r.bl_inv,?_⟩;cases t with
   |false=>exact⟨G,ρ,k,a⟩
   |true=>exact aft.now a k (.bl true)
  |_=>exact a.elim
theorem HE{op}{f:M D}(h:PE X a (tD X.K B G0 f)):PE X (.BoolOp op [a] pos) (tD X.K B G0 f):=Lo h
theorem HD{f:M D}(ha:PE X a (tD X.K B G0 f)):PE X (.UnaryOp .Not a pos) (tD X.K B G0 (Vn f)):=
 UW (Lm ha) λσ H Q q=>tM.one (R:=Rep X.K) q λv H2 G ρ x k r a=>by
  cases x with
  |bool t=>exact⟨t,r.bl_inv,aft.now a k (.bl _)⟩
  |_=>exact a.elim
theorem HC{f:M D}{j p2}(ha:PE X a (tD X.K B G0 f)):PT X (.Compare a [.Is] [.Constant .none j p2] pos) (tBo X.K B G0 (UM isNon f)):=
 Zx (RK (RM ha)) λσ H Q q=>tM.one (R:=Rep X.K) q λv H2 G ρ x k r a=>⟨_,rfl,aft.now a k (by rw[r.isNon])⟩
theorem FC{f:M D}{j p2}(ha:PE X a (tD X.K B G0 f)):PT X (.Compare a [.IsNot] [.Constant .none j p2] pos) (tBo X.K B G0 (UM (λd=>!isNon d) f)):=
 Zx (RK (Pw ha)) λσ H Q q=>tM.one (R:=Rep X.K) q λv H2 G ρ x k r a=>⟨_,rfl,aft.now a k (by dsimp only;rw[r.isNon])⟩
theorem HB{f:M D}{j p2}(ha:PE X a (tD X.K B G0 f)):PE X (.Compare a [.Is] [.Constant .none j p2] pos) (tD X.K B G0 (UM (λd=>.bool (isNon d)) f)):=
 UW (RL (RM ha)) λσ H Q q=>tM.one (R:=Rep X.K) q λv H2 G ρ x k r a=>aft.now a k (by dsimp only;rw[r.isNon];exact .bl _)
theorem FA{f:M D}{j p2}(ha:PE X a (tD X.K B G0 f)):PE X (.Compare a [.IsNot] [.Constant .none j p2] pos) (tD X.K B G0 (UM (λd=>.bool (!isNon d)) f)):=
 UW (RL (Pw ha)) λσ H Q q=>tM.one (R:=Rep X.K) q λv H2 G ρ x k r a=>aft.now a k (by dsimp only;rw[r.isNon];exact .bl _)
def UD:M (List D):=UE []
def UH(f:M D)(g:M (List D)):M (List D):=UO f λx=>UO g λxs=>UE (x::xs)
theorem HA:PA X [] (tDs X.K B G0 UD):=Yw Yt λσ H Q ⟨G,ρ,k,a⟩=>aft.now a k .nil
theorem tM.twoA{K:Frag}{σ:St}{H:Hp}{f:M D}{g:M (List D)}{β δ:Type}{S:Hp->δ->β->Prop}{k:D->List D->M β}{Q:δ->Hp->Prop}{P:V->List V->Hp->Prop}
  (h:tM K B G0 S (UO f λx=>UO g λy=>k x y) σ H Q)
  (i:∀v u H2 G ρ x y,EOk K B G0 G H2 σ ρ->Rep K G v x->Reps K G u y->aft K B G0 S (k x y ρ) G σ Q->P v u H2) :
  tD K B G0 f σ H (λv H1=>tDs K B G0 g σ H1 λu H2=>P v u H2):=by
 obtain⟨G,ρ,e,a⟩:=tM.bind2 (R:=Rep K) (R':=Reps K) Pz h;refine⟨G,ρ,e,?_⟩;cases q:f ρ with
 |bad=>rw[q]at a;exact a.elim
 |ok d ρ1=>
  rw[q]at a;intro v G' H' e' s r;obtain⟨x,G2,ρ2,e2,a2⟩:=a v G' H' e' s r;refine⟨G2,ρ2,e2,?_⟩;cases q2:g ρ2 with
  |bad=>rw[q2]at a2;exact a2.elim
  |ok d3 ρ3=>rw[q2]at a2;intro u G3 H3 e3 s3 r3;obtain⟨G4,ρ4,y,e4,r4,r5,a5⟩:=a2 u G3 H3 e3 s3 r3;exact i v u H3 G4 ρ4 x y e4 r4 r5 a5
theorem Oc{f:M D}{g:M (List D)}(ha:PE X e (tD X.K B G0 f))(hr:PA X es (tDs X.K B G0 g))(hs:Ui (e::es) X.env=(false,eval e X.env)::Ui es X.env:=by rfl) :
  PA X (e::es) (tDs X.K B G0 (UH f g)):=Yw (Z0 ha hr hs) λσ H Q q=>tM.twoA q λv u H2 G ρ x y k r1 r2 a=>aft.now a k (.cons r1 r2)
def ZM(f:M (List D)):M D:=UO f λxs=>if xs.length<=1000000 then UE (.tuple xs)else λ_=>.bad
def Kn(f:M (List D)):M D:=UO f λxs=>if xs.length<=1000000 then UE (.list xs)else λ_=>.bad
theorem PN{x1}{f:M (List D)}(h:PA X es (tDs X.K B G0 f)):PE X (.Tuple es x1 pos) (tD X.K B G0 (ZM f)):=
 UW (LY h) λσ H Q q=>tM.one (R:=Reps X.K) q λv H2 G ρ x k r a=>by
  split at a
  ·rename_i c;refine⟨by rw[r.length];exact QN c lim,λp hp=>?_⟩;exact aft.done a k (Ext.new k.gh hp) (.tup (SqT.of Ki) (r.mono (Kw (k.gh.free hp))))
  ·exact a.elim
theorem PM{f:M (List D)}(h:PA X es (tDs X.K B G0 f)):PE X (.List es pos) (tD X.K B G0 (Kn f)):=
 UW (RI h) λσ H Q q=>tM.one (R:=Reps X.K) q λv H2 G ρ x k r a=>by
  split at a
  ·rename_i c;refine⟨by rw[r.length];exact QN c lim,λp hp=>?_⟩;exact aft.done a k (Ext.new k.gh hp) (.lst (SqL.of Ki) (r.mono (Kw (k.gh.free hp))))
  ·exact a.elim
def oIx:D->D->Option D
 |.list xs,.int i=>atI xs i
 |.tuple xs,.int i=>atI xs i
 |.str z,.int i=>if z.length<=1000000 then(atI z.cps.toList i).map λc=>.str ⟨#[c]⟩else none
 |_,_=>none
theorem Reps.atI{K:Frag}{G:Hp}{vs:List V}{ds:List D}{i:Int}{d:D}(r:Reps K G vs ds)(h:L2.atI ds i=some d):∃v,L2.atI vs i=some v/\Rep K G v d:=by
 unfold L2.atI at h⊢;rw[r.length];cases z:ixN ds.length i with
 |none=>rw[z]at h;cases h
 |some j=>rw[z]at h;exact r.get (i:=j) h
theorem RD{K:Frag}{v u:V}{G H:Hp}{x y d:D}{Q:VK}(s:Same G H)(rx:Rep K G v x)(ry:Rep K G u y)(e:oIx x y=some d)(k:∀w,Rep K G w d->Q w H):rIx K v u H Q:=by
 unfold oIx at e;split at e
 ·obtain⟨l,vs,rfl,h1,r1⟩:=rx.lst_inv;obtain⟨w,e1,r2⟩:=r1.atI e;exact .inl ⟨l,vs,_,w,rfl,ry.int_inv,s.seq h1,e1,k w r2⟩
 ·obtain⟨l,vs,rfl,h1,r1⟩:=rx.tup_inv;obtain⟨w,e1,r2⟩:=r1.atI e;exact .inr (.inl ⟨l,vs,_,w,rfl,ry.int_inv,ZH s h1,e1,k w r2⟩)
 ·split at e
  ·rename_i z i hz;cases q:L2.atI z.cps.toList i with
   |none=>rw[q]at e;cases e
   |some ch=>rw[q]at e;cases e;exact .inr (.inr ⟨z,i,ch,rx.str_inv,ry.int_inv,QN hz lim,q,k _ (.str _)⟩)
  ·cases e
 ·cases e
theorem MI{f g:M D}(ha:PE X a (tD X.K B G0 f))(hb:PE X b (tD X.K B G0 g))(hs:Sa b):PE X (.Subscript a b pos) (tD X.K B G0 (UG oIx f g)):=
 UW (Ru RH ha hb hs) λσ H Q q=>tM.two q λv u H2 G ρ x y k rx ry a=>by obtain⟨d,e,a⟩:=a.opt;exact RD k.gh rx ry e λw r=>a.now k r
def UL(i:Nat)(g:M D):M D:=λρ=>match ρ[i]? with
 |some (some (.pub d))=>(UO g λy=>US (oIx d y)) ρ
 |some (some (.own _))=>(UO g λy=>λρ'=>match ρ'[i]? with|some (some (.own ds))=>US (oIx (.list ds) y) ρ'|_=>.bad) ρ
 |_=>.bad
theorem Hz{i:Nat}{g:M D}(ha:PE X a (Km i))(hb:PE X b (tD X.K B G0 g))(hs:Sa b):PE X (.Subscript a b pos) (tD X.K B G0 (UL i g)):=
 UW (Ru RH ha hb hs) λσ H Q ⟨G,ρ,k,a⟩=>by
  unfold UL at a;cases q:ρ[i]? with
  |none=>rw[q]at a;exact a.elim
  |some o=>
   cases o with
   |none=>rw[q]at a;exact a.elim
   |some sl=>
    cases sl with
    |deep _ _=>rw[q]at a;exact a.elim
    |pub d=>
     rw[q]at a;obtain⟨v,h1,h2⟩:=k.pub i d q;refine⟨v,h1,G,ρ,k,?_⟩;dsimp only[UO]at a;cases z:g ρ with
     |bad=>rw[z]at a;exact a.elim
     |ok y ρ1=>rw[z]at a;intro u G' H' k' s' r';obtain⟨d',e',a'⟩:=aft.opt a;exact RD k'.gh (h2.mono s') r' e' λw r=>a' w G' H' k' s' r
    |own ds=>
     rw[q]at a;obtain⟨ad,vs,h1,h2,h3,h4,h5⟩:=k.own i ds q;refine⟨.ref ad,h1,G,ρ,k,?_⟩;dsimp only[UO]at a;cases z:g ρ with
     |bad=>rw[z]at a;exact a.elim
     |ok y ρ1=>
      rw[z]at a;dsimp only at a;intro u G' H' k' s' r';cases z2:ρ1[i]? with
      |none=>rw[z2]at a;exact a.elim
      |some o2=>
       cases o2 with
       |none=>rw[z2]at a;exact a.elim
       |some sl2=>
        cases sl2 with
        |deep _ _=>rw[z2]at a;exact a.elim
        |pub d2=>rw[z2]at a;exact a.elim
        |own es2=>
         rw[z2]at a;obtain⟨d',e',a'⟩:=aft.opt a;obtain⟨ad',vs',g1,g2,g3,g4,g5⟩:=k'.own i es2 z2;rw[h1]at g1;cases g1;unfold oIx at e';cases y with
         |int j=>obtain⟨w,e1,r2⟩:=g5.atI e';exact .inl ⟨ad,vs',j,w,rfl,r'.int_inv,SqL.of g4,e1,a' w G' H' k' s' r2⟩
         |_=>cases e'
def cutD(xs:List D)(lo hi:Option Int):List D:=(xs.drop (HT.sIx xs.length 0 lo)).take (HT.sIx xs.length xs.length hi-HT.sIx xs.length 0 lo)
theorem Reps.cut{K:Frag}{G:Hp}{vs:List V}{ds:List D}(r:Reps K G vs ds)(lo hi:Option Int):Reps K G (Z9 vs lo hi) (cutD ds lo hi):=by unfold Z9 cutD;rw[r.length];exact(r.drop _).take _
def Y0:D->Option (Option Int)
 |.int i=>some (some i)
 |_=>none
theorem Fz:PO X none (tOi X.K B G0 (UE none)):=poof GP λσ H Q ⟨G,ρ,k,a⟩=>aft.now a k rfl
theorem Fy{f:M D}(h:PE X e (tD X.K B G0 f)):PO X (some e) (tOi X.K B G0 (UO f λx=>US (Y0 x))):=poof (GO h) λσ H Q q=>tM.one (R:=Rep X.K) q λv H2 G ρ x k r a=>by
 cases x with
 |int i=>exact⟨i,r.int_inv,aft.now (v:=some i) a k rfl⟩
 |_=>exact a.elim
end
def ZN:List (D×D)->Bool
 |(.none,_)::_=>true
 |_=>false
def Z3:D->String
 |.none=> "NoneType"
 |.bool _=> "bool"
 |.int _=> "int"
 |.str _=> "str"
 |.list _=> "list"
 |.tuple _=> "tuple"
 |.dict kvs=>if ZN kvs=true then "" else "dict"
def U9(d:D)(c:String):Bool:=Z3 d==c || (Z3 d == "bool" && c == "int")
def Vm:D->Bool
 |.dict kvs=>ZN kvs
 |_=>false
theorem nty{kvs:List (D×D)}{c:String}(h:(("dict" == c) || ("" == c))=false):U9 (.dict kvs) c=false:=by
 obtain⟨h1,h2⟩:=Bool.or_eq_false_iff.mp h
 show((if ZN kvs=true then "" else "dict")==c || ((if ZN kvs=true then "" else "dict") == "bool" && c == "int"))=false
 cases ZN kvs with
 |true=>rw[Qr rfl,h2];rfl
 |false=>rw[QJ (by decide),h1];rfl
theorem RC{ks:List Key}{ds:List D}:Z3 (.dict ((ks.map kD).zip ds)) = "dict" /\ Vm (.dict ((ks.map kD).zip ds))=false:=by
 cases ks with
 |nil=>exact⟨rfl,rfl⟩
 |cons k ks=>
  cases ds with
  |nil=>exact⟨rfl,rfl⟩
  |cons d ds=>cases k<;>exact⟨rfl,rfl⟩
theorem Hy(K:Frag)(d:D)(c:String)(nx:Vm d=false)(hc:c = "int" ∨ c = "bool" ∨ c = "str" ∨ c = "list" ∨ c = "tuple" ∨ c = "dict"):PySem.W.kitOne K (.type (Z3 d)) (.type c)=some (U9 d c):=by
 cases d with
 |dict kvs=>
  have e:Z3 (.dict kvs) = "dict" :=by
   have nx:ZN kvs=false:=nx
   show(if ZN kvs=true then "" else "dict")=_
   rw[nx];rfl
  unfold U9;rw[e];rcases hc with rfl|rfl|rfl|rfl|rfl|rfl<;>rfl
 |_=>rcases hc with rfl|rfl|rfl|rfl|rfl|rfl<;>rfl
section
variable{X:Cx}{B G0:Hp}{e a b c:Uf}{pos:Pos}{es rest:List Uf}
def Yk(X:Cx)(f:Ua)(p:List D->Option D):Prop:=
 ∃r,ZI X f r/\∀vs G H ds d Q,Same G H->Reps X.K G vs ds->p ds=some d->(∀w G' H',Ext G H G' H'->Rep X.K G' w d->Q w H')->r vs H Q
def ZG(p:List D->Option D)(f:M (List D)):M D:=UO f λxs=>US (p xs)
theorem VL{x:Str}{p2:Pos}{id:String}{p:List D->Option D}{f:M (List D)}(hc:Yk X (.builtin id) p)(hg:Gl X x)(hm:X.mg x=none)(hv:bootBuiltins x=some (.builtin id))(ha:PA X (e::es) (tDs X.K B G0 f))(hn:x ≠ "__name__" :=by decide)(hdb:(x==("__debug__" : Str))=false:=by decide)
  (he:Ui (e::es) X.env=(false,eval e X.env)::Ui es X.env:=by rfl) (hpl:(backTo pos (Ui es X.env)).any (·.1)=false:=by rfl):PE X (.Call (.Name x p2) (e::es) [] pos) (tD X.K B G0 (ZG p f)):=by
 obtain⟨r,h,i⟩:=hc;refine UW (VG h hg hm hv ha hn hdb he hpl) λσ H Q q=>tM.one (R:=Reps X.K) q λv H2 G ρ x k rr a=>?_
 obtain⟨d,e,a⟩:=a.opt;exact i v G H2 x d Q k.gh rr e λw G' H' ex rw=>a.done k ex rw
theorem Reps.nil_inv{K:Frag}{G:Hp}{vs:List V}(r:Reps K G vs []):vs=[]:=by cases r;rfl
theorem Reps.one_inv{K:Frag}{G:Hp}{vs:List V}{d:D}(r:Reps K G vs [d]):∃v,vs=[v]/\Rep K G v d:=by
 cases r with
 |cons h t=>cases t;exact⟨_,rfl,h⟩
theorem Reps.two_inv{K:Frag}{G:Hp}{vs:List V}{d d':D}(r:Reps K G vs [d,d']):∃v v',vs=[v,v']/\Rep K G v d/\Rep K G v' d':=by
 cases r with
 |cons h t=>obtain⟨v',rfl,r'⟩:=t.one_inv;exact⟨_,v',rfl,h,r'⟩
def U5:List D->Option D
 |[.list xs]=>some (.int xs.length)
 |[.tuple xs]=>some (.int xs.length)
 |[.str z]=>if z.length<=1000000 then some (.int z.length)else none
 |_=>none
theorem Rl:Yk X (.builtin "len") U5:=by
 refine⟨_,Ox,λvs G H ds d Q s r e k=>?_⟩;unfold U5 at e;split at e
 ·cases e;obtain⟨v,rfl,q⟩:=r.one_inv;obtain⟨l,ws,rfl,h1,r1⟩:=q.lst_inv;exact⟨.ref l,ws.length,rfl,.inl ⟨ws,s.seq h1,rfl⟩,by rw[r1.length];exact k _ G H (.refl s) (.int _)⟩
 ·cases e;obtain⟨v,rfl,q⟩:=r.one_inv;obtain⟨l,ws,rfl,h1,r1⟩:=q.tup_inv;exact⟨.ref l,ws.length,rfl,.inr ⟨ws,ZH s h1,rfl⟩,by rw[r1.length];exact k _ G H (.refl s) (.int _)⟩
 ·split at e
  ·rename_i z hz;cases e;obtain⟨v,rfl,q⟩:=r.one_inv;exact⟨.str z,z.length,by rw[q.str_inv],⟨QN hz lim,rfl⟩,k _ G H (.refl s) (.int _)⟩
  ·cases e
 ·cases e
def VO:List D->Option D
 |[.int i,.int j]=>some (.int (if j > i then j else i))
 |_=>none
theorem MH(hc:X.calm=true):Yk X (.builtin "max") VO:=by
 refine⟨_,DO hc,λvs G H ds d Q s r e k=>?_⟩;unfold VO at e;split at e
 ·cases e;obtain⟨v,v',rfl,r1,r2⟩:=r.two_inv;exact⟨_,_,by rw[r1.int_inv,r2.int_inv],k _ G H (.refl s) (.int _)⟩
 ·cases e
def KF(i:Nat):M D:=λρ=>match ρ[i]? with
 |some (some (.pub d))=>US (U5 [d]) ρ
 |some (some (.own ds))=>.ok (.int ds.length) ρ
 |_=>.bad
theorem Fx{i:Nat}{p2:Pos}(hg:Gl X "len")(hm:X.mg "len" = none)(ha:PE X e (Km i))(he:Ui [e] X.env=[(false,eval e X.env)]:=by rfl):PE X (.Call (.Name "len" p2) [e] [] pos) (tD X.K B G0 (KF i)):=by
 refine UW (VG Ox hg hm PySem.boot_len (Z0 ha Yt (by rw[he];rfl)) (by decide) (by decide) (by rw[he];rfl) rfl) λσ H Q ⟨G,ρ,k,a⟩=>?_
 unfold KF at a;cases q:ρ[i]? with
 |none=>rw[q]at a;exact a.elim
 |some o=>
  cases o with
  |none=>rw[q]at a;exact a.elim
  |some sl=>
   cases sl with
   |deep _ _=>rw[q]at a;exact a.elim
   |pub d=>
    rw[q]at a;obtain⟨v,h1,h2⟩:=k.pub i d q;refine⟨v,h1,?_⟩;obtain⟨d',e',a'⟩:=aft.opt a;obtain⟨r,hr,ir⟩:=@Rl X;show ∃x n,[v]=[x]/\LenV X.K x H n/\Q (.int n) H;unfold U5 at e';split at e'
    ·rename_i xs he';injection he' with he1 he2;subst he1;cases e'
     obtain⟨l,ws,rfl,g1,r1⟩:=h2.lst_inv;exact⟨.ref l,ws.length,rfl,.inl ⟨ws,k.gh.seq g1,rfl⟩,by rw[r1.length];exact a'.now k (.int _)⟩
    ·rename_i xs he';injection he' with he1 he2;subst he1;cases e'
     obtain⟨l,ws,rfl,g1,r1⟩:=h2.tup_inv;exact⟨.ref l,ws.length,rfl,.inr ⟨ws,ZH k.gh g1,rfl⟩,by rw[r1.length];exact a'.now k (.int _)⟩
    ·rename_i z he';injection he' with he1 he2;subst he1
     split at e'
     ·rename_i hz;cases e';exact⟨.str z,z.length,by rw[h2.str_inv],⟨QN hz lim,rfl⟩,a'.now k (.int _)⟩
     ·cases e'
    ·cases e'
   |own ds=>rw[q]at a;obtain⟨ad,vs,h1,g2,g3,h4,h5⟩:=k.own i ds q;exact⟨.ref ad,h1,.ref ad,vs.length,rfl,.inl ⟨vs,SqL.of h4,rfl⟩,by rw[h5.length];exact aft.now a k (.int _)⟩
theorem Hx{pins:List (Ud×Obj)}{s:Ub}{σ:St}{G H:Hp}{v:V}{u:Ua}{d:D}{cv:Ua}{t:Bool}{A:Around}{E:Ua->Ub->Prop}{Q:Ua->Ub->Prop}(I:Inv X pins σ H s)(sg:Same G H)(r:Rep X.K G v d)(rv:RelV v u)(nx:Vm d=false)
  (ek:PySem.W.kitOne X.K (.type (Z3 d)) cv=some t) (h:∀tk,Q (.bool t) {s with toks:=tk}):Uh (model X.prog X.w) A (call (.builtin "isinstance") [u,cv]) Q E s:=by
 cases r with
 |non=>cases rv;exact Js PySem.W.kitx_none I.kIn True.intro ek (λz=>nomatch z) h
 |bl y=>cases rv;exact Js PySem.W.kitx_bool I.kIn True.intro ek (λz=>nomatch z) h
 |int i=>obtain⟨t',rfl⟩:=rv;exact Js PySem.W.kitx_int I.kIn True.intro ek (λz=>nomatch z) h
 |str y=>obtain⟨t',rfl⟩:=rv;exact Js PySem.W.kitx_str I.kIn True.intro ek (λz=>nomatch z) h
 |lst hl _=>cases rv;obtain⟨its,r,⟨o,n,e,hc,_,hd⟩,hz⟩:=I.list (sg.seq hl);exact Js PySem.W.kitx_list I.kIn ⟨o,e,hc⟩ ek (λz=>nomatch z) h
 |tup hl _=>cases rv;obtain⟨its,r,p,hz⟩:=I.tuple (ZH sg hl);obtain⟨o,e,hc,_⟩:=p;exact Js PySem.W.kitx_tuple I.kIn ⟨o,e,hc⟩ ek (λz=>nomatch z) h
 |@dic ad hd=>
  cases rv;obtain⟨_,_,vs,_,p⟩:=(show Kz X.prog X.w H s.heap ad (.dK [])from I.hok ad _ (sg _ _ hd))
  obtain⟨o,es,ep,h1,h2,_⟩:=p;exact Js PySem.W.kitx_dict I.kIn ⟨o,h1,h2.1⟩ ek (λz=>nomatch z) h
 |exc _ _ _ _=>cases nx
 |@dct ad ks vs ds kvs e0 _ _ hd _=>
  cases rv;subst e0;rw[RC.1]at ek;obtain⟨_,_,vs,_,p⟩:=(show Kz X.prog X.w H s.heap ad (.dK (ks.zip _))from I.hok ad _ (sg _ _ hd))
  obtain⟨o,es,ep,h1,h2,_⟩:=p;exact Js PySem.W.kitx_dict I.kIn ⟨o,h1,h2.1⟩ ek (λz=>nomatch z) h
 |@dtt ad ob ks vs ds kvs e0 _ hd _=>
  cases rv;subst e0;obtain⟨_,_,_,xs,_,o,es,ep,h1,h2,_⟩:=(show Kz X.prog X.w H s.heap ad (.frz ob (.dT (ks.zip _)))from I.hok ad _ (sg _ _ hd))
  exact Js PySem.W.kitx_dict I.kIn ⟨o,h1,h2.1⟩ ek (λz=>nomatch z) h
theorem Hw(c:String)(hc:c = "int" ∨ c = "bool" ∨ c = "str" ∨ c = "list" ∨ c = "tuple" ∨ c = "dict"):typeOf (.type c)=pure (.type "type"):=by rcases hc with rfl|rfl|rfl|rfl|rfl|rfl<;>kernel_rfl
theorem Fw:ZI X (.builtin "isinstance") (λxs H Q=>∃v c G d,xs=[v,.ty c]/\Same G H/\Rep X.K G v d/\(c = "int" ∨ c = "bool" ∨ c = "str" ∨ c = "list" ∨ c = "tuple" ∨ c = "dict")/\Q (.bl (U9 d c)) H):=by
 intro pins s σ H xs us Q I r h;obtain⟨v,c,G,d,rfl,sg,rp,hc,q⟩:=h;obtain⟨u,w',rfl,r1,r2⟩:=TM r;cases (show w'=Value.type c from r2);by_cases nx:Vm d=true
 ·cases rp with
  |@exc a C dd bm nm vs ds ck hx hd rr=>
   refine FF (Nr I.ok.mod.kin) pins s σ H [.ref a,.ty c] [u,.type c] Q I r ⟨a,C,dd,bm,false,.ty c,false,rfl,⟨nm,ck⟩,sg _ _ hx,.inr ⟨c,rfl,Hw c hc,?_⟩,?_⟩
   ·rw[ck.ty];rcases hc with rfl|rfl|rfl|rfl|rfl|rfl<;>rfl
   ·have e:U9 (.dict [(.none,.tuple [.str nm,.list ds])]) c=false:=by rcases hc with rfl|rfl|rfl|rfl|rfl|rfl<;>rfl
    rw[e]at q;exact q
  |dct e _ _ _ _=>subst e;rw[RC.2]at nx;cases nx
  |dtt e _ _ _=>subst e;cases nx
  |_=>cases nx
 ·have nx:Vm d=false:=by simpa using nx
  exact Hx I sg rp r1 nx (Hy X.K d c nx hc) λtk=>⟨.bl _,H,I.tok tk,rfl,q⟩
theorem C0:bootBuiltins "isinstance" = some (.builtin "isinstance"):=by decide +kernel
theorem Tx{f:M D}{p2 p3:Pos}{c:String}(hc:c = "int" ∨ c = "bool" ∨ c = "str" ∨ c = "list" ∨ c = "tuple" ∨ c = "dict")(hg:Gl X "isinstance")(hm:X.mg "isinstance" = none)(hg2:Gl X (Uv c))(hm2:X.mg (Uv c)=none)
  (hv2:bootBuiltins (Uv c)=some (.type c)) (ha:PE X e (tD X.K B G0 f)) (hn2:(Uv c) ≠ "__name__") (hd2:((Uv c)==("__debug__" : Str))=false)
  (hs:Ui [e,.Name (Uv c) p3] X.env=(false,eval e X.env)::Ui [.Name (Uv c) p3] X.env:=by rfl)
  (hs2:Ui [.Name (Uv c) p3] X.env=[(false,eval (.Name (Uv c) p3) X.env)]:=by rfl) :
  PE X (.Call (.Name "isinstance" p2) [e,.Name (Uv c) p3] [] pos) (tD X.K B G0 (UM (λd=>.bool (U9 d c)) f)):=by
 refine UW (VG Fw hg hm C0 (Z0 ha (Z0 (GV (v:=.ty c) hg2 hm2 hv2 rfl hn2 hd2) Yt (by rw[hs2];rfl)) hs) (by decide) (by decide) hs (by rw[hs2];rfl)) λσ H Q q=>?_
 refine tM.one (R:=Rep X.K) q λv H2 G ρ x k r a=>?_
 exact⟨v,c,G,x,rfl,k.gh,r,hc,aft.now a k (.bl _)⟩
end
def spD(K:Frag)(n:Nat)(F:List D->Option D):Sp:=λvs H Q _=>∃G ds d,vs.length=n/\Same G H/\Reps K G vs ds/\F ds=some d/\∀v G' H',Ext G H G' H'->Rep K G' v d->Q v H'
section
variable{K:Frag}{B G0 G H:Hp}{σ:St}{ρ:UB}
theorem EOk.exit(k:EOk K B G0 G H σ ρ):Ext G0 B G H:=⟨k.bh,k.g0,k.gh,k.np⟩
theorem KU{α:Type}{l:List α}{i:Nat}{x y:α}(h:(l.set i x)[i]?=some y):y=x:=by
 by_cases hl:i<l.length
 ·rw[QG hl]at h;cases h;rfl
 ·rw[Q4 (by rw[Q3];omega)]at h;cases h
theorem DpOk.setOther{i:Nat}{x:Option V}{y:Option Sl}(k:DpOk K B G H σ ρ)(hy:∀s,y=some s->∃d,s=.pub d):DpOk K B G H (σ.set i x) (ρ.set i y):=by
 have nz:∀{m:Nat}{s:Sl},(ρ.set i y)[m]?=some (some s)->(∃d,s=.pub d)∨(ρ[m]?=some (some s)/\(σ.set i x)[m]?=σ[m]?):=λ{m s} q=>by
  by_cases z:i=m
  ·subst z;exact .inl (hy s (KU q).symm)
  ·rw[Ql z]at q⊢;exact .inr ⟨q,rfl⟩
 refine k.map (λm p d q=>?_) (λm es q=>?_) λm p d v fp q s r w n=>⟨r,w⟩
 ·rcases nz q with ⟨_,e⟩|q
  ·cases e
  ·exact q
 ·rcases nz q with ⟨_,e⟩|q
  ·cases e
  ·exact⟨es,q⟩
theorem EOk.setPub{i:Nat}{v:V}{d:D}(k:EOk K B G0 G H σ ρ)(r:Rep K G v d)(hi:i<ρ.length):EOk K B G0 G H (σ.set i (some v)) (ρ.set i (some (.pub d))) where
 bh:=k.bh
 gh:=k.gh
 g0:=k.g0
 np:=k.np
 len:=by rw[Q3,Q3];exact k.len
 pub:=λj d' q=>by
  by_cases z:i=j
  ·subst z;have:=KU q;cases this;exact⟨v,QG (by rw[←k.len];exact hi),r⟩
  ·rw[Ql z]at q⊢;exact k.pub j d' q
 own:=λj ds q=>by
  by_cases z:i=j
  ·subst z;have:=KU q;cases this
  ·rw[Ql z]at q⊢;exact k.own j ds q
 sep:=λj l c es fs q1 q2 s1 s2=>by
  have z1:i≠j:=λz=>by subst z;have:=KU q1;cases this
  have z2:i≠l:=λz=>by subst z;have:=KU q2;cases this
  rw[Ql z1]at q1 s1;rw[Ql z2]at q2 s2;exact k.sep j l c es fs q1 q2 s1 s2
 dp:=k.dp.setOther (λs e=>by cases e;exact⟨_,rfl⟩)
structure NewL(K:Frag)(B G H:Hp)(σ:St)(ρ:UB)(a:Ud)(vs:List V)(ds:List D):Prop where
 b:B a=none
 g:G a=none
 h:H a=some (.lst vs)
 r:Reps K G vs ds
 f:∀(j:Nat) es,ρ[j]?=some (some (.own es))->σ[j]?≠some (some (.ref a))
 dp:∀(j:Nat) p d v fp,ρ[j]?=some (some (.deep p d))->σ[j]?=some (some v)->RepO K G H p v d fp->a∉fp
theorem EOk.freshD{H':Hp}{a:Ud}(k:EOk K B G0 G H σ ρ)(e:Same H H')(ha:H a=none){G':Hp}{j:Nat}{p:Pat}{d:D}{v:V}{fp:List Ud}(q:ρ[j]?=some (some (.deep p d)))(s:σ[j]?=some (some v))(r:RepO K G' H' p v d fp):a∉fp:=λm=>by obtain⟨ω,k1,k2⟩:=k.dp;obtain⟨v',fp',s',r',n,w⟩:=k1 j p d q;rw[s]at s';cases s';have u:=r'.uniq e r;subst u;obtain⟨ws,hl⟩:=r'.isl a m;rw[ha]at hl;cases hl
theorem EOk.setOwn{i:Nat}{a:Ud}{vs:List V}{ds:List D}(k:EOk K B G0 G H σ ρ)(n:NewL K B G H σ ρ a vs ds)(hi:i<ρ.length):EOk K B G0 G H (σ.set i (some (.ref a))) (ρ.set i (some (.own ds))) where
 bh:=k.bh
 gh:=k.gh
 g0:=k.g0
 np:=k.np
 len:=by rw[Q3,Q3];exact k.len
 pub:=λj d' q=>by
  by_cases z:i=j
  ·subst z;have:=KU q;cases this
  ·rw[Ql z]at q⊢;exact k.pub j d' q
 own:=λj es q=>by
  by_cases z:i=j
  ·subst z;have:=KU q;cases this;exact⟨a,vs,QG (by rw[←k.len];exact hi),n.b,n.g,n.h,n.r⟩
  ·rw[Ql z]at q⊢;exact k.own j es q
 sep:=λj l c es fs q1 q2 s1 s2=>by
  have hs:i<σ.length:=by rw[←k.len];exact hi
  by_cases z1:i=j
  ·subst z1;rw[QG hs]at s1;cases s1;by_cases z2:i=l
   ·exact z2
   ·rw[Ql z2]at q2 s2;exact absurd s2 (n.f l fs q2)
  ·by_cases z2:i=l
   ·subst z2;rw[QG hs]at s2;cases s2;rw[Ql z1]at q1 s1;exact absurd s1 (n.f j es q1)
   ·rw[Ql z1]at q1 s1;rw[Ql z2]at q2 s2;exact k.sep j l c es fs q1 q2 s1 s2
 dp:=by
  obtain⟨ω,k1,k2⟩:=k.dp;have hs:i<σ.length:=by rw[←k.len];exact hi
  refine⟨λb=>if b=a then i else ω b,λj p d q=>?_,λj es b q s=>?_⟩
  ·by_cases z:i=j
   ·subst z;have:=KU q;cases this
   ·rw[Ql z]at q⊢;obtain⟨v,fp,s,r,nn,w⟩:=k1 j p d q;refine⟨v,fp,s,r,nn,λb m=>⟨(w b m).1,(w b m).2.1,?_⟩⟩;dsimp only;rw[QJ (λz=>n.dp j p d v fp q s r (by rw[←z];exact m))];exact(w b m).2.2
  ·by_cases z:i=j
   ·subst z;rw[QG hs]at s;cases s;dsimp only;rw[Qr rfl]
   ·rw[Ql z]at q s;dsimp only;rw[QJ (λe=>n.f j es q (by rw[←e];exact s))];exact k2 j es b q s
theorem EOk.change{i:Nat}{a:Ud}{vs:List V}{ds es:List D}(k:EOk K B G0 G H σ ρ)(q:ρ[i]?=some (some (.own ds)))(ha:σ[i]?=some (some (.ref a)))(r:Reps K G vs es) :
  EOk K B G0 G (upd H a (.lst vs)) σ (ρ.set i (some (.own es))):=by
 obtain⟨a',ws,h1,h2,h3,h4,h5⟩:=k.own i ds q;rw[ha]at h1;cases h1;have hi:i<ρ.length:=(Qf.mp q).1;refine⟨λb o e=>?_,λb o e=>?_,k.g0,k.np,by rw[Q3];exact k.len,λj d' e=>?_,λj fs e=>?_,λj l c fs gs q1 q2 s1 s2=>?_,?_⟩
 ·rw[U0 (K3 e h2)];exact k.bh b o e
 ·rw[U0 (K3 e h3)];exact k.gh b o e
 ·by_cases z:i=j
  ·subst z;have:=KU e;cases this
  ·rw[Ql z]at e;exact k.pub j d' e
 ·by_cases z:i=j
  ·subst z;have:=KU e;cases this;exact⟨a,vs,ha,h2,h3,Ki,r⟩
  ·rw[Ql z]at e;obtain⟨c,us,g1,g2,g3,g4,g5⟩:=k.own j fs e;have zc:c≠a:=λw=>z (k.sep i j a ds fs q e ha (by rw[←w];exact g1))
   exact⟨c,us,g1,g2,g3,by rw[U0 zc];exact g4,g5⟩
 ·have f:∀{m:Nat}{ts:List D},(ρ.set i (some (Sl.own es)))[m]?=some (some (.own ts))->∃ts',ρ[m]?=some (some (.own ts')):=λ{m ts} e=>by
   by_cases z:i=m
   ·subst z;exact⟨ds,q⟩
   ·rw[Ql z]at e;exact⟨ts,e⟩
  obtain⟨f1,w1⟩:=f q1;obtain⟨f2,w2⟩:=f q2;exact k.sep j l c f1 f2 w1 w2 s1 s2
 ·refine k.dp.map (λj p d e=>?_) (λj fs e=>?_) λj p d v fp qj s rj w n=>⟨rj.upd (λ_ z=>by rw[h4]at z;cases z) (n i ds a q ha),w⟩
  ·by_cases z:i=j
   ·subst z;have:=KU e;cases this
   ·rw[Ql z]at e;exact⟨e,rfl⟩
  ·by_cases z:i=j
   ·subst z;exact⟨ds,q,rfl⟩
   ·rw[Ql z]at e;exact⟨fs,e,rfl⟩
end
inductive Out where
 |nx (ρ:UB)|rt (d:D)|bk (ρ:UB)|ct (ρ:UB)|ex (ρ:UB) (d:D)|ro (ds:List D)|bad
abbrev SM:=UB->Out
section
variable(K:Frag)(B G0:Hp)(KX:XW)
def aftS(o:Out)(G1:Hp)(Dn:Ends):Prop:=
 match o with
 |.nx ρ=>∀σ G H,EOk K B G0 G H σ ρ->Same G1 G->Dn.nx σ H
 |.bk ρ=>∀σ G H,EOk K B G0 G H σ ρ->Same G1 G->Dn.bk σ H
 |.ct ρ=>∀σ G H,EOk K B G0 G H σ ρ->Same G1 G->Dn.ct σ H
 |.rt d=>∀v G H,Ext G0 B G H->Rep K G v d->Dn.rt v H
 |.ro ds=>∀a vs G H,Ext G0 B G H->B a=none->G a=none->H a=some (.lst vs)->Reps K G vs ds->Dn.rt (.ref a) H
 |.ex ρ d=>∀v σ G H,EOk K B G0 G H σ ρ->Same G1 G->Rep K G v d->KX v σ H
 |.bad=>False
def tS(g:SM):TS:=λDn σ H=>∃G ρ,EOk K B G0 G H σ ρ/\aftS K B G0 KX (g ρ) G Dn
def sB{α:Type}(f:M α)(g:α->SM):SM:=λρ=>match f ρ with | .ok a ρ'=>g a ρ' | .bad=>.bad
end
section
variable{X:Cx}{B G0:Hp}{KX:XW}{e a b c:Uf}{pos:Pos}{es rest:List Uf}{st:Stmt}{sts sts2:List Stmt}
theorem aftS.mono{K:Frag}{o:Out}{G G':Hp}{Dn:Ends}(e:Same G G')(h:aftS K B G0 KX o G Dn):aftS K B G0 KX o G' Dn:=by
 cases o with
 |nx ρ=>exact λσ G2 H2 k s=>h σ G2 H2 k (e.trans s)
 |bk ρ=>exact λσ G2 H2 k s=>h σ G2 H2 k (e.trans s)
 |ct ρ=>exact λσ G2 H2 k s=>h σ G2 H2 k (e.trans s)
 |rt d=>exact h
 |ro ds=>exact h
 |ex ρ d=>exact λv σ G2 H2 k s r=>h v σ G2 H2 k (e.trans s) r
 |bad=>exact h
theorem tS.bnd{K:Frag}{α γ:Type}{R:Hp->γ->α->Prop}{f:M α}{g:α->SM}{Dn:Ends}{σ:St}{H:Hp}{P:γ->Hp->Prop}(q:tS K B G0 KX (sB f g) Dn σ H)
  (i:∀v H' G' ρ' x,EOk K B G0 G' H' σ ρ'->R G' v x->aftS K B G0 KX (g x ρ') G' Dn->P v H'):tM K B G0 R f σ H P:=by
 obtain⟨G,ρ,k,a⟩:=q;refine⟨G,ρ,k,?_⟩;unfold sB at a;cases z:f ρ with
 |bad=>rw[z]at a;exact a.elim
 |ok d ρ1=>rw[z]at a;exact λv G' H' e s r=>i v H' G' ρ1 d e r (aftS.mono s a)
def sNx:SM:=λρ=>.nx ρ
def UF(g h:SM):SM:=λρ=>match g ρ with | .nx ρ'=>h ρ'|o=>o
theorem MG:PSs X [] (tS X.K B G0 KX sNx):=Rq GT λD σ H ⟨G,ρ,k,a⟩=>a σ G H k (.refl _)
theorem PL{g h:SM}(h1:PS X st (tS X.K B G0 KX g))(h2:PSs X sts (tS X.K B G0 KX h)):PSs X (st::sts) (tS X.K B G0 KX (UF g h)):=Rq (Ei h1 h2) λD σ H ⟨G,ρ,k,a⟩=>by
 refine⟨G,ρ,k,?_⟩;unfold UF at a;cases z:g ρ with
 |nx ρ1=>rw[z]at a;exact λσ' G' H' k' s'=>⟨G',ρ1,k',aftS.mono s' a⟩
 |rt d=>rw[z]at a;exact a
 |ro ds=>rw[z]at a;exact a
 |bk ρ1=>rw[z]at a;exact a
 |ct ρ1=>rw[z]at a;exact a
 |ex ρ1 d=>rw[z]at a;exact a
 |bad=>rw[z]at a;exact a.elim
theorem MF{g:SM}(h1:PS X st (tS X.K B G0 KX g)):PSs X [st] (tS X.K B G0 KX g):=GS h1
def X2:SM:=λ_=>.bad
theorem Fv:PS X st (tS X.K B G0 KX X2):=λ_ _ _ _ _ _ ⟨_,_,_,a⟩=>a.elim
def UQ(f:M D):SM:=sB f λd _=>.rt d
theorem ME{f:M D}(h:PE X e (tD X.K B G0 f)):PS X (.Return (some e) pos) (tS X.K B G0 KX (UQ f)):=KE (Ll h) λD σ H q=>tS.bnd (R:=Rep X.K) q λv H' G' ρ' x k r a=>a v G' H' k.exit r
def XV(f:M D):SM:=sB f λ_ ρ=>.nx ρ
theorem Hv{f:M D}(h:PE X e (tD X.K B G0 f))(hs:swapsWith e none pos.line X.env=pure false:=by rfl):PS X (.Expr e pos) (tS X.K B G0 KX (XV f)):=KE (Sd h hs) λD σ H q=>tS.bnd (R:=Rep X.K) q λv H' G' ρ' x k r a=>a σ G' H' k (.refl _)
def sIf(f:M Bool)(g h:SM):SM:=sB f λt=>if t=true then g else h
theorem Md{f:M Bool}{g h:SM}(hc:PT X c (tBo X.K B G0 f))(ha:PSs X sts (tS X.K B G0 KX g))(hb:PSs X sts2 (tS X.K B G0 KX h)):PS X (.If c sts sts2 pos) (tS X.K B G0 KX (sIf f g h)):=
 KE (NN hc ha hb) λD σ H q=>tS.bnd (R:=λ_ b c=>b=c) q λv H' G' ρ' x k r a=>by
  have r:v=x:=r;subst r;cases v with
  |true=>exact⟨G',ρ',k,a⟩
  |false=>exact⟨G',ρ',k,a⟩
def tG(K:Frag)(B G0:Hp)(s:D->UB->Option UB):TG:=λv σ H Q=>∃G ρ d ρ',EOk K B G0 G H σ ρ/\Rep K G v d/\s d ρ=some ρ'/\∀σ' G' H',EOk K B G0 G' H' σ' ρ'->Same G G'->Q σ' H'
def tGs(K:Frag)(B G0:Hp)(s:List D->UB->Option UB):TGs:=λv σ H Q=>∃G ρ d ρ',EOk K B G0 G H σ ρ/\Reps K G v d/\s d ρ=some ρ'/\∀σ' G' H',EOk K B G0 G' H' σ' ρ'->Same G G'->Q σ' H'
theorem pgof{t t':TG}(h:PG X e t)(i:∀v σ H Q,t' v σ H Q->t v σ H Q):PG X e t':=λpins s σ H v u Q I r q=>h pins s σ H v u Q I r (i v σ H Q q)
theorem Rk{t t':TGs}(h:PGs X es t)(i:∀v σ H Q,t' v σ H Q->t v σ H Q):PGs X es t':=λpins s σ H v u Q I r q=>h pins s σ H v u Q I r (i v σ H Q q)
def gN(i:Nat):D->UB->Option UB:=λd ρ=>if i<ρ.length then some (ρ.set i (some (.pub d)))else none
theorem PK{i:Nat}(h:PG X e (TN i)):PG X e (tG X.K B G0 (gN i)):=pgof h λv σ H Q ⟨G,ρ,d,ρ',k,r,e,q⟩=>by
 unfold gN at e;split at e
 ·rename_i hi;cases e;exact q _ G H (k.setPub r hi) (.refl _)
 ·cases e
def gN0:List D->UB->Option UB:=λd ρ=>match d with | []=>some ρ|_=>none
def gNC(s:D->UB->Option UB)(t:List D->UB->Option UB):List D->UB->Option UB:=λds ρ=>match ds with|d::r=>(s d ρ).bind (t r) | []=>none
theorem MD:PGs X [] (tGs X.K B G0 gN0):=Rk GR λv σ H Q ⟨G,ρ,d,ρ',k,r,e,q⟩=>by
 cases r with
 |nil=>cases e;exact⟨rfl,q σ G H k (.refl _)⟩
 |cons _ _=>cases e
theorem Hu{s:D->UB->Option UB}{t:List D->UB->Option UB}(h1:PG X e (tG X.K B G0 s))(h2:PGs X es (tGs X.K B G0 t))
  (hs:(Uy (e::es) X.env).map (·.2)=assign e X.env::(Uy es X.env).map (·.2):=by rfl):PGs X (e::es) (tGs X.K B G0 (gNC s t)):=Rk (ED h1 h2 hs) λv σ H Q ⟨G,ρ,d,ρ',k,r,e,q⟩=>by
 cases r with
 |nil=>cases e
 |@cons w dw ws dws rw rt=>
  unfold gNC at e;dsimp only at e;cases z:s dw ρ with
  |none=>rw[z]at e;cases e
  |some ρ1=>rw[z]at e;refine⟨w,ws,rfl,G,ρ,dw,ρ1,k,rw,z,λσ' G' H' k' s'=>?_⟩;exact⟨G',ρ1,dws,ρ',k',rt.mono s',e,λσ2 G2 H2 k2 s2=>q σ2 G2 H2 k2 (s'.trans s2)⟩
def gT(n:Nat)(t:List D->UB->Option UB):D->UB->Option UB:=λd ρ=>match d with | .tuple ds=>if ds.length=n then t ds ρ else none|_=>none
theorem MC{k1:Nat}{t:List D->UB->Option UB}{n:Nat}(hc:X.calm=true)(h:PGs X es (tGs X.K B G0 t))
  (hn:(Uy es X.env).length=n:=by rfl) (hst:(Uy es X.env).findIdx? (·.1)=none:=by rfl):PG X (.Tuple es k1 pos) (tG X.K B G0 (gT n t)):=pgof (Lk hc h hn hst) λv σ H Q ⟨G,ρ,d,ρ',k,r,e,q⟩=>by
 unfold gT at e;split at e
 ·split at e
  ·rename_i hl;obtain⟨ad,vs,rfl,h1,r1⟩:=r.tup_inv;exact⟨ad,vs,rfl,ZH k.gh h1,by rw[r1.length];exact hl,G,ρ,_,ρ',k,r1,e,q⟩
  ·cases e
 ·cases e
def Zw(f:M D)(s:D->UB->Option UB):SM:=sB f λd ρ=>match s d ρ with|some ρ'=>.nx ρ'|none=>.bad
theorem MB{tg:Uf}{f:M D}{s:D->UB->Option UB}(he:PE X e (tD X.K B G0 f))(hg:PG X tg (tG X.K B G0 s))(hs:swapsWithSole [tg] e pos.line X.env=pure false:=by rfl)(hw:swappedStores [tg] e X.env=pure none:=by rfl)
  (h1:(Uy [tg] X.env).map (·.2)=[assign tg X.env]:=by rfl):PS X (.Assign [tg] e pos) (tS X.K B G0 KX (Zw f s)):=
 KE (Lj he hg hs hw h1) λD σ H q=>tS.bnd (R:=Rep X.K) q λv H' G' ρ' x k r a=>by
  cases z:s x ρ' with
  |none=>rw[z]at a;exact a.elim
  |some ρ2=>rw[z]at a;exact⟨G',ρ',x,ρ2,k,r,z,λσ2 G2 H2 k2 s2=>a σ2 G2 H2 k2 s2⟩
def UY(i:Nat)(f:M D):SM:=Zw f (gN i)
theorem MA{i:Nat}{x:Str}{f:M D}{p2:Pos}(hN:X.N.Nodup)(hi:X.N[i]?=some x)(hx:Loc X.env.scope x)(he:PE X e (tD X.K B G0 f))(hs:swapsWith e (some (.Name x p2)) pos.line X.env=pure false:=by rfl)
  (hf:X.fn x=true∨X.env.scope.names.lookup x=some .local:=by first|exact .inl rfl|exact .inr rfl|assumption):PS X (.Assign [.Name x p2] e pos) (tS X.K B G0 KX (UY i f)):=
 KE (T8 hN hi hx he hs hf) λD σ H q=>tS.bnd (R:=Rep X.K) q λv H' G' ρ' x k r a=>by
  unfold gN at a;split at a
  ·rename_i ρ2 hz;split at hz
   ·rename_i hi2;cases hz;exact a _ G' H' (k.setPub r hi2) (.refl _)
   ·cases hz
  ·exact a.elim
def tL(K:Frag)(B G0:Hp)(f:M (List D)):TE:=λσ H Q=>∃G ρ,EOk K B G0 G H σ ρ/\match f ρ with
 |.ok ds ρ'=>∀a vs G' H',EOk K B G0 G' H' σ ρ'->Same G G'->NewL K B G' H' σ ρ' a vs ds->Q (.ref a) H'
 |.bad=>False
def Kt(i:Nat)(f:M (List D)):SM:=sB f λds ρ=>if i<ρ.length then .nx (ρ.set i (some (.own ds)))else .bad
theorem Ht{i:Nat}{x:Str}{f:M (List D)}{p2:Pos}(hN:X.N.Nodup)(hi:X.N[i]?=some x)(hx:Loc X.env.scope x)(he:PE X e (tL X.K B G0 f))(hs:swapsWith e (some (.Name x p2)) pos.line X.env=pure false:=by rfl)
  (hf:X.fn x=true∨X.env.scope.names.lookup x=some .local:=by first|exact .inl rfl|exact .inr rfl|assumption):PS X (.Assign [.Name x p2] e pos) (tS X.K B G0 KX (Kt i f)):=
 KE (T8 hN hi hx he hs hf) λD σ H ⟨G,ρ,k,a⟩=>by
  refine⟨G,ρ,k,?_⟩;unfold Kt sB at a;cases z:f ρ with
  |bad=>rw[z]at a;exact a.elim
  |ok ds ρ1=>
   rw[z]at a;intro ad vs G' H' k' s' n;dsimp only at a;split at a
   ·rename_i hl;exact a _ G' H' (k'.setOwn n hl) s'
   ·exact a.elim
theorem NewL.of{K:Frag}{G H:Hp}{σ:St}{ρ:UB}{p:Ud}{vs:List V}{ds:List D}(k:EOk K B G0 G H σ ρ)(hp:H p=none)(r:Reps K G vs ds):NewL K B G (upd H p (.lst vs)) σ ρ p vs ds where
 b:=k.bh.free hp
 g:=k.gh.free hp
 h:=Ki
 r:=r
 f:=λj es q z=>by obtain⟨a,ws,h1,h2,h3,h4,h5⟩:=k.own j es q;rw[z]at h1;cases h1;rw[hp]at h4;cases h4
 dp:=λj pt d v fp q s rr=>k.freshD (Kw hp) hp q s rr
theorem PJ{f:M (List D)}(h:PA X es (tDs X.K B G0 f)):PE X (.List es pos) (tL X.K B G0 (UO f λxs=>if xs.length<=1000000 then UE xs else λ_=>.bad)):=
 UW (RI h) λσ H Q ⟨G,ρ,k,a⟩=>by
  refine⟨G,ρ,k,?_⟩;unfold UO at a;cases z:f ρ with
  |bad=>rw[z]at a;exact a.elim
  |ok ds ρ1=>
   rw[z]at a;dsimp only at a;intro v G' H' k' s' r;by_cases c:ds.length<=1000000
   ·rw[Qr c]at a;refine⟨by rw[r.length];exact QN c lim,λp hp=>?_⟩;exact a p v G' _ (k'.ext (Ext.hid k'.gh hp)) s' (NewL.of k' hp r)
   ·rw[QJ c]at a;exact a.elim
def KQ(i:Nat)(f:M D):SM:=λρ0=>match ρ0[i]? with
 |some (some (.own _))=>sB f (λd ρ=>match ρ[i]? with
  |some (some (.own ds))=>if ds.length<1000000 then .nx (ρ.set i (some (.own (ds++[d]))))else .bad
  |_=>.bad) ρ0
 |_=>.bad
theorem Mz{i:Nat}{f:M D}{o:Uf}{apos cpos:Pos}(ho:PE X o (Km i))(he:PE X e (tD X.K B G0 f))
  (hbase:attributeBase o "append" X.env (eval o X.env)=eval o X.env:=by rfl)
  (hfew:((backTo cpos (Ui [e] X.env)).all (λx=>!x.1)&&(backToKw cpos (keywordEach [] X.env)).all (λx=>x.1.isSome)
   && decide ([e].length+([]:List Keyword).length+(if([]:List Keyword).isEmpty then 0 else 1)<30))=true:=by rfl)
  (hline:(apos.endLine==cpos.line)=true:=by rfl) (hs:Ui [e] X.env=[(false,eval e X.env)]:=by rfl)
  (hsw:swapsWith (.Call (.Attribute o "append" apos) [e] [] cpos) none pos.line X.env=pure false:=by rfl) :
  PS X (.Expr (.Call (.Attribute o "append" apos) [e] [] cpos) pos) (tS X.K B G0 KX (KQ i f)):=
 KE (Sd (Vk PySem.F.plainAttrs_list PySem.F.slot_list_append PySem.F.type_list_append OL ho (Z0 he Yt (by rw[hs];rfl)) hbase hfew hline (by rw[hs];rfl) rfl) hsw) λD σ H ⟨G,ρ,k,a⟩=>by
  unfold KQ at a;cases q0:ρ[i]? with
  |none=>rw[q0]at a;exact a.elim
  |some o0=>
   cases o0 with
   |none=>rw[q0]at a;exact a.elim
   |some sl0=>
    cases sl0 with
    |deep _ _=>rw[q0]at a;exact a.elim
    |pub d=>rw[q0]at a;exact a.elim
    |own ds0=>
     rw[q0]at a;obtain⟨ad,vs0,h1,h2,h3,h4,h5⟩:=k.own i ds0 q0;refine⟨.ref ad,h1,.inl ⟨rfl,_,SqL.of h4⟩,G,ρ,k,?_⟩;unfold sB at a;cases z:f ρ with
     |bad=>rw[z]at a;exact a.elim
     |ok d ρ1=>
      rw[z]at a;dsimp only at a;intro v G' H' k' s' r';cases q:ρ1[i]? with
      |none=>rw[q]at a;exact a.elim
      |some o=>
       cases o with
       |none=>rw[q]at a;exact a.elim
       |some sl=>
        cases sl with
        |deep _ _=>rw[q]at a;exact a.elim
        |pub d=>rw[q]at a;exact a.elim
        |own ds=>
         rw[q]at a;dsimp only at a;split at a
         ·rename_i hl;obtain⟨ad',vs,g1,g2,g3,g4,g5⟩:=k'.own i ds q;rw[h1]at g1;cases g1;refine⟨ad,vs,v,rfl,rfl,g4,by rw[g5.length];exact QB hl lim,?_⟩;exact a σ G' _ (k'.change q h1 (g5.append (.cons r' .nil))) s'
         ·exact a.elim
end
structure ZR(K:Frag)(J:It)(ds:List D)(G1:Hp):Prop where
 go:∀i G H,Same G1 G->Same G H->i<ds.length->J.go i H
 stop:∀i G H,Same G1 G->Same G H->ds.length<=i->J.stop i H
 yld:∀i G H x H' d,Same G1 G->Same G H->ds[i]?=some d->J.yld i H x H'->∃G',Ext G H G' H'/\Rep K G' x d
def iD(K:Frag)(B G0:Hp)(f:M (List D)):TI:=λσ H R=>∃G ρ,EOk K B G0 G H σ ρ/\match f ρ with
 |.ok ds ρ'=>∀J G' H',EOk K B G0 G' H' σ ρ'->Same G G'->ZR K J ds G'->R J H'
 |.bad=>False
section
variable{X:Cx}{B G0:Hp}{KX:XW}{e a b c tg:Uf}{pos:Pos}{es rest:List Uf}{st:Stmt}{sts sts2:List Stmt}
theorem Z5{t t':TI}(h:PI X tg e t)(i:∀σ H R,t' σ H R->t σ H R):PI X tg e t':=λpins s σ H R I q=>h pins s σ H R I (i σ H R q)
theorem tM.toI{K:Frag}{α γ:Type}{R0:Hp->γ->α->Prop}{f:M α}{g:α->M (List D)}{σ:St}{H:Hp}{R:It->Hp->Prop}{P:γ->Hp->Prop}(q:iD K B G0 (UO f g) σ H R)
  (i:∀v H' G' ρ' x,EOk K B G0 G' H' σ ρ'->R0 G' v x->(match g x ρ' with
   |.ok ds ρ2=>∀J G2 H2,EOk K B G0 G2 H2 σ ρ2->Same G' G2->ZR K J ds G2->R J H2
   |.bad=>False)->P v H'):tM K B G0 R0 f σ H P:=by
 obtain⟨G,ρ,k,a⟩:=q;refine⟨G,ρ,k,?_⟩;unfold UO at a;cases z:f ρ with
 |bad=>rw[z]at a;exact a.elim
 |ok d ρ1=>
  rw[z]at a;intro v G' H' e s r;refine i v H' G' ρ1 d e r ?_;dsimp only at a;cases z2:g d ρ1 with
  |bad=>rw[z2]at a;exact a.elim
  |ok ds ρ2=>rw[z2]at a;exact λJ G2 H2 k2 s2 it=>a J G2 H2 k2 (s.trans s2) it
theorem D3{K:Frag}{G1:Hp}{ad:Ud}{vs:List V}{ds:List D}(h:SqL K G1 ad vs)(r:Reps K G1 vs ds):ZR K (Itl K ad) ds G1 where
 go:=λi G H s1 s2 hi=>by
  have hi':i<vs.length:=by rw[r.length];exact hi
  exact⟨vs,vs[i],(s1.trans s2).seq h,Qb hi'⟩
 stop:=λi G H s1 s2 hi=>⟨vs,(s1.trans s2).seq h,by rw[r.length];exact hi⟩
 yld:=λi G H x H' d s1 s2 e y=>by obtain⟨rfl,y⟩:=y;obtain⟨v,e1,r1⟩:=r.get e;have:=y vs ((s1.trans s2).seq h);rw[e1]at this;cases this;exact⟨G,.refl s2,r1.mono s1⟩
def K8(lo hi:Int):List D:=(Uk (hi-lo).toNat).map λ(k:Nat)=>.int (lo+k)
theorem Yu(lo hi:Int):(K8 lo hi).length=(hi-lo).toNat:=by unfold K8;rw[Qe,QS]
theorem O2{K:Frag}{G1:Hp}(lo hi:Int):ZR K (Itr lo (hi-lo).toNat) (K8 lo hi) G1 where
 go:=λi G H s1 s2 h=>by rw[Yu]at h;exact h
 stop:=λi G H s1 s2 h=>by rw[Yu]at h;exact h
 yld:=λi G H x H' d s1 s2 e y=>by
  obtain⟨rfl,rfl⟩:=y;unfold K8 at e;rw[Qg]at e;have hi:i<(Uk (hi-lo).toNat).length:=by refine Nat.lt_of_not_le λz=>?_;rw[Q4 z]at e;cases e
  rw[Qb hi,List.getElem_range]at e;cases e;exact⟨G,.refl s2,.int _⟩
def WP:List D->Option (List D)
 |[.int j]=>if j<=1000000 /\ -1000000<=j then some (K8 0 j)else none
 |_=>none
def WO:List D->Option (List D)
 |[.int i,.int j]=>if j<=1000000 /\ -1000000<=j/\i<=1000000 /\ -1000000<=i then some (K8 i j)else none
 |_=>none
def YZ(f:M (List D)):M (List D):=UO f λx=>US (WP x)
def WN(f:M (List D)):M (List D):=UO f λx=>US (WO x)
theorem DV{f:M (List D)}{p2:Pos}(hg:Gl X "range")(hm:X.mg "range" = none)(ha:PA X [a] (tDs X.K B G0 f))(hs:Ui [a] X.env=[(false,eval a X.env)]:=by rfl) :
  PI X tg (.Call (.Name "range" p2) [a] [] pos) (iD X.K B G0 (YZ f)):=Z5 (DS hg hm ha hs) λσ H R q=>tM.toI (R0:=Reps X.K) q λv H' G' ρ' x k r a=>by
 cases z:WP x with
 |none=>rw[z]at a;exact a.elim
 |some ds=>
  rw[z]at a;unfold WP at z;split at z
  ·split at z
   ·rename_i j c;cases z;obtain⟨w,rfl,r'⟩:=r.one_inv;refine⟨j,by rw[r'.int_inv],by omega,by omega,?_⟩;have it:=O2 (K:=X.K) (G1:=G') 0 j;rw[Int.sub_zero]at it;exact a _ G' H' k (.refl _) it
   ·cases z
  ·cases z
theorem DU{f:M (List D)}{p2:Pos}(hg:Gl X "range")(hm:X.mg "range" = none)(ha:PA X [a,b] (tDs X.K B G0 f))(hs:Ui [a,b] X.env=[(false,eval a X.env),(false,eval b X.env)]:=by rfl)(hs2:Ui [b] X.env=[(false,eval b X.env)]:=by rfl) :
  PI X tg (.Call (.Name "range" p2) [a,b] [] pos) (iD X.K B G0 (WN f)):=Z5 (DR hg hm ha hs hs2) λσ H R q=>tM.toI (R0:=Reps X.K) q λv H' G' ρ' x k r a=>by
 cases z:WO x with
 |none=>rw[z]at a;exact a.elim
 |some ds=>
  rw[z]at a;unfold WO at z;split at z
  ·split at z
   ·rename_i i j c;cases z;obtain⟨w,w',rfl,r1,r2⟩:=r.two_inv;refine⟨i,j,by rw[r1.int_inv,r2.int_inv],⟨by omega,by omega,by omega,by omega⟩,?_⟩;exact a _ G' H' k (.refl _) (O2 i j)
   ·cases z
  ·cases z
def Za(n:Nat):List D->List D
 |[]=>[]
 |d::r=>.tuple [.int n,d]::Za (n+1) r
theorem YV:∀(n:Nat)(ds:List D),(Za n ds).length=ds.length
 |_,[]=>rfl
 |n,d::r=>by rw[Za,QA,QA,YV]
theorem SR:∀(n:Nat)(ds:List D)(i:Nat),(Za n ds)[i]?=ds[i]?.map λd=>.tuple [.int ((n+i:Nat):Int),d]
 |_,[],i=>by simp[Za]
 |n,d::r,0=>by simp[Za]
 |n,d::r,i+1=>by
  rw[Za,JN,JN,SR (n+1) r i];have:n+1+i=n+(i+1):=by omega
  rw[this]
theorem D2{K:Frag}{G1:Hp}{ad:Ud}{vs:List V}{ds:List D}(h:SqL K G1 ad vs)(r:Reps K G1 vs ds):ZR K (Ite K ad) (Za 0 ds) G1 where
 go:=λi G H s1 s2 hi=>by
  rw[YV]at hi;have hi':i<vs.length:=by rw[r.length];exact hi
  exact⟨vs,vs[i],(s1.trans s2).seq h,Qb hi'⟩
 stop:=λi G H s1 s2 hi=>by rw[YV]at hi;exact⟨vs,(s1.trans s2).seq h,by rw[r.length];exact hi⟩
 yld:=λi G H x H' d s1 s2 e y=>by
  obtain⟨p,v,hp,rfl,y,rfl⟩:=y;rw[SR]at e;cases z:ds[i]? with
  |none=>rw[z]at e;cases e
  |some d0=>rw[z]at e;cases e;obtain⟨w,e1,r1⟩:=r.get z;have:=y vs ((s1.trans s2).seq h);rw[e1]at this;cases this;refine⟨upd G p (.tup [.int i,v]),Ext.new s2 hp,.tup (SqT.of Ki) (.cons ?_ (.cons ((r1.mono s1).mono (Kw (s2.free hp))) .nil))⟩;rw[Jx];exact .int _
def Vl:List D->Option (List D)
 |[.list ds]=>some (Za 0 ds)
 |_=>none
def XB(f:M (List D)):M (List D):=UO f λx=>US (Vl x)
theorem Hs{f:M (List D)}{p2:Pos}{elts:List Uf}{x1}{tp:Pos}(hg:Gl X "enumerate")(hm:X.mg "enumerate" = none)(ha:PA X [a] (tDs X.K B G0 f))(hs:Ui [a] X.env=[(false,eval a X.env)]:=by rfl) :
  PI X (.Tuple elts x1 tp) (.Call (.Name "enumerate" p2) [a] [] pos) (iD X.K B G0 (XB f)):=Z5 (GI hg hm ha hs) λσ H R q=>tM.toI (R0:=Reps X.K) q λv H' G' ρ' x k r a=>by
 cases z:Vl x with
 |none=>rw[z]at a;exact a.elim
 |some ds=>
  rw[z]at a;unfold Vl at z;split at z
  ·cases z;obtain⟨w,rfl,r'⟩:=r.one_inv;obtain⟨ad,vs,rfl,h1,r1⟩:=r'.lst_inv;exact⟨ad,vs,rfl,k.gh.seq h1,a _ G' H' k (.refl _) (D2 h1 r1)⟩
  ·cases z
def XA(s:D->UB->Option UB)(g:SM):List D->SM
 |[],ρ=>.nx ρ
 |d::r,ρ=>match s d ρ with
  |none=>.bad
  |some ρ1=>match g ρ1 with
   |.nx ρ2=>XA s g r ρ2
   |.ct ρ2=>XA s g r ρ2
   |.bk ρ2=>.nx ρ2
   |.rt d=>.rt d
   |.ro ds=>.ro ds
   |.ex ρ2 d=>.ex ρ2 d
   |.bad=>.bad
def Kh(f:M (List D))(s:D->UB->Option UB)(g:SM):SM:=sB f λds=>XA s g ds
theorem My{iter:Uf}{body:List Stmt}{f:M (List D)}{s:D->UB->Option UB}{g:SM}(hp:PassesOwn (model X.prog X.w) X.A X.env X.xe)(hc:X.calm=true)(hi:PI X tg iter (iD X.K B G0 f))(hg:PG X tg (tG X.K B G0 s))(hb:PSs X body (tS X.K B G0 KX g))
  (hs:∀x,Uz iter X.env x=pure x:=by intro _;rfl):PS X (.For tg iter body [] pos) (tS X.K B G0 KX (Kh f s g)):=
 KE (L8 hp hc hi hg hb hs) λDn σ H ⟨G,ρ,k,a⟩=>by
  refine⟨G,ρ,k,?_⟩;unfold Kh sB at a;cases z:f ρ with
  |bad=>rw[z]at a;exact a.elim
  |ok ds ρ1=>
   rw[z]at a;dsimp only at a⊢;intro J G1 H1 k1 s1 it;refine⟨λi m σ' H'=>m=ds.length-i/\∃G' ρ',EOk X.K B G0 G' H' σ' ρ'/\Same G1 G'/\aftS X.K B G0 KX (XA s g (ds.drop i) ρ') G' Dn,⟨ds.length,by omega,G1,ρ1,k1,.refl _,by rw[List.drop_zero];exact aftS.mono s1 a⟩,?_⟩;rintro i m σ' H' ⟨rfl,G',ρ',k',s',a'⟩;by_cases hi:i<ds.length
   ·right;refine⟨it.go i G' H' s' k'.gh hi,λσ2 H2=>∃G2 ρ2,EOk X.K B G0 G2 H2 σ2 ρ2/\Same G1 G2/\aftS X.K B G0 KX (XA s g (ds.drop (i+1)) ρ2) G2 Dn,λσ2 H2 h2=>⟨ds.length-(i+1),by omega,rfl,h2⟩,λx H2 y=>?_⟩
    obtain⟨G2,ex,rx⟩:=it.yld i G' H' x H2 ds[i] s' k'.gh (Qb hi) y;rw[JC hi,XA]at a';cases z2:s ds[i] ρ' with
    |none=>rw[z2]at a';exact a'.elim
    |some ρ2=>
     rw[z2]at a';dsimp only at a';refine⟨G2,ρ',ds[i],ρ2,k'.ext ex,rx,z2,λσ3 G3 H3 k3 s3=>⟨G3,ρ2,k3,?_⟩⟩;have s13:Same G1 G3:=(s'.trans ex.g).trans s3;cases z3:g ρ2 with
     |nx ρ3=>rw[z3]at a';exact λσ4 G4 H4 k4 s4=>⟨G4,ρ3,k4,s13.trans s4,aftS.mono ((ex.g.trans s3).trans s4) a'⟩
     |ct ρ3=>rw[z3]at a';exact λσ4 G4 H4 k4 s4=>⟨G4,ρ3,k4,s13.trans s4,aftS.mono ((ex.g.trans s3).trans s4) a'⟩
     |bk ρ3=>rw[z3]at a';exact λσ4 G4 H4 k4 s4=>a' σ4 G4 H4 k4 ((ex.g.trans s3).trans s4)
     |rt d=>rw[z3]at a';exact a'
     |ro ds=>rw[z3]at a';exact a'
     |ex ρ3 d=>rw[z3]at a';exact λv σ4 G4 H4 k4 s4 r4=>a' v σ4 G4 H4 k4 ((ex.g.trans s3).trans s4) r4
     |bad=>rw[z3]at a';exact a'.elim
   ·left;rw[List.drop_eq_nil_of_le (by omega)]at a'
    exact⟨it.stop i G' H' s' k'.gh (by omega),a' σ' G' H' k' (.refl _)⟩
theorem Fu{k:Nat}{f:Ud}{fd:Ue}{ps:List Str}{F:List D->Option D}{g:M (List D)}{x:Str}{p2:Pos}{n:Nat}(FK:FnOk X.prog X.w X.K X.mg X.base CX0 k f fd ps (spD X.K n F))(hr:Room k X.A)(hg:Gl X x)(hm:X.mg x=some (.ref f))(hk:PySem.W.keepIn X.K (.ref f)=true)
  (hb:XF X.K fd ps []) (ha:PA X (e::es) (tDs X.K B G0 g)) (hn:(e::es).length=n) (hdb:(x==("__debug__" : Str))=false:=by decide) (he:Ui (e::es) X.env=(false,eval e X.env)::Ui es X.env:=by rfl) (hpl:(backTo pos (Ui es X.env)).any (·.1)=false:=by rfl) :
  PE X (.Call (.Name x p2) (e::es) [] pos) (tD X.K B G0 (UO g λxs=>if xs.length=n then US (F xs)else λ_=>.bad)):=
 UW (PF FK hr hg hm hk hb .nil Rt ha hdb he hpl) λσ H Q q=>tM.one (R:=Reps X.K) q λv H2 G ρ ds k r a=>by
  split at a
  ·rename_i hl;obtain⟨d,e,a⟩:=a.opt;exact⟨G,ds,d,by rw[Q5,r.length];exact hl,k.gh,by rw[Q5];exact r,e,λw G' H' ex rw=>a.done k ex rw⟩
  ·exact a.elim
end
def Z1(N:List Str)(ds:List D):UB:=(ds.map λd=>some (Sl.pub d))++Ul (N.length-ds.length) none
theorem Ft{K:Frag}{N:List Str}{G H:Hp}{vs:List V}{ds:List D}(s:Same G H)(r:Reps K G vs ds):EOk K H G G H (L2.Yn N vs) (Z1 N ds) where
 bh:=.refl _
 gh:=s
 g0:=.refl _
 np:=λ_ _ _ n=>n
 len:=by unfold L2.Yn Z1;rw[Qk,Qk,Qe,Qe,QR,QR,r.length]
 pub:=λi d q=>by
  unfold Z1 at q;unfold L2.Yn;by_cases hi:i<ds.length
  ·rw[Qn (by rw[Qe];exact hi),Qg]at q;cases z:ds[i]? with
   |none=>rw[z]at q;cases q
   |some d'=>rw[z]at q;cases q;obtain⟨v,e1,r1⟩:=r.get z;refine⟨v,?_,r1⟩;rw[Qn (by rw[Qe,r.length];exact hi),Qg,e1];rfl
  ·rw[Qs (by rw[Qe];omega),Qz]at q;split at q<;>cases q
 own:=λi es q=>by
  unfold Z1 at q;by_cases hi:i<ds.length
  ·rw[Qn (by rw[Qe];exact hi),Qg]at q;cases z:ds[i]? with
   |none=>rw[z]at q;cases q
   |some d'=>rw[z]at q;cases q
  ·rw[Qs (by rw[Qe];omega),Qz]at q;split at q<;>cases q
 sep:=λi j a es fs q _ _ _=>by
  unfold Z1 at q;by_cases hi:i<ds.length
  ·rw[Qn (by rw[Qe];exact hi),Qg]at q;cases z:ds[i]? with
   |none=>rw[z]at q;cases q
   |some d'=>rw[z]at q;cases q
  ·rw[Qs (by rw[Qe];omega),Qz]at q;split at q<;>cases q
 dp:=by
  have key:∀{i:Nat}{s:Sl},(Z1 N ds)[i]?=some (some s)->∃d,s=.pub d:=λ{i s} q=>by
   unfold Z1 at q;by_cases hi:i<ds.length
   ·rw[Qn (by rw[Qe];exact hi),Qg]at q;cases z:ds[i]? with
    |none=>rw[z]at q;cases q
    |some d'=>rw[z]at q;cases q;exact⟨_,rfl⟩
   ·rw[Qs (by rw[Qe];omega),Qz]at q;split at q<;>cases q
  exact .of (λi p d q=>by obtain⟨_,e⟩:=key q;cases e) λi ds q=>by obtain⟨_,e⟩:=key q;cases e
def UZ(N:List Str)(g:SM)(ds:List D):Option D:=match g (Z1 N ds)with
 |.rt d=>some d
 |.nx _=>some .none
 |_=>none
theorem okD{P:Uc}{w:World}{K:Frag}{mg:Str->Option Ua}{base:Heap}{x qual:Str}{st:Stmt}{f:Ud}{fd:Ue}{N ps:List Str}{k n:Nat}{g:SM}(F:Fun K x qual st f fd)(S:Vz N ps (K4 st))(hn:ps.length=n)
  (der:∀(cdv:Ua)(A:Around)(outer:List Env)(s:Ub)(H:Hp)(E:XK)(B G0:Hp),Room k (A.deeper (envOfC qual (K4 st) s.heap.objs.size f cdv)) ->
   PSs (ZO CX0 P w K mg base N qual (K4 st) f cdv A outer s H E).nox (Y7 st) (tS K B G0 KX0 g)):FnOk P w K mg base CX0 (k+1) f fd ps (spD K n (UZ N g)):=by
 refine F.ok S (λvs H Q E h=>?_) (λcdv A outer s H vs Q E hr h=>?_)
 ·obtain⟨_,_,_,hl,_⟩:=h;rw[hl,hn]
 ·obtain⟨G,ds,d,hl,sg,r,hF,q⟩:=h;refine⟨_,der cdv A outer s H E H G hr,G,Z1 N ds,Ft sg r,?_⟩;unfold UZ at hF;cases z:g (Z1 N ds)with
  |rt d'=>rw[z]at hF;cases hF;exact λv G' H' ex rr=>q v G' H' ex rr
  |nx ρ=>rw[z]at hF;cases hF;exact λσ' G' H' k' _=>q .non G' H' k'.exit .non
  |ro ds=>rw[z]at hF;cases hF
  |bk ρ=>rw[z]at hF;cases hF
  |ct ρ=>rw[z]at hF;cases hF
  |ex ρ d=>rw[z]at hF;cases hF
  |bad=>rw[z]at hF;cases hF
section
variable{X:Cx}{B G0:Hp}{e a b c tg:Uf}{pos:Pos}{es rest:List Uf}
def oNeg:D->Option D
 |.int i=>some (.int (-i))
 |_=>none
def Zl(f:M D):M D:=UO f λx=>US (oNeg x)
theorem Hr{f:M D}(h:PE X a (tD X.K B G0 f)):PE X (.UnaryOp .USub a pos) (tD X.K B G0 (Zl f)):=
 UW (NI L0 h) λσ H Q q=>tM.one (R:=Rep X.K) q λv H2 G ρ x k r a=>by
  cases x with
  |int i=>exact⟨i,r.int_inv,aft.now a k (.int _)⟩
  |_=>exact a.elim
end
def Def(P:Uc)(w:World)(K:Frag)(mg:Str->Option Ua)(base:Heap)(x:Str)(k n:Nat)(F:List D->Option D):Prop:=
 ∃(f:Ud)(fd:Ue)(ps:List Str),mg x=some (.ref f)/\PySem.W.keepIn K (.ref f)=true/\XF K fd ps []/\FnOk P w K mg base CX0 k f fd ps (spD K n F)
def UT(n:Nat)(F:List D->Option D)(g:M (List D)):M D:=UO g λxs=>if xs.length=n then US (F xs)else λ_=>.bad
section
variable{X:Cx}{B G0:Hp}{e:Uf}{pos:Pos}{es:List Uf}
theorem Hq{k n:Nat}{F:List D->Option D}{g:M (List D)}{x:Str}{p2:Pos}(d:Def X.prog X.w X.K X.mg X.base x k n F)(hr:Room k X.A)(hg:Gl X x)(ha:PA X (e::es) (tDs X.K B G0 g))(hn:(e::es).length=n:=by rfl)
  (hdb:(x==("__debug__" : Str))=false:=by decide) (he:Ui (e::es) X.env=(false,eval e X.env)::Ui es X.env:=by rfl) (hpl:(backTo pos (Ui es X.env)).any (·.1)=false:=by rfl) :
  PE X (.Call (.Name x p2) (e::es) [] pos) (tD X.K B G0 (UT n F g)):=by
 obtain⟨f,fd,ps,h1,h2,h3,h4⟩:=d;exact Fu h4 hr hg h1 h2 h3 ha hn hdb he hpl
end
theorem Def.mk{P:Uc}{w:World}{K:Frag}{mg:Str->Option Ua}{base:Heap}{x:Str}{k n:Nat}{F:List D->Option D}{st:Stmt}{f:Ud}{fd:Ue}{ps:List Str}(hm:mg x=some (.ref f))(FU:Fun K x x st f fd)(hb:XF K fd ps [])(ok:FnOk P w K mg base CX0 k f fd ps (spD K n F)) :
  Def P w K mg base x k n F:=⟨f,fd,ps,hm,FU.kp,hb,ok⟩
theorem Mx{K:Frag}{H:Hp}{a:Ud}{ns:List Int}{F:List D->Option D}{E:XK}(hS:SqL K H a (ns.map V.int))(h:F [.list (ns.map int)]=some (.bool true)):spD K 1 F [.ref a] H (λv _=>v=.bl true) E:=
 ⟨H,[.list (ns.map int)],.bool true,rfl,.refl _,.cons (.lst hS (Reps.ints ns)) .nil,h,λ_ _ _ _ r=>r.bl_inv⟩
end DL
namespace L2
open PySem PySem.Spec PyProof.Rows
theorem mem_of_lookup{x:Str}{k:NameKind}:∀{l:List (Str×NameKind)},l.lookup x=some k->(x,k)∈l
 |[],h=>by cases h
 |(y,j)::r,h=>by
  rw[QQ]at h;split at h
  ·rename_i e;cases h;have:x=y:=by simpa using e
   rw[this];exact Qq
  ·exact QF _ (mem_of_lookup h)
theorem Rh{env:Env}:∀(l:List (Str×NameKind))(acc:List (Str×Ud)),(∀y∈l,y.2=.free->∃c,env.cells.lookup y.1=some c) ->
  ∃cl,(forIn l acc (λx r=>if(x.2==NameKind.free)=true then(do let a ←cellOf env x.1;pure (ForInStep.yield ((x.1,a)::r)))else pure (ForInStep.yield r)):Sem (List (Str×Ud)))=pure cl /\
   (∀x c,cl.lookup x=some c->acc.lookup x=some c∨env.cells.lookup x=some c)/\(∀y∈l,y.2=.free->∃c,cl.lookup y.1=some c)/\(∀x c,acc.lookup x=some c->∃c',cl.lookup x=some c')
 |[],acc,_=>⟨acc,rfl,λ_ _ h=>.inl h,λ_ h=>absurd h (by simp),λx c h=>⟨c,h⟩⟩
 |(n,k)::r,acc,h=>by
  by_cases hk:k=.free
  ·subst hk;obtain⟨c,hc⟩:=h (n,.free) Qq rfl;obtain⟨cl,e,p1,p2,p3⟩:=Rh r ((n,c)::acc) λy hy=>h y (QF _ hy)
   have hco:cellOf env n=pure c:=by unfold cellOf;rw[hc]
   have key:∀x c',((n,c)::acc).lookup x=some c'->acc.lookup x=some c'∨env.cells.lookup x=some c':=λx c' q=>by
    rw[QQ]at q;split at q
    ·rename_i e1;cases q;have:x=n:=by simpa using e1
     subst this;exact .inr hc
    ·exact .inl q
   have own:((n,c)::acc).lookup n=some c:=by rw[List.lookup_cons];simp
   refine⟨cl,?_,λx c' q=>?_,λy hy hf=>?_,λx c' q=>?_⟩
   ·rw[List.forIn_cons];have:(if(((n,NameKind.free):Str×NameKind).2==NameKind.free)=true then(do let a ←cellOf env n;pure (ForInStep.yield ((n,a)::acc)))else pure (ForInStep.yield acc):Sem _)=pure (ForInStep.yield ((n,c)::acc)):=by rw[Qr (show((n,NameKind.free).snd==NameKind.free)=true from rfl),hco];rfl
    refine Eq.trans ?_ e;dsimp only at this⊢;rw[this];rfl
   ·rcases p1 x c' q with z|z
    ·exact key x c' z
    ·exact .inr z
   ·rcases QP.mp hy with z|z
    ·subst z;exact p3 n c own
    ·exact p2 y z hf
   ·by_cases hx:x=n
    ·subst hx;exact p3 x c own
    ·refine p3 x c' ?_;have hb:(x==n)=false:=by simpa using hx
     rw[QQ,hb];exact q
  ·obtain⟨cl,e,p1,p2,p3⟩:=Rh r acc λy hy=>h y (QF _ hy)
   refine⟨cl,?_,p1,λy hy hf=>?_,p3⟩
   ·rw[List.forIn_cons];have hb:(k==NameKind.free)=false:=by cases k<;>first|rfl|exact absurd rfl hk
    refine Eq.trans ?_ e;dsimp only;rw[hb,QJ (by decide)];rfl
   ·rcases QP.mp hy with z|z
    ·subst z;exact absurd hf hk
    ·exact p2 y z hf
theorem O8{scope:Scope}{env:Env}(h:∀y∈scope.names,y.2=.free->∃c,env.cells.lookup y.1=some c) :
  ∃cl,closureFor scope env=pure cl/\(∀x c,cl.lookup x=some c->env.cells.lookup x=some c)/\∀y∈scope.names,y.2=.free->∃c,cl.lookup y.1=some c:=by
 obtain⟨cl,e,p1,p2,_⟩:=Rh scope.names [] h;refine⟨cl,?_,λx c q=>(p1 x c q).elim (λz=>by cases z) id,p2⟩;have e2:((forIn scope.names [] (λx r=>if(x.2==NameKind.free)=true then(do let a ←cellOf env x.1;pure (ForInStep.yield ((x.1,a)::r)))else pure (ForInStep.yield r)):Sem (List (Str×Ud))) >>= λs=>pure s)=pure cl:=by rw[e];rfl
 exact e2
theorem O1{env:Env}{x:Str}{k:NameKind}:∀{names:List (Str×NameKind)},(names.map λ(n,k)=>if(k==NameKind.free&&env.scope.kind==.function&&env.kindOf n==some .cell)then(n,NameKind.cell)else(n,k)).lookup x=some k ->
  names.lookup x=some k∨(names.lookup x=some .free/\k=.cell)
 |[],h=>by cases h
 |(n,j)::r,h=>by
  have ih:=@O1 env x k r;have h:List.lookup x ((if(j==NameKind.free&&env.scope.kind==.function&&env.kindOf n==some .cell)=true then(n,NameKind.cell)else(n,j))::_)=some k:=h;cases hx:x==n with
  |true=>
   by_cases hc:(j==NameKind.free&&env.scope.kind==.function&&env.kindOf n==some .cell)=true
   ·rw[Qr hc]at h;simp only[QQ,hx]at h⊢;cases h;simp only[QX]at hc;have:j=.free:=by have:=hc.1.1;cases j<;>first|rfl|cases this
    subst this;exact .inr ⟨rfl,rfl⟩
   ·rw[QJ hc]at h;simp only[QQ,hx]at h⊢;exact .inl h
  |false=>
   by_cases hc:(j==NameKind.free&&env.scope.kind==.function&&env.kindOf n==some .cell)=true
   ·rw[Qr hc]at h;simp only[QQ,hx]at h⊢;exact ih h
   ·rw[QJ hc]at h;simp only[QQ,hx]at h⊢;exact ih h
theorem Nl{env:Env}{x:Str}:∀{names:List (Str×NameKind)},names.lookup x=some .free ->
  (names.map λ(n,k)=>if(k==NameKind.free&&env.scope.kind==.function&&env.kindOf n==some .cell)then(n,NameKind.cell)else(n,k)).lookup x=some .free ∨
  (names.map λ(n,k)=>if(k==NameKind.free&&env.scope.kind==.function&&env.kindOf n==some .cell)then(n,NameKind.cell)else(n,k)).lookup x=some .cell
 |[],h=>by cases h
 |(n,j)::r,h=>by
  have ih:=@Nl env x r;show List.lookup x ((if(j==NameKind.free&&env.scope.kind==.function&&env.kindOf n==some .cell)=true then(n,NameKind.cell)else(n,j))::_)=_∨List.lookup x ((if(j==NameKind.free&&env.scope.kind==.function&&env.kindOf n==some .cell)=true then(n,NameKind.cell)else(n,j))::_)=_;cases hx:x==n with
  |true=>
   simp only[QQ,hx]at h;cases h;by_cases hc:(NameKind.free==NameKind.free&&env.scope.kind==.function&&env.kindOf n==some .cell)=true
   ·rw[if_pos hc];simp[List.lookup_cons,hx]
   ·rw[if_neg hc];simp[List.lookup_cons,hx]
  |false=>
   simp only[QQ,hx]at h;by_cases hc:(j==NameKind.free&&env.scope.kind==.function&&env.kindOf n==some .cell)=true
   ·rw[Qr hc];simp only[QQ,hx];exact ih h
   ·rw[QJ hc];simp only[QQ,hx];exact ih h
theorem O7{env:Env}{x:Str}:∀{names:List (Str×NameKind)},names.lookup x=some .globalImplicit ->
  (names.map λ(n,k)=>if(k==NameKind.free&&env.scope.kind==.function&&env.kindOf n==some .cell)then(n,NameKind.cell)else(n,k)).lookup x=some .globalImplicit
 |[],h=>by cases h
 |(n,j)::r,h=>by
  have ih:=@O7 env x r;show List.lookup x ((if(j==NameKind.free&&env.scope.kind==.function&&env.kindOf n==some .cell)=true then(n,NameKind.cell)else(n,j))::_)=_;cases hx:x==n with
  |true=>simp only[QQ,hx]at h;cases h;rw[if_neg (by simp)];simp[List.lookup_cons,hx]
  |false=>
   simp only[QQ,hx]at h;by_cases hc:(j==NameKind.free&&env.scope.kind==.function&&env.kindOf n==some .cell)=true
   ·rw[Qr hc];simp only[QQ,hx];exact ih h
   ·rw[QJ hc];simp only[QQ,hx];exact ih h
def Cx.blk(X:Cx)(N':List Str)(scope:Scope)(cl:List (Str×Ud))(C:Ud)(s₀:Ub)(H₀:Hp)(ex:List Ud):Cx:=
 {X with N:=N',s₀:=s₀,H₀:=H₀,env:=compEnvC scope cl C X.env,outer:=X.stack,ex:=ex,fn:=λ_=>false,xe:=λ_ _=>False}
section
variable{X:Cx}{N':List Str}{scope:Scope}{cl:List (Str×Ud)}{C:Ud}{s₀:Ub}{H₀:Hp}{ex:List Ud}{x:Str}
theorem Hn(h:scope.names.lookup x=some .local∨scope.names.lookup x=some .free):Vis (X.blk N' scope cl C s₀ H₀ ex).env.scope x:=by
 rcases h with h|h
 ·exact .inl (lookup_relabel_local h)
 ·rcases Nl (env:=X.env) h with z|z
  ·exact .inr (.inr z)
  ·exact .inr (.inl z)
theorem Hm(h:scope.names.lookup x=some .local):Loc (X.blk N' scope cl C s₀ H₀ ex).env.scope x:=.inl (lookup_relabel_local h)
theorem Mw(h:scope.names.lookup x=some .local):(X.blk N' scope cl C s₀ H₀ ex).env.scope.names.lookup x=some .local:=lookup_relabel_local h
theorem Mv(h:scope.names.lookup x=some .globalImplicit):Gl (X.blk N' scope cl C s₀ H₀ ex) x:=O7 h
end
def VF(names:List (Str×NameKind))(N N2:List Str)(k:Nat):Bool:=
 N2.length==N.length+k&&(Uk N2.length).all λi=>match N2[i]? with
  |none=>true
  |some x=>match names.lookup x with
   |some .free=>N[i]?==some x
   |some .local=>decide (N.length<=i)&&decide (i<N.length+k)
   |some .cell=>false
   |_=>true
theorem CK{names:List (Str×NameKind)}{N N2:List Str}{k:Nat}(h:VF names N N2 k=true) :
  N2.length=N.length+k/\∀(i:Nat) x,N2[i]?=some x->(names.lookup x=some .free->N[i]?=some x)/\(names.lookup x=some .local->N.length<=i/\i<N.length+k):=by
 unfold VF at h;simp only[QX,beq_iff_eq,Jc,QT]at h;refine⟨h.1,λi x e=>?_⟩;have hi:=(Qf.mp e).1;have:=h.2 i hi;rw[e]at this;refine⟨λq=>?_,λq=>?_⟩
 ·simp only[q]at this;simpa using this
 ·simp only[q]at this;simpa using this
theorem Inv.enter{X:Cx}{pins:List (Ud×Obj)}{σ:St}{H:Hp}{s3:Ub}(I:Inv X pins σ H s3){scope:Scope}{cl:List (Str×Ud)}{N2:List Str}{k:Nat}{h':Heap}{fp:List Ud}{t':Nat}{m0:Str->Option Ua}
  (hb:VF scope.names X.N N2 k=true) (hkind:scope.kind=.function) (hcell:∀y∈scope.names,y.2≠.cell)
  (hfree:∀y∈scope.names,y.2=.free->X.env.scope.names.lookup y.1=some .cell∨X.env.scope.names.lookup y.1=some .free)
  (cl1:∀x c,cl.lookup x=some c->X.env.cells.lookup x=some c) (cl2:∀y∈scope.names,y.2=.free->∃c,cl.lookup y.1=some c)
  (hn:h'.Ns s3.heap.objs.size m0) (hk:∀b o,s3.heap.get? b=some o->h'.get? b=some o) (hf:∀b∈fp,Kp X pins H b) (hfo:∀b∈fp,∃o,s3.heap.get? b=some o) :
  Inv (X.blk N2 scope cl s3.heap.objs.size s3 H fp) pins (σ++Ul k none) H {s3 with heap:=h',toks:=t'}:=by
 obtain⟨hl,hN⟩:=CK hb;have lt:∀b o,s3.heap.get? b=some o->b≠s3.heap.objs.size:=λb o e=>QD (Qh e);have ofl:∀x,scope.names.lookup x=some .free->(x,NameKind.free)∈scope.names:=λx h=>mem_of_lookup h;have kinv:∀x kk,(X.blk N2 scope cl s3.heap.objs.size s3 H fp).env.scope.names.lookup x=some kk->scope.names.lookup x=some kk∨(scope.names.lookup x=some .free/\kk=.cell):=λx kk h=>O1 (env:=X.env) h
 have isfree:∀x,(X.blk N2 scope cl s3.heap.objs.size s3 H fp).env.scope.names.lookup x=some .cell∨(X.blk N2 scope cl s3.heap.objs.size s3 H fp).env.scope.names.lookup x=some .free->scope.names.lookup x=some .free:=λx h=>by
  rcases h with h|h
  ·rcases kinv x _ h with z|z
   ·exact absurd rfl (hcell _ (mem_of_lookup z))
   ·exact z.1
  ·rcases kinv x _ h with z|z
   ·exact z
   ·exact z.1
 have ok:(X.blk N2 scope cl s3.heap.objs.size s3 H fp).Ok:=
  {
   mod:=I.ok.mod
   kind:=hkind
   glob:=I.ok.glob
   blt:=I.ok.blt
   above:=Qm _
   inj:=λx y c a b=>I.ok.inj x y c (cl1 x c a) (cl1 y c b)
   has:=λx h=>cl2 (x,.free) (ofl x (isfree x h)) rfl
   cab:=λx c h=>by cases h
   hd:=I.ok.hd
   frames:=I.ok.frames
   stk:=.inl rfl
   exf:=λb hb=>⟨let ⟨o,e⟩:=hfo b hb;lt b o e,λx c e=>(hf b hb).2.2.2.2.1 x c (cl1 x c e)⟩
   bs:=I.bs
   bsz:=QN I.ok.bsz I.sz
   noex:=λb o e hb=>by
    rcases(hf b hb).2.2.2.1 with z|z
    ·exact I.ok.noex b o e z
    ·exact absurd (QB (Qh e) (QN I.ok.bsz z)) (Jf _)
   exfs:=λb hb hx=>by
    rcases QP.mp (I.stkSub b hx)with z|z
    ·exact(hf b hb).2.1 z
    ·exact(hf b hb).2.2.1 z
   funs:=I.stack
   frf:=I.stkFree}
 refine⟨ok,rfl,I.bare,Un.kept hk,⟨m0,hn,λi x v e1 e2 e3=>?_⟩,λx c e=>?_,I.hok.fresh (Qm _),λx c e=>I.freeC x c (cl1 x c e),λp hp=>?_,I.hok.kept hk,?_⟩
 ·have nl:scope.names.lookup x≠some .local:=λz=>by
   obtain⟨g1,g2⟩:=(hN i x e1).2 z;rw[←I.len]at g1 g2;rw[Qs g1,Qz]at e2;split at e2<;>cases e2
  have fr:scope.names.lookup x=some .free:=by
   rcases e3 with z|z|z
   ·rcases kinv x _ z with q|q
    ·exact absurd q nl
    ·cases q.2
   ·exact isfree x (.inl z)
   ·exact isfree x (.inr z)
  have eN:=(hN i x e1).1 fr;have hi:i<σ.length:=by rw[I.len];exact(Qf.mp eN).1
  rw[Qn hi]at e2;obtain⟨m,hm,hlk⟩:=I.loc;have hkd:=hfree _ (ofl x fr) rfl;obtain⟨u,r,l⟩:=hlk i x v eN e2 (.inr hkd);refine⟨u,r,.inr ⟨?_,?_⟩⟩
  ·rcases e3 with z|z|z
   ·rcases kinv x _ z with q|q
    ·exact absurd q nl
    ·cases q.2
   ·exact .inl z
   ·exact .inr z
  ·rcases l with l|⟨_,c,ec,z⟩
   ·have:X.env.scope.names.lookup x=some .local:=l.1;rcases hkd with q|q<;>(dsimp only at q;rw[this]at q;cases q)
   ·obtain⟨c',ec'⟩:=cl2 _ (ofl x fr) rfl;have:=cl1 _ _ ec';dsimp only at this ec';rw[ec]at this;cases this;obtain⟨o,ho,hd⟩:=z;exact⟨c,ec',o,hk c o ho,hd⟩
 ·obtain⟨v,o,ho,hd⟩:=I.cell x c (cl1 x c e);exact⟨v,o,hk c o ho,hd⟩
 ·obtain⟨e,n,ne,nf,d⟩:=I.pin p hp;refine⟨hk _ _ e,n,lt _ _ e,λz=>?_,d⟩;rcases QP.mp (I.stkSub _ z)with q|q
  ·exact ne q
  ·exact nf q
 ·rw[Qk,QR,I.len];exact hl.symm
abbrev nox:Ua->Ub->Prop:=λ_ _=>False
def Wc(prog:Uc)(w:World)(A:Around)(tg:Uf)(ifs:List Uf)(env:Env)(it:Ua)(code:Code)(W:(Ub->Prop)->Ub->Prop):Prop:=
 ∀(R:Result->Ub->Prop)(I:Nat->Ub->Prop)(n:Nat)(s:Ub),I n s ->
  (∀n s,I n s->Uh (model prog w) A (pyNext it) (λr s₁=>match r with
   |none=>R (.ok .next) s₁
   |some v=>Uh (model prog w) A (letOwnedTupleGo tg it v) (λ_ s₁'=>Uh (model prog w) A (assign tg env v) (λ_ s₂=>
     Uh (model prog w) A (forIn ifs true λc r=>if r=true then do let ok ←isTrue c env (eval c env);pure (ForInStep.yield ok)else pure (ForInStep.yield r)) (λok s₃=>
      if ok=true then W (λs₅=>∃m,m<n/\I m s₅) s₃ else ∃m,m<n/\I m s₃) nox s₂) nox s₁') nox s₁) nox s)->codeAny (model prog w) A code R s
section
variable{prog:Uc}{w:World}{A:Around}{elt tg i:Uf}{ifs:List Uf}{gens:List Comprehension}{scope:Scope}{pos:Pos}{it acc:Ua}{env:Env}{j:Nat}
theorem EY(hg:gens[j]?=some ⟨tg,i,ifs,0⟩)(hn:gens[j+1]?=none):Wc prog w A tg ifs env it (.compLoop (.ListComp elt gens scope pos) j it acc env)
  (λQ s=>Uh (model prog w) A (eval elt env) (λx s₄=>Uh (model prog w) A (call (.builtin "list.append") [acc,x]) (λ_ s₅=>Q s₅) nox s₄) nox s):=by
 intro R I n s h turn;refine codeAny_loop rfl I (λn s hI=>?_) n h;show Uh _ A ((compTurn (.ListComp elt gens scope pos) j it acc env).onRaise (λx=>do noteFrame x env;theTreesLotGoes x)) _ _ s;refine wpAny_noted ?_;unfold compTurn;dsimp only;simp only[hg,hn];refine Qd (Q8 (Qd (Qy (turn n s hI) (λr s₁ h₁=>?_) λ_ _ h'=>h'.elim)));cases r with
 |none=>exact Qj h₁
 |some v=>
  refine Qd (Qy h₁ (λ_ s₁' h₁'=>?_) λ_ _ h'=>h'.elim);refine Qd (Qy h₁' (λ_ s₂ h₂=>Qd (Qy h₂ (λok s₃ h₃=>?_) λ_ _ h'=>h'.elim)) λ_ _ h'=>h'.elim);cases ok with
  |false=>exact Qj ⟨rfl,h₃⟩
  |true=>exact Qd (Qd (Qy h₃ (λx s₄ h₄=>Qd (Qy h₄ (λ_ s₅ h₅=>Qj (Qj ⟨rfl,h₅⟩)) λ_ _ h'=>h'.elim)) λ_ _ h'=>h'.elim))
theorem EX{tg1 i1:Uf}{ifs1:List Uf}(hg:gens[j]?=some ⟨tg,i,ifs,0⟩)(hn:gens[j+1]?=some ⟨tg1,i1,ifs1,0⟩)(hs:∀x,Uz i1 env x=pure x):Wc prog w A tg ifs env it (.compLoop (.ListComp elt gens scope pos) j it acc env)
  (λQ s=>Uh (model prog w) A (eval i1 env) (λx s₄=>Uh (model prog w) A (pyIter x) (λit1 s₅=>codeAny (model prog w) A (.compStart (.ListComp elt gens scope pos) (j+1) it1 acc env)
   (λr s₆=>match r with | .ok _=>Q s₆ | .error _=>False) s₅) nox s₄) nox s):=by
 intro R I n s h turn;refine codeAny_loop rfl I (λn s hI=>?_) n h;show Uh _ A ((compTurn (.ListComp elt gens scope pos) j it acc env).onRaise (λx=>do noteFrame x env;theTreesLotGoes x)) _ _ s;refine wpAny_noted ?_;unfold compTurn;dsimp only;simp only[hg,hn];refine Qd (Q8 (Qd (Qy (turn n s hI) (λr s₁ h₁=>?_) λ_ _ h'=>h'.elim)));cases r with
 |none=>exact Qj h₁
 |some v=>
  refine Qd (Qy h₁ (λ_ s₁' h₁'=>?_) λ_ _ h'=>h'.elim);refine Qd (Qy h₁' (λ_ s₂ h₂=>Qd (Qy h₂ (λok s₃ h₃=>?_) λ_ _ h'=>h'.elim)) λ_ _ h'=>h'.elim);cases ok with
  |false=>exact Qj ⟨rfl,h₃⟩
  |true=>
   refine Qd (Qy h₃ (λx s₄ h₄=>Qd (Q8 (Qd (wpAny_of_eq (hs x) (Qd (wpAny_holding (Qy h₄ (λit1 s₅ h₅=>?_) λ_ _ h'=>h'.elim))))))) λ_ _ h'=>h'.elim);refine Qd (wpAny_runOwn (codeAny_mono h₅ λr s₆ h₆=>?_));cases r with
   |ok f=>exact Qj ⟨rfl,h₆⟩
   |error x=>exact h₆.elim
theorem CJ{R:Result->Ub->Prop}{s:Ub}(hg:gens[j]?=some ⟨tg,i,ifs,0⟩)
  (h0:codeAny (model prog w) A (.compLoop (.ListComp elt gens scope pos) j it acc env) R s)
  (h:Uh (model prog w) A (pyIter it) (λit' s'=>codeAny (model prog w) A (.compLoop (.ListComp elt gens scope pos) j it' acc env) R s') nox s) :
  codeAny (model prog w) A (.compStart (.ListComp elt gens scope pos) j it acc env) R s:=by
 refine codeAny_of_tree ?_;show Uh _ _ ((compStart (.ListComp elt gens scope pos) j it acc env).onRaise (λx=>do noteFrame x env;standAt theWindowsPlace)) _ _ s;refine wpAny_notedAt ?_;unfold compStart;have hc:(clausesOf (.ListComp elt gens scope pos))[j]?=some ⟨tg,i,ifs,0⟩:=hg;simp only[hc];show Uh _ _ (ask >>= _) _ _ s;refine Qd (wpAny_askSetting (wpAny_ite ?_));split
 ·first
   |exact Qd (Qj (Qj (And.intro rfl h0)))
   |exact Qj (And.intro rfl h0)
 ·first
   |exact Qd (wpAny_rule (Qd (Q8 (Qd (Qy h (λit' s' h'=>Qj (And.intro rfl h')) λ_ _ x=>x.elim)))))
   |(refine Qd (wpAny_rule ?_);show Uh _ _ (standAt _ >>= _) _ _ s;exact Qd (Q8 (Qd (Qy h (λit' s' h'=>Qj (And.intro rfl h')) λ_ _ x=>x.elim))))
end
end L2
namespace DL
open PySem PySem.Spec L2
open PyProof.Rows hiding St
def YN:Option Sl->Option Sl
 |some (.own _)=>none
 |some (.deep _ _)=>none
 |x=>x
def U2(ρ:UB):UB:=ρ.map YN
theorem EW{ρ:UB}{i:Nat}{d:D}(h:(U2 ρ)[i]?=some (some (.pub d))):ρ[i]?=some (some (.pub d)):=by
 unfold U2 at h;rw[Qg]at h;cases e:ρ[i]? with
 |none=>rw[e]at h;cases h
 |some o=>
  rw[e]at h;cases o with
  |none=>cases h
  |some sl=>cases sl with
   |pub d'=>cases h;rfl
   |own ds=>cases h
   |deep p d'=>cases h
theorem Y5{ρ:UB}{i:Nat}{ds:List D}(h:(U2 ρ)[i]?=some (some (.own ds))):False:=by
 unfold U2 at h;rw[Qg]at h;cases e:ρ[i]? with
 |none=>rw[e]at h;cases h
 |some o=>
  rw[e]at h;cases o with
  |none=>cases h
  |some sl=>cases sl with
   |pub d'=>cases h
   |own ds=>cases h
   |deep p d'=>cases h
theorem Rg{ρ:UB}{i:Nat}{p:Pat}{d:D}(h:(U2 ρ)[i]?=some (some (.deep p d))):False:=by
 unfold U2 at h;rw[Qg]at h;cases e:ρ[i]? with
 |none=>rw[e]at h;cases h
 |some o=>
  rw[e]at h;cases o with
  |none=>cases h
  |some sl=>cases sl<;>cases h
def Kl(s:D->UB->Option UB)(t:M Bool)(g:M D):List D->UB->List D->Option (List D)
 |[],_,es=>some es
 |d::r,ρ,es=>match s d ρ with
  |none=>none
  |some ρ1=>match t ρ1 with
   |.bad=>none
   |.ok b ρ2=>if b=true then(match g ρ2 with
     |.bad=>none
     |.ok e ρ3=>if es.length<1000000 then Kl s t g r (U2 ρ3) (es++[e])else none)
    else Kl s t g r (U2 ρ2) es
def ZC(f:M (List D))(k:Nat)(s:D->UB->Option UB)(t:M Bool)(g:M D):M (List D):=λρ=>match f ρ with
 |.bad=>.bad
 |.ok ds ρ1=>match Kl s t g ds (U2 ρ1++Ul k none) []with
  |none=>.bad
  |some es=>.ok es ρ1
def Zm(X:Cx)(ifs:List Uf)(t:TT):Prop:=
 ∀(pins:List (Ud×Obj))(s:Ub)(σ:St)(H:Hp)(Q:Bool->Hp->Prop),Inv X pins σ H s->t σ H Q ->
  Uh (model X.prog X.w) X.A (forIn ifs true λc r=>if r=true then do let ok ←isTrue c X.env (eval c X.env);pure (ForInStep.yield ok)else pure (ForInStep.yield r)) (TP X pins σ Q) X.xe s
section
variable{X:Cx}{B G0:Hp}
theorem Hl:Zm X [] (tBo X.K B G0 (UE true)):=λpins s σ H Q I ⟨G,ρ,k,a⟩=>wpAny_tests_nil ⟨H,I,a true G H k (.refl _) rfl⟩
theorem Hk{c:Uf}{t:M Bool}(h:PT X c (tBo X.K B G0 t)):Zm X [c] (tBo X.K B G0 t):=λpins s σ H Q I q=>wpAny_tests_one (h pins s σ H Q I q)
theorem EOk.rebase{K:Frag}{G H:Hp}{σ:St}{ρ:UB}(k:EOk K B G0 G H σ ρ):EOk K H G G H σ (U2 ρ) where
 bh:=.refl _
 gh:=k.gh
 g0:=.refl _
 np:=λ_ _ _ n=>n
 len:=by unfold U2;rw[Qe];exact k.len
 pub:=λi d q=>k.pub i d (EW q)
 own:=λi ds q=>(Y5 q).elim
 sep:=λi j a ds es q=>(Y5 q).elim
 dp:=.of (λ_ _ _ q=>Rg q) λ_ _ q=>Y5 q
theorem EOk.more{K:Frag}{G H:Hp}{σ:St}{ρ:UB}(k:EOk K H G G H σ (U2 ρ))(n:Nat):EOk K H G G H (σ++Ul n none) (U2 ρ++Ul n none) where
 bh:=.refl _
 gh:=k.gh
 g0:=.refl _
 np:=λ_ _ _ n=>n
 len:=by rw[Qk,Qk,k.len,QR,QR]
 pub:=λi d q=>by
  by_cases hi:i<(U2 ρ).length
  ·rw[Qn hi]at q;rw[Qn (by rw[←k.len];exact hi)];exact k.pub i d q
  ·rw[Qs (QW hi),Qz]at q;split at q<;>cases q
 own:=λi ds q=>by
  by_cases hi:i<(U2 ρ).length
  ·rw[Qn hi]at q;exact(Y5 q).elim
  ·rw[Qs (QW hi),Qz]at q;split at q<;>cases q
 sep:=λi j a ds es q=>by
  by_cases hi:i<(U2 ρ).length
  ·rw[Qn hi]at q;exact(Y5 q).elim
  ·rw[Qs (QW hi),Qz]at q;split at q<;>cases q
 dp:=by
  refine .of (λi p d q=>?_) λi ds q=>?_
  ·by_cases hi:i<(U2 ρ).length
   ·rw[Qn hi]at q;exact Rg q
   ·rw[Qs (QW hi),Qz]at q;split at q<;>cases q
  ·by_cases hi:i<(U2 ρ).length
   ·rw[Qn hi]at q;exact Y5 q
   ·rw[Qs (QW hi),Qz]at q;split at q<;>cases q
theorem EOk.beside{K:Frag}{G H:Hp}{σ:St}{ρ:UB}{a:Ud}{o:HO}(k:EOk K B G0 G H σ ρ)(hg:G a=none):EOk K (upd H a o) G G (upd H a o) σ (U2 ρ) where
 bh:=.refl _
 gh:=λb u e=>by rw[U0 (λz=>by subst z;rw[hg]at e;cases e)];exact k.gh b u e
 g0:=.refl _
 np:=λ_ _ _ n=>n
 len:=k.rebase.len
 pub:=k.rebase.pub
 own:=λi ds q=>(Y5 q).elim
 sep:=λi j a ds es q=>(Y5 q).elim
 dp:=.of (λ_ _ _ q=>Rg q) λ_ _ q=>Y5 q
theorem lim1:1000000<=Ug:=lim
def TB:Option Sl->Option Sl
 |some (.own ds)=>some (.pub (.list ds))
 |some (.deep _ d)=>some (.pub d)
 |x=>x
def K2(ρ:UB):UB:=ρ.map TB
theorem EV{ρ:UB}{i:Nat}{d:D}(h:(K2 ρ)[i]?=some (some (.pub d))):ρ[i]?=some (some (.pub d))∨(∃ds,d=.list ds/\ρ[i]?=some (some (.own ds))) ∨ ∃p,ρ[i]?=some (some (.deep p d)):=by
 unfold K2 at h;rw[Qg]at h;cases e:ρ[i]? with
 |none=>rw[e]at h;cases h
 |some o=>
  rw[e]at h;cases o with
  |none=>cases h
  |some sl=>cases sl with
   |pub d'=>cases h;exact .inl rfl
   |own ds=>cases h;exact .inr (.inl ⟨ds,rfl,rfl⟩)
   |deep p d'=>cases h;exact .inr (.inr ⟨p,rfl⟩)
theorem SQ{ρ:UB}{i:Nat}{ds:List D}(h:(K2 ρ)[i]?=some (some (.own ds))):False:=by
 unfold K2 at h;rw[Qg]at h;cases e:ρ[i]? with
 |none=>rw[e]at h;cases h
 |some o=>
  rw[e]at h;cases o with
  |none=>cases h
  |some sl=>cases sl with
   |pub d'=>cases h
   |own ds=>cases h
   |deep p d'=>cases h
theorem D1{ρ:UB}{i:Nat}{p:Pat}{d:D}(h:(K2 ρ)[i]?=some (some (.deep p d))):False:=by
 unfold K2 at h;rw[Qg]at h;cases e:ρ[i]? with
 |none=>rw[e]at h;cases h
 |some o=>
  rw[e]at h;cases o with
  |none=>cases h
  |some sl=>cases sl<;>cases h
def flat:D->Bool
 |.none=>true | .bool _=>true | .int _=>true | .str _=>true|_=>false
theorem Rep.flat{K:Frag}{G G':Hp}{v:V}{d:D}(r:Rep K G v d)(h:DL.flat d=true):Rep K G' v d:=by
 cases r with
 |non=>exact .non
 |bl b=>exact .bl b
 |int i=>exact .int i
 |str x=>exact .str x
 |lst _ _=>cases h
 |tup _ _=>cases h
 |dic _=>cases h
 |exc _ _ _ _=>cases h
 |dct _ _ _ _ _=>cases h
 |dtt _ _ _ _=>cases h
theorem Reps.flat{K:Frag}{G G':Hp}:∀{vs:List V}{ds:List D},Reps K G vs ds->ds.all DL.flat=true->Reps K G' vs ds
 |_,_,.nil,_=>.nil
 |_,_,.cons r t,h=>by rw[List.all_cons,QX]at h;exact .cons (r.flat h.1) (Reps.flat t h.2)
theorem EOk.lend{K:Frag}{B G0 G H:Hp}{σ:St}{ρ:UB}{D:Ud}{o:HO}(k:EOk K B G0 G H σ ρ)(hD:H D=none)(n:Nat):EOk K (upd H D o) H H (upd H D o) (σ++Ul n none) (K2 ρ++Ul n none) where
 bh:=.refl _
 gh:=Kw hD
 g0:=.refl _
 np:=λ_ _ _ n=>n
 len:=by unfold K2;rw[Qk,Qk,Qe,k.len,QR,QR]
 pub:=λi d q=>by
  have hl:(K2 ρ).length=ρ.length:=by unfold K2;rw[Qe]
  by_cases hi:i<(K2 ρ).length
  ·rw[Qn hi]at q;rw[Qn (by rw[←k.len,←hl];exact hi)];rcases EV q with e|⟨ds,rfl,e⟩|⟨p,e⟩
   ·obtain⟨v,h1,h2⟩:=k.pub i d e;exact⟨v,h1,h2.mono k.gh⟩
   ·obtain⟨a,vs,h1,h2,h3,h4,h5⟩:=k.own i ds e;exact⟨.ref a,h1,.lst (SqL.of h4) (h5.mono k.gh)⟩
   ·obtain⟨ω,k1,k2⟩:=k.dp;obtain⟨v,fp,s,r,_⟩:=k1 i p d e;exact⟨v,s,r.rep k.gh⟩
  ·rw[Qs (QW hi),Qz]at q;split at q<;>cases q
 own:=λi ds q=>by
  by_cases hi:i<(K2 ρ).length
  ·rw[Qn hi]at q;exact(SQ q).elim
  ·rw[Qs (QW hi),Qz]at q;split at q<;>cases q
 sep:=λi j a ds es q=>by
  by_cases hi:i<(K2 ρ).length
  ·rw[Qn hi]at q;exact(SQ q).elim
  ·rw[Qs (QW hi),Qz]at q;split at q<;>cases q
 dp:=by
  refine .of (λi p d q=>?_) λi ds q=>?_
  ·by_cases hi:i<(K2 ρ).length
   ·rw[Qn hi]at q;exact D1 q
   ·rw[Qs (QW hi),Qz]at q;split at q<;>cases q
  ·by_cases hi:i<(K2 ρ).length
   ·rw[Qn hi]at q;exact SQ q
   ·rw[Qs (QW hi),Qz]at q;split at q<;>cases q
def XI(f:M (List D))(k:Nat)(s:D->UB->Option UB)(t:M Bool)(g:M D):M (List D):=λρ=>match f ρ with
 |.bad=>.bad
 |.ok ds ρ1=>match Kl s t g ds (K2 ρ1++Ul k none) []with
  |none=>.bad
  |some es=>if es.all flat=true then .ok es ρ1 else .bad
end
def Y3(s:D->UB->Option UB)(t:M Bool)(g:M D):List D->UB->List D->Option (List D×UB)
 |[],ρ,es=>some (es,ρ)
 |d::r,ρ,es=>match s d ρ with
  |none=>none
  |some ρ1=>match t ρ1 with
   |.bad=>none
   |.ok b ρ2=>if b=true then(match g ρ2 with
     |.bad=>none
     |.ok e ρ3=>if es.length<1000000 then Y3 s t g r (U2 ρ3) (es++[e])else none)
    else Y3 s t g r (U2 ρ2) es
def Ys(s0:D->UB->Option UB)(t0:M Bool)(f1:M (List D))(s1:D->UB->Option UB)(t1:M Bool)(g:M D):List D->UB->List D->Option (List D)
 |[],_,es=>some es
 |d::r,ρ,es=>match s0 d ρ with
  |none=>none
  |some ρ1=>match t0 ρ1 with
   |.bad=>none
   |.ok b ρ2=>if b=true then(match f1 ρ2 with
     |.bad=>none
     |.ok ds ρ3=>match Y3 s1 t1 g ds (U2 ρ3) es with
      |none=>none
      |some (es',ρ4)=>Ys s0 t0 f1 s1 t1 g r ρ4 es')
    else Ys s0 t0 f1 s1 t1 g r (U2 ρ2) es
def Vs(f:M (List D))(k:Nat)(s:D->UB->Option UB)(t:M Bool)(f1:M (List D))(s1':D->UB->Option UB)(t1':M Bool)(g:M D):M (List D):=λρ=>match f ρ with
 |.bad=>.bad
 |.ok ds ρ1=>match Ys s t f1 s1' t1' g ds (U2 ρ1++Ul k none) []with
  |none=>.bad
  |some es=>.ok es ρ1
abbrev RdB:=UB->List D->Option (List D×UB)
def rL(g:M D):RdB:=λρ es=>match g ρ with
 |.bad=>none
 |.ok e ρ3=>if es.length<1000000 then some (es++[e],U2 ρ3)else none
def cT(s:D->UB->Option UB)(t:M Bool)(rd:RdB):List D->UB->List D->Option (List D×UB)
 |[],ρ,es=>some (es,ρ)
 |d::r,ρ,es=>match s d ρ with
  |none=>none
  |some ρ1=>match t ρ1 with
   |.bad=>none
   |.ok b ρ2=>if b=true then(match rd ρ2 es with
     |none=>none
     |some (es',ρ')=>cT s t rd r ρ' es')
    else cT s t rd r (U2 ρ2) es
def rN(f:M (List D))(s:D->UB->Option UB)(t:M Bool)(rd:RdB):RdB:=λρ es=>match f ρ with
 |.bad=>none
 |.ok ds ρ3=>cT s t rd ds (U2 ρ3) es
structure Left(Y:Cx)(D':Ud)(pins:List (Ud×Obj))(H G:Hp)(es':List D)(ρ':UB)(σ':St)(H' G':Hp)(vs':List V)(s':Ub):Prop where
 inv:Inv Y pins σ' H' s'
 eok:EOk Y.K H' G' G' H' σ' ρ'
 hh:∀a o,a≠D'->H a=some o->H' a=some o
 gg:Same G G'
 np:∀a(u:MO),a≠D'->H a=some u.ho->G a=none->G' a=none
 hd:H' D'=some (.lst vs')
 gd:G' D'=none
 rp:Reps Y.K G' vs' es'
def Vh(Y:Cx)(D':Ud)(W:(Ub->Prop)->Ub->Prop)(rd:RdB):Prop:=
 ∀(pins:List (Ud×Obj))(sh:Ub)(σ:St)(B1 G1 H G:Hp)(ρ ρ':UB)(vs:List V)(es es':List D)(Q:Ub->Prop),
  Inv Y pins σ H sh->EOk Y.K B1 G1 G H σ ρ->B1 D'=some (.lst vs)->G1 D'=none->Reps Y.K G1 vs es->rd ρ es=some (es',ρ') ->
  (∀σ' H' G' vs' s',Left Y D' pins B1 G1 es' ρ' σ' H' G' vs' s'->Q s')->W Q sh
section
variable{Y:Cx}{D':Ud}
theorem EU{elt:Uf}{g:M D}(hx:Y.xe=nox)(he:∀B1 G1,PE Y elt (tD Y.K B1 G1 g)) :
  Vh Y D' (λQ s=>Uh (model Y.prog Y.w) Y.A (eval elt Y.env) (λx s₄=>Uh (model Y.prog Y.w) Y.A (call (.builtin "list.append") [.ref D',x]) (λ_ s₅=>Q s₅) nox s₄) nox s) (rL g):=by
 intro pins sh σ B1 G1 H G ρ ρ' vs es es' Q I k hD gD r z fin;unfold rL at z;cases zg:g ρ with
 |bad=>rw[zg]at z;cases z
 |ok e ρ4=>
 rw[zg]at z;dsimp only at z;split at z
 ·rename_i hle;cases z;have h:=he B1 G1 pins sh σ H (λv H8=>∃G8,EOk Y.K B1 G1 G8 H8 σ ρ4/\Rep Y.K G8 v e) I ⟨G,ρ,k,by unfold aft;rw[zg];exact λv G8 H8 k8 _ q=>⟨G8,k8,q⟩⟩;rw[hx]at h;refine thn h λev s8 ⟨v,H8,I8,rv,G8,k8,r8⟩=>?_;have h2:=OL pins s8 σ H8 (.ref D') [v] (.ref D') [ev] (λ_ H9=>H9=upd H8 D' (.lst (vs++[v]))) I8 rfl (.cons rv .nil) ⟨D',vs,v,rfl,rfl,k8.bh _ _ hD,by have:=lim1;rw[r.length];omega,rfl⟩
  rw[hx]at h2;refine thn h2 λ_ s9 ⟨_,H9,I9,_,e9⟩=>?_;subst e9;have g8:=k8.np _ (.l _) hD gD;exact fin σ _ G8 _ s9 ⟨I9,k8.beside g8,λa o z q=>by rw[U0 z];exact k8.bh a o q,k8.g0,λa o _ q w=>k8.np a o q w,Ki,g8,(r.mono k8.g0).append (.cons r8 .nil)⟩
 ·cases z
theorem Ob{tg:Uf}{ifs:List Uf}{code:Code}{W:(Ub->Prop)->Ub->Prop}{s:D->UB->Option UB}{t:M Bool}{rd:RdB}{it:Ud}(hx:Y.xe=nox)(hc:Y.calm=true)(rule:Wc Y.prog Y.w Y.A tg ifs Y.env (.ref it) code W)
  (hg:∀B1 G1,PG Y tg (tG Y.K B1 G1 s)) (ht:∀B1 G1,Zm Y ifs (tBo Y.K B1 G1 t)) (hb:Vh Y D' W rd)
  {pins:List (Ud×Obj)} {sh:Ub} {σ:St} {H G:Hp} {ρ ρF:UB} {fp:List Ud} {tn:Nat->Heap->Prop} {J:It} {ds es esF:List D} {vs:List V} {R:Result->Ub->Prop}
  (I:Inv Y pins σ H sh) (T:Turn Y.prog Y.w Y.K tg J fp it tn) (st:tn 0 sh.heap) (hf:∀b∈fp,Kp Y pins H b)
  (k:EOk Y.K H G G H σ ρ) (its:ZR Y.K J ds G) (hD:H D'=some (.lst vs)) (gD:G D'=none) (r:Reps Y.K G vs es) (zl:cT s t rd ds ρ es=some (esF,ρF))
  (hfin:∀σ' H' G' vs' s',Left Y D' pins H G esF ρF σ' H' G' vs' s'->R (.ok .next) s'):codeAny (model Y.prog Y.w) Y.A code R sh:=by
 have stat:∀{H':Hp},(∀b∈fp,H' b=none)->∀b∈fp,Kp Y pins H' b:=λhn b hb=>⟨hn b hb,(hf b hb).2⟩
 refine rule R (λn s'=>∃i σ' H' G' ρ' vs' es',n=ds.length-i/\tn i s'.heap/\(∀b∈fp,H' b=none)/\Left Y D' pins H G es' ρ' σ' H' G' vs' s'/\cT s t rd (ds.drop i) ρ' es'=some (esF,ρF)) ds.length sh
  ⟨0,σ,H,G,ρ,vs,es,rfl,st,λb hb=>(hf b hb).1,⟨I,k,λ_ _ _ q=>q,.refl _,λ_ _ _ _ n=>n,hD,gD,r⟩,by rw[List.drop_zero];exact zl⟩ ?_
 rintro n s' ⟨i,σ',H',G',ρ',vs',es',rfl,tn',fr',⟨I',k',sh',sg',np',hD',gD',r'⟩,zc⟩;by_cases hlt:i<ds.length
 ·rw[JC hlt,cT]at zc;cases zs:s ds[i] ρ' with
  |none=>rw[zs]at zc;cases zc
  |some ρ2=>
  rw[zs]at zc;dsimp only at zc;cases zt:t ρ2 with
  |bad=>rw[zt]at zc;cases zc
  |ok b ρ3=>
  rw[zt]at zc;dsimp only at zc;refine thn (T.item Y rfl rfl rfl hc i pins s' σ' H' nox I' (stat fr') tn' (its.go i G' H' sg' k'.gh hlt)) λrr s4 ⟨u,hr,h4⟩=>?_;subst hr;refine thn h4 λ_ s5 ⟨x,H5,I5,r5,y5,st5,fr5⟩=>?_
  obtain⟨G5,e5,rx⟩:=its.yld i G' H' x H5 ds[i] sg' k'.gh (Qb hlt) y5;have h6:=hg H' G' _ s5 σ' H5 x u (λσ6 H6=>∃G6,EOk Y.K H' G' G6 H6 σ6 ρ2) (I5.pinned (stat fr5) (T.obj _ _ st5)) r5 ⟨G5,ρ',ds[i],ρ2,k'.ext e5,rx,zs,λσ6 G6 H6 k6 _=>⟨G6,k6⟩⟩;rw[hx]at h6;refine thn h6 λ_ s6 ⟨σ6,H6,I6,G6,k6⟩=>?_;have h7:=ht H' G' _ s6 σ6 H6 (λc H7=>c=b/\∃G7,EOk Y.K H' G' G7 H7 σ6 ρ3) I6 ⟨G6,ρ2,k6,by unfold aft;rw[zt];exact λc G7 H7 k7 _ q=>⟨q,G7,k7⟩⟩
  rw[hx]at h7;refine thn h7 λok s7 ⟨H7,I7,hb7,G7,k7⟩=>?_;subst hb7
  have again:∀{H9:Hp}{σ9:St}{s9:Ub},Inv Y (pins++WV fp s5.heap) σ9 H9 s9->Inv Y pins σ9 H9 s9/\tn (i+1) s9.heap/\∀b∈fp,H9 b=none:=λ{H9 σ9 s9} I9=>by refine⟨I9.unpinned,T.keep _ _ _ st5 λb hb o e=>(I9.pin (b,o) (Qw _ (Qw _ (W4 hb e)))).1,λb hb=>?_⟩;obtain⟨o,e,d⟩:=T.obj _ _ st5 b hb;exact(I9.pin (b,o) (Qw _ (Qw _ (W4 hb e)))).2.1
  have lt:ds.length-(i+1)<ds.length-i:=Nat.sub_lt_sub_left hlt (Nat.lt_succ_self i);cases ok with
  |false=>rw[QJ (by decide)]at zc⊢;obtain⟨J1,J2,J3⟩:=again I7;exact⟨_,lt,i+1,σ6,H7,G7,U2 ρ3,vs',es',rfl,J2,J3,⟨J1,k7.rebase,λa o z q=>k7.bh a o (sh' a o z q),sg'.trans k7.g0,λa o z q w=>k7.np a o (sh' a _ z q) (np' a o z q w),k7.bh _ _ hD',k7.np _ (.l _) hD' gD',r'.mono k7.g0⟩,zc⟩
  |true=>
   rw[Qr rfl]at zc⊢;cases ze:rd ρ3 es' with
   |none=>rw[ze]at zc;cases zc
   |some pr=>
   obtain⟨es1,ρ5⟩:=pr;rw[ze]at zc;refine hb _ s7 σ6 H' G' H7 G7 ρ3 ρ5 vs' es' es1 _ I7 k7 hD' gD' r' ze λσ9 H9 G9 vs9 s9 L=>?_
   obtain⟨J1,J2,J3⟩:=again L.inv;exact⟨_,lt,i+1,σ9,H9,G9,ρ5,vs9,es1,rfl,J2,J3,⟨J1,L.eok,λa o z q=>L.hh a o z (sh' a o z q),sg'.trans L.gg,λa o z q w=>L.np a o z (sh' a _ z q) (np' a o z q w),L.hd,L.gd,L.rp⟩,zc⟩
 ·rw[List.drop_eq_nil_of_le (QW hlt),cT]at zc;cases zc;refine thn (T.done Y rfl rfl rfl hc i pins s' σ' H' nox I' (stat fr') tn' (its.stop i G' H' sg' k'.gh (QW hlt))) λrr s4 ⟨hr,I6⟩=>?_
  subst hr;exact hfin σ' H' G' vs' s4 ⟨I6,k',sh',sg',np',hD',gD',r'⟩
theorem ET{elt tg1 i1:Uf}{ifs1:List Uf}{gens:List Comprehension}{scope:Scope}{pos:Pos}{j:Nat}{W:Ua->(Ub->Prop)->Ub->Prop}{f:M (List D)}{s:D->UB->Option UB}{t:M Bool}{rd:RdB}(hx:Y.xe=nox)(hc:Y.calm=true)
  (hn:gens[j+1]?=some ⟨tg1,i1,ifs1,0⟩) (rule:∀it1,Wc Y.prog Y.w Y.A tg1 ifs1 Y.env it1 (.compLoop (.ListComp elt gens scope pos) (j+1) it1 (.ref D') Y.env) (W it1))
  (hi:∀B1 G1,PI Y tg1 i1 (iD Y.K B1 G1 f)) (hg:∀B1 G1,PG Y tg1 (tG Y.K B1 G1 s)) (ht:∀B1 G1,Zm Y ifs1 (tBo Y.K B1 G1 t)) (hb:∀it1,Vh Y D' (W it1) rd) :
  Vh Y D' (λQ s=>Uh (model Y.prog Y.w) Y.A (eval i1 Y.env) (λx s₄=>Uh (model Y.prog Y.w) Y.A (pyIter x) (λit1 s₅=>codeAny (model Y.prog Y.w) Y.A (.compStart (.ListComp elt gens scope pos) (j+1) it1 (.ref D') Y.env)
   (λr s₆=>match r with | .ok _=>Q s₆ | .error _=>False) s₅) nox s₄) nox s) (rN f s t rd):=by
 intro pins sh σ B1 G1 H G ρ ρ' vs es es' Q I k hD gD r z fin;unfold rN at z;cases zf:f ρ with
 |bad=>rw[zf]at z;cases z
 |ok ds ρ3=>
 rw[zf]at z;have h:=hi B1 G1 pins sh σ H (λJ1 H8=>∃G8,EOk Y.K B1 G1 G8 H8 σ ρ3/\ZR Y.K J1 ds G8) I ⟨G,ρ,k,by rw[zf];exact λJ1 G8 H8 k8 _ q=>⟨G8,k8,q⟩⟩;rw[hx]at h;refine thn h λxv s8 h8=>thn h8 λitv s9 h9=>?_
 obtain⟨it1,fp1,tn1,J1,H9,rfl,I9,T1,st9,f9,G9,k9,its9⟩:=h9
 have loop:codeAny (model Y.prog Y.w) Y.A (.compLoop (.ListComp elt gens scope pos) (j+1) (.ref it1) (.ref D') Y.env) (λr s₆=>match r with | .ok _=>Q s₆ | .error _=>False) s9:=
  Ob hx hc (rule (.ref it1)) hg ht (hb _) I9 T1 st9 f9 k9.rebase its9 (k9.bh _ _ hD) (k9.np _ (.l _) hD gD) (r.mono k9.g0) z λσ' H' G' vs' s' L=>
   fin σ' H' G' vs' s' ⟨L.inv,L.eok,λa o z q=>L.hh a o z (k9.bh a o q),k9.g0.trans L.gg,λa o z q w=>L.np a o z (k9.bh a _ q) (k9.np a o q w),L.hd,L.gd,L.rp⟩
 exact CJ hn loop (T1.self Y.A 0 _ _ _ st9 loop)
end
def Vg(Y:Cx)(e:Uf)(j:Nat)(tg:Uf)(ifs:List Uf)(rd:RdB):Prop:=
 ∀(D':Ud)(it:Ua),∃W,Wc Y.prog Y.w Y.A tg ifs Y.env it (.compLoop e j it (.ref D') Y.env) W/\Vh Y D' W rd
section
variable{Y:Cx}{elt tg i:Uf}{ifs:List Uf}{gens:List Comprehension}{scope:Scope}{pos:Pos}{j:Nat}
theorem ES{g:M D}(hx:Y.xe=nox)(hg:gens[j]?=some ⟨tg,i,ifs,0⟩)(hn:gens[j+1]?=none)(he:∀B1 G1,PE Y elt (tD Y.K B1 G1 g)):Vg Y (.ListComp elt gens scope pos) j tg ifs (rL g):=
 λ_ _=>⟨_,EY hg hn,EU hx he⟩
theorem ER{tg1 i1:Uf}{ifs1:List Uf}{f:M (List D)}{s:D->UB->Option UB}{t:M Bool}{rd:RdB}(hx:Y.xe=nox)(hc:Y.calm=true)(hg:gens[j]?=some ⟨tg,i,ifs,0⟩)(hn:gens[j+1]?=some ⟨tg1,i1,ifs1,0⟩)(hs:∀x,Uz i1 Y.env x=pure x)
  (hi:∀B1 G1,PI Y tg1 i1 (iD Y.K B1 G1 f)) (hgt:∀B1 G1,PG Y tg1 (tG Y.K B1 G1 s)) (ht:∀B1 G1,Zm Y ifs1 (tBo Y.K B1 G1 t)) (hb:Vg Y (.ListComp elt gens scope pos) (j+1) tg1 ifs1 rd):Vg Y (.ListComp elt gens scope pos) j tg ifs (rN f s t rd):=
 λD' _=>⟨_,EX hg hn hs,ET hx hc hn (λit1=>(Classical.choose_spec (hb D' it1)).1) hi hgt ht (λit1=>(Classical.choose_spec (hb D' it1)).2)⟩
end
def Zy(l:Bool)(ρ:UB):UB:=match l with|true=>K2 ρ|false=>U2 ρ
theorem Mc{K:Frag}{B G0 G1 H2:Hp}{σ:St}{ρ1:UB}{D:Ud}(l:Bool)(k1:EOk K B G0 G1 H2 σ ρ1)(hfr:H2 D=none)(n:Nat) :
  ∃Gb,EOk K (upd H2 D (.lst [])) Gb Gb (upd H2 D (.lst [])) (σ++Ul n none) (Zy l ρ1++Ul n none)/\Same G1 Gb/\Gb D=none /\
   ∀(G' H':Hp) vs es,(l=true->es.all flat=true)->Same Gb G'->Same H2 H'->Same G' H'->(∀a(u:MO),H2 a=some u.ho->Gb a=none->G' a=none)->G' D=none->Reps K G' vs es->∃Gf,Ext G1 H2 Gf H'/\Gf D=none/\Reps K Gf vs es:=by
 have gD:G1 D=none:=k1.gh.free hfr;cases l with
 |false=>exact⟨G1,(k1.beside gD).more n,.refl _,gD,λG' H' vs es _ g h gh np d r=>⟨G',⟨h,g,gh,np⟩,d,r⟩⟩
 |true=>exact⟨H2,k1.lend hfr n,k1.gh,hfr,λG' H' vs es fl _ h _ _ _ r=>⟨G1,⟨h,.refl _,k1.gh.trans h,λ_ _ _ n=>n⟩,gD,r.flat (fl rfl)⟩⟩
def dCG(l:Bool)(f:M (List D))(k:Nat)(s:D->UB->Option UB)(t:M Bool)(rd:RdB):M (List D):=λρ=>match f ρ with
 |.bad=>.bad
 |.ok ds ρ1=>match cT s t rd ds (Zy l ρ1++Ul k none) []with
  |none=>.bad
  |some (es,_)=>if l=true->es.all flat=true then .ok es ρ1 else .bad
theorem Pm{l:Bool}{f:M (List D)}{k:Nat}{s:D->UB->Option UB}{t:M Bool}{rd:RdB}{ρ ρ':UB}{es:List D}(h:dCG l f k s t rd ρ=.ok es ρ'):∃ds ρF,f ρ=.ok ds ρ'/\cT s t rd ds (Zy l ρ'++Ul k none) []=some (es,ρF)/\(l=true->es.all flat=true):=by
 unfold dCG at h;cases zf:f ρ with
 |bad=>rw[zf]at h;cases h
 |ok ds ρ1=>
 rw[zf]at h;dsimp only at h;cases zl:cT s t rd ds (Zy l ρ1++Ul k none) []with
 |none=>rw[zl]at h;cases h
 |some pr=>
 obtain⟨esF,ρF⟩:=pr;rw[zl]at h;dsimp only at h;split at h
 ·rename_i hf;cases h;exact⟨ds,ρF,rfl,zl,hf⟩
 ·cases h
section
variable{X:Cx}{B G0:Hp}{KX:XW}
def ZA(X:Cx)(N2:List Str)(scope:Scope)(e tg:Uf)(ifs:List Uf)(s:D->UB->Option UB)(t:M Bool)(rd:RdB):Prop:=
 ∀(cl:List (Str×Ud))(C:Ud)(s₀:Ub)(H₀:Hp)(ex:List Ud),(∀B' G',PG (X.blk N2 scope cl C s₀ H₀ ex) tg (tG X.K B' G' s))/\(∀B' G',Zm (X.blk N2 scope cl C s₀ H₀ ex) ifs (tBo X.K B' G' t))/\Vg (X.blk N2 scope cl C s₀ H₀ ex) e 0 tg ifs rd
structure WM(SC scope:Scope)(N1 N2:List Str)(k:Nat):Prop where
 b:VF scope.names N1 N2 k=true
 kind:scope.kind=.function
 cell:∀y∈scope.names,y.2≠.cell
 names:∀y∈scope.names,y.2=.local->scope.names.lookup y.1=some .local
 free:∀y∈scope.names,y.2=.free->SC.names.lookup y.1=some .cell∨SC.names.lookup y.1=some .free
theorem Oa{l:Bool}{tg elt iter:Uf}{ifs:List Uf}{gs:List Comprehension}{scope:Scope}{pos pos':Pos}{N2:List Str}{k:Nat}{f:M (List D)}{s:D->UB->Option UB}{t:M Bool}{rd:RdB}{use:Option (Ua->Sem Unit)}{Qc:Ua->Ub->Prop}(hc:X.calm=true)
  (hi:PI X tg iter (iD X.K B G0 f)) (hblk:ZA X N2 scope (.ListComp elt (⟨tg,iter,ifs,0⟩::gs) scope pos) tg ifs s t rd) (hb:WM X.env.scope scope X.N N2 k) (hs:∀x,Uz iter X.env x=pure x)
  {pins:List (Ud×Obj)} {s0:Ub} {σ:St} {G H:Hp} {ρ ρ1 ρF:UB} {ds esF:List D} (I:Inv X pins σ H s0) (k0:EOk X.K B G0 G H σ ρ) (zf:f ρ=.ok ds ρ1) (zl:cT s t rd ds (Zy l ρ1++Ul k none) []=some (esF,ρF)) (hfl:l=true->esF.all flat=true)
  (hfin:∀(C D:Ud)(vs:List V)(G' H':Hp)(s4:Ub)(m:Str->Option Ua),Inv X pins σ H' s4->s4.heap.Ns C m->H' C=none->C≠X.env.locals->X.s₀.heap.objs.size<=C->(∀x c,X.env.cells.lookup x=some c->c≠C)->(∀p∈X.pn++pins,p.1≠C) ->
   EOk X.K B G0 G' H' σ ρ1->Same G G'->NewL X.K B G' H' σ ρ1 D vs esF->compPost (model X.prog X.w) X.A X.xe use Qc (.ref D) C (.ok .next) s4) :
  Uh (model X.prog X.w) X.A (comprehension (.ListComp elt (⟨tg,iter,ifs,0⟩::gs) scope pos) scope X.env pos' (newList []) false (eval iter X.env) use) Qc X.xe s0:=by
 obtain⟨cl,hcl,cl1,cl2⟩:=O8 (scope:=scope) (env:=X.env) λy hy hf=>I.ok.has y.1 (hb.free y hy hf)
 refine wpAny_comprehension_free (use:=use) rfl hs hcl hb.kind hb.names (thn (hi pins s0 σ H (λJ H1=>∃G1,EOk X.K B G0 G1 H1 σ ρ1/\Same G G1/\ZR X.K J ds G1) I ⟨G,ρ,k0,by rw[zf];exact λJ G1 H1 k1 s1 it=>⟨G1,k1,s1,it⟩⟩) λv s1 h1=>thn h1 λitv s2 h2=>?_);obtain⟨it,fp,tn,J,H2,rfl,I2,T,st2,f2,G1,k1,sg1,its⟩:=h2;refine wpAny_newObj_type (wpAny_newFunctionEnv hb.cell (by intro y hy;simp at hy) (λh₁ hns₁ hsb₁=>?_) hb.kind);dsimp only at hns₁ hsb₁⊢;have hfr:H2 s2.heap.objs.size=none:=I2.hok.fresh (Qm _)
 have I3:Inv X pins σ (upd H2 s2.heap.objs.size (.lst [])) {s2 with heap:=s2.heap.push {cls:=.type "list", dict:=none,data:=.seq ([]:List Ua).toArray}}:=
  I2.laid (t':=s2.toks) (λb u e=>Qi _ e) (Qm _) ⟨J8 _,[],0,.nil,Qv _ rfl⟩
 generalize hP:s2.heap.push {cls:=.type "list", dict:=none,data:=.seq ([]:List Ua).toArray}=P at I3 hns₁ hsb₁⊢;have old:∀b o,s2.heap.get? b=some o->P.get? b=some o:=λb o e=>hP ▸ Qi _ e;have kept:∀b o,P.get? b=some o->h₁.get? b=some o:=λb o e=>hsb₁.extBut b o (QD (Qh e)) (Qi _ e);have fpo:∀b∈fp,∃o,s2.heap.get? b=some o:=λb hb=>let ⟨o,e,_⟩:=T.obj _ _ st2 b hb;⟨o,e⟩
 have fpD:∀b∈fp,b≠s2.heap.objs.size:=λb hb=>let ⟨o,e⟩:=fpo b hb;QD (Qh e)
 have f3:∀b∈fp,Kp X pins (upd H2 s2.heap.objs.size (.lst [])) b:=λb hb=>⟨by rw[U0 (fpD b hb)];exact(f2 b hb).1,(f2 b hb).2⟩
 have I4:=I3.enter (scope:=scope) (cl:=cl) (N2:=N2) (k:=k) (fp:=fp) (t':=s2.toks+([]:List (Str×Ua)).length) hb.b hb.kind hb.cell hb.free cl1 cl2 hns₁ kept f3 (λb hb=>let ⟨o,e⟩:=fpo b hb;⟨o,old b o e⟩);dsimp only at I4;obtain⟨Gb,kb,sgb,gbD,ex⟩:=Mc l k1 hfr k;have sH:Same H2 (upd H2 s2.heap.objs.size (.lst [])):=Kw hfr;have hD3:upd H2 s2.heap.objs.size (.lst []) s2.heap.objs.size=some (.lst []):=Ki;generalize upd H2 s2.heap.objs.size (.lst [])=H3 at I3 I4 f3 kb sH hD3;generalize s2.heap.objs.size=D at *;have tn0:tn 0 h₁:=T.keep 0 _ _ st2 λb hb o e=>kept b o (old b o e)
 have stat:∀b∈fp,Kp (X.blk N2 scope cl P.objs.size {s2 with heap:=P} H3 fp) pins H3 b:=λb hb=>by
  obtain⟨z0,z1,z2,z3,z4,z5⟩:=f3 b hb;obtain⟨o,e⟩:=fpo b hb;refine⟨z0,QD (Qh (old b o e)),λz=>?_,.inl hb,λx c q=>z4 x c (cl1 x c q),z5⟩;rcases QP.mp (I3.stkSub b z)with q|q
  ·exact z1 q
  ·exact z2 q
 have neD:∀a o,H2 a=some o->a≠D:=λa o q z=>by subst z;rw[hfr]at q;cases q
 obtain⟨hg,ht,hcl'⟩:=hblk cl P.objs.size {s2 with heap:=P} H3 fp;obtain⟨W,rule,body⟩:=hcl' D (.ref it)
 have loop:=Ob (Y:=X.blk N2 scope cl P.objs.size {s2 with heap:=P} H3 fp) (D':=D) (R:=compPost (model X.prog X.w) X.A X.xe use Qc (.ref D) P.objs.size) rfl hc rule hg ht body I4 T tn0 stat kb
  ⟨λi G H s1 s2 hi=>its.go i G H (sgb.trans s1) s2 hi,λi G H s1 s2 hi=>its.stop i G H (sgb.trans s1) s2 hi,λi G H x H' d s1 s2 e y=>its.yld i G H x H' d (sgb.trans s1) s2 e y⟩ hD3 gbD .nil zl λσ' H' G' vs' s4 L=>by
   obtain⟨m,hm,_⟩:=id L.inv.loc;have I7:Inv X pins σ H' s4:=I3.call' (ch:=fp) L.inv.os L.inv.base L.inv.hok L.inv.bare λb hb=>⟨(f3 b hb).2.2.2.1,(f3 b hb).2.1,(f3 b hb).2.2.2.2.1,(f3 b hb).2.2.2.2.2⟩
   obtain⟨Gf,eF,dF,rF⟩:=ex G' H' vs' esF hfl L.gg (λa o q=>L.hh a o (neD a o q) (sH a o q)) L.eok.gh (λa o q z=>L.np a o (neD a _ q) (sH a _ q) z) L.gd L.rp
   refine hfin P.objs.size D vs' Gf H' s4 m I7 hm L.inv.free (Jw I3.lt) I3.sz (λx c e z=>by obtain⟨_,q⟩:=I3.cell x c e;exact absurd q.lt (by rw[z];exact Jf _)) (λp hp z=>by have:=Qh (I3.pin p hp).1;exact absurd this (by rw[z];exact Jf _))
    (k1.ext eF) (sg1.trans eF.g) ⟨k1.bh.free hfr,dF,L.hd,rF,λj es' q z=>?_,λj pt d v fp q s r=>k1.freshD eF.h hfr q s r⟩
   obtain⟨a',ws,h1',h2',h3',h4',h5'⟩:=k1.own j es' q;rw[z]at h1';cases h1';rw[hfr]at h4';cases h4'
 exact codeAny_compStart_list loop (T.self X.A 0 _ _ _ tn0 loop)
theorem Mb{l:Bool}{tg elt iter:Uf}{ifs:List Uf}{gs:List Comprehension}{scope:Scope}{pos:Pos}{N2:List Str}{k:Nat}{f:M (List D)}{s:D->UB->Option UB}{t:M Bool}{rd:RdB}(hc:X.calm=true)
  (hi:PI X tg iter (iD X.K B G0 f)) (hblk:ZA X N2 scope (.ListComp elt (⟨tg,iter,ifs,0⟩::gs) scope pos) tg ifs s t rd) (hb:WM X.env.scope scope X.N N2 k) (hs:∀x,Uz iter X.env x=pure x:=by intro _;rfl) :
  PE X (.ListComp elt (⟨tg,iter,ifs,0⟩::gs) scope pos) (tL X.K B G0 (dCG l f k s t rd)):=by
 intro pins s0 σ H Q I ⟨G,ρ,k0,a⟩;cases z:dCG l f k s t rd ρ with
 |bad=>rw[z]at a;exact a.elim
 |ok es ρ1=>
 rw[z]at a;obtain⟨ds,ρF,zf,zl,hfl⟩:=Pm z;rw[eval_ListComp];refine Oa hc hi hblk hb hs I k0 zf zl hfl λC D vs G' H' s4 m I7 hm hC hL hz hcl hp k' s' n=>?_
 exact⟨m,hm,λh' sb=>⟨.ref D,H',I7.turned (t':=s4.toks) (it:=C) (λb o hb e=>(sb.2 b hb).trans e) hC hL (.inr hz) hcl hp,rfl,a D vs G' H' k' s' n⟩⟩
theorem sD_g{l:Bool}{y:Str}{j:Nat}{py:Pos}{spos:Pos}{tg elt iter:Uf}{ifs:List Uf}{gs:List Comprehension}{scope:Scope}{pos:Pos}{N2:List Str}{k:Nat}{f:M (List D)}{s:D->UB->Option UB}{t:M Bool}{rd:RdB}(hN:X.N.Nodup)(hj:X.N[j]?=some y)(hy:X.env.scope.names.lookup y=some .local)(hc:X.calm=true)
  (hi:PI X tg iter (iD X.K B G0 f)) (hblk:ZA X N2 scope (.ListComp elt (⟨tg,iter,ifs,0⟩::gs) scope pos) tg ifs s t rd) (hb:WM X.env.scope scope X.N N2 k) (hs:∀x,Uz iter X.env x=pure x:=by intro _;rfl)
  (hsw:swapsWith (.ListComp elt (⟨tg,iter,ifs,0⟩::gs) scope pos) (some (.Name y py)) spos.line X.env=pure true:=by rfl) :
  PS X (.Assign [.Name y py] (.ListComp elt (⟨tg,iter,ifs,0⟩::gs) scope pos) spos) (tS X.K B G0 KX (Kt j (dCG l f k s t rd))):=by
 intro pins s0 σ H Dn I ⟨G,ρ,k0,a⟩;unfold Kt sB at a;cases z:dCG l f k s t rd ρ with
 |bad=>rw[z]at a;exact a.elim
 |ok es ρ1=>
 rw[z]at a;dsimp only at a;by_cases hl:j<ρ1.length
 ·rw[Qr hl]at a;obtain⟨ds,ρF,zf,zl,hfl⟩:=Pm z;rw[exec_Assign_Name_used _ _ _ _ hsw];refine Qd (Q8 (Qd ?_));show Uh _ X.A (do let _ ←comprehension (.ListComp elt (⟨tg,iter,ifs,0⟩::gs) scope pos) scope X.env _ (newList []) false (eval iter X.env) (some (assign (.Name y py) X.env))) _ _ s0;refine Qd (Qy (Oa (use:=some (assign (.Name y py) X.env)) (Qc:=λ_ s'=>SP X pins Dn .next s') hc hi hblk hb hs I k0 zf zl hfl λC D vs G' H' s4 m I7 hm hC hL hz hcl hp k' s' n=>?_) (λ_ s' hq=>Qj (Qj hq)) λ_ _ e=>e);show Uh _ X.A (assign (.Name y py) X.env (.ref D)) _ _ s4;refine wpAny_assign_Name (OC I7 hN hj (.inl hy) (v:=.ref D) rfl (λs5 I8 ⟨ad,sb,hx⟩=>?_) (.inr hy))
  have hCa:C≠ad:=by
   rcases hx with e|e
   ·rw[e];exact hL
   ·exact Ne.symm (hcl y ad e)
  refine⟨m,hm.sameBut sb hCa,λh' sb'=>⟨_,H',I8.turned (t':=s5.toks) (it:=C) (λb o hb e=>(sb'.2 b hb).trans e) hC hL (.inr hz) hcl hp,?_⟩⟩;exact a _ G' H' (k'.setOwn n hl) s'
 ·rw[QJ hl]at a;exact a.elim
theorem Ma{K:Frag}{f f':M (List D)}(h:∀ρ es ρ',f ρ=.ok es ρ'->f' ρ=.ok es ρ'){σ:St}{H:Hp}{Q:VK}(q:tL K B G0 f σ H Q):tL K B G0 f' σ H Q:=by
 obtain⟨G,ρ,k,a⟩:=q;refine⟨G,ρ,k,?_⟩;cases z:f ρ with
 |bad=>rw[z]at a;exact a.elim
 |ok es ρ'=>rw[z]at a;rw[h ρ es ρ' z];exact a
theorem Mu{K:Frag}{f f':M (List D)}{j:Nat}(h:∀ρ es ρ',f ρ=.ok es ρ'->f' ρ=.ok es ρ'){Dn:_}{σ:St}{H:Hp}(q:tS K B G0 KX (Kt j f) Dn σ H):tS K B G0 KX (Kt j f') Dn σ H:=by
 obtain⟨G,ρ,k,a⟩:=q;refine⟨G,ρ,k,?_⟩;unfold Kt sB at a⊢;cases z:f ρ with
 |bad=>rw[z]at a;exact a.elim
 |ok es ρ'=>rw[z]at a;rw[h ρ es ρ' z];exact a
end
theorem Ts{s:D->UB->Option UB}{t:M Bool}{g:M D}:∀{ds:List D}{ρ:UB}{es esF:List D},Kl s t g ds ρ es=some esF->∃ρF,cT s t (rL g) ds ρ es=some (esF,ρF)
 |[],ρ,es,esF,h=>by rw[Kl]at h;cases h;exact⟨ρ,rfl⟩
 |d::r,ρ,es,esF,h=>by
  rw[Kl]at h;rw[cT];cases zs:s d ρ with
  |none=>rw[zs]at h;cases h
  |some ρ1=>
  rw[zs]at h;dsimp only at h⊢;cases zt:t ρ1 with
  |bad=>rw[zt]at h;cases h
  |ok b ρ2=>
  rw[zt]at h;dsimp only at h⊢;cases b with
  |false=>exact Ts (ds:=r) h
  |true=>
   rw[Qr rfl]at h⊢;unfold rL;cases zg:g ρ2 with
   |bad=>rw[zg]at h;cases h
   |ok e ρ3=>
   rw[zg]at h;dsimp only at h⊢;split at h
   ·rename_i hl;rw[Qr hl];exact Ts (ds:=r) h
   ·cases h
theorem SO{s:D->UB->Option UB}{t:M Bool}{g:M D}:∀{ds:List D}{ρ:UB}{es:List D},Y3 s t g ds ρ es=cT s t (rL g) ds ρ es
 |[],ρ,es=>rfl
 |d::r,ρ,es=>by
  rw[Y3,cT];cases s d ρ with
  |none=>rfl
  |some ρ1=>
  dsimp only;cases t ρ1 with
  |bad=>rfl
  |ok b ρ2=>
  dsimp only;cases b with
  |false=>exact SO (ds:=r)
  |true=>
   rw[Qr rfl,Qr rfl];unfold rL;cases g ρ2 with
   |bad=>rfl
   |ok e ρ3=>
   dsimp only;split
   ·exact SO (ds:=r)
   ·rfl
theorem SN{s s1:D->UB->Option UB}{t t1:M Bool}{f:M (List D)}{g:M D}:∀{ds:List D}{ρ:UB}{es esF:List D},Ys s t f s1 t1 g ds ρ es=some esF->∃ρF,cT s t (rN f s1 t1 (rL g)) ds ρ es=some (esF,ρF)
 |[],ρ,es,esF,h=>by rw[Ys]at h;cases h;exact⟨ρ,rfl⟩
 |d::r,ρ,es,esF,h=>by
  rw[Ys]at h;rw[cT];cases zs:s d ρ with
  |none=>rw[zs]at h;cases h
  |some ρ1=>
  rw[zs]at h;dsimp only at h⊢;cases zt:t ρ1 with
  |bad=>rw[zt]at h;cases h
  |ok b ρ2=>
  rw[zt]at h;dsimp only at h⊢;cases b with
  |false=>exact SN (ds:=r) h
  |true=>
   rw[Qr rfl]at h⊢;unfold rN;cases zg:f ρ2 with
   |bad=>rw[zg]at h;cases h
   |ok ds ρ3=>
   rw[zg]at h;dsimp only at h⊢;rw[←SO];cases zl:Y3 s1 t1 g ds (U2 ρ3) es with
   |none=>rw[zl]at h;cases h
   |some pr=>rw[zl]at h;exact SN (ds:=r) h
theorem Fs{f:M (List D)}{k:Nat}{s:D->UB->Option UB}{t:M Bool}{g:M D}(ρ:UB)(es:List D)(ρ':UB)(h:ZC f k s t g ρ=.ok es ρ'):dCG false f k s t (rL g) ρ=.ok es ρ':=by
 unfold ZC at h;unfold dCG;cases zf:f ρ with
 |bad=>rw[zf]at h;cases h
 |ok ds ρ1=>
 rw[zf]at h;dsimp only[Zy]at h⊢;cases zl:Kl s t g ds (U2 ρ1++Ul k none) []with
 |none=>rw[zl]at h;cases h
 |some esF=>
 rw[zl]at h;cases h;obtain⟨ρF,e⟩:=Ts zl;rw[e];exact Qr λz=>by cases z
theorem EQ{f:M (List D)}{k:Nat}{s:D->UB->Option UB}{t:M Bool}{g:M D}(ρ:UB)(es:List D)(ρ':UB)(h:XI f k s t g ρ=.ok es ρ'):dCG true f k s t (rL g) ρ=.ok es ρ':=by
 unfold XI at h;unfold dCG;cases zf:f ρ with
 |bad=>rw[zf]at h;cases h
 |ok ds ρ1=>
 rw[zf]at h;dsimp only[Zy]at h⊢;cases zl:Kl s t g ds (K2 ρ1++Ul k none) []with
 |none=>rw[zl]at h;cases h
 |some esF=>
 rw[zl]at h;dsimp only at h;split at h
 ·rename_i hf;cases h;obtain⟨ρF,e⟩:=Ts zl;rw[e];exact Qr λ_=>hf
 ·cases h
theorem EO{f f1:M (List D)}{k:Nat}{s s1:D->UB->Option UB}{t t1:M Bool}{g:M D}(ρ:UB)(es:List D)(ρ':UB)(h:Vs f k s t f1 s1 t1 g ρ=.ok es ρ'):dCG false f k s t (rN f1 s1 t1 (rL g)) ρ=.ok es ρ':=by
 unfold Vs at h;unfold dCG;cases zf:f ρ with
 |bad=>rw[zf]at h;cases h
 |ok ds ρ1=>
 rw[zf]at h;dsimp only[Zy]at h⊢;cases zl:Ys s t f1 s1 t1 g ds (U2 ρ1++Ul k none) []with
 |none=>rw[zl]at h;cases h
 |some esF=>
 rw[zl]at h;cases h;obtain⟨ρF,e⟩:=SN zl;rw[e];exact Qr λz=>by cases z
def XH(q:Option NameKind->Bool)(SC scope:Scope)(N1 N2:List Str)(k:Nat):Bool:=
 VF scope.names N1 N2 k&&decide (scope.kind=.function)&&scope.names.all λy=>match y.2 with
  |.cell=>false
  |.local=>decide (scope.names.lookup y.1=some .local)
  |.free=>q (SC.names.lookup y.1)
  |_=>true
def WL:Option NameKind->Bool
 |some .cell=>true|some .free=>true|_=>false
theorem D0{q:Option NameKind->Bool}{SC SC' scope:Scope}{N1 N2:List Str}{k:Nat}(h:XH q SC scope N1 N2 k=true)(f:∀x,q (SC.names.lookup x)=true->SC'.names.lookup x=some .cell∨SC'.names.lookup x=some .free):WM SC' scope N1 N2 k:=by
 unfold XH at h;rw[QX,QX,Jc]at h;obtain⟨⟨h1,h2⟩,h3⟩:=h;refine⟨h1,Qa h2,λy hy e=>?_,λy hy e=>?_,λy hy e=>?_⟩
 ·have:=h3 y hy;rw[e]at this;cases this
 ·have:=h3 y hy;rw[e]at this;exact Qa this
 ·have:=h3 y hy;rw[e]at this;exact f _ this
theorem T9{SC scope:Scope}{N1 N2:List Str}{k:Nat}(h:XH WL SC scope N1 N2 k=true):WM SC scope N1 N2 k:=D0 h λx e=>by
 cases z:SC.names.lookup x with
 |none=>rw[z]at e;cases e
 |some y=>rw[z]at e;cases y<;>first|exact .inl rfl|exact .inr rfl|cases e
section
variable{X:Cx}{B G0:Hp}{KX:XW}
theorem N9{l:Bool}{tg elt iter:Uf}{ifs:List Uf}{gs:List Comprehension}{scope:Scope}{pos:Pos}{f:M (List D)}{s:D->UB->Option UB}{t:M Bool}{rd:RdB}{F:M (List D)}(SC:Scope)(N1 N2:List Str)(k:Nat)(le:∀ρ es ρ',F ρ=.ok es ρ'->dCG l f k s t rd ρ=.ok es ρ')(hc:X.calm=true)
  (hi:PI X tg iter (iD X.K B G0 f)) (hblk:ZA X N2 scope (.ListComp elt (⟨tg,iter,ifs,0⟩::gs) scope pos) tg ifs s t rd) (h1:X.env.scope=SC) (h2:X.N=N1) (hb:XH WL SC scope N1 N2 k=true) (hs:∀x,Uz iter X.env x=pure x:=by intro _;rfl) :
  PE X (.ListComp elt (⟨tg,iter,ifs,0⟩::gs) scope pos) (tL X.K B G0 F):=
 UW (Mb hc hi hblk (by rw[h1,h2];exact T9 hb) hs) λ_ _ _ q=>Ma le q
theorem sD_1{l:Bool}{y:Str}{j:Nat}{py:Pos}{spos:Pos}{tg elt iter:Uf}{ifs:List Uf}{gs:List Comprehension}{scope:Scope}{pos:Pos}{f:M (List D)}{s:D->UB->Option UB}{t:M Bool}{rd:RdB}{F:M (List D)}(SC:Scope)(N1 N2:List Str)(k:Nat)(le:∀ρ es ρ',F ρ=.ok es ρ'->dCG l f k s t rd ρ=.ok es ρ')(hN:X.N.Nodup)(hj:X.N[j]?=some y)(hy:X.env.scope.names.lookup y=some .local)(hc:X.calm=true)
  (hi:PI X tg iter (iD X.K B G0 f)) (hblk:ZA X N2 scope (.ListComp elt (⟨tg,iter,ifs,0⟩::gs) scope pos) tg ifs s t rd) (h1:X.env.scope=SC) (h2:X.N=N1) (hb:XH WL SC scope N1 N2 k=true) (hs:∀x,Uz iter X.env x=pure x:=by intro _;rfl)
  (hsw:swapsWith (.ListComp elt (⟨tg,iter,ifs,0⟩::gs) scope pos) (some (.Name y py)) spos.line X.env=pure true:=by rfl) :
  PS X (.Assign [.Name y py] (.ListComp elt (⟨tg,iter,ifs,0⟩::gs) scope pos) spos) (tS X.K B G0 KX (Kt j F)):=
 KE (sD_g hN hj hy hc hi hblk (by rw[h1,h2];exact T9 hb) hs hsw) λ_ _ _ q=>Mu le q
end
section
variable{X:Cx}{B G0:Hp}{e a b c tg:Uf}{pos:Pos}{es rest:List Uf}
theorem EOk.given{K:Frag}{G H:Hp}{σ:St}{ρ:UB}{a:Ud}{vs:List V}{ds:List D}(k:EOk K B G0 G H σ ρ)(n:NewL K B G H σ ρ a vs ds):EOk K B G0 (upd G a (.lst vs)) H σ ρ where
 bh:=k.bh
 gh:=λb u q=>by
  by_cases z:b=a
  ·subst z;rw[Ki]at q;cases q;exact n.h
  ·rw[U0 z]at q;exact k.gh b u q
 g0:=k.g0.trans (Kw n.g)
 np:=λb o q z=>by
  have zb:b≠a:=λz=>by subst z;rw[n.b]at q;cases q
  rw[U0 zb];exact k.np b o q z
 len:=k.len
 pub:=λi d q=>let ⟨v,h1,h2⟩:=k.pub i d q;⟨v,h1,h2.mono (Kw n.g)⟩
 own:=λi ds q=>by
  obtain⟨b,ws,h1,h2,h3,h4,h5⟩:=k.own i ds q;have zb:b≠a:=λz=>by subst z;exact n.f i ds q h1
  exact⟨b,ws,h1,h2,by rw[U0 zb];exact h3,h4,h5.mono (Kw n.g)⟩
 sep:=k.sep
 dp:=k.dp.map (λ_ _ _ q=>⟨q,rfl⟩) (λ_ ds q=>⟨ds,q,rfl⟩) λi p d v fp q s r w nn=>⟨r.mono (Kw n.g) (.refl _),λb m=>⟨(w b m).1,by rw[U0 (λz=>n.dp i p d v fp q s r (by rw[←z];exact m))];exact(w b m).2⟩⟩
theorem Hj{f:M (List D)}(h:PE X e (tL X.K B G0 f)):PE X e (tD X.K B G0 (UM Um f)):=
 UW h λσ H Q ⟨G,ρ,k,a⟩=>by
  refine⟨G,ρ,k,?_⟩;unfold UM UO at a;cases z:f ρ with
  |bad=>rw[z]at a;exact a.elim
  |ok ds ρ1=>rw[z]at a;intro ad vs G' H' k' s' n;exact a (.ref ad) _ H' (k'.given n) (s'.trans (Kw n.g)) (.lst (SqL.of Ki) (n.r.mono (Kw n.g)))
theorem Fq(hc:X.calm=true):ZI X (.builtin "all") (λxs H Q=>∃l,∃bs:List Bool,xs=[.ref l]/\SqL X.K H l (bs.map V.bl)/\Q (.bl (bs.all id)) H):=by
 intro pins s σ H xs us Q I rx h;obtain⟨l,bs,rfl,hq,q⟩:=h;obtain⟨u,rfl,ru⟩:=rx.one;cases ru;obtain⟨its,rv,p,hz⟩:=I.list hq;have hl:=p.isList;have hlt:l<s.heap.objs.size:=by obtain⟨_,e,_⟩:=id hl;exact Qh e
 have key:∀(i:Nat) v,its.toArray[i]?=some v->∃t,bs[i]?=some t/\v=.bool t:=λi v e=>by
  have e:its[i]?=some v:=by simpa using e
  have hi:i<bs.length:=by have:=(Qf.mp e).1;have h2:=rv.length;rw[Qe]at h2;omega
  obtain⟨u,e2,r2⟩:=rv.get (i:=i) (x:=.bl bs[i]) (by rw[Qg,Qb hi];rfl);rw[e]at e2;cases e2;exact⟨bs[i],Qb hi,r2⟩
 refine call_all_walk (Jv hl ?_)
 refine⟨s.heap.objs.size,[s.heap.objs.size,l],[s.heap.objs.size],its.toArray.size,_,_,λi=>(bs[i]?).getD true,rfl,Walks.list (A:=X.A.in1) (I.ok.hd hc) _ l (QD hlt) its.toArray,
  ⟨⟨_,Qv _ rfl,rfl,rfl⟩,hl.push _⟩,λi v s' Q' E' hP hQ=>?_,λh' tk hk=>?_⟩
 ·obtain⟨b,e,rfl⟩:=key i v hP;simp only[e,JO]at hQ;exact QU hQ
 ·have hn:its.toArray.size=bs.length:=by have:=rv.length;rw[List.length_map]at this;simp;omega
  have e:((Uk its.toArray.size).all λi=>(bs[i]?).getD true)=bs.all id:=by
   rw[hn,J0,Jc,Jc];constructor
   ·intro h b hb;obtain⟨i,hi,e⟩:=List.getElem_of_mem hb;have:=h i (QT.mpr hi);simp only[Qb hi,JO,e]at this;exact this
   ·intro h i hi;have hi':=QT.mp hi;simp only[Qb hi',JO];exact h _ (Jd hi')
  rw[e];exact⟨.bl (bs.all id),H,I.kept (t':=tk) λb x e=>hk b x (λhm=>by rw[QK.mp hm]at e;exact Jf _ (Qh e)) (Qi _ e),rfl,q⟩
def XU:List D->Option (List Bool)
 |[]=>some []
 |.bool b::r=>(XU r).map (b :: ·)
 |_=>none
theorem Nk{K:Frag}{G:Hp}:∀{vs:List V}{ds:List D}{bs:List Bool},Reps K G vs ds->XU ds=some bs->vs=bs.map V.bl
 |_,_,bs,.nil,e=>by cases e;rfl
 |_,_,bs,.cons (d:=d) r t,e=>by
  cases d with
  |bool b=>
   unfold XU at e;cases z:XU _ with
   |none=>rw[z]at e;cases e
   |some cs=>rw[z]at e;cases e;rw[r.bl_inv,Nk t z];rfl
  |_=>cases e
def Zj:List D->Option D
 |[.list ds]=>(XU ds).map λbs=>.bool (bs.all id)
 |_=>none
theorem N8(hc:X.calm=true):Yk X (.builtin "all") Zj:=by
 refine⟨_,Fq hc,λvs G H ds d Q s r e k=>?_⟩;unfold Zj at e;split at e
 ·rename_i ds;cases z:XU ds with
  |none=>rw[z]at e;cases e
  |some bs=>rw[z]at e;cases e;obtain⟨v,rfl,q⟩:=r.one_inv;obtain⟨l,ws,rfl,h1,r1⟩:=q.lst_inv;have hw:=Nk r1 z;subst hw;exact⟨l,bs,rfl,s.seq h1,k _ G H (.refl s) (.bl _)⟩
 ·cases e
def Its(x:Str):It:=⟨λi _=>i<x.cps.size,λi H v H'=>H'=H/\∃c,x.cps[i]?=some c/\v=.str ⟨#[c]⟩,λi _=>x.cps.size<=i⟩
theorem Fp{P:Uc}{w:World}{K:Frag}{tg:Uf}(x:Str)(t:Tok)(it:Ud):Turn P w K tg (Its x) [it] it (λi h=>h.IsStrIter it (strIterType x) x t i) where
 mem:=by simp
 obj:=λi h st b hb=>by
  have e:b=it:=by simpa using hb
  subst e;obtain⟨o,e,c,d⟩:=st;exact⟨o,e,λv z=>by rw[d]at z;cases z⟩
 keep:=λi h h' st k=>by obtain⟨o,e,c,d⟩:=st;exact⟨o,k it (by simp) o e,c,d⟩
 item:=by
  intro X hP hw hK hc i pins s σ H E I hf st hg;subst hP hw hK;obtain⟨f0,f1,f2,f3,f4,f5⟩:=hf it (by simp);have hx:x.cps[i]?=some x.cps[i]:=JD hg
  have fin:∀h' tk(T:String),strIterType x=T->h'.IsStrIter it T x t (i+1)->Heap.SameBut it s.heap h'->["enumerate", "zip", "dict_itemiterator", "dict_reverseitemiterator", "odict_iterator", "itertools.zip_longest", "itertools.pairwise"].contains T=false ->
    ∃u,some (Value.str ⟨#[x.cps[i]]⟩ s.toks)=some u/\Uh (model X.prog X.w) X.A (letOwnedTupleGo tg (.ref it) u) (λ_ s2=>∃v H',Inv X pins σ H' s2/\RelV v u/\(Its x).yld i H v H'/\s2.heap.IsStrIter it (strIterType x) x t (i+1)/\∀b∈[it],H' b=none) E {s with heap:=h',toks:=tk}:=by
   intro h' tk T eT st' sb hn;have I1:Inv X pins σ H {s with heap:=h',toks:=tk}:=I.turned (t':=tk) (λb o hb e=>(sb.2 b hb).trans e) f0 f1 f3 f4 f5;obtain⟨o,e,c,d⟩:=id st';refine⟨_,rfl,V2 (s:={s with heap:=h',toks:=tk}) e c d hn ⟨.str ⟨#[x.cps[i]]⟩,H,I1,⟨_,rfl⟩,⟨rfl,_,hx,rfl⟩,by rw[eT];exact st',λb hb=>(hf b hb).1⟩⟩
  cases ha:x.cps.all (· < 128)with
  |true=>
   have eT:strIterType x = "str_ascii_iterator" :=by simp[strIterType,ha]
   rw[eT]at st;exact wpAny_pyNext_ascii_item st hx λh' st' sb=>fin h' _ _ eT st' sb (by decide)
  |false=>
   have eT:strIterType x = "str_iterator" :=by simp[strIterType,ha]
   rw[eT]at st;exact wpAny_pyNext_wide_item st hx λh' st' sb=>fin h' _ _ eT st' sb (by decide)
 done:=by
  intro X hP hw hK hc i pins s σ H E I hf st hg;subst hP hw hK;obtain⟨f0,f1,f2,f3,f4,f5⟩:=hf it (by simp);have hx:x.cps[i]?=none:=Array.getElem?_eq_none hg;cases ha:x.cps.all (· < 128)with
  |true=>
   have eT:strIterType x = "str_ascii_iterator" :=by simp[strIterType,ha]
   rw[eT]at st;exact wpAny_pyNext_ascii_end (I.ok.hd hc) st hx λh' eb=>⟨rfl,I.turned (t':=s.toks) (λb o hb e=>eb b o hb e) f0 f1 f3 f4 f5⟩
  |false=>
   have eT:strIterType x = "str_iterator" :=by simp[strIterType,ha]
   rw[eT]at st;exact wpAny_pyNext_wide_end (I.ok.hd hc) st hx λh' eb=>⟨rfl,I.turned (t':=s.toks) (λb o hb e=>eb b o hb e) f0 f1 f3 f4 f5⟩
 self:=λA i s Q E st h=>by
  cases ha:x.cps.all (· < 128)with
  |true=>
   have eT:strIterType x = "str_ascii_iterator" :=by simp[strIterType,ha]
   rw[eT]at st;exact wpAny_pyIter_striter_ascii st h
  |false=>
   have eT:strIterType x = "str_iterator" :=by simp[strIterType,ha]
   rw[eT]at st;exact wpAny_pyIter_striter_wide st h
def iAny(K:Frag)(tl:TE):TI:=λσ H R=>tl σ H λx H1=>(∃a,x=.ref a/\(∃xs,SqL K H1 a xs)/\R (Itl K a) H1)∨(∃a,x=.ref a/\(∃xs,SqT K H1 a xs)/\R (Itt K a) H1) ∨ ∃z,x=.str z/\R (Its z) H1
theorem Mt{l:Uf}{tl:TE}(hl:PE X l tl):PI X tg l (iAny X.K tl):=by
 intro pins s σ H R I h;refine thn (hl pins s σ H _ I h) λv s1 ⟨x,H1,I1,r1,q1⟩=>?_
 have fpOk:∀b∈[s1.heap.objs.size],Kp X pins H1 b:=λb hb=>by
  have e:b=s1.heap.objs.size:=by simpa using hb
  subst e;exact I1.fpOk (Qm _) (I1.hok.fresh (Qm _))
 rcases q1 with ⟨a,e,⟨xs,hq⟩,q⟩|⟨a,e,⟨xs,hq⟩,q⟩|⟨z,e,q⟩
 ·subst e;cases r1;obtain⟨its,rv,p,hz⟩:=I1.list hq;refine Jv p.isList ?_;exact⟨s1.heap.objs.size,[s1.heap.objs.size],_,_,H1,rfl,I1.kept (t':=s1.toks) λb o e=>Qi _ e,DT a _,⟨_,Qv _ rfl,rfl,rfl⟩,fpOk,q⟩
 ·subst e;cases r1;obtain⟨its,rv,p,hz⟩:=I1.tuple hq;refine wpAny_pyIter_tuple p ?_;exact⟨s1.heap.objs.size,[s1.heap.objs.size],_,_,H1,rfl,I1.kept (t':=s1.toks) λb o e=>Qi _ e,D7 a _,⟨_,Qv _ rfl,rfl,rfl⟩,fpOk,q⟩
 ·subst e;obtain⟨t,rfl⟩:=r1;refine wpAny_pyIter_strU ?_;exact⟨s1.heap.objs.size,[s1.heap.objs.size],_,_,H1,rfl,I1.kept (t':=s1.toks) λb o e=>Qi _ e,Fp z t _,⟨_,Qv _ rfl,rfl,rfl⟩,fpOk,q⟩
def Vr(z:Str):List D:=z.cps.toList.map λc=>.str ⟨#[c]⟩
def Sq:D->Option (List D)
 |.list ds=>some ds
 |.tuple ds=>some ds
 |.str z=>some (Vr z)
 |_=>none
theorem CC{K:Frag}{G1:Hp}{ad:Ud}{vs:List V}{ds:List D}(h:SqT K G1 ad vs)(r:Reps K G1 vs ds):ZR K (Itt K ad) ds G1 where
 go:=λi G H s1 s2 hi=>by
  have hi':i<vs.length:=by rw[r.length];exact hi
  exact⟨vs,vs[i],ZH (s1.trans s2) h,Qb hi'⟩
 stop:=λi G H s1 s2 hi=>⟨vs,ZH (s1.trans s2) h,by rw[r.length];exact hi⟩
 yld:=λi G H x H' d s1 s2 e y=>by obtain⟨rfl,y⟩:=y;obtain⟨v,e1,r1⟩:=r.get e;have:=y vs (ZH (s1.trans s2) h);rw[e1]at this;cases this;exact⟨G,.refl s2,r1.mono s1⟩
theorem EN{K:Frag}{G1:Hp}{z:Str}:ZR K (Its z) (Vr z) G1 where
 go:=λi G H s1 s2 hi=>by unfold Vr at hi;simpa[Its]using hi
 stop:=λi G H s1 s2 hi=>by unfold Vr at hi;simpa[Its]using hi
 yld:=λi G H x H' d s1 s2 e y=>by
  obtain⟨rfl,c,hc,rfl⟩:=y;unfold Vr at e;rw[Qg]at e;have:z.cps.toList[i]?=some c:=by simpa using hc
  rw[this]at e;cases e;exact⟨G,.refl s2,.str _⟩
def KL(f:M D):M (List D):=UO f λx=>US (Sq x)
theorem Ms{f:M D}(h:PE X e (tD X.K B G0 f)):PI X tg e (iD X.K B G0 (KL f)):=Z5 (Mt h) λσ H R q=>tM.toI (R0:=Rep X.K) q λv H' G' ρ' x k r a=>by
 cases x with
 |list ds=>obtain⟨ad,vs,rfl,h1,r1⟩:=r.lst_inv;exact .inl ⟨ad,rfl,⟨vs,k.gh.seq h1⟩,a _ G' H' k (.refl _) (D3 h1 r1)⟩
 |tuple ds=>obtain⟨ad,vs,rfl,h1,r1⟩:=r.tup_inv;exact .inr (.inl ⟨ad,rfl,⟨vs,ZH k.gh h1⟩,a _ G' H' k (.refl _) (CC h1 r1)⟩)
 |str z=>have:=r.str_inv;subst this;exact .inr (.inr ⟨z,rfl,a _ G' H' k (.refl _) EN⟩)
 |_=>exact a.elim
def inS(i j:Str):Bool:=!(Builtin.Str.occurrences j i 0 j.length 1).isEmpty
def oInS:D->D->Option Bool
 |.str i,.str j=>some (inS i j)
 |_,_=>none
def Rj:D->D->Option Bool
 |.str i,.str j=>some (!inS i j)
 |_,_=>none
theorem N7:OpB X (Uj .In) oInS:=⟨_,DP,λv u G H x y d Q s rx ry e k=>by
 unfold oInS at e;split at e
 ·cases e;have:=rx.str_inv;subst this;have:=ry.str_inv;subst this;exact⟨_,_,rfl,rfl,k⟩
 ·cases e⟩
theorem Mr:OpB X (Uj .NotIn) Rj:=⟨_,CN,λv u G H x y d Q s rx ry e k=>by
 unfold Rj at e;split at e
 ·cases e;have:=rx.str_inv;subst this;have:=ry.str_inv;subst this;exact⟨_,_,rfl,rfl,k⟩
 ·cases e⟩
theorem N6{x:Str}{i:Int}(hg:Gl X x)(hm:∃t,X.mg x=some (.int i t))(hd:(x==("__debug__" : Str))=false:=by decide):PE X (.Name x pos) (tD X.K B G0 (UE (.int i))):=by obtain⟨t,hm⟩:=hm;exact UW (GW (v:=.int i) hg hm ⟨t,rfl⟩ hd) λσ H Q ⟨G,ρ,k,a⟩=>aft.now a k (.int _)
end
section
variable{X:Cx}{B G0:Hp}{KX:XW}{e o a b c tg i:Uf}{pos p2:Pos}{es rest:List Uf}{te to ti:TE}
def Mq(te to ti:TE):TS:=λD σ H=>te σ H λv H1=>to σ H1 λx H2=>ti σ H2 λk H3=>∃l xs n,x=.ref l/\H3 l=some (.lst xs)/\k=.int n/\0<=n/\n<xs.length/\D.nx σ (upd H3 l (.lst (xs.set n.toNat v)))
theorem Fo(he:PE X e te)(ho:PE X o to)(hi:PE X i ti)(hs:swapsWith e (some (.Subscript o i p2)) pos.line X.env=pure false:=by rfl):PS X (.Assign [.Subscript o i p2] e pos) (Mq te to ti):=by
 intro pins s σ H D I h;refine wpAny_Assign_Subscript (thn (he pins s σ H _ I h) λv s1 ⟨x,H1,I1,r1,q1⟩=>thn (ho pins s1 σ H1 _ I1 q1) λov s2 ⟨y,H2,I2,r2,q2⟩=>thn (hi pins s2 σ H2 _ I2 q2) λiv s3 ⟨k,H3,I3,r3,q3⟩=>?_) hs;obtain⟨l,xs,n,rfl,hl,rfl,h0,h1,q⟩:=q3;cases r2;obtain⟨t,rfl⟩:=r3;obtain⟨z,its,m,r,hlen,ee⟩:=I3.lstM hl
 refine PySem.W.ki_setAt (items:=its.toArray) (n:=m) ee h0 (by
                                  have:Ug<2 ^ 63:=by decide
                                  omega) (by simp;omega) ?_
 refine⟨σ,_,I3.lset (t':=s3.toks) (its:=its) (its':=its.set n.toNat v) (f:=(·.setIfInBounds n.toNat v)) hl ee (by simp) (r.set r1 n.toNat) (by rw[List.length_set];exact z),q⟩
def Vf(j:Nat)(g f:M D):SM:=sB f λd ρ1=>match ρ1[j]? with
 |some (some (.own _))=>sB g (λy ρ2=>match y with
  |.int k=>(match ρ2[j]? with
   |some (some (.own ds))=>if 0<=k/\k<ds.length then .nx (ρ2.set j (some (.own (ds.set k.toNat d))))else .bad
   |_=>.bad)
  |_=>.bad) ρ1
 |_=>.bad
theorem Gj{j:Nat}{f g:M D}(he:PE X e (tD X.K B G0 f))(ho:PE X o (Km j))(hi:PE X i (tD X.K B G0 g))(hs:swapsWith e (some (.Subscript o i p2)) pos.line X.env=pure false:=by rfl) :
  PS X (.Assign [.Subscript o i p2] e pos) (tS X.K B G0 KX (Vf j g f)):=
 KE (Fo he ho hi hs) λD σ H q=>tS.bnd (R:=Rep X.K) q λv H1 G1 ρ1 d k r a=>by
  cases q0:ρ1[j]? with
  |none=>rw[q0]at a;exact a.elim
  |some o0=>
   cases o0 with
   |none=>rw[q0]at a;exact a.elim
   |some sl0=>
    cases sl0 with
    |deep _ _=>rw[q0]at a;exact a.elim
    |pub d=>rw[q0]at a;exact a.elim
    |own ds0=>
     rw[q0]at a;obtain⟨ad,vs0,h1,h2,h3,h4,h5⟩:=k.own j ds0 q0;refine⟨.ref ad,h1,G1,ρ1,k,?_⟩;dsimp only at a;unfold sB at a;cases z:g ρ1 with
     |bad=>rw[z]at a;exact a.elim
     |ok y ρ2=>
      rw[z]at a;dsimp only at a;intro kv G' H' k' s' r';cases y with
      |int n=>
       dsimp only at a;cases q:ρ2[j]? with
       |none=>rw[q]at a;exact a.elim
       |some oo=>
        cases oo with
        |none=>rw[q]at a;exact a.elim
        |some sl=>
         cases sl with
         |deep _ _=>rw[q]at a;exact a.elim
         |pub d=>rw[q]at a;exact a.elim
         |own ds=>
          rw[q]at a;dsimp only at a;split at a
          ·rename_i hn;obtain⟨ad',vs,g1,g2,g3,g4,g5⟩:=k'.own j ds q;rw[h1]at g1;cases g1;refine⟨ad,vs,n,rfl,g4,r'.int_inv,hn.1,by rw[g5.length];exact hn.2,?_⟩;exact a σ G' _ (k'.change q h1 (g5.set (r.mono s') n.toNat)) s'
          ·exact a.elim
      |_=>exact a.elim
def Yb(z:Str)(lo hi:Option Int):Str:=if(Builtin.Str.strSliceIndices lo hi 1 z.length).length=z.length then z else⟨((Builtin.Str.strSliceIndices lo hi 1 z.length).filterMap (z.cps[·]?)).toArray⟩
theorem Mp:SlR X (λx lo hi H Q=>∃z,x=.str z/\(Yb z lo hi).length<=Ug/\Q (.str (Yb z lo hi)) H):=by
 intro pins s σ H x v vl vu lo hi sl Q I rx hs pl pu h;obtain⟨z,rfl,hz,q⟩:=h;obtain⟨t,rfl⟩:=rx;refine⟨"str", _,F.slot_str_getitem.lookup,typeIs_str s z t,?_⟩
 obtain⟨l,el,e1⟩:∃l:Option (Int×Tok),vl=partValue l/\l.map (·.1)=lo:=by
  cases pl with
  |none=>exact⟨none,rfl,rfl⟩
  |int k t'=>exact⟨some (k,t'),rfl,rfl⟩
 obtain⟨u,eu,e2⟩:∃u:Option (Int×Tok),vu=partValue u/\u.map (·.1)=hi:=by
  cases pu with
  |none=>exact⟨none,rfl,rfl⟩
  |int k t'=>exact⟨some (k,t'),rfl,rfl⟩
 subst el eu;refine wpAny_getItem_str_slice (l:=l) (u:=u) (st:=none) hs rfl ?_;unfold sliceMade slicePicked;rw[e1,e2];unfold Yb at hz q;by_cases hw:(Builtin.Str.strSliceIndices lo hi 1 z.length).length=z.length
 ·rw[Qr hw]at hz q;rw[if_pos (by simp[hw])];exact⟨.str z,H,I,⟨t,rfl⟩,q⟩
 ·rw[QJ hw]at hz q;rw[if_neg (by simp[hw])];exact⟨hz,.str _,H,I.tok _,⟨_,rfl⟩,q⟩
end
section
variable{X:Cx}{B G0:Hp}{KX:XW}{e o a b c tg i:Uf}{pos p2:Pos}{es rest:List Uf}{te to ti:TE}
theorem pvb(i:Nat){x:Str}{pos:Pos}{N':List Str}{scope:Scope}{cl:List (Str×Ud)}{C:Ud}{s₀:Ub}{H₀:Hp}{ex:List Ud}(hN:N'[i]?=some x:=by rfl)
  (h:scope.names.lookup x=some .local∨scope.names.lookup x=some .free:=by first|exact .inl rfl|exact .inr rfl) (hd:(x==("__debug__" : Str))=false:=by decide) (hcd:(x==("__classdict__" : Str))=false:=by decide) :
  PE (X.blk N' scope cl C s₀ H₀ ex) (.Name x pos) (Km i):=RN hN (Hn h) hd hcd
def Xb:D->Option Int->Option Int->Option D
 |.list xs,lo,hi=>some (.list (DL.cutD xs lo hi))
 |.str z,lo,hi=>if(Yb z lo hi).length<=1000000 then some (.str (Yb z lo hi))else none
 |_,_,_=>none
def Z8(f:M D)(lo hi:M (Option Int)):M D:=UO f λx=>UO lo λl=>UO hi λh=>US (Xb x l h)
theorem DZ{lo hi:Option Uf}{f:M D}{l h:M (Option Int)}(he:PE X e (tD X.K B G0 f))(hl:PO X lo (tOi X.K B G0 l))(hu:PO X hi (tOi X.K B G0 h)) :
  PE X (.Subscript e (.Slice lo hi none p2) pos) (tD X.K B G0 (Z8 f l h)):=
 UW (Ez (GM.or Mp) he hl hu) λσ H Q q=>by
  refine tM.one (R:=Rep X.K) q λv H2 G ρ x k r a=>?_;refine tM.nx (R:=λ_ b c=>b=c) k a λl' H3 G3 ρ3 xl k3 s3 r3 a3=>?_;refine tM.nx (R:=λ_ b c=>b=c) k3 a3 λh' H4 G4 ρ4 xh k4 s4 r4 a4=>?_;have r3:l'=xl:=r3;have r4:h'=xh:=r4;subst r3 r4;unfold US Xb at a4
  cases x with
  |list xs=>obtain⟨ad,vs,rfl,h1,r1⟩:=((r.mono s3).mono s4).lst_inv;exact .inl ⟨ad,vs,rfl,k4.gh.seq h1,λp hp=>aft.done a4 k4 (Ext.new k4.gh hp) (.lst (SqL.of Ki) ((r1.cut l' h').mono (Kw (k4.gh.free hp))))⟩
  |str z=>
   dsimp only at a4;have:=r.str_inv;subst this;by_cases hc:(Yb z l' h').length<=1000000
   ·rw[Qr hc]at a4;exact .inr ⟨z,rfl,QN hc lim,aft.now a4 k4 (.str _)⟩
   ·rw[QJ hc]at a4;exact a4.elim
  |_=>exact a4.elim
end
section
variable{X:Cx}{B G0:Hp}{e o a b c tg:Uf}{pos p2:Pos}{es rest:List Uf}{te to ti:TE}
def Ks{β:Type}(p:D->D->Option β)(i:Nat)(g:M D):M β:=λρ=>match ρ[i]? with
 |some (some (.pub d))=>(UO g λy=>US (p d y)) ρ
 |some (some (.own _))=>(UO g λy=>λρ'=>match ρ'[i]? with|some (some (.own ds))=>US (p (.list ds) y) ρ'|_=>.bad) ρ
 |_=>.bad
theorem Ri{K:Frag}{σ:St}{H:Hp}{p:D->D->Option Bool}{r:R2}{i:Nat}{g:M D}{Q:Bool->Hp->Prop}{QV:VK}(hq:∀t H3,Q t H3->QV (.bl t) H3)(hr:∀v u G H x y d Q,Same G H->Rep K G v x->Rep K G u y->p x y=some d->Q (.bl d) H->r v u H Q)
  (q:tBo K B G0 (Ks p i g) σ H Q):Km i σ H λx H1=>tD K B G0 g σ H1 λy H2=>r x y H2 QV:=by
 obtain⟨G,ρ,k,a⟩:=q;unfold Ks at a;cases q:ρ[i]? with
 |none=>rw[q]at a;exact a.elim
 |some o=>
  cases o with
  |none=>rw[q]at a;exact a.elim
  |some sl=>
   cases sl with
   |deep _ _=>rw[q]at a;exact a.elim
   |pub d=>
    rw[q]at a;obtain⟨v,h1,h2⟩:=k.pub i d q;refine⟨v,h1,G,ρ,k,?_⟩;dsimp only[UO]at a;cases z:g ρ with
    |bad=>rw[z]at a;exact a.elim
    |ok y ρ1=>rw[z]at a;intro u G' H' k' s' r';obtain⟨d',e',a'⟩:=aft.opt a;exact hr v u G' H' d y d' _ k'.gh (h2.mono s') r' e' (hq _ _ (a' d' G' H' k' s' rfl))
   |own ds=>
    rw[q]at a;obtain⟨ad,vs,h1,h2,h3,h4,h5⟩:=k.own i ds q;refine⟨.ref ad,h1,G,ρ,k,?_⟩;dsimp only[UO]at a;cases z:g ρ with
    |bad=>rw[z]at a;exact a.elim
    |ok y ρ1=>
     rw[z]at a;dsimp only at a;intro u G' H' k' s' r';cases q1:ρ1[i]? with
     |none=>rw[q1]at a;exact a.elim
     |some oo=>
      cases oo with
      |none=>rw[q1]at a;exact a.elim
      |some sl1=>
       cases sl1 with
       |deep _ _=>rw[q1]at a;exact a.elim
       |pub d1=>rw[q1]at a;exact a.elim
       |own ds1=>
        rw[q1]at a;dsimp only at a;obtain⟨ad',ws,g1,g2,g3,g4,g5⟩:=k'.own i ds1 q1;rw[h1]at g1;cases g1;obtain⟨d',e',a'⟩:=aft.opt a;have sg:Same G' (upd G' ad (.lst ws)):=Kw g3
        have sh:Same (upd G' ad (.lst ws)) H':=λb o q=>by
         by_cases z:b=ad
         ·subst z;rw[Ki]at q;cases q;exact g4
         ·rw[U0 z]at q;exact k'.gh b o q
        exact hr (.ref ad) u _ H' (.list ds1) y d' _ sh (.lst (SqL.of Ki) (g5.mono sg)) (r'.mono sg) e' (hq _ _ (a' d' G' H' k' s' rfl))
theorem Gi{op:CmpOp}{p:D->D->Option Bool}{i:Nat}{g:M D}(o:OpB X (Uj op) p)(ha:PE X a (Km i))(hb:PE X b (tD X.K B G0 g))(hm:behindInMarks op b=false) :
  PT X (.Compare a [op] [b] pos) (tBo X.K B G0 (Ks p i g)):=by
 obtain⟨r,h,j⟩:=o;exact Zx (Sc h ha hb hm) λσ H Q q=>Ri (λt H3 z=>⟨t,rfl,z⟩) j q
theorem Gh{op:CmpOp}{p:D->D->Option Bool}{i:Nat}{g:M D}(o:OpB X (Uj op) p)(ha:PE X a (Km i))(hb:PE X b (tD X.K B G0 g))(hm:behindInMarks op b=false) :
  PE X (.Compare a [op] [b] pos) (tD X.K B G0 (UM Uo (Ks p i g))):=by
 obtain⟨r,h,j⟩:=o;exact UW (PH h ha hb hm) λσ H Q q=>Ri (λt H3 z=>z) j (tBo.val q)
end
end DL
namespace L2
open PySem PySem.Spec PyProof.Rows
def Itz(K:Frag)(a b:Ud):It:=
 ⟨λi H=>∃xs x ys y,SqL K H a xs/\xs[i]?=some x/\SqL K H b ys/\ys[i]?=some y,
  λi H v H'=>∃p x y,H p=none/\v=.ref p/\(∀xs,SqL K H a xs->xs[i]?=some x)/\(∀ys,SqL K H b ys->ys[i]?=some y)/\H'=upd H p (.tup [x,y]),
  λi H=>∃xs ys,SqL K H a xs/\SqL K H b ys/\(xs.length<=i∨ys.length<=i)⟩
theorem Fn{P:Uc}{w:World}{K:Frag}{elts:List Uf}{x1}{tp:Pos}(a b z TI TO i1 i2:Ud)(Dz:ZipApart z TI TO i1 i2 a b) :
  Turn P w K (.Tuple elts x1 tp) (Itz K a b) [z,TI,TO,i1,i2] z (λi h=>IsZip h z TI TO .none/\IsPair h TI (.ref i1) (.ref i2)/\(∃c d,IsPair h TO c d)/\h.IsListIter i1 a i/\h.IsListIter i2 b i) where
 mem:=by simp
 obj:=λi h st c hc=>by
  obtain⟨h1,h2,⟨c0,d0,h3⟩,⟨o4,h4,_,d4⟩,⟨o5,h5,_,d5⟩⟩:=st;have hc':c=z∨c=TI∨c=TO∨c=i1∨c=i2:=by simpa using hc
  rcases hc' with rfl|rfl|rfl|rfl|rfl
  ·exact⟨_,h1,λv q=>by have q':Data.fields _=Data.cell v:=q;cases q'⟩
  ·exact⟨_,h2,λv q=>by have q':Data.seq _ _=Data.cell v:=q;cases q'⟩
  ·exact⟨_,h3,λv q=>by have q':Data.seq _ _=Data.cell v:=q;cases q'⟩
  ·exact⟨o4,h4,λv q=>by rw[d4]at q;cases q⟩
  ·exact⟨o5,h5,λv q=>by rw[d5]at q;cases q⟩
 keep:=λi h h' st k=>by obtain⟨h1,h2,⟨c0,d0,h3⟩,h4,h5⟩:=st;exact⟨k z (by simp) _ h1,k TI (by simp) _ h2,⟨c0,d0,k TO (by simp) _ h3⟩,h4.at λo q=>k i1 (by simp) o q,h5.at λo q=>k i2 (by simp) o q⟩
 item:=by
  intro X hP hw hK hc i pins s σ H E I hf st hg;subst hP hw hK;obtain⟨h1,h2,⟨c0,d0,h3⟩,h4,h5⟩:=st;obtain⟨xs,x,ys,y,hq,hx,hq',hy⟩:=hg;obtain⟨its,rv,p,hz⟩:=I.list hq;obtain⟨its',rv',p',hz'⟩:=I.list hq';obtain⟨u,hu,ru⟩:=rv.get hx;obtain⟨u',hu',ru'⟩:=rv'.get hy;refine wpAny_pyNext_zip_item Dz h1 h2 h3 h4 h5 p.isList p'.isList (x:=u) (y:=u') (by simpa using hu) (by simpa using hu') λh' g1 g3 g4 g5 gp gs gk=>?_
  refine⟨_,rfl,wpAny_letOwnedTupleGo_zip g1 λh2' gz sb=>?_⟩;have hzl:z<s.heap.objs.size:=Qh h1;have sb':Heap.SameBut z h' h2':=sb;have gp2:h2'.get? s.heap.objs.size=some {cls:=.type "tuple", data:=.seq #[u,u']}:=(sb'.2 _ (Jw hzl)).trans gp
  have kk:∀c o,c∉[z,TI,TO,i1,i2]->s.heap.get? c=some o->h2'.get? c=some o:=λc o hc q=>by
   have n1:c≠z:=λe=>hc (by simp[e])
   have n3:c≠TO:=λe=>hc (by simp[e])
   have n4:c≠i1:=λe=>hc (by simp[e])
   have n5:c≠i2:=λe=>hc (by simp[e])
   exact(sb'.2 c n1).trans (gk c o n1 n3 n4 n5 q)
  have hn:H s.heap.objs.size=none:=I.hok.fresh (Qm _)
  have I2:Inv X pins σ (upd H s.heap.objs.size (.tup [x,y])) {s with heap:=h2'}:=
   I.turnedNew (t':=s.toks) (fp:=[z,TI,TO,i1,i2]) hf kk (Qm _) ⟨by show 2<=Ug;decide,[u,u'],.cons ru (.cons ru' .nil),⟨_,gp2,rfl,_,rfl⟩⟩
  have gTI:IsPair h' TI (.ref i1) (.ref i2):=gk TI _ Dz.TIz Dz.TITO Dz.TIi1 Dz.TIi2 h2
  refine⟨.ref s.heap.objs.size,_,I2,rfl,⟨_,x,y,hn,rfl,λws hw=>by rw[I.list_inj hw hq];exact hx,λws hw=>by rw[I.list_inj hw hq'];exact hy,rfl⟩,
   ⟨gz,(sb'.2 _ Dz.TIz).trans gTI,⟨u,u',(sb'.2 _ Dz.TOz).trans g3⟩,g4.at λo q=>(sb'.2 _ Dz.i1z).trans q,g5.at λo q=>(sb'.2 _ Dz.i2z).trans q⟩,λc hc=>?_⟩
  have hlt:c<s.heap.objs.size:=by
   have hc':c=z∨c=TI∨c=TO∨c=i1∨c=i2:=by simpa using hc
   rcases hc' with rfl|rfl|rfl|rfl|rfl
   ·exact hzl
   ·exact Qh h2
   ·exact Qh h3
   ·obtain⟨o,ho,_⟩:=h4;exact Qh ho
   ·obtain⟨o,ho,_⟩:=h5;exact Qh ho
  rw[U0 (QD hlt)];exact(hf c hc).1
 done:=by
  intro X hP hw hK hc i pins s σ H E I hf st hg;subst hP hw hK;obtain⟨h1,h2,⟨c0,d0,h3⟩,h4,h5⟩:=st;obtain⟨xs,ys,hq,hq',hx⟩:=hg;obtain⟨its,rv,p,hz⟩:=I.list hq;obtain⟨its',rv',p',hz'⟩:=I.list hq';have hl:=rv.length;have hl':=rv'.length;refine wpAny_pyNext_zip_end (I.ok.hd hc) Dz h1 h2 h3 h4 h5 p.isList p'.isList ?_ λh' eb=>⟨rfl,I.turnedL (t':=s.toks) hf λc o hb q=>eb c o (λe=>hb (by simp[e])) (λe=>hb (by simp[e])) (λe=>hb (by simp[e])) (λe=>hb (by simp[e])) q⟩
  rcases hx with hx|hx
  ·exact .inl (by simp;omega)
  ·exact .inr (by simp;omega)
 self:=λ_ _ _ _ _ st h=>wpAny_pyIter_zip st.1 h
section
variable{X:Cx}
def iZip(K:Frag)(ta:TA):TI:=λσ H R=>ta σ H λvs H1=>∃a b xs ys,vs=[.ref a,.ref b]/\SqL K H1 a xs/\SqL K H1 b ys/\R (Itz K a b) H1
theorem Mo{a b:Uf}{ta:TA}{p pos:Pos}{elts:List Uf}{x1}{tp:Pos}(hg:Gl X "zip")(hm:X.mg "zip" = none)(ha:PA X [a,b] ta)
  (hs:Ui [a,b] X.env=[(false,eval a X.env),(false,eval b X.env)]:=by rfl) (hs2:Ui [b] X.env=[(false,eval b X.env)]:=by rfl):PI X (.Tuple elts x1 tp) (.Call (.Name "zip" p) [a,b] [] pos) (iZip X.K ta):=by
 intro pins s σ H R I h;refine Call_ (XJ I hg hm boot_zip (Jo (thn (ha pos pins s σ H _ I h) λus s1 ⟨vs,H1,I1,r1,q1⟩=>?_) (by rw[hs,hs2]) (by rw[hs2];rfl)));obtain⟨l1,l2,xs,ys,e,hq,hq',q⟩:=q1;subst e;cases r1 with
 |cons r rr=>
  cases rr with
  |cons r' rr=>
   cases rr;cases (show _=Value.ref l1 from r);cases (show _=Value.ref l2 from r');obtain⟨its,rv,pl,hz⟩:=I1.list hq;obtain⟨its',rv',pl',hz'⟩:=I1.list hq';have n1:l1<s1.heap.objs.size:=by obtain⟨_,e,_⟩:=id pl.isList;exact Qh e
   have n2:l2<s1.heap.objs.size:=by obtain⟨_,e,_⟩:=id pl'.isList;exact Qh e
   have ne:∀i j:Nat,i≠j->s1.heap.objs.size+i≠s1.heap.objs.size+j:=λi j h e=>h (Nat.add_left_cancel e);have m1:∀m:Nat,l1≠s1.heap.objs.size+m:=λm=>QD (QB n1 (Nat.le_add_right _ _));have m2:∀m:Nat,l2≠s1.heap.objs.size+m:=λm=>QD (QB n2 (Nat.le_add_right _ _));refine call_zip_2 pl.isList pl'.isList λh' g1 g2 g3 g4 g5 gs kk=>?_;have I2:Inv X pins σ H1 {s1 with heap:=h'}:=I1.kept (t':=s1.toks) kk;refine wpAny_pyIter_zip g1 ?_
   refine⟨s1.heap.objs.size+4,[s1.heap.objs.size+4,s1.heap.objs.size+2,s1.heap.objs.size+3,s1.heap.objs.size,s1.heap.objs.size+1],_,_,H1,rfl,I2,
    Fn l1 l2 (s1.heap.objs.size+4) (s1.heap.objs.size+2) (s1.heap.objs.size+3) s1.heap.objs.size (s1.heap.objs.size+1) ⟨ne 2 4 (by decide),ne 3 4 (by decide),ne 0 4 (by decide),ne 1 4 (by decide),ne 2 3 (by decide),ne 2 0 (by decide),ne 2 1 (by decide),ne 3 0 (by decide),ne 3 1 (by decide),ne 0 1 (by decide),m1 4,m1 3,m1 0,m1 1,m2 4,m2 3,m2 0,m2 1⟩,⟨g1,g2,⟨_,_,g3⟩,g4,g5⟩,λc hc=>?_,q⟩
   have hc':s1.heap.objs.size<=c:=by
    have hc':c=s1.heap.objs.size+4∨c=s1.heap.objs.size+2∨c=s1.heap.objs.size+3∨c=s1.heap.objs.size∨c=s1.heap.objs.size+1:=by simpa using hc
    rcases hc' with rfl|rfl|rfl|rfl|rfl<;>first|exact Nat.le_add_right _ _|exact Qm _
   exact I1.fpOk hc' (I1.hok.fresh hc')
end
end L2
namespace DL
open PySem PySem.Spec L2
open PyProof.Rows hiding St
section
variable{X:Cx}{B G0:Hp}{e a b c tg:Uf}{pos:Pos}{es rest:List Uf}
def Zd(xs ys:List D):List D:=(xs.zip ys).map λp=>.tuple [p.1,p.2]
theorem EM{K:Frag}{G1:Hp}{a b:Ud}{vs ws:List V}{ds es:List D}(h:SqL K G1 a vs)(h':SqL K G1 b ws)(r:Reps K G1 vs ds)(r':Reps K G1 ws es):ZR K (Itz K a b) (Zd ds es) G1 where
 go:=λi G H s1 s2 hi=>by
  unfold Zd at hi;rw[Qe,List.length_zip]at hi;have hi1:i<vs.length:=by rw[r.length];omega
  have hi2:i<ws.length:=by rw[r'.length];omega
  exact⟨vs,vs[i],ws,ws[i],(s1.trans s2).seq h,Qb hi1,(s1.trans s2).seq h',Qb hi2⟩
 stop:=λi G H s1 s2 hi=>by unfold Zd at hi;rw[Qe,List.length_zip]at hi;refine⟨vs,ws,(s1.trans s2).seq h,(s1.trans s2).seq h',?_⟩;rw[r.length,r'.length];omega
 yld:=λi G H x H' d s1 s2 e y=>by
  obtain⟨p,u,v,hp,rfl,y1,y2,rfl⟩:=y;have z1:=y1 vs ((s1.trans s2).seq h);have z2:=y2 ws ((s1.trans s2).seq h');unfold Zd at e;rw[Qg]at e;cases q:(ds.zip es)[i]? with
  |none=>rw[q]at e;cases e
  |some pr=>rw[q]at e;cases e;rw[List.getElem?_zip_eq_some]at q;obtain⟨u',e1,r1⟩:=r.get q.1;obtain⟨v',e2,r2⟩:=r'.get q.2;rw[z1]at e1;rw[z2]at e2;cases e1;cases e2;exact⟨upd G p (.tup [u,v]),Ext.new s2 hp,.tup (SqT.of Ki) (.cons ((r1.mono s1).mono (Kw (s2.free hp))) (.cons ((r2.mono s1).mono (Kw (s2.free hp))) .nil))⟩
def Z6:List D->Option (List D)
 |[.list xs,.list ys]=>some (Zd xs ys)
 |_=>none
theorem Fm{x l:List D}(h:Z6 x=some l):∃xs ys,x=[.list xs,.list ys]/\l=Zd xs ys:=by
 unfold Z6 at h;split at h
 ·cases h;exact⟨_,_,rfl,rfl⟩
 ·cases h
def Xj(f:M (List D)):M (List D):=UO f λx=>US (Z6 x)
theorem Mn{f:M (List D)}{p2:Pos}{elts:List Uf}{x1}{tp:Pos}(hg:Gl X "zip")(hm:X.mg "zip" = none)(ha:PA X [a,b] (tDs X.K B G0 f))(hs:Ui [a,b] X.env=[(false,eval a X.env),(false,eval b X.env)]:=by rfl)(hs2:Ui [b] X.env=[(false,eval b X.env)]:=by rfl) :
  PI X (.Tuple elts x1 tp) (.Call (.Name "zip" p2) [a,b] [] pos) (iD X.K B G0 (Xj f)):=Z5 (Mo hg hm ha hs hs2) λσ H R q=>tM.toI (R0:=Reps X.K) q λv H' G' ρ' x k r a=>by
 cases z:Z6 x with
 |none=>rw[z]at a;exact a.elim
 |some l=>
  rw[z]at a;obtain⟨xs,ys,rfl,rfl⟩:=Fm z;cases r with
  |cons r1 rr=>
   cases rr with
   |cons r2 rr=>cases rr;obtain⟨l1,vs,rfl,h1,q1⟩:=r1.lst_inv;obtain⟨l2,ws,rfl,h2,q2⟩:=r2.lst_inv;exact⟨l1,l2,vs,ws,rfl,k.gh.seq h1,k.gh.seq h2,a _ G' H' k (.refl _) (EM h1 h2 q1 q2)⟩
end
section
variable{X:Cx}{B G0:Hp}{e o a b c tg:Uf}{pos p2 p3:Pos}{es rest:List Uf}{te to ti:TE}
def oIn:D->D->Option Bool
 |.str i,.str j=>some (inS i j)
 |x,.list xs=>if x.canLay0=true/\Ur xs=true/\x.depth<=60 then some (xs.any λy=>Ut y x)else none
 |x,.tuple xs=>if x.canLay0=true/\Ur xs=true/\x.depth<=60 then some (xs.any λy=>Ut y x)else none
 |_,_=>none
def Zi(x y:D):Option Bool:=(oIn x y).map λt=>!t
def Z7(x y:D):Option Bool:=match y with
 |.list xs=>if x.canLay0=true/\Ur xs=true/\x.depth<=60 then some (xs.any λy=>Ut y x)else none
 |.tuple xs=>if x.canLay0=true/\Ur xs=true/\x.depth<=60 then some (xs.any λy=>Ut y x)else none
 |_=>none
theorem N5(hu:X.A.units+64<cLine):OpB X (Uj .In) Z7:=by
 refine⟨λv u H Q=>∃G x y d,Same G H/\Rep X.K G v x/\Rep X.K G u y/\Z7 x y=some d/\Q (.bl d) H,?_,λv u G H x y d Q s rx ry e k=>⟨G,x,y,d,s,rx,ry,e,k⟩⟩;intro pins s σ H x y v u Q I rx ry ⟨G,dx,dy,d,sg,px,py,e,q⟩;unfold Z7 at e;split at e
 ·split at e
  ·rename_i c;cases e;obtain⟨as,ra⟩:=ZK I sg px rx c.1;obtain⟨bs,rb⟩:=ZK I sg py ry (show Ur _=true from c.2.1);exact SeqAt.in_list_reads rb ra c.2.1 c.1 (by have:=c.2.2;omega) ⟨.bl _,H,I,rfl,q⟩
  ·cases e
 ·split at e
  ·rename_i c;cases e;obtain⟨as,ra⟩:=ZK I sg px rx c.1;obtain⟨bs,rb⟩:=ZK I sg py ry (show Ur _=true from c.2.1);exact SeqAt.in_tuple_reads rb ra c.2.1 c.1 (by have:=c.2.2;omega) ⟨.bl _,H,I,rfl,q⟩
  ·cases e
 ·cases e
theorem M8(hu:X.A.units+64<cLine):OpB X (Uj .NotIn) (λx y=>(Z7 x y).map λt=>!t):=by
 refine⟨λv u H Q=>∃G x y d,Same G H/\Rep X.K G v x/\Rep X.K G u y/\(Z7 x y).map (λt=>!t)=some d/\Q (.bl d) H,?_,λv u G H x y d Q s rx ry e k=>⟨G,x,y,d,s,rx,ry,e,k⟩⟩;intro pins s σ H x y v u Q I rx ry ⟨G,dx,dy,d,sg,px,py,e,q⟩;unfold Z7 at e;split at e
 ·split at e
  ·rename_i c;cases e;obtain⟨as,ra⟩:=ZK I sg px rx c.1;obtain⟨bs,rb⟩:=ZK I sg py ry (show Ur _=true from c.2.1);exact SeqAt.notIn_list_reads rb ra c.2.1 c.1 (by have:=c.2.2;omega) ⟨.bl _,H,I,rfl,q⟩
  ·cases e
 ·split at e
  ·rename_i c;cases e;obtain⟨as,ra⟩:=ZK I sg px rx c.1;obtain⟨bs,rb⟩:=ZK I sg py ry (show Ur _=true from c.2.1);exact SeqAt.notIn_tuple_reads rb ra c.2.1 c.1 (by have:=c.2.2;omega) ⟨.bl _,H,I,rfl,q⟩
  ·cases e
 ·cases e
theorem B_in(hu:X.A.units+64<cLine):OpB X (Uj .In) oIn:=(N7.or (N5 hu)).congr λx y=>by cases x<;>cases y<;>rfl
theorem N4(hu:X.A.units+64<cLine):OpB X (Uj .NotIn) Zi:=(Mr.or (M8 hu)).congr λx y=>by cases x<;>cases y<;>rfl
theorem EL{tl th ts:TO}{lo hi:Option Uf}{st:Uf}(he:PE X e te)(hl:PO X lo tl)(hu:PO X hi th)(hst:PO X (some st) ts):PE X (.Subscript e (.Slice lo hi (some st) p2) pos)
  (λσ H Q=>te σ H λx H1=>tl σ H1 λl H2=>th σ H2 λu H3=>ts σ H3 λt H4=>∃a xs,x=.ref a/\SqL X.K H4 a xs/\l=none/\u=none/\t=some (-1)/\∀p,H4 p=none->Q (.ref p) (upd H4 p (.lst xs.reverse))):=by
 intro pins s σ H Q I h;refine Subscript_ (thn (he pins s σ H _ I h) λv s1 ⟨x,H1,I1,r1,q1⟩=>?_);refine wpAny_Slice (thn (hl pins s1 σ H1 _ I1 q1) λvl s2 ⟨l,H2,I2,pl,q2⟩=>thn (hu pins s2 σ H2 _ I2 q2) λvu s3 ⟨u,H3,I3,pu,q3⟩=>thn (hst pins s3 σ H3 _ I3 q3) λvt s4 ⟨t,H4,I4,pt,q4⟩=>?_);obtain⟨a,xs,rfl,hx,rfl,rfl,rfl,q⟩:=q4;cases r1;have I5:Inv X pins σ H4 {s4 with heap:=s4.heap.push {cls:=.type "slice", data:=.fields #[vl,vu,vt]}}:=I4.kept (t':=s4.toks) λb ob q=>Qi _ q
 obtain⟨its,r,ht,hz⟩:=I5.list hx;have hlen:=r.length;have hg:Uh (model X.prog X.w) X.A (getItem (.ref a) (.ref s4.heap.objs.size)) (EP X pins σ Q) X.xe {s4 with heap:=s4.heap.push {cls:=.type "slice", data:=.fields #[vl,vu,vt]}}:=by refine wpAny_getItem_list_slice ht.isList (Heap.IsSliceOf.new ..) pl pu pt (by simp) ?_ (by rw[List.size_toArray]<;>omega);rw[PySem.W.krv_pick];refine⟨.ref _,_,I5.laid (t':=s4.toks) (o:=.lst xs.reverse) (λb ob q=>Qi _ q) (Qm _) ?_,rfl,q _ (I5.hok.fresh (Qm _))⟩;exact⟨by rw[List.length_reverse];exact hz,its.reverse,0,r.reverse,Qv _ rfl⟩
 show Uh (model X.prog X.w) X.A (subscriptTail e (.Slice lo hi (some st) p2) (.ref a) (.ref s4.heap.objs.size)) (EP X pins σ Q) X.xe {s4 with heap:=s4.heap.push {cls:=.type "slice", data:=.fields #[vl,vu,vt]}};exact tail_any (ops:=[.ref a,.ref s4.heap.objs.size]) ht.isList.typeIs slot_list_getitem.lookup hg (by with_unfolding_all rfl)
def Xc:D->Option Int->Option Int->Option Int->Option D
 |.list xs,none,none,some i=>if i = -1 then some (.list xs.reverse)else none
 |_,_,_,_=>none
def YB(f:M D)(lo hi st:M (Option Int)):M D:=UO f λx=>UO lo λl=>UO hi λh=>UO st λt=>US (Xc x l h t)
theorem Gg{lo hi:Option Uf}{st:Uf}{f:M D}{l h t:M (Option Int)}(he:PE X e (tD X.K B G0 f))(hl:PO X lo (tOi X.K B G0 l))(hu:PO X hi (tOi X.K B G0 h))(hst:PO X (some st) (tOi X.K B G0 t)) :
  PE X (.Subscript e (.Slice lo hi (some st) p2) pos) (tD X.K B G0 (YB f l h t)):=
 UW (EL he hl hu hst) λσ H Q q=>by
  refine tM.one (R:=Rep X.K) q λv H2 G ρ x k r a=>?_;refine tM.nx (R:=λ_ b c=>b=c) k a λl' H3 G3 ρ3 xl k3 s3 r3 a3=>?_;refine tM.nx (R:=λ_ b c=>b=c) k3 a3 λh' H4 G4 ρ4 xh k4 s4 r4 a4=>?_;refine tM.nx (R:=λ_ b c=>b=c) k4 a4 λt' H5 G5 ρ5 xt k5 s5 r5 a5=>?_;have r3:l'=xl:=r3;have r4:h'=xh:=r4;have r5:t'=xt:=r5;subst r3 r4 r5
  cases x with
  |list xs=>
   cases l' with
   |some _=>exact a5.elim
   |none=>
   cases h' with
   |some _=>exact a5.elim
   |none=>
   cases t' with
   |none=>exact a5.elim
   |some i=>
   obtain⟨ad,vs,rfl,h1,r1⟩:=(((r.mono s3).mono s4).mono s5).lst_inv;by_cases hi:i = -1
   ·subst hi;exact⟨ad,vs,rfl,k5.gh.seq h1,rfl,rfl,rfl,λp hp=>aft.done a5 k5 (Ext.new k5.gh hp) (.lst (SqL.of Ki) (r1.reverse.mono (Kw (k5.gh.free hp))))⟩
   ·unfold US Xc at a5;dsimp only at a5;rw[QJ hi]at a5;exact a5.elim
  |_=>unfold US Xc at a5;exact a5.elim
def YM:List D->Option (List D)
 |[.list xs]=>some xs
 |[.tuple xs]=>some xs
 |_=>none
theorem OJ{x l:List D}(h:YM x=some l):x=[.list l]∨x=[.tuple l]:=by
 unfold YM at h;split at h
 ·cases h;exact .inl rfl
 ·cases h;exact .inr rfl
 ·cases h
theorem Rf:bootBuiltins "list" = some (.type "list"):=by decide +kernel
theorem Fl{f:M (List D)}(hg:Gl X "list")(hm:X.mg "list" = none)(ha:PA X [a] (tDs X.K B G0 f))(he:Ui [a] X.env=(false,eval a X.env)::Ui [] X.env:=by rfl) :
  PE X (.Call (.Name "list" p2) [a] [] pos) (tL X.K B G0 (UO f λxs=>US (YM xs))):=
 UW (Ti Nm hg hm Rf ha (by decide) (by decide) he rfl) λσ H Q ⟨G,ρ,k,q⟩=>by
  refine⟨G,ρ,k,?_⟩;unfold UO at q;cases z:f ρ with
  |bad=>rw[z]at q;exact q.elim
  |ok xs ρ1=>
   rw[z]at q;dsimp only[US]at q;intro vs G' H' k' s' r;cases z2:YM xs with
   |none=>rw[z2]at q;exact q.elim
   |some l=>
    rw[z2]at q;rcases OJ z2 with rfl|rfl
    ·obtain⟨v,rfl,q1⟩:=r.one_inv;obtain⟨p,ws,rfl,h1,r1⟩:=q1.lst_inv;exact⟨p,ws,rfl,.inl (k'.gh.seq h1),λad hp=>q ad ws G' _ (k'.ext (Ext.hid k'.gh hp)) s' (NewL.of k' hp r1)⟩
    ·obtain⟨v,rfl,q1⟩:=r.one_inv;obtain⟨p,ws,rfl,h1,r1⟩:=q1.tup_inv;exact⟨p,ws,rfl,.inr (ZH k'.gh h1),λad hp=>q ad ws G' _ (k'.ext (Ext.hid k'.gh hp)) s' (NewL.of k' hp r1)⟩
def X1(i:Nat):M (List D):=λρ=>match ρ[i]? with
 |some (some (.pub d))=>US (YM [d]) ρ
 |some (some (.own ds))=>.ok ds ρ
 |_=>.bad
theorem EK{i:Nat}(hg:Gl X "list")(hm:X.mg "list" = none)(ho:PE X a (Km i))(he:Ui [a] X.env=(false,eval a X.env)::Ui [] X.env:=by rfl) :
  PE X (.Call (.Name "list" p2) [a] [] pos) (tL X.K B G0 (X1 i)):=
 UW (Ti Nm hg hm Rf (Z0 ho Yt he) (by decide) (by decide) he rfl) λσ H Q ⟨G,ρ,k,q⟩=>by
  unfold X1 at q;cases z:ρ[i]? with
  |none=>rw[z]at q;exact q.elim
  |some oo=>
   cases oo with
   |none=>rw[z]at q;exact q.elim
   |some sl=>
    cases sl with
    |deep _ _=>rw[z]at q;exact q.elim
    |own ds=>rw[z]at q;dsimp only at q;obtain⟨ad,vs,h1,h2,h3,h4,h5⟩:=k.own i ds z;exact⟨.ref ad,h1,ad,vs,rfl,.inl (SqL.of h4),λl hp=>q l vs G _ (k.ext (Ext.hid k.gh hp)) (.refl _) (NewL.of k hp h5)⟩
    |pub d=>
     rw[z]at q;dsimp only[US]at q;obtain⟨v,h1,h2⟩:=k.pub i d z;cases z2:YM [d]with
     |none=>rw[z2]at q;exact q.elim
     |some l=>
      rw[z2]at q;dsimp only at q;rcases OJ z2 with e|e
      ·cases e;obtain⟨p,ws,rfl,g1,r1⟩:=h2.lst_inv;exact⟨_,h1,p,ws,rfl,.inl (k.gh.seq g1),λad hp=>q ad ws G _ (k.ext (Ext.hid k.gh hp)) (.refl _) (NewL.of k hp r1)⟩
      ·cases e;obtain⟨p,ws,rfl,g1,r1⟩:=h2.tup_inv;exact⟨_,h1,p,ws,rfl,.inr (ZH k.gh g1),λad hp=>q ad ws G _ (k.ext (Ext.hid k.gh hp)) (.refl _) (NewL.of k hp r1)⟩
end
section
variable{X:Cx}{B G0:Hp}{e o a b c tg:Uf}{pos p2 p3 p4:Pos}{es rest:List Uf}{te to ti:TE}
theorem W8:∀{ns:List Int}{us:List Ua},Vals (ns.map V.int) us->PyProof.Rows.IntsAre us ns
 |[],_,.nil=>.nil
 |n::ns,_,.cons h t=>by obtain⟨tk,rfl⟩:=h;exact .cons n tk (W8 t)
def KZ(ns:List Int):Nat:=(PyProof.Rows.firstMet (λi=>ns.getD i 0) ns.length).length
theorem EJ(hc:X.calm=true):ZI X (.type "set") (λxs H Q=>∃l,∃ns:List Int,xs=[.ref l]/\SqL X.K H l (ns.map V.int)/\ns.length+1<4096/\∀S p,H p=none->Q (.ref p) (upd H p (.set S (KZ ns)))):=by
 intro pins s σ H xs us Q I rx h;obtain⟨l,ns,rfl,hq,hb,q⟩:=h;obtain⟨u,rfl,ru⟩:=rx.one;cases ru;obtain⟨its,rv,p,hz⟩:=I.list hq;have hi:=W8 rv;have hn:its.toArray.size=ns.length:=by have:=rv.length;rw[List.length_map]at this;simp;omega
 refine call_set_list (I.ok.hd hc) p.isList (ns:=ns) (by simpa using hi) (by rw[hn];exact hb) λh' tk hS hk=>?_
 rw[hn]at hS;refine⟨.ref s.heap.objs.size,_,I.laid (t':=tk) (λb o e=>hk b o (Qh e) e) (Qm _) (show Kz X.prog X.w _ h' _ (.set _ (KZ ns))from hS),rfl,q _ _ (I.hok.fresh (Qm _))⟩
theorem OI:ZI X (.builtin "len") (λxs H Q=>∃p S n,xs=[.ref p]/\H p=some (.set S n)/\Q (.int n) H):=by
 intro pins s σ H xs us Q I rx h;obtain⟨p,S,n,rfl,hp,q⟩:=h;obtain⟨u,rfl,ru⟩:=rx.one;cases ru;obtain⟨o,es,ep,t,h1,h2,h3,h4,h5,h6,h7,h8⟩:=(show s.heap.SetOf (intKind X.prog X.w) p S n from I.hok p _ hp)
 have hsb:scanBound=4096:=rfl;refine call_len_set h1 h2 h3 h7 (by omega) ?_;rw[h8];exact⟨.int n,H,I.tok _,⟨_,rfl⟩,q⟩
def Yl:List D->Option (List Int)
 |[]=>some []
 |.int i::r=>(Yl r).map (i :: ·)
 |_=>none
theorem Ra{K:Frag}{G:Hp}:∀{vs:List V}{ds:List D}{ns:List Int},Reps K G vs ds->Yl ds=some ns->vs=ns.map V.int
 |_,_,ns,.nil,e=>by cases e;rfl
 |_,_,ns,.cons (d:=d) r t,e=>by
  cases d with
  |int b=>
   unfold Yl at e;cases z:Yl _ with
   |none=>rw[z]at e;cases e
   |some cs=>rw[z]at e;cases e;rw[r.int_inv,Ra t z];rfl
  |_=>cases e
theorem O6(ns:List Int):Yl (ns.map int)=some ns:=by
 induction ns with
 |nil=>rfl
 |cons b r ih=>rw[Qx,Yl,ih];rfl
def W2:List D->Option D
 |[.list ds]=>(match Yl ds with
  |some ns=>if ns.length+1<4096 then some (.int (KZ ns))else none
  |none=>none)
 |_=>none
theorem CB{xs:List D}{d:D}(h:W2 xs=some d):∃ds ns,xs=[.list ds]/\Yl ds=some ns/\ns.length+1<4096/\d=.int (KZ ns):=by
 unfold W2 at h;split at h
 ·rename_i ds;cases z:Yl ds with
  |none=>rw[z]at h;cases h
  |some ns=>
   rw[z]at h;dsimp only at h;split at h
   ·rename_i c;cases h;exact⟨ds,ns,rfl,z,c,rfl⟩
   ·cases h
 ·cases h
theorem EI:bootBuiltins "set" = some (.type "set"):=by decide +kernel
theorem DY{f:M (List D)}(hc:X.calm=true)(hg:Gl X "len")(hm:X.mg "len" = none)(hg2:Gl X "set")(hm2:X.mg "set" = none)(ha:PA X [a] (tDs X.K B G0 f))(he:Ui [a] X.env=(false,eval a X.env)::Ui [] X.env:=by rfl)
  (he2:Ui [.Call (.Name "set" p2) [a] [] p3] X.env=(false,eval (.Call (.Name "set" p2) [a] [] p3) X.env)::Ui [] X.env:=by rfl) :
  PE X (.Call (.Name "len" p4) [.Call (.Name "set" p2) [a] [] p3] [] pos) (tD X.K B G0 (ZG W2 f)):=
 UW (VG OI hg hm boot_len (Z0 (Ti (EJ hc) hg2 hm2 EI ha (by decide) (by decide) he rfl) Yt he2) (by decide) (by decide) he2 rfl) λσ H Q q=>tM.one (R:=Reps X.K) q λvs H2 G ρ x k r a=>by obtain⟨d,e,a⟩:=a.opt;obtain⟨ds,ns,rfl,z,c,rfl⟩:=CB e;obtain⟨v,rfl,q1⟩:=r.one_inv;obtain⟨l,ws,rfl,h1,r1⟩:=q1.lst_inv;have:=Ra r1 z;subst this;refine⟨l,ns,rfl,k.gh.seq h1,c,λS p hp=>⟨p,S,KZ ns,rfl,Ki,?_⟩⟩;exact aft.done a k (Ext.hid k.gh hp) (.int _)
end
end DL
namespace L2
open PySem PySem.Spec PyProof.Rows
end L2
namespace DL
open PySem PySem.Spec L2
open PyProof.Rows hiding St
end DL
namespace L2
open PySem PySem.Spec PyProof.Rows
section
variable{prog:Uc}{w:World}{A:Around}{E:Ua->Ub->Prop}{s:Ub}{M:Model}{env:Env}
theorem Ge{pos:Pos}{T:String}{args:List (Bool×Sem Ua)}{kws:List (Option Str×Sem Ua)}{Q:Ua->Ub->Prop}(hp:args.any (·.1)=false)(hk:kws.any (·.1.isNone)=false)
  (h:Uh M A (evalArgs (.type T) true args kws) (λa s1=>Uh M A (call (.type T) a.pos a.kw) Q E s1) E s):Uh M A (callWith pos (.type T) [] args kws) Q E s:=by
 unfold callWith;refine Qd (wpAny_holding (Qy h (λa s1 h1=>Qd (Q8 ?_)) λ_ _ z=>z));simp only[hp,hk,Bool.false_or];refine Qd (Qj ?_);exact Qd (Qy h1 (λr s2 hr=>Qd (wpAny_holding (wpAny_point (Qj hr)))) λ_ _ z=>z)
theorem Fk(l:Ud)(t:Tok)(items:Array Ua)(n:Nat)(dct:Option Ud)(sl:Array (Option Ua)) :
  Meets (Builtin.«enumerate.__new__» ⟨[.type "enumerate", .ref l],[("start", .int 1 t)]⟩) (λ_ R s=>s.heap.get? l=some ⟨.type "list", dct,.seq items n,sl⟩ /\
   R (.ok (.ret (.ref (s.heap.push {cls:=.type "list_iterator", data:=.fields #[.ref l,.int 0 0]}).objs.size))) {s with heap:=(s.heap.push {cls:=.type "list_iterator", data:=.fields #[.ref l,.int 0 0]}).push {cls:=.type "enumerate", data:=.fields #[.none,.bool false,.ref s.heap.objs.size,rawInt 1,.none,.none]}}):=
 .of_wp λprog w A R s h=>by
  obtain⟨hp,g,d,tk,os⟩:=s;obtain⟨hl,h⟩:=h;have hsub:=sub_enumerate;have hL:Heap.IsList (Shared.heap ⟨hp,g,d,tk,os⟩) l items:=⟨_,hl,rfl,n,rfl⟩
  wp_walk using AutoSeq1.wpAny_loadPart' hl
  refine wpAny_stack_any λst=>(Qj ?_);split
  ·rename_i c _ _ _ _ _;cases (c==Value.type "enumerate")<;>(wp_walk using(AutoSeq1.wpAny_loadPart' hl),(Jv hL))<;>exact⟨_,rfl,h⟩
  ·(wp_walk using(AutoSeq1.wpAny_loadPart' hl),(Jv hL));exact⟨_,rfl,h⟩
theorem CI{T newId initId:String}{Bn Bi:Builtin}{args:List Ua}{kw:List (Str×Ua)}{S:PySem.Spec}{Q Q1:Ua->Ub->Prop}(ft:TypeCalled T newId initId)
  (hct:checkTypeCall T ⟨args,kw⟩=pure ()) (hcn:checkBuiltinCall newId ⟨.type T::args,kw⟩=pure ()) (eN:entryFor table newId=some Bn) (eI:entryFor table initId=some Bi)
  (g:Meets (Bn ⟨.type T::args,kw⟩) S) (h:S A.in1 (wants Q1 E) s)
  (hnext:∀obj s1,Q1 obj s1->s1.TypeIs obj T/\argsOk initId ⟨obj::args,kw⟩/\∃Si,Meets (Bi ⟨obj::args,kw⟩) Si/\Si A.in1 (wants (λr s2=>r=.none/\Q obj s2) E) s1) :
  Uh (model prog w) A (call (.type T) args kw) Q E s:=by
 obtain⟨c,tl,hmro⟩:=ft.mro;have hmade:=ft.made;have hsub:=ft.sub;refine wpAny_call (codeAny_of_tree ?_);show Uh _ _ (callAny (.type T) _) _ _ _;refine Qj ⟨Code.quiet_builtin _ (by decide +kernel),(codeAny_builtin F.entry_type_call ?_)⟩;rw[Around.under_plain (weight_type_call_type T args kw) (units_type_call_type T args kw)];have h1:=ft.notType;have h2:=ft.canCreate
 repeat' (any_goals (first|wp_step|assumption))
 refine codeAny_mono (codeAny_call_builtin ft.plain eN (wpAny_of_eq hcn (g prog w A.in1 _ s h))) λr s1 hr=>?_
 match r,hr with
 |.error e,hr=>exact hr
 |.ok (.ret obj),hr=>
  obtain⟨hT,hok,Si,gi,hsi⟩:=hnext _ _ hr;have hli:=ft.init.lookup;have hbi:=ft.init.bind obj
  repeat' (any_goals (first|wp_step|assumption))
  refine codeAny_mono (codeAny_call_builtin ft.init.plain eI (ft.init.check _ _ _ _ _ _ _ _ hT hok (gi prog w A.in1 _ s1 hsi))) λr2 s2 hr2=>?_
  match r2,hr2 with
  |.error e,hr2=>exact hr2
  |.ok (.ret r),hr2=>
   obtain⟨rfl,hq⟩:=hr2
   repeat' (any_goals (first|wp_step|assumption))
  |.ok .next,hr2=>exact hr2.elim
  |.ok .brk,hr2=>exact hr2.elim
  |.ok .cont,hr2=>exact hr2.elim
 |.ok .next,hr=>exact hr.elim
 |.ok .brk,hr=>exact hr.elim
 |.ok .cont,hr=>exact hr.elim
theorem CA{T newId:String}{self:Ua}{rest:List Ua}{kw:List (Str×Ua)}(hl:typeLookup (.type T) "__init__" = pure (some (.builtin "object.__init__")))
  (hm:Bind.madeBy (.type T)=pure (some newId)) (hne:(some newId != some "object.__new__")=true) :
  Meets (Builtin.«object.__init__» ⟨self::rest,kw⟩) (λ_ R s=>s.TypeIs self T/\R (.ok (.ret .none)) s):=by
 refine .of_wp λprog w A R s hs=>?_
 obtain⟨hT,hq⟩:=hs;cases rest with
 |nil=>
  cases kw with
  |nil=>exact Qj ⟨_,rfl,hq⟩
  |cons k kw=>(repeat' (any_goals (first|wp_step|assumption)));exact⟨_,rfl,hq⟩
 |cons a rest=>(repeat' (any_goals (first|wp_step|assumption)));exact⟨_,rfl,hq⟩
theorem Cz(a:Ua)(t:Tok):checkTypeCall "enumerate" ⟨[a],[("start", .int 1 t)]⟩=pure ():=by kernel_rfl
theorem DX(a:Ua)(t:Tok):checkBuiltinCall "enumerate.__new__" ⟨[.type "enumerate", a],[("start", .int 1 t)]⟩=pure ():=by kernel_rfl
theorem Cy(o a:Ua)(t:Tok):argsOk "object.__init__" ⟨[o,a],[("start", .int 1 t)]⟩:=by unfold argsOk;kernel_rfl
theorem DW{l:Ud}{items:Array Ua}{t:Tok}{Q:Ua->Ub->Prop}(hL:s.heap.IsList l items)
  (h:∀h',IsEnum h' (s.heap.objs.size+1) s.heap.objs.size 1 .none->h'.IsListIter s.heap.objs.size l 0->(∀b o,s.heap.get? b=some o->h'.get? b=some o)->Q (.ref (s.heap.objs.size+1)) {s with heap:=h'}) :
  Uh (model prog w) A (call (.type "enumerate") [.ref l] [("start", .int 1 t)]) Q E s:=by
 obtain⟨⟨c,dct,dt,sl⟩,hl,hc,n,hd⟩:=hL;replace hc:c=.type "list" :=hc;replace hd:dt=.seq items n:=hd;subst hc hd;have hz:(s.heap.push {cls:=.type "list_iterator", data:=.fields #[.ref l,.int 0 0]}).objs.size=s.heap.objs.size+1:=Heap.size_push ..;have he:IsEnum ((s.heap.push {cls:=.type "list_iterator", data:=.fields #[.ref l,.int 0 0]}).push {cls:=.type "enumerate", data:=.fields #[.none,.bool false,.ref s.heap.objs.size,rawInt 1,.none,.none]}) (s.heap.objs.size+1) s.heap.objs.size 1 .none:=by rw[←hz];exact Qv _ rfl
 refine CI F.called_enumerate (Cz _ t) (DX _ t) F.entry_enumerate_new F.entry_object_init (Fk l t items n dct sl) (Q1:=λobj s1=>s1.TypeIs obj "enumerate" /\ Q obj s1) ⟨hl,?_⟩ λobj s1 hq=>
  ⟨hq.1,Cy obj _ t,_,CA F.called_enumerate.init.lookup F.called_enumerate.made (by decide),hq.1,rfl,hq.2⟩
 show _/\_;rw[hz];exact⟨⟨_,he,rfl⟩,h _ he ⟨_,Qi _ (Qv _ rfl),rfl,rfl⟩ λb o x=>Qi _ (Qi _ x)⟩
end
section
variable{prog:Uc}{w:World}{A:Around}{E:Ua->Ub->Prop}{s:Ub}
theorem EH{en it l:Ud}{i:Nat}{j:Int}{items:Array Ua}{x old:Ua}{Q:Option Ua->Ub->Prop}(st:IsEnum s.heap en it j old)(li:s.heap.IsListIter it l i)(ls:s.heap.IsList l items)
  (at_:items[i]?=some x) (ne:en≠it)
  (k:∀h',IsEnumOut h' en it (j+1) x s.heap.objs.size->h'.IsListIter it l (i+1)->h'.get? s.heap.objs.size=some {cls:=.type "tuple", data:=.seq #[.int j s.toks,x]}->(∀b o,b≠en->b≠it->s.heap.get? b=some o->h'.get? b=some o) ->
   Q (some (.ref s.heap.objs.size)) {s with heap:=h',toks:=s.toks+1}):Uh (model prog w) A (pyNext (.ref en)) Q E s:=by
 have ty:s.TypeIs (.ref en) "enumerate" :=⟨_,st,rfl⟩
 have lt:en<s.heap.objs.size:=Qh st;unfold pyNext;refine Qd (wpAny_attempt (wpAny_callSpecial?_slot (name:=Uv "__next__") ty F.slot_enumerate_next (wpAny_call_entry F.slot_enumerate_next ty F.entry_enumerate_next ?_ (F.args_enumerate_next_1 _))));show Uh _ _ (field (.ref en) 2 >>= _) _ _ s;refine Qd (wpAny_field st rfl (x:=.ref it) rfl ?_);refine Qd (wpAny_nextOf_list_item li ls at_ λm1 li1 c1=>?_);have c1:Heap.SameBut it s.heap m1:=c1;have st1:IsEnum m1 en it j old:=(c1.2 en ne).trans st;show Uh _ _ (field (.ref en) 3 >>= _) _ _ {s with heap:=m1};refine Qd (wpAny_field st1 rfl (x:=rawInt j) rfl ?_);show Uh _ _ (field (.ref en) 4 >>= _) _ _ {s with heap:=m1};refine Qd (wpAny_field st1 rfl (x:=.none) rfl ?_);show Uh _ _ (mkInt j >>= _) _ _ {s with heap:=m1};refine Qd (wpAny_mkInt ?_);show Uh _ _ (setField (.ref en) 3 (rawInt (j+1)) >>= _) _ _ {s with heap:=m1,toks:=s.toks+1};refine wpAny_bind (wpAny_setField_rec st1 (by simp) λm2 st2 c2=>?_);have c2:Heap.SameBut en m1 m2:=c2;have st2:IsEnum m2 en it (j+1) old:=st2;show Uh _ _ (setField (.ref en) 4 .none >>= _) _ _ {s with heap:=m2,toks:=s.toks+1};refine wpAny_bind (wpAny_setField_rec st2 (by simp) λm3 st3 c3=>?_);have c3:Heap.SameBut en m2 m3:=c3;have st3:IsEnum m3 en it (j+1) old:=st3;show Uh _ _ (newTuple [.int j s.toks,x] >>= _) _ _ {s with heap:=m3,toks:=s.toks+1};refine Qd (wpAny_newTuple ?_);have z3:m3.objs.size=s.heap.objs.size:=c3.1.trans (c2.1.trans c1.1);have st4:IsEnum (m3.push {cls:=.type "tuple", data:=.seq #[.int j s.toks,x]}) en it (j+1) old:=Qi _ (show IsEnum m3 en it (j+1) old from st3);have tp4:(m3.push {cls:=.type "tuple", data:=.seq #[.int j s.toks,x]}).get? s.heap.objs.size=some {cls:=.type "tuple", data:=.seq #[.int j s.toks,x]}:=by rw[←z3];exact Qv _ rfl
 have kp4:∀b o,b≠en->b≠it->s.heap.get? b=some o->(m3.push {cls:=.type "tuple", data:=.seq #[.int j s.toks,x]}).get? b=some o:=λb o n1 n2 q=>Qi _ ((c3.2 b n1).trans ((c2.2 b n1).trans ((c1.2 b n2).trans q)))
 have li4:(m3.push {cls:=.type "tuple", data:=.seq #[.int j s.toks,x]}).IsListIter it l (i+1):=by obtain⟨o,q,r⟩:=li1;exact⟨o,Qi _ ((c3.2 it (Ne.symm ne)).trans ((c2.2 it (Ne.symm ne)).trans q)),r⟩
 generalize m3.push {cls:=.type "tuple", data:=.seq #[.int j s.toks,x]}=m4 at st4 tp4 kp4 li4;show Uh _ _ (Builtin.SmallTypes.ownedTupleIsFree (.ref en) >>= _) _ _ {s with heap:=m4,toks:=s.toks+1};rw[z3];refine Qd ?_;unfold Builtin.SmallTypes.ownedTupleIsFree Builtin.SmallTypes.ownedTupleHandOut;refine Qd (wpAny_field st4 rfl (x:=.none) rfl (Qj ?_));simp only[if_true];refine wpAny_bind (wpAny_rule (wpAny_bind (wpAny_field st4 rfl (x:=old) rfl (wpAny_bind (wpAny_setField_rec st4 (by simp) λm5 st5 c5=>?_)))));have c5:Heap.SameBut en m4 m5:=c5;have st5:IsEnum m5 en it (j+1) x:=st5;refine wpAny_bind (wpAny_bind (wpAny_setField_rec st5 (by simp) λm6 st6 c6=>?_));have c6:Heap.SameBut en m5 m6:=c6;have st6:IsEnumOut m6 en it (j+1) x s.heap.objs.size:=st6;refine wpAny_setField_rec st6 (by simp) λm7 st7 c7=>?_
 have c7:Heap.SameBut en m6 m7:=c7;have st7:IsEnumOut m7 en it (j+1) x s.heap.objs.size:=st7;have up:∀b,b≠en->m7.get? b=m4.get? b:=λb n=>(c7.2 b n).trans ((c6.2 b n).trans (c5.2 b n));refine Qd (wpAny_letGo (Qj ⟨_,rfl,Qj (k m7 st7 ?_ ((up _ (Jw lt)).trans tp4) λb o n1 n2 q=>(up b n1).trans (kp4 b o n1 n2 q))⟩))
 obtain⟨o,q,r⟩:=li4;exact⟨o,(up it (Ne.symm ne)).trans q,r⟩
theorem EG{en it l:Ud}{i:Nat}{j:Int}{items:Array Ua}{old:Ua}{Q:Option Ua->Ub->Prop}(hh:A.handled=none)(st:IsEnum s.heap en it j old)(li:s.heap.IsListIter it l i)(ls:s.heap.IsList l items)
  (at_:items[i]?=none) (k:∀h',Heap.ExtBut it s.heap h'->Q none {s with heap:=h'}):Uh (model prog w) A (pyNext (.ref en)) Q E s:=by
 have ty:s.TypeIs (.ref en) "enumerate" :=⟨_,st,rfl⟩
 unfold pyNext;refine Qd (wpAny_attempt (wpAny_callSpecial?_slot (name:=Uv "__next__") ty F.slot_enumerate_next (wpAny_call_entry F.slot_enumerate_next ty F.entry_enumerate_next ?_ (F.args_enumerate_next_1 _))));show Uh _ _ (field (.ref en) 2 >>= _) _ _ s;refine Qd (wpAny_field st rfl (x:=.ref it) rfl (Qd (m:=Builtin.SmallTypes.nextOf (.ref it)) (wpAny_nextOf_list_end hh li ls at_ λh' z c y=>?_)));obtain⟨o,q,t⟩:=y;exact Qd (wpAny_isInstance (T:= "StopIteration") (b:=true) ⟨o,q,t⟩ isSubtype_stop (Qj (k _ c)))
end
def WI(K:Frag)(a:Ud):It:=
 ⟨λi H=>∃xs x,SqL K H a xs/\xs[i]?=some x,
  λi H v H'=>∃p x,H p=none/\v=.ref p/\(∀xs,SqL K H a xs->xs[i]?=some x)/\H'=upd H p (.tup [.int (1+(i:Int)),x]),
  λi H=>∃xs,SqL K H a xs/\xs.length<=i⟩
theorem Cg{P:Uc}{w:World}{K:Frag}{elts:List Uf}{x1}{tp:Pos}(a e it:Ud)(hne:e≠it) :
  Turn P w K (.Tuple elts x1 tp) (WI K a) [e,it] e (λi h=>(∃old,IsEnum h e it (1+(i:Int)) old)/\h.IsListIter it a i) where
 mem:=by simp
 obj:=λi h st b hb=>by
  obtain⟨⟨old,he⟩,o,ho,c,d⟩:=st;have hb':b=e∨b=it:=by simpa using hb
  rcases hb' with rfl|rfl
  ·exact⟨_,he,λv z=>by have z':Data.fields _=Data.cell v:=z;cases z'⟩
  ·exact⟨o,ho,λv z=>by rw[d]at z;cases z⟩
 keep:=λi h h' st k=>by obtain⟨⟨old,he⟩,hi⟩:=st;exact⟨⟨old,k e (by simp) _ he⟩,hi.at λo q=>k it (by simp) o q⟩
 item:=by
  intro X hP hw hK hc i pins s σ H E I hf st hg;subst hP hw hK;obtain⟨⟨old,he⟩,hi⟩:=st;obtain⟨xs,x,hq,hx⟩:=hg;obtain⟨its,rv,p,hz⟩:=I.list hq;obtain⟨u,hu,ru⟩:=rv.get hx;refine EH he hi p.isList (x:=u) (by simpa using hu) hne λh1 out hi1 ht kk=>?_
  refine⟨_,rfl,wpAny_letOwnedTupleGo_enum out λh2 he2 hs2=>?_⟩;have hel:e<s.heap.objs.size:=Qh he;have hs2':Heap.SameBut e h1 h2:=hs2;have ht2:h2.get? s.heap.objs.size=some {cls:=.type "tuple", data:=.seq #[.int (1+(i:Int)) s.toks,u]}:=(hs2'.2 _ (Jw hel)).trans ht
  have kk2:∀b o,b∉[e,it]->s.heap.get? b=some o->h2.get? b=some o:=λb o hb q=>by
   have hbe:b≠e:=λz=>hb (by simp[z])
   have hbi:b≠it:=λz=>hb (by simp[z])
   exact(hs2'.2 b hbe).trans (kk b o hbe hbi q)
  have hn:H s.heap.objs.size=none:=I.hok.fresh (Qm _)
  have I2:Inv X pins σ (upd H s.heap.objs.size (.tup [.int (1+(i:Int)),x])) {s with heap:=h2,toks:=s.toks+1}:=
   I.turnedNew (fp:=[e,it]) hf kk2 (Qm _) ⟨by show 2<=Ug;decide,[.int (1+(i:Int)) s.toks,u],.cons ⟨_,rfl⟩ (.cons ru .nil),⟨_,ht2,rfl,_,rfl⟩⟩
  refine⟨.ref s.heap.objs.size,_,I2,rfl,⟨_,x,hn,rfl,λys hy=>by rw[I.list_inj hy hq];exact hx,rfl⟩,⟨⟨u,?_⟩,?_⟩,λb hb=>?_⟩
  ·have e2:(1+((i+1:Nat):Int))=1+(i:Int)+1:=by omega
   rw[e2];exact he2
  ·exact hi1.at λo q=>(hs2'.2 it (Ne.symm hne)).trans q
  ·have hlt:b<s.heap.objs.size:=by
    have hb':b=e∨b=it:=by simpa using hb
    rcases hb' with rfl|rfl
    ·exact hel
    ·obtain⟨o,ho,_⟩:=hi;exact Qh ho
   rw[U0 (QD hlt)];exact(hf b hb).1
 done:=by intro X hP hw hK hc i pins s σ H E I hf st hg;subst hP hw hK;obtain⟨⟨old,he⟩,hi⟩:=st;obtain⟨xs,hq,hx⟩:=hg;obtain⟨its,rv,p,hz⟩:=I.list hq;have hl:=rv.length;exact EG (I.ok.hd hc) he hi p.isList (by simp;omega) λh' eb=>⟨rfl,I.turnedL (t':=s.toks) hf λb o hb q=>eb b o (λz=>hb (by simp[z])) q⟩
 self:=λ_ _ _ _ _ st h=>by obtain⟨⟨old,he⟩,_⟩:=st;exact wpAny_pyIter_enum he h
section
variable{X:Cx}
theorem Fj{a:Uf}{ta:TA}{p pos k1 k2:Pos}{j}{elts:List Uf}{x1}{tp:Pos}(hg:Gl X "enumerate")(hm:X.mg "enumerate" = none)(ha:PA X [a] ta)
  (hs:backTo pos (Ui [a] X.env)=(false,eval a X.env)::backTo pos (Ui [] X.env):=by rfl) (hpl:(backTo pos (Ui [a] X.env)).any (·.1)=false:=by rfl) :
  PI X (.Tuple elts x1 tp) (.Call (.Name "enumerate" p) [a] [⟨some "start", .Constant (.int 1) j k1,k2⟩] pos) (λσ H R=>ta σ H λvs H1=>∃a xs,vs=[.ref a]/\SqL X.K H1 a xs/\R (WI X.K a) H1):=by
 intro pins s σ H R I h;refine wpAny_Call_Name_kw (XJ I hg hm boot_enumerate (Ge hpl rfl ?_));rw[hs];refine evalArgs_kwB rfl ?_;rw[←hs];refine thn (ha pos pins s σ H _ I h) λus s1 ⟨vs,H1,I1,r1,q1⟩=>?_;refine kws_cons (wpAny_Constant_int (kws_nil ?_))
 obtain⟨l,xs,e,hq,q⟩:=q1;subst e;cases r1 with
 |cons r rr=>
  cases rr;cases (show _=Value.ref l from r);have I1':=I1.tok (s1.toks+1);obtain⟨its,rv,pl,hz⟩:=I1'.list hq;refine DW pl.isList λh' he hi kk=>?_;have I2:Inv X pins σ H1 {s1 with heap:=h',toks:=s1.toks+1}:=I1'.kept (t':=s1.toks+1) kk;refine wpAny_pyIter_enum he ?_
  refine⟨s1.heap.objs.size+1,[s1.heap.objs.size+1,s1.heap.objs.size],_,_,H1,rfl,I2,Cg l _ _ (Nat.succ_ne_self _),⟨⟨_,he⟩,hi⟩,λb hb=>?_,q⟩;have hb':b=s1.heap.objs.size+1∨b=s1.heap.objs.size:=by simpa using hb
  rcases hb' with rfl|rfl
  ·exact I1.fpOk (JH _) (I1.hok.fresh (JH _))
  ·exact I1.fpOk (Qm _) (I1.hok.fresh (Qm _))
end
end L2
namespace DL
open PySem PySem.Spec L2
open PyProof.Rows hiding St
section
variable{X:Cx}{B G0:Hp}{e a b c tg:Uf}{pos:Pos}{es rest:List Uf}
theorem Cw{K:Frag}{G1:Hp}{ad:Ud}{vs:List V}{ds:List D}(h:SqL K G1 ad vs)(r:Reps K G1 vs ds):ZR K (WI K ad) (Za 1 ds) G1 where
 go:=λi G H s1 s2 hi=>by
  rw[YV]at hi;have hi':i<vs.length:=by rw[r.length];exact hi
  exact⟨vs,vs[i],(s1.trans s2).seq h,Qb hi'⟩
 stop:=λi G H s1 s2 hi=>by rw[YV]at hi;exact⟨vs,(s1.trans s2).seq h,by rw[r.length];exact hi⟩
 yld:=λi G H x H' d s1 s2 e y=>by
  obtain⟨p,v,hp,rfl,y1,rfl⟩:=y;have z1:=y1 vs ((s1.trans s2).seq h);rw[SR]at e;cases q:ds[i]? with
  |none=>rw[q]at e;cases e
  |some dd=>
   rw[q]at e;cases e;obtain⟨v',e1,r1⟩:=r.get q;rw[z1]at e1;cases e1;refine⟨upd G p (.tup [.int (1+(i:Int)),v]),Ext.new s2 hp,.tup (SqT.of Ki) (.cons ?_ (.cons ((r1.mono s1).mono (Kw (s2.free hp))) .nil))⟩;have:((1+i:Nat):Int)=1+(i:Int):=by omega
   rw[this];exact .int _
def WU:List D->Option (List D)
 |[.list ds]=>some (Za 1 ds)
 |_=>none
def V7(f:M (List D)):M (List D):=UO f λx=>US (WU x)
theorem Cf{x l:List D}(h:WU x=some l):∃ds,x=[.list ds]/\l=Za 1 ds:=by
 unfold WU at h;split at h
 ·cases h;exact⟨_,rfl,rfl⟩
 ·cases h
theorem F2{f:M (List D)}{p2 k1 k2:Pos}{j}{elts:List Uf}{x1}{tp:Pos}(hg:Gl X "enumerate")(hm:X.mg "enumerate" = none)(ha:PA X [a] (tDs X.K B G0 f))
  (hs:backTo pos (Ui [a] X.env)=(false,eval a X.env)::backTo pos (Ui [] X.env):=by rfl) (hpl:(backTo pos (Ui [a] X.env)).any (·.1)=false:=by rfl) :
  PI X (.Tuple elts x1 tp) (.Call (.Name "enumerate" p2) [a] [⟨some "start", .Constant (.int 1) j k1,k2⟩] pos) (iD X.K B G0 (V7 f)):=Z5 (Fj hg hm ha hs hpl) λσ H R q=>tM.toI (R0:=Reps X.K) q λv H' G' ρ' x k r a=>by
 cases z:WU x with
 |none=>rw[z]at a;exact a.elim
 |some l=>rw[z]at a;obtain⟨ds,rfl,rfl⟩:=Cf z;obtain⟨v,rfl,q⟩:=r.one_inv;obtain⟨l,ws,rfl,h1,r1⟩:=q.lst_inv;exact⟨l,ws,rfl,k.gh.seq h1,a _ G' H' k (.refl _) (Cw h1 r1)⟩
end
section
variable{X:Cx}{B G0:Hp}{e o:Uf}{es:List Uf}
theorem Cv{h:Heap}{vs:List Ua}{xs:List D}{as:List Ud}{d:D}(rs:ReadsAll h vs xs as)(hxs:Ur xs=true) :
  vs.countP (λy=>Ut (SeqAt.readOf h y) d)=xs.countP (λy=>Ut y d):=by
 have key:xs=vs.map (SeqAt.readOf h):=(SeqAt.readsAll_map xs vs as hxs rs).symm;rw[key,List.countP_map];rfl
def XT(y x:D):Option D:=match y with
 |.list ds=>if x.canLay0=true/\Ur ds=true/\x.depth<=60 then some (.int (ds.countP λy=>Ut y x))else none
 |_=>none
theorem F1(hu:X.A.units+64<cLine):MtR X "list.count" (λv vs H Q=>∃G u y x d,vs=[u]/\Same G H/\Rep X.K G v y/\Rep X.K G u x/\XT y x=some (.int d)/\Q (.int d) H):=by
 intro pins s σ H x xs v us Q I rx rs h;obtain⟨G,u,dy,dx,d,rfl,sg,py,px,e,q⟩:=h;obtain⟨w,rfl,rw'⟩:=rs.one;unfold XT at e;split at e
 ·rename_i ds;split at e
  ·rename_i c;obtain⟨bs,rb⟩:=ZK I sg py rx (show Ur _=true from c.2.1);obtain⟨as,ra⟩:=ZK I sg px rw' c.1;cases rb with
   |list h1 h2 h3 h4=>rename_i l ob its cs n;obtain⟨cls,dd,data,sl⟩:=ob;simp only at h2 h3;subst h2 h3;refine call_meets F.slot_list_count ⟨_,h1,rfl⟩ F.entry_list_count (F.args_list_count_2 _ _) (SeqAt.list_countAt _ _ _ dd sl _ (λy=>Ut (SeqAt.readOf s.heap y) dx)) ⟨h1,SeqAt.items_eqAt h4 ra c.2.1 c.1 (by have:=c.2.2;omega),?_⟩;rw[Cv h4 c.2.1];cases e;exact⟨.int _,H,I.tok _,⟨_,rfl⟩,q⟩
  ·cases e
 ·cases e
def Te(y:D)(xs:List D):Option D:=match xs with
 |[x]=>XT y x
 |_=>none
theorem Cu{ds xs:List D}{d:D}(h:Te (.list ds) xs=some d):∃x n,xs=[x]/\d=.int n/\XT (.list ds) x=some (.int n):=by
 unfold Te at h;split at h
 ·rename_i x;have h':=h;unfold XT at h;dsimp only at h;split at h
  ·cases h;exact⟨x,_,rfl,rfl,h'⟩
  ·cases h
 ·cases h
def XG(f:M D)(g:M (List D)):M D:=UO f λy=>UO g λxs=>US (match y with | .list ds=>Te (.list ds) xs|_=>none)
theorem EF{apos cpos:Pos}{f:M D}{g:M (List D)}(hu:X.A.units+64<cLine)(ho:PE X o (tD X.K B G0 f))(ha:PA X (e::es) (tDs X.K B G0 g))
  (hbase:attributeBase o "count" X.env (eval o X.env)=eval o X.env:=by rfl)
  (hfew:((backTo cpos (Ui (e::es) X.env)).all (λx=>!x.1)&&(backToKw cpos (keywordEach [] X.env)).all (λx=>x.1.isSome)
   && decide ((e::es).length+([]:List Keyword).length+(if([]:List Keyword).isEmpty then 0 else 1)<30))=true:=by rfl)
  (hline:(apos.endLine==cpos.line)=true:=by rfl) (hs:Ui (e::es) X.env=(false,eval e X.env)::Ui es X.env:=by rfl) (hplain:(backTo cpos (Ui es X.env)).any (·.1)=false:=by rfl) :
  PE X (.Call (.Attribute o "count" apos) (e::es) [] cpos) (tD X.K B G0 (XG f g)):=
 UW (Vk F.plainAttrs_list F.slot_list_count F.type_list_count (F1 hu) ho ha hbase hfew hline hs hplain) λσ H Q q=>by
  refine tM.one (R:=Rep X.K) q λv H2 G ρ y k r a=>?_
  cases y with
  |list ds=>
   obtain⟨l,ws,rfl,h1,r1⟩:=r.lst_inv;refine⟨.inl ⟨rfl,ws,k.gh.seq h1⟩,?_⟩;refine tM.nx (R:=Reps X.K) k a λxs H3 G3 ρ3 es k3 s3 r3 a3=>?_
   obtain⟨d,e,a3⟩:=a3.opt;obtain⟨x,n,rfl,rfl,e'⟩:=Cu e;obtain⟨u,rfl,ru⟩:=r3.one_inv;exact⟨G3,u,.list ds,x,n,rfl,k3.gh,r.mono s3,ru,e',aft.now a3 k3 (.int _)⟩
  |_=>
   unfold UO at a;cases z:g ρ with
   |bad=>rw[z]at a;exact a.elim
   |ok xs ρ1=>rw[z]at a;exact a.elim
theorem SH{f:M D}{g:M (List D)}{ρ ρ1 ρ2:UB}{ds:List D}{x d:D}(h1:f ρ=.ok (.list ds) ρ1)(h2:g ρ1=.ok [x] ρ2)(h3:XT (.list ds) x=some d):XG f g ρ=.ok d ρ2:=by unfold XG UO;rw[h1];dsimp only;rw[h2];dsimp only[Te];rw[h3];rfl
end
section
variable{prog:Uc}{w:World}{A:Around}{R:Result->Ub->Prop}{h0:Heap}{l I S:Ud}{rs:List (Ud×List Ua)}
def Yd(h h':Heap):Prop:=∀b o,h.get? b=some o->h'.get? b=some o
def Ls1(h:Heap)(a:Ud)(its:List Ua)(sl:Array (Option Ua)):Prop:=∃n,h.get? a=some {cls:=.type "list", dict:=none,data:=.seq its.toArray n,slots:=sl}
def Ls(h:Heap)(a:Ud)(its:List Ua):Prop:=∃n sl,h.get? a=some {cls:=.type "list", dict:=none,data:=.seq its.toArray n,slots:=sl}
theorem Ls.kept{h h':Heap}{a:Ud}{its:List Ua}(x:Ls h a its)(k:Yd h h'):Ls h' a its:=by obtain⟨n,sl,e⟩:=x;exact⟨n,sl,k _ _ e⟩
theorem Ce(hh:A.in1.handled=none)(hI:h0.objs.size<=I)(hS:h0.objs.size<=S)(hIS:S≠I)(hl:h0.IsList l (rs.map λp=>Value.ref p.1).toArray)(hr:∀p∈rs,Ls h0 p.1 p.2) :
  ∀(k i:Nat)(s:Ub)(t:Ud)(acc:List Ua)(c:Nat)(sl:Array (Option Ua)),rs.length-i=k->i<=rs.length->Yd h0 s.heap->s.heap.IsListIter I l i ->
   s.heap.get? S=some {cls:=.type "list", dict:=none,data:=.seq #[.ref t] c,slots:=#[]}->t≠S->t≠I->Ls1 s.heap t acc sl->acc.length+((rs.drop i).map (·.2)).flatten.length<=Ug ->
   (∀p h' tk sl',Yd h0 h'->Ls1 h' p (acc++((rs.drop i).map (·.2)).flatten) sl'->(p=t/\i=rs.length/\sl'=sl∨h0.objs.size<=p/\sl'=#[])->R (.ok (.ret (.ref p))) {s with heap:=h',toks:=tk}) ->
   codeAny (model prog w) A (.builtin "sum.loop" ⟨[.ref I,.ref S,rawInt 2,rawInt 0],[]⟩) R s:=by
 intro k;induction k with
 |zero=>
  intro i s t acc c sl hk hi hK hit hSS htS htI ht hz hR;have hin:i=rs.length:=by omega
  subst hin;refine codeAny_builtin F.entry_sum_loop ?_;rw[Around.under_plainId F.plain_sum_loop _];show Uh _ A.in1 (seqItems? (.ref S) >>= _) _ _ s;refine Qd (wpAny_seqItems hSS rfl ?_);show Uh _ A.in1 (tryCatch (pyNext (.ref I)) _ >>= _) _ _ s;have hl':s.heap.IsList l (rs.map λp=>Value.ref p.1).toArray:=by obtain⟨o,e,r⟩:=hl;exact⟨o,hK _ _ e,r⟩
  refine wpAny_bind (wpAny_tryCatch (wpAny_pyNext_list_end hh hit hl' (by simp) λh' ex=>?_));refine Qj (hR t h' s.toks sl (λb o e=>?_) ?_ (.inl ⟨rfl,rfl,rfl⟩))
  ·exact ex b o (QD (QB (Qh e) hI)) (hK b o e)
  ·obtain⟨n,e⟩:=ht;rw[List.drop_length,List.map_nil,List.flatten_nil,Q5];exact⟨n,ex _ _ htI e⟩
 |succ k ih=>
  intro i s t acc c sl hk hi hK hit hSS htS htI ht hz hR;have hlt:i<rs.length:=by omega
  refine codeAny_builtin F.entry_sum_loop ?_;rw[Around.under_plainId F.plain_sum_loop _];show Uh _ A.in1 (seqItems? (.ref S) >>= _) _ _ s;refine Qd (wpAny_seqItems hSS rfl ?_);show Uh _ A.in1 (tryCatch (pyNext (.ref I)) _ >>= _) _ _ s;have hl':s.heap.IsList l (rs.map λp=>Value.ref p.1).toArray:=by obtain⟨o,e,r⟩:=hl;exact⟨o,hK _ _ e,r⟩
  refine wpAny_bind (wpAny_tryCatch (wpAny_pyNext_list_item (x:=.ref (rs[i]'hlt).1) hit hl' (by simp[hlt]) λh' hit' sb=>?_));show Uh _ A.in1 ((holding [Value.ref (rs[i]'hlt).1] (binaryOp .Add (.ref t) (.ref (rs[i]'hlt).1))).attempt >>= _) _ _ _;refine Qd (wpAny_attempt (wpAny_holding ?_));have hm:rs[i]'hlt∈rs:=Jd hlt;have hd:rs.drop i=rs[i]'hlt::rs.drop (i+1):=JC hlt;have hK':Yd h0 h':=λb o e=>(sb.2 b (QD (QB (Qh e) hI))).trans (hK b o e)
  obtain⟨n1,e1⟩:=ht;have e1':=(sb.2 t htI).trans e1;obtain⟨n2,s2,e2⟩:=(hr _ hm).kept hK';have hSS':=(sb.2 S hIS).trans hSS;rw[hd,Qx,QO,Qk]at hz;refine concat_meets ⟨_,e1',rfl⟩ ⟨_,e2,rfl⟩ noFill_list_add seq_list_add PySem.F.slot_list_add PySem.F.entry_list_add (PySem.F.args_list_add_2 _ _) (list_addW t _ acc.toArray _ n1 n2 none none sl s2 (by rw[QE,QE];omega)) ⟨e1',e2,?_⟩;have hlS:S<h'.objs.size:=Qh hSS';have hlI:I<h'.objs.size:=by obtain⟨o,e,_⟩:=hit';exact Qh e
  have ea:acc.toArray++(rs[i]'hlt).2.toArray=(acc++(rs[i]'hlt).2).toArray:=by simp
  rw[ea];have hP:∀b o,h'.get? b=some o->(h'.push {cls:=Value.type "list", data:=Data.seq (acc++(rs[i]'hlt).2).toArray}).get? b=some o:=λb o e=>Qi _ e
  have hS1:=hP _ _ hSS';have hNew:(h'.push {cls:=Value.type "list", data:=Data.seq (acc++(rs[i]'hlt).2).toArray}).get? h'.objs.size=some {cls:=Value.type "list", data:=Data.seq (acc++(rs[i]'hlt).2).toArray}:=Qv _ rfl;show Uh _ A.in1 (updateSeq S (λ_=>#[.ref h'.objs.size]) >>= _) _ _ _;refine Qd (wpAny_updateSeq hS1 rfl ?_);have hS2:=Heap.get?_update_self (Obj.mapSeq λ_=>#[Value.ref h'.objs.size]) hS1 rfl;refine Qd (wpAny_letGo ?_);refine Qd (wpAny_updateSeq hS2 rfl (Qj ⟨plainId_quiet F.plain_sum_loop _,?_⟩));have oth:∀b o,b≠S->(h'.push {cls:=Value.type "list", data:=Data.seq (acc++(rs[i]'hlt).2).toArray}).get? b=some o->(((h'.push {cls:=Value.type "list", data:=Data.seq (acc++(rs[i]'hlt).2).toArray}).update S (Obj.mapSeq λx=>#[Value.ref h'.objs.size])).update S (Obj.mapSeq λx=>#[Value.ref h'.objs.size])).get? b=some o:=λb o hb e=>(Heap.get?_update_other _ _ (Ne.symm hb)).trans ((Heap.get?_update_other _ _ (Ne.symm hb)).trans e)
  refine ih (i+1) _ h'.objs.size (acc++(rs[i]'hlt).2) _ #[] (by omega) hlt ?_ ?_ (Heap.get?_update_self _ hS2 rfl) (Jw hlS) (Jw hlI) ?_ (by rw[Qk];omega) λp h'' tk sl' hk'' hp hq=>?_
  ·exact λb o e=>oth b o (QD (QB (Qh e) hS)) (hP b o (hK' b o e))
  ·obtain⟨o,e,r⟩:=hit';exact⟨o,oth I o (Ne.symm hIS) (hP I o e),r⟩
  ·exact⟨_,oth _ _ (Jw hlS) hNew⟩
  ·refine hR p h'' tk sl' hk'' ?_ (.inr ?_)
   ·rw[hd,Qx,QO,←Jp];exact hp
   ·rcases hq with ⟨rfl, -,e⟩|hq
    ·exact⟨Nat.le_of_lt (Nat.lt_of_le_of_lt hS hlS),e⟩
    ·exact hq
end
section
variable{prog:Uc}{w:World}{A:Around}{E:Ua->Ub->Prop}{s:Ub}{l z:Ud}{rs:List (Ud×List Ua)}
theorem EE(a b:Ua):argsOk "sum" ⟨[a,b],[]⟩:=by unfold argsOk;kernel_rfl
theorem Cd{Q:Ua->Ub->Prop}(hh:A.handled=none)(hl:s.heap.IsList l (rs.map λp=>Value.ref p.1).toArray)(hr:∀p∈rs,Ls s.heap p.1 p.2)(hz:Ls s.heap z [])(hb:(rs.map (·.2)).flatten.length<=Ug)
  (h:∀p h' tk sl',Yd s.heap h'->Ls1 h' p (rs.map (·.2)).flatten sl'->(p=z/\rs=[]∨s.heap.objs.size<=p/\sl'=#[])->Q (.ref p) {s with heap:=h',toks:=tk}) :
  Uh (model prog w) A (call (.builtin "sum") [.ref l,.ref z]) Q E s:=by
 refine call_function_tree F.kind_sum F.plain_sum F.entry_sum (EE _ _) ?_;unfold Builtin.«sum»;simp only[QA,Q2];rw[QJ (by decide)];refine Qd (wpAny_of_eq (show Builtin.Builtins.bindParams "sum" ["start"] 0 ⟨[.ref z],[]⟩=pure [some (.ref z)]from rfl) ?_);refine Qd (Jv hl ?_);refine Qd (Qj ?_);obtain⟨n,sl,ez⟩:=id hz;have ty:∀h:Heap,h.get? z=some {cls:=.type "list", dict:=none,data:=.seq [].toArray n,slots:=sl}->({s with heap:=h}:Ub).TypeIs (.ref z) "list" :=λh e=>⟨_,e,rfl⟩
 have ez':(s.heap.push {cls:=.type "list_iterator", data:=.fields #[.ref l,.int 0 0]}).get? z=_:=Qi _ ez;simp only[List.forIn_cons,List.forIn_nil];refine Qd (Qd (Qd (wpAny_isInstance (T:= "list") (b:=false) (ty _ ez') F.sub_list_str ?_)));simp only[JQ,if_false];refine Qj (Qd (Qd (wpAny_isInstance (T:= "list") (b:=false) (ty _ ez') F.sub_list_bytes ?_)));simp only[JQ,if_false];refine Qj (Qd (Qd (wpAny_isInstance (T:= "list") (b:=false) (ty _ ez') F.sub_list_bytearray ?_)));simp only[JQ,if_false];refine Qj (Qj ?_);refine Qd (wpAny_newObj_type ?_);have hzs:=Qh ez;have s1:(s.heap.push {cls:=.type "list_iterator", data:=.fields #[.ref l,.int 0 0]}).objs.size=s.heap.objs.size+1:=Heap.size_push ..;have k2:Yd s.heap ((s.heap.push {cls:=.type "list_iterator", data:=.fields #[.ref l,.int 0 0]}).push {cls:=.type "list", data:=.seq #[.ref z]}):=λb o e=>Qi _ (Qi _ e)
 refine Qj ⟨plainId_quiet F.plain_sum_loop _,Ce (h0:=s.heap) (l:=l) (I:=s.heap.objs.size) (S:=(s.heap.push {cls:=.type "list_iterator", data:=.fields #[.ref l,.int 0 0]}).objs.size) (rs:=rs) hh (Qm _) (by rw[s1];exact JH _) (by rw[s1];exact Nat.succ_ne_self _) hl hr rs.length 0 _ z [] 0 sl rfl (J8 _)
  k2 ⟨_,Heap.get?_push_of_some _ (Heap.get?_push_size _ rfl),rfl,rfl⟩ (Heap.get?_push_size _ rfl) (by rw[s1];exact Nat.ne_of_lt (Nat.lt_succ_of_lt hzs)) (Nat.ne_of_lt hzs) ⟨n,k2 _ _ ez⟩ (by simpa using hb) λp h' tk sl' hk hp hq=>?_⟩
 exact h p h' tk sl' hk (by simpa using hp) (hq.imp (λe=>⟨e.1,List.eq_nil_of_length_eq_zero e.2.1.symm⟩) id)
end
section
variable{X:Cx}{pins:List (Ud×Obj)}{σ:St}{H:Hp}{s:Ub}
theorem Pl(I:Inv X pins σ H s):∀{rs:List (Ud×List V)},(∀p∈rs,SqL X.K H p.1 p.2) ->
  ∃ts:List (Ud×List Ua),(ts.map λp=>Value.ref p.1)=(rs.map λp=>Value.ref p.1)/\(∀p∈ts,Ls s.heap p.1 p.2)/\Vals (rs.map (·.2)).flatten (ts.map (·.2)).flatten
 |[],_=>⟨[],rfl,(λ_ h=>by cases h),(show Vals [] []from Paired.nil)⟩
 |p::rs,h=>by
  obtain⟨ts,e,hl,hv⟩:=Pl I λq hq=>h q (QF _ hq)
  obtain⟨its,rv,⟨⟨c1,d1,t1,sl⟩,n,e1,ec,ed,et⟩,z⟩:=I.list (h p (Qq ..));simp only at ec ed et;subst ec ed et;refine⟨(p.1,its)::ts,by rw[Qx,Qx,e],λq hq=>?_,?_⟩
  ·rcases QP.1 hq with rfl|hq
   ·exact⟨n,sl,e1⟩
   ·exact hl q hq
  ·rw[Qx,Qx,QO,QO];exact rv.append hv
theorem OH:∀{as:List Ud}{us:List Ua},Vals (as.map V.ref) us->us=as.map Value.ref
 |[],_,.nil=>rfl
 |a::as,_,.cons h t=>by cases h;rw[OH t];rfl
theorem Db(hc:X.calm=true):ZI X (.builtin "sum") (λxs H Q=>∃l z,∃rs:List (Ud×List V),xs=[.ref l,.ref z]/\SqL X.K H l (rs.map λp=>V.ref p.1)/\(∀p∈rs,SqL X.K H p.1 p.2)/\SqL X.K H z []/\(rs.map (·.2)).flatten.length<=Ug /\
  (rs=[]->Q (.ref z) H)/\∀p,H p=none->Q (.ref p) (upd H p (.lst (rs.map (·.2)).flatten))):=by
 intro pins s σ H xs us Q I rx h;obtain⟨l,z,rs,rfl,hq,hr,hz,hb,q0,q⟩:=h;obtain⟨u,u',rfl,ru,ru'⟩:=TM rx;cases ru;cases ru';obtain⟨its,rv,pl, -⟩:=I.list hq;obtain⟨ts,e,hl,hv⟩:=Pl I hr;have ei:its=ts.map λp=>Value.ref p.1:=by rw[e];have:=OH (as:=rs.map (·.1)) (us:=its) (by rw[QY];exact rv);rw[this,QY];rfl
 subst ei;obtain⟨zi,rz,⟨⟨c1,d1,t1,sl⟩,n,e1,ec,ed,et⟩, -⟩:=I.list hz;cases rz;simp only at ec ed et;subst ec ed et;have hlen:=hv.length;refine Cd (I.ok.hd hc) pl.isList hl ⟨n,sl,e1⟩ (by omega) λp h' tk sl' hk hp hq=>?_
 rcases hq with ⟨rfl,rfl⟩|⟨hp',rfl⟩
 ·have hr0:rs=[]:=by
   cases rs with
   |nil=>rfl
   |cons a b=>cases e
  exact⟨.ref _,H,I.kept hk,rfl,q0 hr0⟩
 ·obtain⟨m,ep⟩:=hp;exact⟨.ref p,_,I.laid (t':=tk) hk hp' (show Kz X.prog X.w _ h' _ (.lst _)from⟨hb,_,m,hv,ep⟩),rfl,q p (I.hok.fresh hp')⟩
def Y2:List D->Option (List (List D))
 |[]=>some []
 |.list xs::r=>(Y2 r).map (xs :: ·)
 |_=>none
theorem O0{K:Frag}{G:Hp}:∀{vs:List V}{ds:List D}{ls:List (List D)},Reps K G vs ds->Y2 ds=some ls ->
  ∃rs:List (Ud×List V),vs=(rs.map λp=>V.ref p.1)/\(∀p∈rs,SqL K G p.1 p.2)/\Reps K G (rs.map (·.2)).flatten ls.flatten/\rs.length=ls.length
 |_,_,ls,.nil,e=>by cases e;exact⟨[],rfl,(λ_ h=>by cases h),.nil,rfl⟩
 |_,_,ls,.cons (d:=d) r t,e=>by
  cases d with
  |list xs=>
   unfold Y2 at e;cases z:Y2 _ with
   |none=>rw[z]at e;cases e
   |some cs=>
    rw[z]at e;cases e;obtain⟨rs,rfl,h1,h2,h3⟩:=O0 t z;obtain⟨a,ws,rfl,h,rr⟩:=r.lst_inv;refine⟨(a,ws)::rs,rfl,λp hp=>?_,?_,JG (· + 1) h3⟩
    ·rcases QP.1 hp with rfl|hp
     ·exact h
     ·exact h1 p hp
    ·rw[Qx,QO,QO];exact rr.append h2
  |_=>cases e
theorem Cc(ls:List (List D)):Y2 (ls.map Um)=some ls:=by
 induction ls with
 |nil=>rfl
 |cons b r ih=>rw[Qx,Y2,ih];rfl
def WR:List D->Option D
 |[.list ds,.list []]=>(match Y2 ds with
  |some ls=>if ls.flatten.length<=1000000 then some (.list ls.flatten)else none
  |none=>none)
 |_=>none
theorem Da{xs:List D}{d:D}(h:WR xs=some d):∃ds ls,xs=[.list ds,.list []]/\Y2 ds=some ls/\ls.flatten.length<=1000000/\d=.list ls.flatten:=by
 unfold WR at h;split at h
 ·rename_i ds;cases z:Y2 ds with
  |none=>rw[z]at h;cases h
  |some ls=>
   rw[z]at h;dsimp only at h;split at h
   ·rename_i c;cases h;exact⟨ds,ls,rfl,z,c,rfl⟩
   ·cases h
 ·cases h
theorem M7(hc:X.calm=true):Yk X (.builtin "sum") WR:=by
 refine⟨_,Db hc,λvs G H ds d Q s r e k=>?_⟩;obtain⟨ds,ls,rfl,z,c,rfl⟩:=Da e;obtain⟨v,v',rfl,q1,q2⟩:=r.two_inv;obtain⟨l,ws,rfl,h1,r1⟩:=q1.lst_inv;obtain⟨a,ws2,rfl,h2,r2⟩:=q2.lst_inv;have:=r2.nil_inv;subst this;obtain⟨rs,rfl,g1,g2,g3⟩:=O0 r1 z;refine⟨l,a,rs,rfl,s.seq h1,λp hp=>s.seq (g1 p hp),s.seq h2,?_,λe0=>?_,λp hp=>?_⟩
 ·rw[g2.length];exact QN c lim
 ·subst e0;have:ls=[]:=List.eq_nil_of_length_eq_zero g3.symm;subst this;exact k _ G H (.refl s) (.lst h2 .nil)
 ·exact k _ _ _ (.new s hp) (.lst (SqL.of Ki) (g2.mono (Kw (s.free hp))))
end
section
variable{X:Cx}
def Zt(ns:List Int):List Int:=ns.mergeSort λa b=>decide (a<=b)
theorem Y9(ns:List Int):(Zt ns).Perm ns:=List.mergeSort_perm ..
theorem E9(ns:List Int):(Zt ns).Pairwise (· <= ·):=by have:=List.pairwise_mergeSort (le:=λa b:Int=>decide (a<=b)) (by intro a b c;simp;omega) (by intro a b;simp;omega) ns;exact this.imp (by simp)
theorem Ps:∀{a b:List Int},a.Perm b->a.Pairwise (· <= ·)->b.Pairwise (· <= ·)->a=b
 |[],b,p,_,_=>by rw[List.nil_perm.1 p]
 |x::a,[],p,_,_=>by have:=p.length_eq;simp at this
 |x::a,y::b,p,ha,hb=>by
  have hx:y<=x:=by
   rcases QP.1 (p.mem_iff.1 (Qq ..))with e|e
   ·exact Int.le_of_eq e.symm
   ·exact(Jm.1 hb).1 x e
  have hy:x<=y:=by
   rcases QP.1 (p.mem_iff.2 (Qq ..))with e|e
   ·exact Int.le_of_eq e.symm
   ·exact(Jm.1 ha).1 y e
  have e:=Int.le_antisymm hy hx;subst e;rw[Ps (List.Perm.cons_inv p) (Jm.1 ha).2 (Jm.1 hb).2]
theorem OG:∀{us:List Ua}{ns:List Int},PyProof.Rows.IntsAre us ns->Vals (ns.map V.int) us
 |_,_,.nil=>Paired.nil
 |_,_,.cons n t h=>Paired.cons ⟨t,rfl⟩ (OG h)
theorem Cb:ZI X (.builtin "sorted") (λxs H Q=>∃l,∃ns:List Int,xs=[.ref l]/\SqL X.K H l (ns.map V.int)/\ns.length<64/\∀p,H p=none->Q (.ref p) (upd H p (.lst ((Zt ns).map V.int)))):=by
 intro pins s σ H xs us Q I rx h;obtain⟨l,ns,rfl,hq,hb,q⟩:=h;obtain⟨u,rfl,ru⟩:=rx.one;cases ru;obtain⟨its,rv,p,hz⟩:=I.list hq;have hi:=W8 rv;have hn:its.length=ns.length:=by have:=rv.length;rw[Qe]at this;omega
 refine sorted_ints p.isList hi (by omega) λout ns' a1 a2 a3=>?_
 obtain⟨e,he⟩:=sortedAll_at s.heap its out;have en:ns'=Zt ns:=Ps (a2.trans (Y9 ns).symm) a3 (E9 ns);subst en;refine⟨.ref (s.heap.objs.size+1),_,I.laid (t':=s.toks) (λb o=>sortedAll_old) (JH _) (show Kz X.prog X.w _ _ _ (.lst ((Zt ns).map V.int))from⟨?_,out.toList,e,OG a1,he⟩),rfl,q _ (I.hok.fresh (JH _))⟩;rw[Qe,(Y9 ns).length_eq];rw[Qe]at hz;exact hz
def WT:List D->Option D
 |[.list ds]=>(match Yl ds with
  |some ns=>if ns.length<64 then some (.list ((Zt ns).map .int))else none
  |none=>none)
 |_=>none
theorem Ca{xs:List D}{d:D}(h:WT xs=some d):∃ds ns,xs=[.list ds]/\Yl ds=some ns/\ns.length<64/\d=.list ((Zt ns).map .int):=by
 unfold WT at h;split at h
 ·rename_i ds;cases z:Yl ds with
  |none=>rw[z]at h;cases h
  |some ns=>
   rw[z]at h;dsimp only at h;split at h
   ·rename_i c;cases h;exact⟨ds,ns,rfl,z,c,rfl⟩
   ·cases h
 ·cases h
theorem OF{K:Frag}{G:Hp}:∀ns:List Int,Reps K G (ns.map V.int) (ns.map int)
 |[]=>.nil
 |n::r=>.cons (.int n) (OF r)
theorem Gd:Yk X (.builtin "sorted") WT:=by refine⟨_,Cb,λvs G H ds d Q s r e k=>?_⟩;obtain⟨ds,ns,rfl,z,c,rfl⟩:=Ca e;obtain⟨v,rfl,q1⟩:=r.one_inv;obtain⟨l,ws,rfl,h1,r1⟩:=q1.lst_inv;have:=Ra r1 z;subst this;exact⟨l,ns,rfl,s.seq h1,c,λp hp=>k _ _ _ (.new s hp) (.lst (SqL.of Ki) (OF _))⟩
theorem E8{ns:List Int}(h:ns.length<64):WT [.list (ns.map .int)]=some (.list ((Zt ns).map .int)):=by unfold WT;simp only[O6,Qr h]
end
@[simp] theorem mBind_ok{α β:Type}{f:M α}{k:α->M β}{ρ ρ':UB}{x:α}(h:f ρ=.ok x ρ'):UO f k ρ=k x ρ':=by unfold UO;rw[h]
theorem OE{s:D->UB->Option UB}{g:SM}{P:Nat->UB->Prop}{R:Out->Prop}:∀(ds:List D)(n:Nat)(ρ:UB),P n ρ ->
  (∀i d ρ,ds[i]?=some d->P (n+i) ρ->∃ρ1,s d ρ=some ρ1/\((∃ρ2,(g ρ1=.nx ρ2∨g ρ1=.ct ρ2)/\P (n+i+1) ρ2)∨(∃x,g ρ1=.rt x/\R (.rt x))∨(∃ρ2,g ρ1=.bk ρ2/\R (.nx ρ2))∨(∃ρ2 x,g ρ1=.ex ρ2 x/\R (.ex ρ2 x)) ∨ ∃x,g ρ1=.ro x/\R (.ro x)))->(∀ρ,P (n+ds.length) ρ->R (.nx ρ))->R (XA s g ds ρ)
 |[],n,ρ,h,_,f=>f ρ h
 |d::r,n,ρ,h,st,f=>by
  obtain⟨ρ1,e1,e2⟩:=st 0 d ρ rfl h;rw[XA,e1];dsimp only;rcases e2 with ⟨ρ2,e2,h2⟩|⟨x,e2,h2⟩|⟨ρ2,e2,h2⟩|⟨ρ2,x,e2,h2⟩|⟨x,e2,h2⟩
  ·have goal:=OE (R:=R) r (n+1) ρ2 h2 (λi d' ρ3 q p=>by
    have e:n+1+i=n+(i+1):=by omega
    rw[e]at p⊢;exact st (i+1) d' ρ3 (by simpa using q) p) (λρ3 p=>f ρ3 (by
    have e:n+1+r.length=n+(d::r).length:=by rw[QA];omega
    rw[e]at p;exact p))
   rcases e2 with e2|e2<;>(rw[e2];exact goal)
  ·rw[e2];exact h2
  ·rw[e2];exact h2
  ·rw[e2];exact h2
  ·rw[e2];exact h2
theorem XQ{lo hi:Int}{i:Nat}{d:D}(h:(K8 lo hi)[i]?=some d):d=.int (lo+i)/\(i:Int)<hi-lo:=by have hl:i<(K8 lo hi).length:=(Qf.mp h).1;rw[Yu]at hl;unfold K8 at h;rw[Qg,Qb (by rw[QS];exact hl),List.getElem_range]at h;cases h;exact⟨rfl,by omega⟩
theorem M6{α:Type}{xs:List α}{i:Int}{v:α}(h0:0<=i)(h:xs[i.toNat]?=some v):atI xs i=some v:=by have:=Ku (xs:=xs) (j:=i.toNat) h;rw[Int.toNat_of_nonneg h0]at this;exact this
section
variable{α β:Type}{ρ ρ1 ρ2 ρ3 ρ':UB}{f g h:M D}
theorem UJ{a:α}:UE a ρ=.ok a ρ:=rfl
theorem UP:UD ρ=.ok [] ρ:=rfl
theorem KY{o:Option α}{a:α}(h:o=some a):US o ρ=.ok a ρ:=by subst h;rfl
theorem Ke{f:M α}{k:α->M β}{x:α}{r:Res β}(h:f ρ=.ok x ρ1)(h2:k x ρ1=r):UO f k ρ=r:=by unfold UO;rw[h];exact h2
theorem Kx{f:M α}{k:α->β}{x:α}(h:f ρ=.ok x ρ1):UM k f ρ=.ok (k x) ρ1:=by unfold UM UO;rw[h];rfl
theorem UC{i:Nat}{d:D}(h:ρ[i]?=some (some (.pub d))):UA i ρ=.ok d ρ:=by unfold UA;rw[h]
theorem ZY{i:Nat}{ds:List D}(h:ρ[i]?=some (some (.own ds)))(h2:ρ.set i (some (.pub (.list ds)))=ρ'):UA i ρ=.ok (.list ds) ρ':=by unfold UA;rw[h];subst h2;rfl
theorem UV{op:D->D->Option β}{x y:D}{r:β}(h1:f ρ=.ok x ρ1)(h2:g ρ1=.ok y ρ2)(h3:op x y=some r):UG op f g ρ=.ok r ρ2:=by unfold UG;exact Ke h1 (Ke h2 (KY h3))
theorem UI{g:M (List D)}{x:D}{xs:List D}(h1:f ρ=.ok x ρ1)(h2:g ρ1=.ok xs ρ2):UH f g ρ=.ok (x::xs) ρ2:=by unfold UH;exact Ke h1 (Ke h2 rfl)
theorem T2{g:M (List D)}{xs:List D}(h1:g ρ=.ok xs ρ1)(h2:xs.length<=1000000):ZM g ρ=.ok (.tuple xs) ρ1:=by unfold ZM;exact Ke h1 (by rw[Qr h2];rfl)
theorem ZU{g:M (List D)}{xs:List D}(h1:g ρ=.ok xs ρ1)(h2:xs.length<=1000000):Kn g ρ=.ok (.list xs) ρ1:=by unfold Kn;exact Ke h1 (by rw[Qr h2];rfl)
theorem Y6{g:M (List D)}{xs:List D}(h1:g ρ=.ok xs ρ1)(h2:xs.length<=1000000):(UO g λxs=>if xs.length<=1000000 then UE xs else λ_=>.bad) ρ=.ok xs ρ1:=
 Ke h1 (by rw[Qr h2];rfl)
theorem Kf{i:Nat}{d y r:D}(h:ρ[i]?=some (some (.pub d)))(h1:g ρ=.ok y ρ1)(h2:oIx d y=some r):UL i g ρ=.ok r ρ1:=by unfold UL;rw[h];exact Ke h1 (KY h2)
theorem M5{i:Nat}{ds es:List D}{y r:D}(h:ρ[i]?=some (some (.own ds)))(h1:g ρ=.ok y ρ1)(h3:ρ1[i]?=some (some (.own es)))(h2:oIx (.list es) y=some r):UL i g ρ=.ok r ρ1:=by unfold UL;rw[h];exact Ke h1 (by rw[h3];exact KY h2)
theorem Yr{p:List D->Option D}{g:M (List D)}{xs:List D}{r:D}(h1:g ρ=.ok xs ρ1)(h2:p xs=some r):ZG p g ρ=.ok r ρ1:=by unfold ZG;exact Ke h1 (KY h2)
theorem Kg{n:Nat}{F:List D->Option D}{g:M (List D)}{xs:List D}{r:D}(h1:g ρ=.ok xs ρ1)(h2:xs.length=n)(h3:F xs=some r):UT n F g ρ=.ok r ρ1:=by unfold UT;exact Ke h1 (by rw[Qr h2];exact KY h3)
theorem WS{i:Int}(h1:f ρ=.ok (.int i) ρ1):Zl f ρ=.ok (.int (-i)) ρ1:=by unfold Zl;exact Ke h1 rfl
theorem KG{i:Nat}{d r:D}(h:ρ[i]?=some (some (.pub d)))(h2:U5 [d]=some r):KF i ρ=.ok r ρ:=by unfold KF;rw[h];exact KY h2
theorem Pr{i:Nat}{ds:List D}(h:ρ[i]?=some (some (.own ds))):KF i ρ=.ok (.int ds.length) ρ:=by unfold KF;rw[h]
theorem W1{g:M (List D)}{i:Int}{r:List D}(h1:g ρ=.ok [.int i] ρ1)(h2:WP [.int i]=some r):YZ g ρ=.ok r ρ1:=by unfold YZ;exact Ke h1 (KY h2)
theorem So{g:M (List D)}{i j:Int}{r:List D}(h1:g ρ=.ok [.int i,.int j] ρ1)(h2:WO [.int i,.int j]=some r):WN g ρ=.ok r ρ1:=by unfold WN;exact Ke h1 (KY h2)
theorem Vy{g:M (List D)}{xs r:List D}(h1:g ρ=.ok xs ρ1)(h2:Vl xs=some r):XB g ρ=.ok r ρ1:=by unfold XB;exact Ke h1 (KY h2)
theorem X8{i:Int}(h1:f ρ=.ok (.int i) ρ1):(UO f λx=>US (Y0 x)) ρ=.ok (some i) ρ1:=Ke h1 rfl
theorem ZJ{f:M Bool}{t:Bool}(h1:f ρ=.ok t ρ1):U8 f ρ=.ok (!t) ρ1:=Kx h1
theorem Z2{t:Bool}(h1:f ρ=.ok (.bool t) ρ1):KS f ρ=.ok t ρ1:=by unfold KS;exact Ke h1 rfl
theorem TZ{f g:M Bool}{t u:Bool}(h1:f ρ=.ok t ρ)(h2:t=true->g ρ=.ok u ρ):K1 f g ρ=.ok (t&&u) ρ:=by
 unfold K1;refine Ke h1 ?_;cases t with
 |true=>rw[Qr rfl];exact h2 rfl
 |false=>rfl
theorem VY{f g:M Bool}{t u:Bool}(h1:f ρ=.ok t ρ)(h2:t=false->g ρ=.ok u ρ):mOr f g ρ=.ok (t || u) ρ:=by
 unfold mOr;refine Ke h1 ?_;cases t with
 |false=>rw[QJ (by decide)];exact h2 rfl
 |true=>rfl
theorem XS{t u:Bool}(h1:f ρ=.ok (.bool t) ρ)(h2:t=true->g ρ=.ok (.bool u) ρ):XE f g ρ=.ok (.bool (t&&u)) ρ:=by
 unfold XE;refine Ke h1 ?_;cases t with
 |true=>exact h2 rfl
 |false=>rfl
theorem TY{t u:Bool}(h1:f ρ=.ok (.bool t) ρ)(h2:t=false->g ρ=.ok (.bool u) ρ):Yz f g ρ=.ok (.bool (t || u)) ρ:=by
 unfold Yz;refine Ke h1 ?_;cases t with
 |false=>exact h2 rfl
 |true=>rfl
theorem Gc{t:Bool}(h1:f ρ=.ok (.bool t) ρ1):Vn f ρ=.ok (.bool (!t)) ρ1:=by unfold Vn;exact Ke h1 rfl
theorem Tr{p q:D->D->Option Bool}{x y z:D}{t u:Bool}(h1:f ρ=.ok x ρ)(h2:g ρ=.ok y ρ)(h3:p x y=some t)(h4:t=true->h ρ=.ok z ρ)(h5:t=true->q y z=some u):X3 p q f g h ρ=.ok (t&&u) ρ:=by
 unfold X3;refine Ke h1 (Ke h2 (Ke (KY h3) ?_));cases t with
 |true=>rw[Qr rfl];exact Ke (h4 rfl) (KY (h5 rfl))
 |false=>rfl
theorem ZE{i j:Int}:U1 (.int i) (.int j)=some (.int (i+j)):=rfl
theorem VE{x y:List D}(h:x.length+y.length<=1000000):U1 (.list x) (.list y)=some (.list (x++y)):=by unfold U1;exact Qr h
theorem W0{i j:Int}:Zh (.int i) (.int j)=some (.int (i-j)):=rfl
theorem Tq{i j:Int}(h1 : -18446744073709551616<i)(h2:i<18446744073709551616):Kc (.int i) (.int j)=some (.int (i*j)):=by unfold Kc YA;exact Qr (.inl ⟨by omega,by omega⟩)
theorem Tp{i j:Int}(h1 : -18446744073709551616<j)(h2:j<18446744073709551616):Kc (.int i) (.int j)=some (.int (i*j)):=by unfold Kc YA;exact Qr (.inr ⟨by omega,by omega⟩)
theorem O5{x:List D}{k:Int}(h : -1000000<=k/\k<=1000000/\x.length*k.toNat<=1000000):Kc (.list x) (.int k)=some (.list (Ul k.toNat x).flatten):=by unfold Kc;exact Qr h
theorem XR{i j:Int}(h:0<j):K0 (.int i) (.int j)=some (.int (i % j)):=by unfold K0 Xh;exact Qr h
theorem Pq{i j:Int}(h:0<j)(h2:j<18446744073709551616):Yy (.int i) (.int j)=some (.int (i / j)):=by unfold Yy Xi;exact Qr ⟨h,h2⟩
theorem Ga{i j:Int}(h:0<=j/\j<=1000000/\i.natAbs<2 ^ 64):Yx (.int i) (.int j)=some (.int (i ^ j.toNat)):=by unfold Yx Xg;exact Qr h
theorem YU{p:Int->Int->Bool}{i j:Int}:oIB p (.int i) (.int j)=some (p i j):=rfl
theorem Td{i j:Int}:oEq (.int i) (.int j)=some (decide (i=j)):=by unfold oEq;rw[if_pos ⟨rfl,rfl,by simp[Us]⟩];congr 1
theorem Zf{xs:List D}:U5 [.list xs]=some (.int xs.length):=rfl
theorem XM{xs:List D}:U5 [.tuple xs]=some (.int xs.length):=rfl
theorem HZ{i j:Int}:VO [.int i,.int j]=some (.int (if j > i then j else i)):=rfl
theorem Vc{j:Int}(h1:j<=1000000)(h2 : -1000000<=j):WP [.int j]=some (K8 0 j):=by unfold WP;exact Qr ⟨h1,h2⟩
theorem SG{i j:Int}(h1:j<=1000000)(h2 : -1000000<=j)(h3:i<=1000000)(h4 : -1000000<=i):WO [.int i,.int j]=some (K8 i j):=by unfold WO;exact Qr ⟨h1,h2,h3,h4⟩
theorem VD{xs:List D}:Vl [.list xs]=some (Za 0 xs):=rfl
theorem KB{i:Nat}{d:D}(h1:f ρ=.ok d ρ1)(h2:i<ρ1.length)(h3:ρ1.set i (some (.pub d))=ρ'):UY i f ρ=.nx ρ':=by unfold UY Zw sB gN;rw[h1];dsimp only;rw[if_pos h2];subst h3;rfl
theorem Zb{i:Nat}{f:M (List D)}{ds:List D}(h1:f ρ=.ok ds ρ1)(h2:i<ρ1.length)(h3:ρ1.set i (some (.own ds))=ρ'):Kt i f ρ=.nx ρ':=by unfold Kt sB;rw[h1];dsimp only;rw[if_pos h2];subst h3;rfl
theorem YT{i:Nat}{d:D}{ds0 ds:List D}(h0:ρ[i]?=some (some (.own ds0)))(h1:f ρ=.ok d ρ1)(h2:ρ1[i]?=some (some (.own ds)))(h3:ds.length<1000000)(h4:ρ1.set i (some (.own (ds++[d])))=ρ'):KQ i f ρ=.nx ρ':=by unfold KQ sB;rw[h0];dsimp only;rw[h1];dsimp only;rw[h2];dsimp only;rw[if_pos h3];subst h4;rfl
theorem TX{d:D}{s:D->UB->Option UB}(h1:f ρ=.ok d ρ1)(h2:s d ρ1=some ρ'):Zw f s ρ=.nx ρ':=by unfold Zw sB;rw[h1];dsimp only;rw[h2]
theorem Tc{d:D}(h1:f ρ=.ok d ρ1):XV f ρ=.nx ρ1:=by unfold XV sB;rw[h1]
theorem UR{i:Nat}{d:D}(h:i<ρ.length)(h2:ρ.set i (some (.pub d))=ρ'):gN i d ρ=some ρ':=by unfold gN;rw[Qr h,h2]
theorem KO:gN0 [] ρ=some ρ:=rfl
theorem Ka{s:D->UB->Option UB}{t:List D->UB->Option UB}{d:D}{r:List D}(h1:s d ρ=some ρ1)(h2:t r ρ1=some ρ'):gNC s t (d::r) ρ=some ρ':=by unfold gNC;dsimp only;rw[h1];exact h2
theorem KN{n:Nat}{t:List D->UB->Option UB}{ds:List D}(h1:ds.length=n)(h2:t ds ρ=some ρ'):gT n t (.tuple ds) ρ=some ρ':=by unfold gT;dsimp only;rw[if_pos h1];exact h2
structure Ho(g:SM)(ρ:UB)(Q:Out->Prop):Prop where
 out:Q (g ρ)
def N3(h:SM)(Q:Out->Prop):Out->Prop
 |.nx ρ'=>Ho h ρ' Q
 |o=>Q o
structure TH(h:SM)(Q:Out->Prop)(o:Out):Prop where
 out:N3 h Q o
variable{Q:Out->Prop}{s t u:SM}
theorem Kj(h:Ho s ρ (TH t Q)):Ho (UF s t) ρ Q:=by
 have h:=h.out.out;constructor;unfold UF;cases e:s ρ with
 |nx o=>rw[e]at h;exact h.out
 |_=>rw[e]at h;exact h
theorem U4(h1:s ρ=.nx ρ1)(h2:Ho t ρ1 Q):Ho (UF s t) ρ Q:=by
 constructor;unfold UF;rw[h1];exact h2.out
theorem ZX{o:Out}(h1:s ρ=o)(h2:Q o):Ho s ρ Q:=by constructor;rw[h1];exact h2
theorem Kv(h:Q (.nx ρ)):Ho sNx ρ Q:=⟨h⟩
theorem Ko{o:UB}(h:Ho t o Q):TH t Q (.nx o):=⟨h⟩
theorem Kq{d:D}(h:Q (.rt d)):TH t Q (.rt d):=⟨h⟩
theorem Kb{f:M Bool}{b:Bool}(h1:f ρ=.ok b ρ1)(h2:b=true->Ho s ρ1 Q)(h3:b=false->Ho t ρ1 Q):Ho (sIf f s t) ρ Q:=by
 constructor;unfold sIf sB;rw[h1];dsimp only
 cases b with
 |true=>rw[Qr rfl];exact(h2 rfl).out
 |false=>rw[QJ (by decide)];exact(h3 rfl).out
theorem U3{d:D}(h1:f ρ=.ok d ρ1)(h2:Q (.rt d)):Ho (UQ f) ρ Q:=by constructor;unfold UQ sB;rw[h1];exact h2
theorem HY{P:Out->Prop}(h:Ho s ρ P)(k:∀o,P o->Q o):Ho s ρ Q:=⟨k _ h.out⟩
def N0(I:UB->Prop)(Q:Out->Prop):Out->Prop
 |.nx ρ | .ct ρ=>I ρ
 |.bk ρ=>Q (.nx ρ)
 |.rt d=>Q (.rt d)
 |.ex ρ d=>Q (.ex ρ d)
 |.ro ds=>Q (.ro ds)
 |.bad=>False
structure X0(I:UB->Prop)(Q:Out->Prop)(o:Out):Prop where
 out:N0 I Q o
theorem K7{I:UB->Prop}(h:I ρ):X0 I Q (.nx ρ):=⟨h⟩
theorem Ym{I:UB->Prop}{d:D}(h:Q (.rt d)):X0 I Q (.rt d):=⟨h⟩
theorem Zs{f:M (List D)}{tg:D->UB->Option UB}{ds:List D}(I:Nat->UB->Prop)(h1:f ρ=.ok ds ρ1)(h0:I 0 ρ1)
  (hst:∀i d ρ,ds[i]?=some d->I i ρ->∃ρ2,tg d ρ=some ρ2/\Ho s ρ2 (X0 (I (i+1)) Q)) (hend:∀ρ,I ds.length ρ->Q (.nx ρ)):Ho (Kh f tg s) ρ Q:=by
 constructor;unfold Kh sB;rw[h1];dsimp only
 refine OE (P:=I) (R:=Q) ds 0 ρ1 h0 (λi d ρ e p=>?_) (λρ p=>hend ρ (by rw[Jx]at p;exact p));rw[Jx]at p;obtain⟨ρ2,e2,q⟩:=hst i d ρ e p;refine⟨ρ2,e2,?_⟩;rw[Jx];have q:=q.out.out;cases z:s ρ2 with
 |nx o=>rw[z]at q;exact .inl ⟨o,.inl rfl,q⟩
 |ct o=>rw[z]at q;exact .inl ⟨o,.inr rfl,q⟩
 |rt o=>rw[z]at q;exact .inr (.inl ⟨o,rfl,q⟩)
 |bk o=>rw[z]at q;exact .inr (.inr (.inl ⟨o,rfl,q⟩))
 |ex o x=>rw[z]at q;exact .inr (.inr (.inr (.inl ⟨o,x,rfl,q⟩)))
 |ro o=>rw[z]at q;exact .inr (.inr (.inr (.inr ⟨o,rfl,q⟩)))
 |bad=>rw[z]at q;exact q.elim
theorem YR{N:List Str}{ds:List D}{P:D->Prop}(h0:Z1 N ds=ρ)(h:Ho s ρ λo=>∃d,o=.rt d/\P d):∃d,UZ N s ds=some d/\P d:=by subst h0;obtain⟨d,e,p⟩:=h.out;refine⟨d,?_,p⟩;unfold UZ;rw[e]
theorem Ze{N:List Str}{ds:List D}{d:D}(h0:Z1 N ds=ρ)(h:Ho s ρ λo=>o=.rt d):UZ N s ds=some d:=by obtain⟨d',e,p⟩:=YR (P:=λx=>x=d) h0 (HY h λo e=>⟨d,e,rfl⟩);rw[e,p]
end
section
variable{α β:Type}{ρ ρ1 ρ2 ρ3 ρ':UB}{f g h:M D}
theorem TW{l u:M (Option Int)}{x r:D}{a b:Option Int}(h1:f ρ=.ok x ρ1)(h2:l ρ1=.ok a ρ2)(h3:u ρ2=.ok b ρ3)(h4:Xb x a b=some r):Z8 f l u ρ=.ok r ρ3:=by unfold Z8;exact Ke h1 (Ke h2 (Ke h3 (KY h4)))
theorem ZT{f g:M Bool}(h1:f ρ=.ok true ρ1):mOr f g ρ=.ok true ρ1:=by unfold mOr;exact Ke h1 rfl
theorem KW{f g:M Bool}{u:Bool}(h1:f ρ=.ok false ρ1)(h2:g ρ1=.ok u ρ2):mOr f g ρ=.ok u ρ2:=by unfold mOr;exact Ke h1 (by rw[QJ (by decide)];exact h2)
theorem Zc{c:String}{d:D}{t:Bool}(h:f ρ=.ok d ρ1)(ht:(!U9 d c)=t):U8 (KS (UM (λd=>.bool (U9 d c)) f)) ρ=.ok t ρ1:=by subst ht;exact ZJ (Z2 (Kx (k:=λd=>Uo (U9 d c)) h))
theorem Zr{x:D}{r:List D}(h1:f ρ=.ok x ρ1)(h2:Sq x=some r):KL f ρ=.ok r ρ1:=by unfold KL;exact Ke h1 (KY h2)
theorem K6{p:D->D->Option β}{i:Nat}{d y:D}{r:β}(h:ρ[i]?=some (some (.pub d)))(h1:g ρ=.ok y ρ1)(h2:p d y=some r):Ks p i g ρ=.ok r ρ1:=by unfold Ks;rw[h];exact Ke h1 (KY h2)
theorem SF{p:D->D->Option β}{i:Nat}{ds es:List D}{y:D}{r:β}(h:ρ[i]?=some (some (.own ds)))(h1:g ρ=.ok y ρ1)(h3:ρ1[i]?=some (some (.own es)))(h2:p (.list es) y=some r):Ks p i g ρ=.ok r ρ1:=by unfold Ks;rw[h];exact Ke h1 (by rw[h3];exact KY h2)
theorem Yq{f:M (List D)}{k:Nat}{s:D->UB->Option UB}{t:M Bool}{ds es:List D}(h1:f ρ=.ok ds ρ1)(h2:Kl s t g ds (U2 ρ1++Ul k none) []=some es):ZC f k s t g ρ=.ok es ρ1:=by unfold ZC;rw[h1];dsimp only;rw[h2]
theorem YW{s:D->UB->Option UB}{t:M Bool}(p:D->Bool)(q:D->D)(I:UB->Prop):∀(ds:List D)(ρ:UB)(es:List D),(∀d∈ds,∀ρ,I ρ->∃ρ1,s d ρ=some ρ1/\t ρ1=.ok (p d) ρ1/\(p d=true->g ρ1=.ok (q d) ρ1)/\I (U2 ρ1))->I ρ->es.length+ds.length<=1000000 ->
  Kl s t g ds ρ es=some (es++(ds.filter p).map q)
 |[],ρ,es,_,_,_=>by rw[Kl];simp
 |d::r,ρ,es,st,h0,hz=>by
  obtain⟨ρ1,e1,e2,e3,h1⟩:=st d Qq ρ h0;have ih:=λes' hz'=>YW p q I r (U2 ρ1) es' (λd' hd=>st d' (QF _ hd)) h1 hz';rw[QA]at hz;rw[Kl,e1];dsimp only;rw[e2];dsimp only
  cases hp:p d with
  |true=>rw[Qr rfl,e3 hp];dsimp only;rw[Qr (by omega),ih _ (by rw[Qk,Q0];omega),List.filter_cons_of_pos hp,Qx,Jp];rfl
  |false=>rw[QJ (by decide),ih _ (by omega),List.filter_cons_of_neg (by rw[hp];decide)]
theorem Pp{j:Nat}{d:D}{k:Int}{ds0 ds:List D}(h1:f ρ=.ok d ρ1)(h0:ρ1[j]?=some (some (.own ds0)))(h2:g ρ1=.ok (.int k) ρ2)(h3:ρ2[j]?=some (some (.own ds)))(h4:0<=k/\k<ds.length)(h5:ρ2.set j (some (.own (ds.set k.toNat d)))=ρ'):Vf j g f ρ=.nx ρ':=by unfold Vf sB;rw[h1];dsimp only;rw[h0];dsimp only;rw[h2];dsimp only;rw[h3];dsimp only;rw[if_pos h4];subst h5;rfl
theorem SE{xs:List D}{a b:Option Int}:Xb (.list xs) a b=some (.list (DL.cutD xs a b)):=rfl
theorem ZW{xs:List D}:Sq (.list xs)=some xs:=rfl
theorem Ct(bs:List Bool):XU (bs.map Uo)=some bs:=by
 induction bs with
 |nil=>rfl
 |cons b r ih=>rw[Qx,XU,ih];rfl
theorem Po{bs:List Bool}:Zj [.list (bs.map Uo)]=some (.bool (bs.all id)):=by unfold Zj;dsimp only;rw[Ct];rfl
end
section
variable{α β:Type}{ρ ρ1 ρ2 ρ3 ρ4 ρ':UB}{f g h:M D}{s:SM}
theorem M4{g:M (List D)}{xs r:List D}(h1:g ρ=.ok xs ρ1)(h2:Z6 xs=some r):Xj g ρ=.ok r ρ1:=by unfold Xj;exact Ke h1 (KY h2)
theorem RB{l u t:M (Option Int)}{xs:List D}(h1:f ρ=.ok (.list xs) ρ1)(h2:l ρ1=.ok none ρ2)(h3:u ρ2=.ok none ρ3)(h4:t ρ3=.ok (some (-1)) ρ4):YB f l u t ρ=.ok (.list xs.reverse) ρ4:=by unfold YB;exact Ke h1 (Ke h2 (Ke h3 (Ke h4 (KY (by unfold Xc;exact Qr rfl)))))
theorem SD{i:Nat}{d:D}{ds:List D}(h:ρ[i]?=some (some (.pub d)))(h2:YM [d]=some ds):X1 i ρ=.ok ds ρ:=by unfold X1;rw[h];exact KY h2
theorem TV{N:List Str}{ds:List D}(h0:Z1 N ds=ρ)(h:Ho s ρ λo=>∃ρ',o=.nx ρ'):UZ N s ds=some .none:=by subst h0;obtain⟨ρ',e⟩:=h.out;unfold UZ;rw[e]
theorem Yp{i j:Int}:oNe (.int i) (.int j)=some (!decide (i=j)):=by unfold oNe;rw[if_pos ⟨rfl,rfl,by simp[Us]⟩];congr 1
theorem F0{xs:List Int}{j:Nat}{v:Int}:(xs.map int).set j (.int v)=(xs.set j v).map int:=by rw[List.map_set]
theorem FZ{xs:List Int}{a b:Int}(ha:0<=a)(hb:0<=b)(hl:b<=xs.length):DL.cutD (xs.map int) (some a) (some b)=((xs.drop a.toNat).take (b.toNat-a.toNat)).map int:=by
 unfold DL.cutD HT.sIx;dsimp only;rw[QJ (by omega),QJ (by omega),Qe,List.map_take,List.map_drop];have e2:min b.toNat xs.length=b.toNat:=by omega
 rw[e2];by_cases hab:a.toNat<=xs.length
 ·have e1:min a.toNat xs.length=a.toNat:=by omega
  rw[e1]
 ·have e3:b.toNat-a.toNat=0:=by omega
  have e4:b.toNat-min a.toNat xs.length=0:=by omega
  rw[e3,e4,JM,JM]
theorem E7{xs ys:List Int}:Zd (xs.map int) (ys.map int)=(xs.zip ys).map λp=>.tuple [.int p.1,.int p.2]:=by unfold Zd;rw[List.zip_map,QY];rfl
end
section
variable{ρ ρ1:UB}
theorem FY{g:M (List D)}{xs r:List D}(h1:g ρ=.ok xs ρ1)(h2:WU xs=some r):V7 g ρ=.ok r ρ1:=by unfold V7;exact Ke h1 (KY h2)
theorem E6{xs:List D}:WU [.list xs]=some (Za 1 xs):=rfl
end
section
variable{X:Cx}{B G0:Hp}{KX:XW}{e o a b c tg i:Uf}{pos p2:Pos}{es rest:List Uf}
def YQ(f:M Bool)(g:SM):Nat->SM
 |0,_=>.bad
 |n+1,ρ=>match f ρ with
  |.bad=>.bad
  |.ok t ρ1=>if t=true then(match g ρ1 with
   |.nx ρ2=>YQ f g n ρ2
   |.ct ρ2=>YQ f g n ρ2
   |.bk ρ2=>.nx ρ2
   |.rt d=>.rt d
   |.ro ds=>.ro ds
   |.ex ρ2 d=>.ex ρ2 d
   |.bad=>.bad)else .nx ρ1
theorem FX{body:List Stmt}{f:M Bool}{g:SM}(n:Nat)(hp:PassesOwn (model X.prog X.w) X.A X.env X.xe)(hc:PT X c (tBo X.K B G0 f))(hb:PSs X body (tS X.K B G0 KX g)):PS X (.While c body [] pos) (tS X.K B G0 KX (YQ f g n)):=
 KE (EC hp hc hb) λDn σ H ⟨G,ρ,k,a⟩=>by
  refine⟨λm σ' H'=>∃G' ρ',EOk X.K B G0 G' H' σ' ρ'/\aftS X.K B G0 KX (YQ f g m ρ') G' Dn,⟨n,G,ρ,k,a⟩,?_⟩;rintro m σ' H' ⟨G',ρ',k',a'⟩;cases m with
  |zero=>exact a'.elim
  |succ m=>
   rw[YQ]at a';refine⟨G',ρ',k',?_⟩;cases z:f ρ' with
   |bad=>rw[z]at a';exact a'.elim
   |ok t ρ1=>
    rw[z]at a';dsimp only at a';intro v G1 H1 k1 s1 e1;subst e1;cases v with
    |false=>rw[QJ Ju]at a'⊢;exact a' _ G1 H1 k1 s1
    |true=>
     rw[Qr rfl]at a'⊢;refine⟨λσ2 H2=>∃G2 ρ2,EOk X.K B G0 G2 H2 σ2 ρ2/\aftS X.K B G0 KX (YQ f g m ρ2) G2 Dn,λσ2 H2 h2=>⟨m,Nat.lt_succ_self m,h2⟩,G1,ρ1,k1,?_⟩;cases z2:g ρ1 with
     |nx ρ2=>rw[z2]at a';exact λσ4 G4 H4 k4 s4=>⟨G4,ρ2,k4,aftS.mono (s1.trans s4) a'⟩
     |ct ρ2=>rw[z2]at a';exact λσ4 G4 H4 k4 s4=>⟨G4,ρ2,k4,aftS.mono (s1.trans s4) a'⟩
     |bk ρ2=>rw[z2]at a';exact λσ4 G4 H4 k4 s4=>a' σ4 G4 H4 k4 (s1.trans s4)
     |rt d=>rw[z2]at a';exact a'
     |ro ds=>rw[z2]at a';exact a'
     |ex ρ2 d=>rw[z2]at a';exact λv σ4 G4 H4 k4 s4 r4=>a' v σ4 G4 H4 k4 (s1.trans s4) r4
     |bad=>rw[z2]at a';exact a'.elim
def ZZ(ρ:UB)(j:Nat):Option (List D):=match ρ[j]? with
 |some (some (.own ds))=>some ds
 |_=>none
theorem W7{ρ:UB}{j:Nat}{ds:List D}(h:ZZ ρ j=some ds):ρ[j]?=some (some (.own ds)):=by
 unfold ZZ at h;split at h
 ·rename_i es e;cases h;exact e
 ·cases h
theorem P9{ρ:UB}{j:Nat}{ds:List D}(h:ρ[j]?=some (some (.own ds))):ZZ ρ j=some ds:=by unfold ZZ;rw[h]
def Yv(j:Nat)(f:M (List D)):SM:=λρ=>match ZZ ρ j with
 |none=>.bad
 |some _=>sB f (λes ρ1=>match ZZ ρ1 j with
  |some ds=>if ds.length+es.length<=1000000 then .nx (ρ1.set j (some (.own (ds++es))))else .bad
  |none=>.bad) ρ
theorem M0{j:Nat}{f:M (List D)}{apos cpos:Pos}(ho:PE X o (Km j))(he:PE X e (tL X.K B G0 f))
  (hbase:attributeBase o "extend" X.env (eval o X.env)=eval o X.env:=by rfl)
  (hfew:((backTo cpos (Ui [e] X.env)).all (λx=>!x.1)&&(backToKw cpos (keywordEach [] X.env)).all (λx=>x.1.isSome)
   && decide ([e].length+([]:List Keyword).length+(if([]:List Keyword).isEmpty then 0 else 1)<30))=true:=by rfl)
  (hline:(apos.endLine==cpos.line)=true:=by rfl) (hs:Ui [e] X.env=[(false,eval e X.env)]:=by rfl)
  (hsw:swapsWith (.Call (.Attribute o "extend" apos) [e] [] cpos) none pos.line X.env=pure false:=by rfl) :
  PS X (.Expr (.Call (.Attribute o "extend" apos) [e] [] cpos) pos) (tS X.K B G0 KX (Yv j f)):=
 KE (Sd (Vk PySem.F.plainAttrs_list PySem.F.slot_list_extend PySem.F.type_list_extend DM ho (Z0 he Yt (by rw[hs];rfl)) hbase hfew hline (by rw[hs];rfl) rfl) hsw) λD σ H ⟨G,ρ,k,a⟩=>by
  unfold Yv at a;cases q0:ZZ ρ j with
  |none=>rw[q0]at a;exact a.elim
  |some ds0=>
  rw[q0]at a;dsimp only at a;obtain⟨ad,vs0,h1,h2,h3,h4,h5⟩:=k.own j ds0 (W7 q0);refine⟨.ref ad,h1,.inl ⟨rfl,_,SqL.of h4⟩,G,ρ,k,?_⟩;unfold sB at a;cases z:f ρ with
  |bad=>rw[z]at a;exact a.elim
  |ok es ρ1=>
  rw[z]at a;dsimp only at a;intro b zs G1 H1 k1 s1 n1;cases q1:ZZ ρ1 j with
  |none=>rw[q1]at a;exact a.elim
  |some ds=>
  rw[q1]at a;dsimp only at a;split at a
  ·rename_i hl;obtain⟨ad1,vs,g1,g2,g3,g4,g5⟩:=k1.own j ds (W7 q1);rw[h1]at g1;cases g1;refine⟨ad,b,vs,zs,rfl,rfl,g4,n1.h,by rw[g5.length,n1.r.length];exact QN hl lim,?_⟩;exact a σ G1 _ (k1.change (W7 q1) h1 (g5.append n1.r)) s1
  ·exact a.elim
end
end DL
namespace DL
open PySem PySem.Spec PySem.W PyProof.Rows
def UU{α:Type}(lt:Nat->Nat->Bool):KasT α->α
 |.ret a=>a
 |.ask i j k=>UU lt (k (lt i j))
theorem W6{α β:Type}{lt:Nat->Nat->Bool}{f:α->KasT β}:∀t:KasT α,UU lt (t.bind f)=UU lt (f (UU lt t))
 |.ret _=>rfl
 |.ask i j k=>by show UU lt ((k (lt i j)).bind f)=_;rw[W6];rfl
section
variable{key:Nat->Int}{p:Array Nat}
def KA(key:Nat->Int)(p:Array Nat)(i:Nat):Int:=key (p.getD i 0)
def srt(key:Nat->Int)(p:Array Nat)(m:Nat):Prop:=∀i j,i<=j->j<m->KA key p i<=KA key p j
def dsc(key:Nat->Int)(p:Array Nat)(m:Nat):Prop:=∀i j,i<=j->j<m->KA key p j<=KA key p i
abbrev kl(key:Nat->Int)(i j:Nat):Bool:=decide (key i<key j)
theorem OD{k d i:Nat}(hk:k<p.size)(hd:d<=k):KA key (bubble p k d) i=if i=k-d then KA key p k else if k-d<i/\i<=k then KA key p (i-1)else KA key p i:=by
 unfold KA;simp only[Q6];rw[getElem?_bubble hk d hd]
 repeat' split
 all_goals rfl
theorem Vv{i j k:Nat}(hj:j<=p.size):KA key (kas_rev p i j) k=if i<=k/\k<j then KA key p (i+j-1-k)else KA key p k:=by
 unfold KA kas_rev;simp only[Q6];rw[getElem?_mirror_all hj]
 split<;>rfl
theorem Wb{i j:Nat}:(kas_rev p i j).size=p.size:=mirror_size _ _ _ _
theorem Y4{i j:Nat}:(kas_rev p i j).Perm p:=mirror_perm _ _ _ _
theorem SB:∀(f n:Nat),1<=n->srt key p n->srt key p (UU (kl key) (kas_asc p f n))/\n<=UU (kl key) (kas_asc p f n)/\UU (kl key) (kas_asc p f n)<=n+f /\
  (UU (kl key) (kas_asc p f n)<n+f->KA key p (UU (kl key) (kas_asc p f n))<KA key p (UU (kl key) (kas_asc p f n)-1))
 |0,n,h1,hs=>⟨hs,Qm _,Qm _,λh=>absurd h (Jf _)⟩
 |f+1,n,h1,hs=>by
  unfold kas_asc UU;cases c:kl key (p.getD n 0) (p.getD (n-1) 0)with
  |true=>dsimp only;rw[Qr rfl];exact⟨hs,Qm _,by show n<=n+(f+1);omega,λ_=>Qa c⟩
  |false=>
   dsimp only;rw[QJ (by decide)];have hle:KA key p (n-1)<=KA key p n:=J9.mp (Jz c)
   obtain⟨a1,a2,a3,a4⟩:=SB f (n+1) (by omega) (λi j hij hj=>by
    by_cases hjn:j=n
    ·subst hjn;by_cases hin:i=j
     ·subst hin;exact Jy _
     ·exact Int.le_trans (hs i (j-1) (by omega) (by omega)) hle
    ·exact hs i j hij (by omega))
   exact⟨a1,by omega,by omega,λh=>a4 (by omega)⟩
def eqs(key:Nat->Int)(p:Array Nat)(n q:Nat):Prop:=∀i,n-1-q<=i->i<n->KA key p i=KA key p (n-1)
theorem Th:∀(f:Nat)(p:Array Nat)(n q:Nat),1<=n->q+1<=n->n+f<=p.size->dsc key p n->eqs key p n q ->
  let r:=UU (kl key) (kas_desc f p n q)
  r.1.Perm p/\r.1.size=p.size/\dsc key r.1 r.2.1/\eqs key r.1 r.2.1 r.2.2/\r.2.2+1<=r.2.1/\n<=r.2.1/\r.2.1<=n+f
 |0,p,n,q,h1,hq,hz,hd,he=>⟨J4 _,rfl,hd,he,hq,Qm _,Qm _⟩
 |f+1,p,n,q,h1,hq,hz,hd,he=>by
  intro r;have hr:r=UU (kl key) (kas_desc (f+1) p n q):=rfl;unfold kas_desc UU at hr;cases c:kl key (p.getD n 0) (p.getD (n-1) 0)with
  |true=>
   rw[c]at hr;(try dsimp only at hr);rw[if_pos rfl]at hr;have hlt:KA key p n<KA key p (n-1):=Qa c
   have ext:∀p':Array Nat,(∀i,KA key p' i=KA key p i)->dsc key p' (n+1)/\eqs key p' (n+1) 0:=λp' hp=>⟨λi j hij hj=>by
     rw[hp,hp];by_cases hjn:j=n
     ·subst hjn;by_cases hin:i=j
      ·subst hin;exact Jy _
      ·exact Int.le_trans (Int.le_of_lt hlt) (hd i (j-1) (by omega) (by omega))
     ·exact hd i j hij (by omega),λi hi1 hi2=>by
     have:i=n:=by omega
     subst this;rfl⟩
   by_cases hq0:q > 0
   ·rw[Qr hq0]at hr
    have same:∀i,KA key (kas_rev p (n-(q+1)) n) i=KA key p i:=λi=>by
     rw[Vv (by omega)];split
     ·rw[he _ (by omega) (by omega),he i (by omega) (by omega)]
     ·rfl
    obtain⟨d1,e1⟩:=ext _ same;obtain⟨a1,a2,a3,a4,a5,a6,a7⟩:=Th f (kas_rev p (n-(q+1)) n) (n+1) 0 (by omega) (by omega) (by rw[Wb];omega) d1 e1;rw[←hr]at a1 a2 a3 a4 a5 a6 a7;exact⟨a1.trans Y4,a2.trans Wb,a3,a4,a5,by omega,by omega⟩
   ·rw[QJ hq0]at hr;obtain⟨d1,e1⟩:=ext p λ_=>rfl
    obtain⟨a1,a2,a3,a4,a5,a6,a7⟩:=Th f p (n+1) 0 (by omega) (by omega) (by omega) d1 e1;rw[←hr]at a1 a2 a3 a4 a5 a6 a7;exact⟨a1,a2,a3,a4,a5,by omega,by omega⟩
  |false=>
   rw[c]at hr;(try dsimp only at hr);rw[if_neg (by decide)]at hr;unfold UU at hr;have hle:KA key p (n-1)<=KA key p n:=J9.mp (Jz c);cases d:kl key (p.getD (n-1) 0) (p.getD n 0)with
   |true=>rw[d]at hr;(try dsimp only at hr);rw[if_pos rfl]at hr;unfold UU at hr;rw[hr];exact⟨J4 _,rfl,hd,he,hq,Qm _,by show n<=n+(f+1);omega⟩
   |false=>
    rw[d]at hr;(try dsimp only at hr);rw[if_neg (by decide)]at hr;have hge:KA key p n<=KA key p (n-1):=J9.mp (Jz d)
    obtain⟨a1,a2,a3,a4,a5,a6,a7⟩:=Th f p (n+1) (q+1) (by omega) (by omega) (by omega) (λi j hij hj=>by
     by_cases hjn:j=n
     ·subst hjn;by_cases hin:i=j
      ·subst hin;exact Jy _
      ·exact Int.le_trans hge (hd i (j-1) (by omega) (by omega))
     ·exact hd i j hij (by omega)) (λi hi1 hi2=>by
     have e0:KA key p n=KA key p (n-1):=Int.le_antisymm hge hle;show KA key p i=KA key p (n+1-1);rw[Nat.add_sub_cancel,e0];by_cases hin:i=n
     ·subst hin;exact e0
     ·exact he i (by omega) (by omega))
    rw[←hr]at a1 a2 a3 a4 a5 a6 a7;exact⟨a1,a2,a3,a4,a5,by omega,by omega⟩
theorem Nh{n nrem:Nat}(h1:1<=n)(hn:n<=nrem)(hz:nrem<=p.size)(hd:dsc key p n) :
  let r:=UU (kl key) (kas_tail3 n nrem p)
  r.2.Perm p/\r.2.size=p.size/\srt key r.2 r.1/\1<=r.1/\r.1<=nrem:=by
 intro r;have hr:r=UU (kl key) (kas_tail3 n nrem p):=rfl;unfold kas_tail3 at hr;rw[W6]at hr;have hs:srt key (kas_rev p 0 n) n:=λi j hij hj=>by rw[Vv (by omega),Vv (by omega),Qr (by omega),Qr (by omega)];exact hd _ _ (by omega) (by omega)
 obtain⟨a1,a2,a3,_⟩:=SB (key:=key) (p:=kas_rev p 0 n) (nrem-n) n h1 hs;rw[hr];exact⟨Y4,Wb,a1,by show 1<=UU _ _;omega,by show UU _ _<=_;omega⟩
theorem Nj{n nrem:Nat}(h1:1<=n)(hn:n+1<=nrem)(hz:nrem<=p.size)(hd:dsc key p (n+1)) :
  let r:=UU (kl key) (kas_descPart n nrem p)
  r.2.Perm p/\r.2.size=p.size/\srt key r.2 r.1/\1<=r.1/\r.1<=nrem:=by
 intro r;have hr:r=UU (kl key) (kas_descPart n nrem p):=rfl;unfold kas_descPart at hr;rw[W6]at hr
 obtain⟨a1,a2,a3,a4,a5,a6,a7⟩:=Th (key:=key) (nrem-(n+1)) p (n+1) 0 (by omega) (by omega) (by omega) hd (λi hi1 hi2=>by
  have:i=n:=by omega
  subst this;rfl)
 generalize UU (kl key) (kas_desc (nrem-(n+1)) p (n+1) 0)=d at hr a1 a2 a3 a4 a5 a6 a7;obtain⟨p1,n1,q1⟩:=d;dsimp only at hr a1 a2 a3 a4 a5 a6 a7;by_cases hq:q1 > 0
 ·rw[Qr hq]at hr
  have same:∀i,KA key (kas_rev p1 (n1-(q1+1)) n1) i=KA key p1 i:=λi=>by
   rw[Vv (by omega)];split
   ·rw[a4 _ (by omega) (by omega),a4 i (by omega) (by omega)]
   ·rfl
  obtain⟨b1,b2,b3,b4,b5⟩:=Nh (key:=key) (p:=kas_rev p1 (n1-(q1+1)) n1) (n:=n1) (nrem:=nrem) (by omega) (by omega) (by rw[Wb];omega) (λi j hij hj=>by rw[same,same];exact a3 i j hij hj);rw[hr];exact⟨(b1.trans Y4).trans a1,(b2.trans Wb).trans a2,b3,b4,b5⟩
 ·rw[QJ hq]at hr;obtain⟨b1,b2,b3,b4,b5⟩:=Nh (key:=key) (p:=p1) (n:=n1) (nrem:=nrem) (by omega) (by omega) (by omega) a3;rw[hr];exact⟨b1.trans a1,b2.trans a2,b3,b4,b5⟩
theorem D9{nrem:Nat}(h1:1<=nrem)(hz:nrem<=p.size) :
  let r:=UU (kl key) (kas_count nrem p)
  r.2.Perm p/\r.2.size=p.size/\srt key r.2 r.1/\1<=r.1/\r.1<=nrem:=by
 intro r;have hr:r=UU (kl key) (kas_count nrem p):=rfl;unfold kas_count at hr;rw[W6]at hr
 obtain⟨a1,a2,a3,a4⟩:=SB (key:=key) (p:=p) (nrem-1) 1 (Qm _) (λi j hij hj=>by
  have:i=j:=by omega
  subst this;exact Jy _)
 generalize UU (kl key) (kas_asc p (nrem-1) 1)=n at hr a1 a2 a3 a4;by_cases hn:(n==nrem)=true
 ·rw[Qr hn]at hr;unfold UU at hr;rw[hr];exact⟨J4 _,rfl,a1,a2,by show n<=nrem;omega⟩
 ·rw[QJ hn]at hr;have hne:n≠nrem:=by simpa using hn
  have hlt:=a4 (by omega);by_cases hn1:n > 1
  ·rw[Qr hn1]at hr;unfold UU at hr;cases c:kl key (p.getD 0 0) (p.getD (n-1) 0)with
   |true=>rw[c]at hr;(try dsimp only at hr);rw[if_pos rfl]at hr;unfold UU at hr;rw[hr];exact⟨J4 _,rfl,a1,a2,by show n<=nrem;omega⟩
   |false=>
    rw[c]at hr;(try dsimp only at hr);rw[if_neg (by decide)]at hr;have hge:KA key p (n-1)<=KA key p 0:=J9.mp (Jz c);have all:∀i,i<n->KA key p i=KA key p 0:=λi hi=>Int.le_antisymm (Int.le_trans (a1 i (n-1) (by omega) (by omega)) hge) (a1 0 i (by omega) hi)
    have same:∀i,KA key (kas_rev p 0 n) i=KA key p i:=λi=>by
     rw[Vv (by omega)];split
     ·rw[all _ (by omega),all i (by omega)]
     ·rfl
    obtain⟨b1,b2,b3,b4,b5⟩:=Nj (key:=key) (p:=kas_rev p 0 n) (n:=n) (nrem:=nrem) a2 (by omega) (by rw[Wb];exact hz) (λi j hij hj=>by
     rw[same,same];by_cases hjn:j=n
     ·subst hjn;by_cases hin:i=j
      ·subst hin;exact Jy _
      ·rw[all i (by omega)];rw[all (j-1) (by omega)]at hlt;exact Int.le_of_lt hlt
     ·rw[all i (by omega),all j (by omega)];exact Jy _)
    rw[hr];exact⟨b1.trans Y4,b2.trans Wb,b3,b4,b5⟩
  ·rw[QJ hn1]at hr;have:n=1:=by omega
   subst this
   obtain⟨b1,b2,b3,b4,b5⟩:=Nj (key:=key) (p:=p) (n:=1) (nrem:=nrem) (Qm _) (by omega) hz (λi j hij hj=>by
    by_cases hij2:i=j
    ·subst hij2;exact Jy _
    ·have h0:i=0:=by omega
     have h1:j=1:=by omega
     subst h0;subst h1;exact Int.le_of_lt hlt)
   rw[hr];exact⟨b1,b2,b3,b4,b5⟩
theorem Re{k:Nat}(hs:srt key p k):∀(f l r:Nat),l<=r->r<=k->r-l<=f->(∀i,i<l->KA key p i<=KA key p k)->(∀i,r<=i->i<k->KA key p k<KA key p i) ->
  let m:=UU (kl key) (kas_place p k f l r)
  m<=k/\(∀i,i<m->KA key p i<=KA key p k)/\(∀i,m<=i->i<k->KA key p k<KA key p i)
 |0,l,r,hlr,hrk,hf,h1,h2=>⟨by show l<=k;omega,h1,λi (hi:l<=i)=>h2 i (by omega)⟩
 |f+1,l,r,hlr,hrk,hf,h1,h2=>by
  intro m;have hm:m=UU (kl key) (kas_place p k (f+1) l r):=rfl;unfold kas_place at hm;by_cases hge:l ≥ r
  ·rw[Qr hge]at hm;unfold UU at hm;rw[hm];exact⟨by omega,h1,λi hi=>h2 i (by omega)⟩
  ·rw[QJ hge]at hm;unfold UU at hm;cases c:kl key (p.getD k 0) (p.getD ((l+r) / 2) 0)with
   |true=>rw[c]at hm;(try dsimp only at hm);rw[if_pos rfl]at hm;rw[hm];have hlt:KA key p k<KA key p ((l+r) / 2):=Qa c;exact Re hs f l ((l+r) / 2) (by omega) (by omega) (by omega) h1 λi hi hik=>Int.lt_of_lt_of_le hlt (hs _ _ hi hik)
   |false=>rw[c]at hm;(try dsimp only at hm);rw[if_neg (by decide)]at hm;rw[hm];have hle:KA key p ((l+r) / 2)<=KA key p k:=J9.mp (Jz c);exact Re hs f ((l+r) / 2+1) r (by omega) hrk (by omega) (λi hi=>Int.le_trans (hs i ((l+r) / 2) (by omega) (by omega)) hle) h2
theorem P8:∀(f:Nat)(p:Array Nat)(k:Nat),k+f<=p.size->srt key p k->let r:=UU (kl key) (kas_bin f p k);r.Perm p/\r.size=p.size/\srt key r (k+f)
 |0,p,k,_,hs=>⟨J4 _,rfl,hs⟩
 |f+1,p,k,hz,hs=>by
  intro r;have hr:r=UU (kl key) (kas_bin (f+1) p k):=rfl;unfold kas_bin at hr;rw[W6]at hr;obtain⟨a1,a2,a3⟩:=Re (key:=key) hs k 0 k (J8 _) (Qm _) (by omega) (λi hi=>by omega) (λi h1 h2=>by omega);generalize UU (kl key) (kas_place p k k 0 k)=l at hr a1 a2 a3;have hk:k<p.size:=by omega
  obtain⟨b1,b2,b3⟩:=P8 f (bubble p k (k-l)) (k+1) (by rw[bubble_size];omega) (λi j hij hj=>by
   rw[OD hk (by omega),OD hk (by omega),show k-(k-l)=l by omega];by_cases hi:i=l
   ·rw[Qr hi];by_cases hjl:j=l
    ·rw[Qr hjl];exact Jy _
    ·rw[QJ hjl,Qr (by omega)];exact Int.le_of_lt (a3 (j-1) (by omega) (by omega))
   ·rw[QJ hi];by_cases hi2:l<i/\i<=k
    ·rw[Qr hi2,QJ (show ¬j=l by omega),Qr (by omega)];exact hs _ _ (by omega) (by omega)
    ·rw[QJ hi2];by_cases hjl:j=l
     ·rw[Qr hjl];exact a2 i (by omega)
     ·rw[QJ hjl];split
      ·exact hs _ _ (by omega) (by omega)
      ·exact hs _ _ (by omega) (by omega))
  rw[hr];exact⟨b1.trans (bubble_perm _ _ _),b2.trans (bubble_size _ _ _),by rw[show k+(f+1)=k+1+f by omega];exact b3⟩
theorem E5{n:Nat}(h1:1<=n):let r:=UU (kl key) (kas_sort n);r.Perm (List.toArray (Uk n))/\r.size=n/\srt key r n:=by
 intro r;have hr:r=UU (kl key) (kas_sort n):=rfl;unfold kas_sort at hr;rw[W6]at hr;have hsz:(List.toArray (Uk n)).size=n:=by simp
 obtain⟨a1,a2,a3,a4,a5⟩:=D9 (key:=key) (p:=List.toArray (Uk n)) (nrem:=n) h1 (by rw[hsz];exact Qm _);generalize UU (kl key) (kas_count n (List.toArray (Uk n)))=d at hr a1 a2 a3 a4 a5;by_cases hlt:d.1<n
 ·rw[Qr hlt]at hr;have hmax:max d.1 1=d.1:=by omega
  rw[hmax]at hr;obtain⟨b1,b2,b3⟩:=P8 (key:=key) (n-d.1) d.2 d.1 (by omega) a3;rw[hr];exact⟨b1.trans a1,by omega,by rw[show d.1+(n-d.1)=n by omega]at b3;exact b3⟩
 ·rw[QJ hlt]at hr;unfold UU at hr;rw[hr];exact⟨a1,by omega,by rw[show d.1=n by omega]at a3;exact a3⟩
def Asks{α:Type}(N:Nat)(R:α->Prop):KasT α->Prop
 |.ret a=>R a
 |.ask i j k=>i<N/\j<N/\∀b,Asks N R (k b)
theorem Asks.bind{α β:Type}{N:Nat}{R:α->Prop}{S:β->Prop}{f:α->KasT β}(hf:∀a,R a->Asks N S (f a)):∀{t:KasT α},Asks N R t->Asks N S (t.bind f)
 |.ret a,h=>hf a h
 |.ask _ _ k,⟨h1,h2,h3⟩=>⟨h1,h2,λb=>Asks.bind hf (h3 b)⟩
theorem P7{α:Type}{lt:Nat->Nat->Bool}{cmp:Nat->Nat->(Bool->Ub->Prop)->Ub->Prop}{s:Ub}{N:Nat}{R:α->Prop}(hc:∀i j C,i<N->j<N->C (lt i j) s->cmp i j C s):∀(t:KasT α)(Q:α->Ub->Prop),Asks N R t->Q (UU lt t) s->t.kasWp cmp Q s
 |.ret _,_,_,h=>h
 |.ask i j k,Q,⟨h1,h2,h3⟩,h=>hc i j _ h1 h2 (P7 hc (k (lt i j)) Q (h3 _) h)
def bnd(N:Nat)(p:Array Nat):Prop:=∀i,p.getD i 0<N
theorem Vb{N:Nat}{p q:Array Nat}(hN:0<N)(h:bnd N p)(e:q.Perm p):bnd N q:=λi=>by
 rw[Q6];cases z:q[i]? with
 |none=>exact hN
 |some v=>have hm:v∈q:=Array.mem_of_getElem? z;have hm2:v∈p:=e.mem_iff.mp hm;obtain⟨j,hj,e2⟩:=Array.mem_iff_getElem.mp hm2;have:=h j;rw[Q6,JD hj,e2]at this;exact this
section
variable{N:Nat}(hN:0<N)
include hN
theorem Sz{p:Array Nat}(h:bnd N p):∀(f n:Nat),Asks N (λ_=>True) (kas_asc p f n)
 |0,_=>trivial
 |f+1,n=>⟨h _,h _,λb=>by
  cases b with
  |true=>(try dsimp only);rw[if_pos rfl];trivial
  |false=>(try dsimp only);rw[if_neg (by decide)];exact Sz h f (n+1)⟩
theorem Tg:∀(f:Nat)(p:Array Nat)(n q:Nat),bnd N p->Asks N (λr=>bnd N r.1) (kas_desc f p n q)
 |0,p,_,_,h=>h
 |f+1,p,n,q,h=>⟨h _,h _,λb=>by
  cases b with
  |true=>
   dsimp only;rw[Qr rfl];split
   ·exact Tg f _ _ _ (Vb hN h Y4)
   ·exact Tg f _ _ _ h
  |false=>
   dsimp only;rw[QJ (by decide)];refine⟨h _,h _,λb=>?_⟩;cases b with
   |true=>(try dsimp only);rw[if_pos rfl];exact h
   |false=>(try dsimp only);rw[if_neg (by decide)];exact Tg f _ _ _ h⟩
theorem Ng{p:Array Nat}{n nrem:Nat}(h:bnd N p):Asks N (λr=>bnd N r.2) (kas_tail3 n nrem p):=
 Asks.bind (N:=N) (R:=λ_=>True) (S:=λr:Nat×Array Nat=>bnd N r.2) (f:=λm=>.ret (m,kas_rev p 0 n)) (λ_ _=>Vb (p:=p) (q:=kas_rev p 0 n) hN h Y4) (Sz hN (Vb hN h Y4) _ _)
theorem Ni{p:Array Nat}{n nrem:Nat}(h:bnd N p):Asks N (λr=>bnd N r.2) (kas_descPart n nrem p):=
 Asks.bind (λr hr=>by
  split
  ·exact Ng hN (Vb hN hr Y4)
  ·exact Ng hN hr) (Tg hN _ _ _ _ h)
theorem D8{p:Array Nat}{nrem:Nat}(h:bnd N p):Asks N (λr=>bnd N r.2) (kas_count nrem p):=
 Asks.bind (R:=λ_=>True) (λn _=>by
  split
  ·exact h
  ·split
   ·refine⟨h _,h _,λb=>?_⟩;cases b with
    |true=>(try dsimp only);rw[if_pos rfl];exact h
    |false=>(try dsimp only);rw[if_neg (by decide)];exact Ni hN (Vb hN h Y4)
   ·exact Ni hN h) (Sz hN h _ _)
theorem Rc{p:Array Nat}(h:bnd N p)(k:Nat):∀(f l r:Nat),Asks N (λ_=>True) (kas_place p k f l r)
 |0,_,_=>trivial
 |f+1,l,r=>by
  unfold kas_place;split
  ·trivial
  ·refine⟨h _,h _,λb=>?_⟩;cases b with
   |true=>(try dsimp only);rw[if_pos rfl];exact Rc h k f _ _
   |false=>(try dsimp only);rw[if_neg (by decide)];exact Rc h k f _ _
theorem P6:∀(f:Nat)(p:Array Nat)(k:Nat),bnd N p->Asks N (λ_=>True) (kas_bin f p k)
 |0,_,_,_=>trivial
 |f+1,p,k,h=>Asks.bind (R:=λ_=>True) (λl _=>P6 f _ _ (Vb hN h (bubble_perm _ _ _))) (Rc hN h k _ _ _)
end
theorem E4{n:Nat}(hn:0<n):Asks n (λ_=>True) (kas_sort n):=by
 have hb:bnd n (List.toArray (Uk n)):=λi=>by
  rw[Q6];by_cases hi:i<n
  ·simp[hi]
  ·simp[hi,hn]
 refine Asks.bind (λr hr=>?_) (D8 hn hb);split
 ·exact P6 hn _ _ _ hr
 ·trivial
end
def U6(q:Int×Int):Int:=q.1*10000000+q.2
def okP(q:Int×Int):Prop:=-1000000<=q.2/\q.2<=1000000
theorem HX{x y:Int×Int}(hx:okP x)(hy:okP y):U6 x<U6 y ↔ (x.1<y.1∨x.1=y.1/\x.2<y.2):=by unfold U6 okP at *;omega
theorem FW{x y:Int×Int}(hx:okP x)(hy:okP y)(h:U6 x=U6 y):x=y:=by
 unfold U6 okP at *;have h1:x.1=y.1:=by omega
 have h2:x.2=y.2:=by omega
 exact Prod.ext h1 h2
section
variable{prog:Uc}{w:World}{A:Around}{E:Ua->Ub->Prop}{s:Ub}
def V6(h:Heap)(v:Ua)(q:Int×Int):Prop:=∃a t u o n,v=.ref a/\h.get? a=some o/\o.cls=.type "tuple" /\ o.data=.seq #[.int q.1 t,.int q.2 u] n
theorem HW{x y:Ua}{p q:Int×Int}{Q:Bool->Ub->Prop}(hx:V6 s.heap x p)(hy:V6 s.heap y q)(h:Q (decide (p.1<q.1∨p.1=q.1/\p.2<q.2)) s):Uh (model prog w) A (keyLt' (tuples' true) x y) Q E s:=by
 obtain⟨a,t,u,o,n,rfl,e1,c1,d1⟩:=hx;obtain⟨b,t',u',o',n',rfl,e2,c2,d2⟩:=hy;refine kat_lt e1 d1 e2 d2 ?_;show KatLex prog w A true _ Q [(Value.int p.1 t,Value.int q.1 t'),(Value.int p.2 u,Value.int q.2 u')] 0 s;refine kat_cons (wpAny_eqBool_int ?_);by_cases h1:p.1=q.1
 ·have e:(p.1==q.1)=true:=by simpa using h1
  rw[e];refine kat_yes (kat_cons (wpAny_eqBool_int ?_));by_cases h2:p.2=q.2
  ·have e:(p.2==q.2)=true:=by simpa using h2
   rw[e];refine kat_yes (kat_nil ?_);have:decide (p.1<q.1∨p.1=q.1/\p.2<q.2)=false:=Qu (by omega);rw[this]at h;exact h
  ·have e:(p.2==q.2)=false:=by simpa using h2
   rw[e];refine kat_no (kat_one _ _ (PyProof.Rows.lt_int ?_))
   have:decide (p.1<q.1∨p.1=q.1/\p.2<q.2)=decide (p.2<q.2):=by
    by_cases z:p.2<q.2
    ·rw[QL z,QL (.inr ⟨h1,z⟩)]
    ·rw[Qu z,Qu (by omega)]
   rw[this]at h;exact h
 ·have e:(p.1==q.1)=false:=by simpa using h1
  rw[e];refine kat_no (oneLt_int ?_)
  have:decide (p.1<q.1∨p.1=q.1/\p.2<q.2)=decide (p.1<q.1):=by
   by_cases z:p.1<q.1
   ·rw[QL z,QL (.inl z)]
   ·rw[Qu z,Qu (by omega)]
  rw[this]at h;exact h
def Zu(h:Heap):List Ua->LP->Prop
 |[],[]=>True
 |v::vs,q::qs=>V6 h v q/\Zu h vs qs
 |_,_=>False
theorem Zu.get{h:Heap}:∀{vs:List Ua}{qs:LP},Zu h vs qs->vs.length=qs.length/\∀(i:Nat)(hi:i<vs.length),V6 h (vs.getD i .none) (qs.getD i (0,0))
 |[],[],_=>⟨rfl,λi hi=>absurd hi (Nat.not_lt_zero _)⟩
 |v::vs,q::qs,⟨h1,h2⟩=>by
  obtain⟨e,f⟩:=Zu.get h2;refine⟨by simp[e],λi hi=>?_⟩;cases i with
  |zero=>exact h1
  |succ i=>exact f i (by simpa using hi)
theorem Zu.tups{h:Heap}:∀{vs:List Ua}{qs:LP},Zu h vs qs->∃fs:List Ua,KatTups h vs fs/\fs.length=vs.length/\∀v∈fs,∃i t,v=.int i t
 |[],[],_=>⟨[],trivial,rfl,λ_ h=>by cases h⟩
 |v::vs,q::qs,⟨hp,h2⟩=>by
  obtain⟨a,t,u,o,n,rfl,e1,c1,d1⟩:=hp;obtain⟨fs,f1,f2,f3⟩:=Zu.tups h2;refine⟨.int q.1 t::fs,.cons e1 c1 d1 rfl f1,by simp[f2],λv hv=>?_⟩;rcases QP.mp hv with rfl|hv
  ·exact⟨_,_,rfl⟩
  ·exact f3 v hv
theorem Zu.mono{h h':Heap}(k:∀b o,h.get? b=some o->h'.get? b=some o):∀{vs:List Ua}{qs:LP},Zu h vs qs->Zu h' vs qs
 |[],[],_=>trivial
 |v::vs,q::qs,⟨hp,h2⟩=>by obtain⟨a,t,u,o,n,rfl,e1,c1,d1⟩:=hp;exact⟨⟨a,t,u,o,n,rfl,k _ _ e1,c1,d1⟩,Zu.mono k h2⟩
def VX(qs:LP)(π:List Nat):Prop:=π.Perm (Uk qs.length)/\(π.map λi=>qs.getD i (0,0)).Pairwise λx y=>U6 x<=U6 y
theorem CP{a:Ud}{vs:List Ua}{qs:LP}{n:Nat}{P:Fin->Ub->Prop}(ho:s.heap.get? a=some (seqObj "list" vs.toArray n))
  (hp:Zu ((s.heap.update a (Obj.mapSeq λ_=>#[]))) vs qs) (hq:∀q∈qs,okP q) (h64:vs.length<64)
  (h:∀π:List Nat,VX qs π->P (.done (.ret .none)) {s with heap:=sortedHeap s.heap a vs (List.toArray (π.map λi=>vs.getD i .none))}) :
  Uh (model prog w) A (Builtin.«list.sort» ⟨[.ref a],[]⟩) P E s:=by
 obtain⟨hl,hget⟩:=hp.get;rw[list_sort_plain];have ha:a<s.heap.objs.size:=Qh ho;refine Qd (listItems_at ho rfl ?_);refine Qd (listUpdate_at ho rfl ?_);obtain⟨e1,ho1⟩:∃e1,(s.heap.update a (Obj.mapSeq λ_=>#[])).get? a=some (seqObj "list" #[] e1):=⟨_,get?_update_seq ho (λ_=>#[])⟩
 refine Qd (seqEpoch_at ho1 rfl ?_);refine Qd (wpAny_newTuple ?_);refine Qd (wpAny_newList ?_);refine wpAny_holding ?_;have ho6:(((s.heap.update a (Obj.mapSeq λ_=>#[])).push (seqObj "tuple" vs.toArray 0)).push (seqObj "list" #[] 0)).get? a=some (seqObj "list" #[] e1):=by rw[Heap.get?_push_ne _ _ _ (by rw[size_push',Heap.size_update];exact QD (Nat.lt_succ_of_lt ha)),Heap.get?_push_ne _ _ _ (by rw[Heap.size_update];exact QD ha)];exact ho1
 have hp6:Zu (((s.heap.update a (Obj.mapSeq λ_=>#[])).push (seqObj "tuple" vs.toArray 0)).push (seqObj "list" #[] 0)) vs qs:=hp.mono λb o e=>Qi _ (Qi _ e)
 show Uh (model prog w) A _ P E {s with heap:=((s.heap.update a (Obj.mapSeq λ_=>#[])).push (seqObj "tuple" vs.toArray 0)).push (seqObj "list" #[] 0)};dsimp only;have hsz:vs.toArray.size=vs.length:=by simp
 by_cases h2:vs.toArray.size<2
 ·rw[Qr h2,Qr h2];refine Qd (Qj ?_);rw[StateT.run_pure];refine Qd (Qj ?_);dsimp only;refine Qd (seqEpoch_at ho6 rfl ?_);refine Qd (listUpdate_at ho6 rfl ?_ (hsz2:=by rw[Array.size_map];show(pairsOf vs).size<=_;rw[pairsOf_size,sizeLine_eq];omega));simp only[bne_self_eq_false,JQ,if_false]
  have hid:(arrOf (SortSt.mk' general' (vs.toArray.zip vs.toArray) #[] 7 none)).map (·.2)=List.toArray ((Uk vs.length).map λi=>vs.getD i .none):=by
   show(vs.toArray.zip vs.toArray).map (·.2)=_
   apply Array.toList_inj.mp;apply List.ext_getElem?;intro i;simp only[Array.toList_map,Array.toList_zip,Qg,List.getElem?_zip_eq_some];by_cases hi:i<vs.length
   ·simp[List.getElem?_zip_eq_some,hi,List.getElem?_range]
   ·simp[hi]
  rw[hid];refine Qj (h (Uk vs.length) ⟨by rw[hl],?_⟩);rw[List.pairwise_map];rw[hsz]at h2
  rcases(show vs.length=0∨vs.length=1 by omega)with z|z<;>rw[z]
  ·exact .nil
  ·exact List.pairwise_singleton _ _
 ·rw[QJ h2,QJ h2];rw[hsz]at h2;obtain⟨fs,f1,f2,f3⟩:=hp6.tups;refine Qd (kat_kind (T:=.type "int") f1 (by omega) (λv hv=>by obtain⟨i,t,rfl⟩:=f3 v hv;exact(show Looks _ _ (pure (Value.type "int")) _ from .now)) rfl ?_)
  refine Qd (Qy (kat_run (ks:=vs) (G:=λp s'=>s' = {s with heap:=((s.heap.update a (Obj.mapSeq λ_=>#[])).push (seqObj "tuple" vs.toArray 0)).push (seqObj "list" #[] 0)}/\p=UU (kl λi=>U6 (qs.getD i (0,0))) (kas_sort vs.length))
   (Q:=λst' s'=>s' = {s with heap:=((s.heap.update a (Obj.mapSeq λ_=>#[])).push (seqObj "tuple" vs.toArray 0)).push (seqObj "list" #[] 0)}/\failedOf st'=none/\arrOf st'=(UU (kl λi=>U6 (qs.getD i (0,0))) (kas_sort vs.length)).map (kas_item (vs.toArray.zip vs.toArray)))
   rfl (by omega) h64 (λp st' s' a1 a2 a3 a4=>⟨a4.1,a3,by rw[a2,a4.2]⟩) ?_) ?_ λ_ _ e=>e)
  ·refine P7 (N:=vs.length) (R:=λ_=>True) (lt:=kl λi=>U6 (qs.getD i (0,0))) (λi j C hi hj hC=>?_) _ _ (E4 (by omega)) ⟨rfl,rfl⟩;refine HW (Zu.get hp6 |>.2 i hi) (Zu.get hp6 |>.2 j hj) ?_;have oi:okP (qs.getD i (0,0)):=hq _ (by rw[QC,Qb (by omega)];exact Jd _);have oj:okP (qs.getD j (0,0)):=hq _ (by rw[QC,Qb (by omega)];exact Jd _);have e:decide ((qs.getD i (0,0)).1<(qs.getD j (0,0)).1∨(qs.getD i (0,0)).1=(qs.getD j (0,0)).1/\(qs.getD i (0,0)).2<(qs.getD j (0,0)).2)=kl (λi=>U6 (qs.getD i (0,0))) i j:=by unfold kl;exact decide_eq_decide.mpr (HX oi oj).symm
   rw[e];exact hC
  ·rintro⟨⟨⟩,st'⟩ s' ⟨rfl,hf,har⟩;dsimp only;obtain⟨b1,b2,b3⟩:=E5 (key:=λi=>U6 (qs.getD i (0,0))) (n:=vs.length) (by omega);generalize UU (kl λi=>U6 (qs.getD i (0,0))) (kas_sort vs.length)=p at har b1 b2 b3;have hout:=kat_snds (ks:=vs) (vs:=vs) rfl har;have hsz2:((arrOf st').map (·.2)).size=vs.length:=by rw[hout,QE,Qe,JX,b2]
   refine Qd (seqEpoch_at ho6 rfl ?_);refine Qd (listUpdate_at ho6 rfl ?_ (hsz2:=by rw[hsz2,sizeLine_eq];omega));rw[hf];simp only[bne_self_eq_false,JQ,if_false];rw[hout];refine Qj (h p.toList ⟨?_,?_⟩)
   ·have:=Array.perm_iff_toList_perm.mp b1;rw[←hl];exact this
   ·rw[List.pairwise_map,List.pairwise_iff_getElem];intro i j hi hj hij;rw[JX,b2]at hi hj;have:=b3 i j (by omega) hj;unfold KA at this;rw[Q6,Q6,JD (by omega),JD (by omega)]at this;simpa using this
end
section
variable{prog:Uc}{w:World}{A:Around}{E:Ua->Ub->Prop}{s:Ub}
theorem CO{l:Ud}{vs:List Ua}{qs:LP}{Q:Ua->Ub->Prop}(hl:s.heap.IsList l vs.toArray)(hp:Zu s.heap vs qs)(hq:∀q∈qs,okP q)(h64:vs.length<64)
  (h:∀π:List Nat,VX qs π->Q (.ref (s.heap.objs.size+1)) {s with heap:=sortedAll s.heap vs (List.toArray (π.map λi=>vs.getD i .none))}) :
  Uh (model prog w) A (call (.builtin "sorted") [.ref l]) Q E s:=by
 refine Calls.call_function_entry kind_sorted plain_sorted entry_sorted (args_sorted1 _) ?_;unfold Builtin.«sorted»;refine Qd (m:=checkCount "sorted" 1 1 _) (Qj ?_);refine Qd (collect_list hl ?_);refine Qd (wpAny_newList ?_);have hsz:((s.heap.push (seqObj "list" #[] 0)).update s.heap.objs.size (Obj.mapSeq (· ++ vs.toArray))).objs.size=s.heap.objs.size+1:=by rw[Heap.size_update,size_push']
 have hoL:(((s.heap.push (seqObj "list" #[] 0)).update s.heap.objs.size (Obj.mapSeq (· ++ vs.toArray))).push (seqObj "list" vs.toArray 0)).get? (s.heap.objs.size+1)=some (seqObj "list" vs.toArray 0):=by rw[←hsz];exact Qv _ rfl
 show Uh _ _ _ _ _ {s with heap:=((s.heap.push (seqObj "list" #[] 0)).update s.heap.objs.size (Obj.mapSeq (· ++ vs.toArray))).push (seqObj "list" vs.toArray 0)};rw[hsz];refine Qd (wpAny_holding (wpAny_call_entry slot_list_sort ⟨_,hoL,rfl⟩ entry_list_sort (CP (qs:=qs) hoL (hp.mono λb o e=>?_) hq h64 λπ a1=>⟨_,rfl,?_⟩) (args_list_sort _)))
 ·have hlt:b<s.heap.objs.size:=Qh e;dsimp only;have hlt':(b:Nat)<s.heap.objs.size:=hlt;rw[Heap.get?_update_ne _ _ _ _ (QD (Nat.lt_succ_of_lt hlt')),Heap.get?_push_ne _ _ _ (by rw[hsz];exact QD (Nat.lt_succ_of_lt hlt')),Heap.get?_update_ne _ _ _ _ (QD hlt),Heap.get?_push_ne _ _ _ (QD hlt)];exact e
 ·exact Qj ⟨_,rfl,h π a1⟩
end
end DL
namespace DL
open PySem PySem.Spec L2
open PyProof.Rows hiding St
section
variable{X:Cx}
theorem P5{pins:List (Ud×Obj)}{s:Ub}{σ:St}{H:Hp}(I:Inv X pins σ H s):∀{as:List Ud}{us:List Ua}{qs:LP},Vals (as.map V.ref) us->as.length=qs.length->(∀(i:Nat) a q,as[i]?=some a->qs[i]?=some q->SqT X.K H a [.int q.1,.int q.2])->Zu s.heap us qs
 |[],_,[],.nil,_,_=>trivial
 |a::as,_,q::qs,.cons r t,hl,h=>by refine⟨?_,P5 I t (by simpa using hl) λi a q h1 h2=>h (i+1) a q (by simpa using h1) (by simpa using h2)⟩;cases r;obtain⟨its,rv,⟨o,e,c,n,d⟩,_⟩:=I.tuple (h 0 a q rfl rfl);obtain⟨u,v,rfl,r1,r2⟩:=rv.two;obtain⟨t1,rfl⟩:=r1;obtain⟨t2,rfl⟩:=r2;exact⟨a,t1,t2,o,n,rfl,e,c,by simpa using d⟩
theorem OX{as:List Ud}{us:List Ua}(r:Vals (as.map V.ref) us):∀(π:List Nat),(∀i∈π,i<as.length)->Vals (π.map λi=>V.ref (as.getD i 0)) (π.map λi=>us.getD i .none)
 |[],_=>.nil
 |i::π,h=>by
  refine .cons ?_ (OX r π λj hj=>h j (QF _ hj));have hi:=h i Qq;have e:(as.map V.ref)[i]?=some (.ref (as.getD i 0)):=by rw[List.getElem?_map,List.getElem?_eq_getElem hi];simp[List.getD,List.getElem?_eq_getElem hi]
  obtain⟨u,e2,ru⟩:=r.get e;simp only[List.getD,e2,JO];exact ru
theorem DD:ZI X (.builtin "sorted") (λxs H Q=>∃l,∃as:List Ud,∃qs:LP,xs=[.ref l]/\SqL X.K H l (as.map V.ref)/\as.length=qs.length/\(∀(i:Nat) a q,as[i]?=some a->qs[i]?=some q->SqT X.K H a [.int q.1,.int q.2])/\(∀q∈qs,okP q)/\qs.length<64 /\
  ∀π p,VX qs π->H p=none->Q (.ref p) (upd H p (.lst (π.map λi=>V.ref (as.getD i 0))))):=by
 intro pins s σ H xs us Q I rx h;obtain⟨l,as,qs,rfl,hq,hl,ht,ho,hb,q⟩:=h;obtain⟨u,rfl,ru⟩:=rx.one;cases ru;obtain⟨its,rv,p,hz⟩:=I.list hq;have hn:its.length=qs.length:=by have:=rv.length;rw[Qe]at this;omega
 refine CO (qs:=qs) p.isList (P5 I rv hl ht) ho (by omega) λπ hπ=>?_
 obtain⟨e,he⟩:=sortedAll_at s.heap its (List.toArray (π.map λi=>its.getD i .none));have hπl:∀i∈π,i<as.length:=λi hi=>by have:=hπ.1.mem_iff.mp hi;rw[QT]at this;omega
 refine⟨.ref (s.heap.objs.size+1),_,I.laid (t':=s.toks) (λb o=>sortedAll_old) (JH _) (show Kz X.prog X.w _ _ _ (.lst (π.map λi=>V.ref (as.getD i 0)))from⟨?_,_,e,OX rv π hπl,he⟩),rfl,q π _ hπ (I.hok.fresh (JH _))⟩;rw[Qe,hπ.1.length_eq,QS];rw[Qe]at hz;omega
def V5:D->Option (Int×Int)
 |.tuple [.int a,.int b]=>some (a,b)
 |_=>none
def Va:List D->Option LP
 |[]=>some []
 |d::r=>(V5 d).bind λq=>(Va r).map (q :: ·)
def Zz(q:Int×Int):D:=.tuple [.int q.1,.int q.2]
theorem E3{d:D}{q:Int×Int}(h:V5 d=some q):d=Zz q:=by
 unfold V5 at h;split at h
 ·cases h;rfl
 ·cases h
theorem OZ:∀{ds:List D}{qs:LP},Va ds=some qs->ds=qs.map Zz
 |[],qs,h=>by cases h;rfl
 |d::r,qs,h=>by
  unfold Va at h;cases z:V5 d with
  |none=>rw[z]at h;cases h
  |some q=>
   rw[z]at h;cases z2:Va r with
   |none=>rw[z2]at h;cases h
   |some qs'=>rw[z2]at h;cases h;rw[E3 z,OZ z2];rfl
def Vi(qs:LP):LP:=qs.mergeSort λx y=>decide (U6 x<=U6 y)
theorem DC(qs:LP):(Vi qs).Perm qs:=List.mergeSort_perm ..
theorem E2(qs:LP):(Vi qs).Pairwise λx y=>U6 x<=U6 y:=by have:=List.pairwise_mergeSort (le:=λx y:Int×Int=>decide (U6 x<=U6 y)) (by intro a b c;simp;omega) (by intro a b;simp;omega) qs;exact this.imp (by simp)
theorem P3:∀{a b:LP},(∀x∈a,okP x)->a.Perm b->a.Pairwise (λx y=>U6 x<=U6 y)->b.Pairwise (λx y=>U6 x<=U6 y)->a=b
 |[],b,_,p,_,_=>by rw[List.nil_perm.1 p]
 |x::a,[],_,p,_,_=>by have:=p.length_eq;simp at this
 |x::a,y::b,ok,p,ha,hb=>by
  have hx:U6 y<=U6 x:=by
   rcases QP.1 (p.mem_iff.1 (Qq ..))with e|e
   ·rw[e];exact Jy _
   ·exact(Jm.1 hb).1 x e
  have hy:U6 x<=U6 y:=by
   rcases QP.1 (p.mem_iff.2 (Qq ..))with e|e
   ·rw[e];exact Jy _
   ·exact(Jm.1 ha).1 y e
  have oky:okP y:=ok y (p.mem_iff.2 (Qq ..));have e:=FW (ok x (Qq ..)) oky (Int.le_antisymm hy hx);subst e;rw[P3 (λz hz=>ok z (QF _ hz)) (List.Perm.cons_inv p) (Jm.1 ha).2 (Jm.1 hb).2]
theorem FV{qs:LP}{π:List Nat}(ok:∀q∈qs,okP q)(h:VX qs π):(π.map λi=>qs.getD i (0,0))=Vi qs:=by
 have hp:(π.map λi=>qs.getD i (0,0)).Perm qs:=by
  have h1:=h.1.map λi=>qs.getD i (0,0)
  have e:(Uk qs.length).map (λi=>qs.getD i (0,0))=qs:=by
   apply List.ext_getElem?;intro i;rw[Qg];by_cases hi:i<qs.length
   ·rw[List.getElem?_range hi,List.getElem?_eq_getElem hi];simp[List.getD,List.getElem?_eq_getElem hi]
   ·rw[Q4 (by rw[QS];omega),Q4 (by omega)];rfl
  rw[e]at h1;exact h1
 exact P3 (λx hx=>ok x (hp.mem_iff.mp hx)) (hp.trans (DC qs).symm) h.2 (E2 qs)
def okPB(q:Int×Int):Bool:=decide (-1000000<=q.2/\q.2<=1000000)
def V4:List D->Option D
 |[.list ds]=>(match Va ds with
  |some qs=>if qs.length<64/\qs.all okPB=true then some (.list ((Vi qs).map Zz))else none
  |none=>none)
 |_=>none
theorem DB{xs:List D}{d:D}(h:V4 xs=some d):∃qs:LP,xs=[.list (qs.map Zz)]/\qs.length<64/\(∀q∈qs,okP q)/\d=.list ((Vi qs).map Zz):=by
 unfold V4 at h;split at h
 ·rename_i ds;cases z:Va ds with
  |none=>rw[z]at h;cases h
  |some qs=>
   rw[z]at h;dsimp only at h;split at h
   ·rename_i c;cases h;exact⟨qs,by rw[OZ z],c.1,λq hq=>(show -1000000<=q.2/\q.2<=1000000 from Qa (Jc.mp c.2 q hq)),rfl⟩
   ·cases h
 ·cases h
theorem OW{K:Frag}{G:Hp}:∀{vs:List V}{qs:LP},Reps K G vs (qs.map Zz)->∃as:List Ud,vs=as.map V.ref/\as.length=qs.length/\∀(i:Nat) a q,as[i]?=some a->qs[i]?=some q->SqT K G a [.int q.1,.int q.2]
 |_,[],.nil=>⟨[],rfl,rfl,λi a q h=>by simp at h⟩
 |_,q::qs,.cons r t=>by
  obtain⟨as,rfl,hl,h⟩:=OW t;obtain⟨a,ws,rfl,h1,r1⟩:=r.tup_inv;cases r1 with
  |cons ra rb=>
   obtain⟨v,rfl,rb'⟩:=rb.one_inv;refine⟨a::as,rfl,by simp[hl],λi a' q' e1 e2=>?_⟩;cases i with
   |zero=>cases e1;cases e2;rw[ra.int_inv,rb'.int_inv]at h1;exact h1
   |succ i=>exact h i a' q' (by simpa using e1) (by simpa using e2)
theorem FT{K:Frag}{G:Hp}{a:Ud}{q:Int×Int}(h:SqT K G a [.int q.1,.int q.2]):Rep K G (.ref a) (Zz q):=.tup h (.cons (.int _) (.cons (.int _) .nil))
theorem OV{K:Frag}{G:Hp}{as:List Ud}{qs:LP}(hl:as.length=qs.length)(h:∀(i:Nat) a q,as[i]?=some a->qs[i]?=some q->SqT K G a [.int q.1,.int q.2]):∀π:List Nat,(∀i∈π,i<qs.length)->Reps K G (π.map λi=>V.ref (as.getD i 0)) ((π.map λi=>qs.getD i (0,0)).map Zz)
 |[],_=>.nil
 |i::π,hb=>by
  refine .cons ?_ (OV hl h π λj hj=>hb j (QF _ hj));have hi:=hb i Qq;refine FT (h i _ _ ?_ ?_)
  ·rw[List.getElem?_eq_getElem (by omega)];simp[List.getD,List.getElem?_eq_getElem (show i<as.length by omega)]
  ·rw[List.getElem?_eq_getElem hi];simp[List.getD,List.getElem?_eq_getElem hi]
theorem HV:Yk X (.builtin "sorted") V4:=by refine⟨_,DD,λvs G H ds d Q s r e k=>?_⟩;obtain⟨qs,rfl,h64,ok,rfl⟩:=DB e;obtain⟨v,rfl,q1⟩:=r.one_inv;obtain⟨l,ws,rfl,h1,r1⟩:=q1.lst_inv;obtain⟨as,rfl,hl,ht⟩:=OW r1;refine⟨l,as,qs,rfl,s.seq h1,hl,λi a q e1 e2=>ZH s (ht i a q e1 e2),ok,h64,λπ p hπ hp=>?_⟩;have hb:∀i∈π,i<qs.length:=λi hi=>QT.mp (hπ.1.mem_iff.mp hi);have rr:=(OV hl ht π hb).mono (Kw (s.free hp):Same G (upd G p (.lst (π.map λi=>V.ref (as.getD i 0)))));rw[FV ok hπ]at rr;exact k _ _ _ (Ext.new s hp) (.lst (SqL.of Ki) rr)
theorem Yk.or{f:Ua}{p q:List D->Option D}(h1:Yk X f p)(h2:Yk X f q):Yk X f (λxs=>(p xs).orElse λ_=>q xs):=by
 obtain⟨r1,c1,k1⟩:=h1;obtain⟨r2,c2,k2⟩:=h2;refine⟨λxs H Q=>r1 xs H Q∨r2 xs H Q,λpins s σ H xs us Q I rx h=>?_,λvs G H ds d Q s r e k=>?_⟩
 ·rcases h with h|h
  ·exact c1 pins s σ H xs us Q I rx h
  ·exact c2 pins s σ H xs us Q I rx h
 ·dsimp only at e;cases z:p ds with
  |some d'=>rw[z]at e;cases e;exact .inl (k1 vs G H ds _ Q s r z k)
  |none=>rw[z]at e;exact .inr (k2 vs G H ds _ Q s r e k)
def VW(xs:List D):Option D:=(WT xs).orElse λ_=>V4 xs
theorem MZ:Yk X (.builtin "sorted") VW:=Gd.or HV
theorem DA{ns:List Int}(h:ns.length<64):VW [.list (ns.map .int)]=some (.list ((Zt ns).map .int)):=by unfold VW;rw[E8 h];rfl
end
section
variable{X:Cx}{B G0:Hp}{e o a b c tg:Uf}{pos p2:Pos}{es rest:List Uf}{te to ti:TE}
def XZ{β:Type}(p:D->D->Option β)(f:M D)(j:Nat):M β:=UO f λx=>λρ=>match ρ[j]? with
 |some (some (.pub d))=>US (p x d) ρ
 |some (some (.own ds))=>US (p x (.list ds)) ρ
 |_=>.bad
theorem NZ{K:Frag}{σ:St}{H:Hp}{p:D->D->Option Bool}{r:R2}{j:Nat}{f:M D}{Q:Bool->Hp->Prop}{QV:VK}(hq:∀t H3,Q t H3->QV (.bl t) H3)
  (hr:∀v u G H x y d Q,Same G H->Rep K G v x->Rep K G u y->p x y=some d->Q (.bl d) H->r v u H Q)
  (q:tBo K B G0 (XZ p f j) σ H Q):tD K B G0 f σ H λx H1=>Km j σ H1 λy H2=>r x y H2 QV:=by
 refine tM.one (R:=Rep K) q λv H2 G ρ x k rx a=>?_
 cases z:ρ[j]? with
 |none=>rw[z]at a;exact a.elim
 |some o=>
  cases o with
  |none=>rw[z]at a;exact a.elim
  |some sl=>
   cases sl with
   |deep _ _=>rw[z]at a;exact a.elim
   |pub d=>rw[z]at a;dsimp only at a;obtain⟨d',e',a'⟩:=aft.opt a;obtain⟨u,h1,h2⟩:=k.pub j d z;exact⟨u,h1,hr v u G H2 x d d' _ k.gh rx h2 e' (hq _ _ (a' d' G H2 k (.refl _) rfl))⟩
   |own ds=>rw[z]at a;dsimp only at a;obtain⟨d',e',a'⟩:=aft.opt a;obtain⟨ad,vs,h1,h2,h3,h4,h5⟩:=k.own j ds z;exact⟨.ref ad,h1,hr v (.ref ad) H2 H2 x (.list ds) d' _ (.refl _) (rx.mono k.gh) (.lst (SqL.of h4) (h5.mono k.gh)) e' (hq _ _ (a' d' G H2 k (.refl _) rfl))⟩
theorem HU{op:CmpOp}{p:D->D->Option Bool}{j:Nat}{f:M D}(o:OpB X (Uj op) p)(ha:PE X a (tD X.K B G0 f))(hb:PE X b (Km j))(hm:behindInMarks op b=false) :
  PT X (.Compare a [op] [b] pos) (tBo X.K B G0 (XZ p f j)):=by
 obtain⟨r,h,i⟩:=o;exact Zx (Sc h ha hb hm) λσ H Q q=>NZ (λt H3 z=>⟨t,rfl,z⟩) i q
theorem Sy{β:Type}{p:D->D->Option β}{f:M D}{j:Nat}{ρ ρ1:UB}{x:D}{ds:List D}{r:β}(h1:f ρ=.ok x ρ1)(h2:ρ1[j]?=some (some (.own ds)))(h3:p x (.list ds)=some r):XZ p f j ρ=.ok r ρ1:=by unfold XZ;exact Ke h1 (by rw[h2];exact KY h3)
end
def ZL(K:Frag)(B G0:Hp)(f:M (List D)):TA:=λσ H Q=>∃G ρ,EOk K B G0 G H σ ρ/\match f ρ with
 |.ok ds ρ'=>∀vs G' H',EOk K B G0 G' H' σ ρ'->Same G G'->Reps K H' vs ds->Q vs H'
 |.bad=>False
def Y1(ρ:UB)(j:Nat):Option D:=match ρ[j]? with
 |some (some (.pub d))=>some d
 |some (some (.own ds))=>some (.list ds)
 |some (some (.deep _ d))=>some d
 |_=>none
theorem EOk.tree{K:Frag}{B G0 G H:Hp}{σ:St}{ρ:UB}{j:Nat}{d:D}(k:EOk K B G0 G H σ ρ)(h:Y1 ρ j=some d):∃v,σ[j]?=some (some v)/\Rep K H v d:=by
 unfold Y1 at h;split at h
 ·rename_i d' e;cases h;obtain⟨v,h1,h2⟩:=k.pub j _ e;exact⟨v,h1,h2.mono k.gh⟩
 ·rename_i ds e;cases h;obtain⟨a,vs,h1,h2,h3,h4,h5⟩:=k.own j ds e;exact⟨.ref a,h1,.lst (SqL.of h4) (h5.mono k.gh)⟩
 ·rename_i p d' e;cases h;obtain⟨ω,k1,k2⟩:=k.dp;obtain⟨v,fp,s,r,_⟩:=k1 j p _ e;exact⟨v,s,r.rep k.gh⟩
 ·cases h
def WX(j:Nat)(g:M (List D)):M (List D):=λρ=>match Y1 ρ j with
 |none=>.bad
 |some _=>(UO g λxs=>λρ'=>match Y1 ρ' j with
  |some d=>.ok (d::xs) ρ'
  |none=>.bad) ρ
def WK(n:Nat)(F:List D->Option D)(g:M (List D)):M D:=UO g λxs=>if xs.length=n then(match F xs with
 |some d=>if flat d=true then UE d else λ_=>.bad
 |none=>λ_=>.bad)else λ_=>.bad
section
variable{X:Cx}{B G0:Hp}{e o a b c tg:Uf}{pos p2:Pos}{es rest:List Uf}
theorem HS:PA X [] (ZL X.K B G0 UD):=Yw Yt λσ H Q ⟨G,ρ,k,a⟩=>a [] G H k (.refl _) .nil
theorem FS{f:M D}{g:M (List D)}(ha:PE X e (tD X.K B G0 f))(hr:PA X es (ZL X.K B G0 g))(hs:Ui (e::es) X.env=(false,eval e X.env)::Ui es X.env:=by rfl) :
  PA X (e::es) (ZL X.K B G0 (UH f g)):=Yw (Z0 ha hr hs) λσ H Q ⟨G,ρ,k,a⟩=>by
 refine⟨G,ρ,k,?_⟩;unfold UH UO at a;cases z:f ρ with
 |bad=>rw[z]at a;exact a.elim
 |ok d ρ1=>
 rw[z]at a;dsimp only at a;intro v G1 H1 k1 s1 r1;refine⟨G1,ρ1,k1,?_⟩;cases z2:g ρ1 with
 |bad=>rw[z2]at a;exact a.elim
 |ok xs ρ2=>
 rw[z2]at a;dsimp only[UE]at a;intro vs G2 H2 k2 s2 r2;exact a (v::vs) G2 H2 k2 (s1.trans s2) (.cons ((r1.mono s2).mono k2.gh) r2)
theorem E1{j:Nat}{g:M (List D)}(ha:PE X e (Km j))(hr:PA X es (ZL X.K B G0 g))(hs:Ui (e::es) X.env=(false,eval e X.env)::Ui es X.env:=by rfl) :
  PA X (e::es) (ZL X.K B G0 (WX j g)):=Yw (Z0 ha hr hs) λσ H Q ⟨G,ρ,k,a⟩=>by
 unfold WX at a;cases z0:Y1 ρ j with
 |none=>rw[z0]at a;exact a.elim
 |some d0=>
 rw[z0]at a;obtain⟨v,hv,_⟩:=k.tree z0;refine⟨v,hv,G,ρ,k,?_⟩;dsimp only[UO]at a;cases z2:g ρ with
 |bad=>rw[z2]at a;exact a.elim
 |ok xs ρ2=>
 rw[z2]at a;dsimp only at a;intro vs G2 H2 k2 s2 r2;cases z:Y1 ρ2 j with
 |none=>rw[z]at a;exact a.elim
 |some d=>
 rw[z]at a;obtain⟨v',hv',rv⟩:=k2.tree z;rw[hv]at hv';cases hv';exact a (v::vs) G2 H2 k2 s2 (.cons rv r2)
theorem FR{k n:Nat}{F:List D->Option D}{g:M (List D)}{x:Str}{p2:Pos}(d:Def X.prog X.w X.K X.mg X.base x k n F)(hr:Room k X.A)(hg:Gl X x)(ha:PA X (e::es) (ZL X.K B G0 g))(hn:(e::es).length=n:=by rfl)
  (hdb:(x==("__debug__" : Str))=false:=by decide) (he:Ui (e::es) X.env=(false,eval e X.env)::Ui es X.env:=by rfl) (hpl:(backTo pos (Ui es X.env)).any (·.1)=false:=by rfl) :
  PE X (.Call (.Name x p2) (e::es) [] pos) (tD X.K B G0 (WK n F g)):=by
 obtain⟨f,fd,ps,h1,h2,h3,FK⟩:=d;refine UW (PF FK hr hg h1 h2 h3 .nil Rt ha hdb he hpl) λσ H Q ⟨G,ρ,k,a⟩=>⟨G,ρ,k,?_⟩;unfold WK UO at a
 cases z:g ρ with
 |bad=>rw[z]at a;exact a.elim
 |ok ds ρ1=>
 rw[z]at a;dsimp only at a;intro vs G1 H1 k1 s1 r1;by_cases hl:ds.length=n
 ·rw[Qr hl]at a;cases zF:F ds with
  |none=>rw[zF]at a;exact a.elim
  |some d=>
  rw[zF]at a;dsimp only at a;by_cases hf:flat d=true
  ·rw[Qr hf]at a;refine⟨H1,ds,d,by rw[Q5,r1.length];exact hl,.refl _,by rw[Q5];exact r1,zF,λv G2 H2 ex rv=>?_⟩;exact a v G1 H2 (k1.ext ⟨ex.h,.refl _,k1.gh.trans ex.h,λ_ _ _ n=>n⟩) s1 (rv.flat hf)
  ·rw[QJ hf]at a;exact a.elim
 ·rw[QJ hl]at a;exact a.elim
theorem P0{j:Nat}{g:M (List D)}{ρ ρ1:UB}{xs:List D}{d0 d:D}(h0:Y1 ρ j=some d0)(h1:g ρ=.ok xs ρ1)(h2:Y1 ρ1 j=some d):WX j g ρ=.ok (d::xs) ρ1:=by unfold WX;rw[h0];dsimp only[UO];rw[h1];dsimp only;rw[h2]
theorem Pn{n:Nat}{F:List D->Option D}{g:M (List D)}{ρ ρ1:UB}{xs:List D}{r:D}(h1:g ρ=.ok xs ρ1)(h2:xs.length=n)(h3:F xs=some r)(h4:flat r=true:=by rfl):WK n F g ρ=.ok r ρ1:=by unfold WK;exact Ke h1 (by rw[if_pos h2,h3];dsimp only;rw[if_pos h4];rfl)
end
end DL
namespace HT
open PySem PyProof.Rows
end HT
namespace DL
open PySem PySem.Spec L2
open PyProof.Rows hiding St
end DL
namespace DL
open PySem
theorem lz0{P:List Ua->Prop}{us:List Ua}(hl:us.length=0)(h:P []):P us:=by
 cases us with
 |nil=>exact h
 |cons a r=>cases hl
theorem lzS{P:List Ua->Prop}{us:List Ua}{n:Nat}(hl:us.length=n+1)(h:∀a r,r.length=n->P (a::r)):P us:=by
 cases us with
 |nil=>cases hl
 |cons a r=>exact h a r (Nat.succ.inj hl)
theorem lz1{P:List Ua->Prop}{us:List Ua}(hl:us.length=1)(h:∀a,P [a]):P us:=lzS hl λa r e=>lz0 (P:=λr=>P (a::r)) e (h a)
theorem lz2{P:List Ua->Prop}{us:List Ua}(hl:us.length=2)(h:∀a b,P [a,b]):P us:=lzS hl λa r e=>lz1 (P:=λr=>P (a::r)) e (h a)
theorem lz3{P:List Ua->Prop}{us:List Ua}(hl:us.length=3)(h:∀a b c,P [a,b,c]):P us:=lzS hl λa r e=>lz2 (P:=λr=>P (a::r)) e (h a)
theorem lz4{P:List Ua->Prop}{us:List Ua}(hl:us.length=4)(h:∀a b c d,P [a,b,c,d]):P us:=lzS hl λa r e=>lz3 (P:=λr=>P (a::r)) e (h a)
theorem lz5{P:List Ua->Prop}{us:List Ua}(hl:us.length=5)(h:∀a b c d e,P [a,b,c,d,e]):P us:=lzS hl λa r e=>lz4 (P:=λr=>P (a::r)) e (h a)
theorem bz1{fd:Ue}{ps:List Str}{us:List Ua}(hl:us.length=1)(h:∀a,bindArgs fd {pos:=[a]}=pure (ps.zip [a])):bindArgs fd {pos:=us}=pure (ps.zip us):=lz1 (P:=λus=>bindArgs fd {pos:=us}=pure (ps.zip us)) hl h
theorem bz2{fd:Ue}{ps:List Str}{us:List Ua}(hl:us.length=2)(h:∀a b,bindArgs fd {pos:=[a,b]}=pure (ps.zip [a,b])):bindArgs fd {pos:=us}=pure (ps.zip us):=lz2 (P:=λus=>bindArgs fd {pos:=us}=pure (ps.zip us)) hl h
theorem bz3{fd:Ue}{ps:List Str}{us:List Ua}(hl:us.length=3)(h:∀a b c,bindArgs fd {pos:=[a,b,c]}=pure (ps.zip [a,b,c])):bindArgs fd {pos:=us}=pure (ps.zip us):=lz3 (P:=λus=>bindArgs fd {pos:=us}=pure (ps.zip us)) hl h
theorem bz4{fd:Ue}{ps:List Str}{us:List Ua}(hl:us.length=4)(h:∀a b c d,bindArgs fd {pos:=[a,b,c,d]}=pure (ps.zip [a,b,c,d])):bindArgs fd {pos:=us}=pure (ps.zip us):=lz4 (P:=λus=>bindArgs fd {pos:=us}=pure (ps.zip us)) hl h
theorem bz5{fd:Ue}{ps:List Str}{us:List Ua}(hl:us.length=5)(h:∀a b c d e,bindArgs fd {pos:=[a,b,c,d,e]}=pure (ps.zip [a,b,c,d,e])):bindArgs fd {pos:=us}=pure (ps.zip us):=lz5 (P:=λus=>bindArgs fd {pos:=us}=pure (ps.zip us)) hl h
end DL
namespace DL
open PySem PySem.Spec L2
open PyProof.Rows hiding St
def whole(h:Heap):Frag:=(Uk h.objs.size).filterMap λa=>(h.get? a).map λo=>(a,o)
theorem OU{g:Ud->Option Obj}{x:Ud}:∀l:List Ud,(l.filterMap λa=>(g a).map λo=>(a,o)).lookup x=if x∈l then g x else none
 |[]=>rfl
 |y::l=>by
  have ih:=OU (g:=g) (x:=x) l;by_cases e:x=y
  ·subst e;rw[Qr Qq];cases z:g x with
   |none=>rw[List.filterMap_cons_none (by rw[z];rfl),ih,z];split<;>rfl
   |some o=>rw[List.filterMap_cons_some (by rw[z];rfl),QQ,beq_self_eq_true]
  ·have m:(x∈y::l)=(x∈l):=by simp[List.mem_cons,e]
   have b:(x==y)=false:=by simpa using e
   have ih':(if x∈y::l then g x else none)=_:=(by simp only[m];exact ih.symm)
   rw[ih'];cases z:g y with
   |none=>rw[List.filterMap_cons_none (by rw[z];rfl)]
   |some o=>rw[List.filterMap_cons_some (by rw[z];rfl),QQ,b]
theorem Tf{h:Heap}{a:Ud}:(whole h).lookup a=h.get? a:=by
 unfold whole;rw[OU];split
 ·rfl
 ·rename_i n;cases z:h.get? a with
  |none=>rfl
  |some o=>exact absurd (QT.mpr (Qh z)) n
theorem FQ(h:Heap):(whole h).In h:=λa o e=>by rw[Tf]at e;exact e
def NY(st:Stmt):Option DefRec:=match st with
 |.FunctionDef name a b _ _ _ sc _ _ pos=>some ⟨name,a,b,sc,pos⟩
 |_=>none
def TU(st:Stmt):Option Str:=match st with
 |.FunctionDef name _ _ _ _ _ _ _ _ _=>some name
 |_=>none
def NX(st:Stmt):Pos:=match st with
 |.FunctionDef _ _ _ _ _ _ _ _ _ pos=>pos
 |_=>⟨0,0,0,0⟩
abbrev KD(p:Uc)(i:Nat):Stmt:=p.main.body.getD i (.Pass ⟨0,0,0,0⟩)
def Vu(p:Uc)(ix:List Nat):List DefRec:=ix.filterMap λi=>NY (KD p i)
section
variable{p q:Uc}{loose:List Str}{mean:ExcName->Option Ua}{mg mb:Str->Option Ua}{h:Heap}{w:World}
theorem RA{ix:List Nat}(T:Top q loose mean mg mb h)(e:recsOf q=Vu p ix)(i:Nat)(x:Str)(hi:ix.contains i=true)(hn:TU (KD p i)=some x):∃f fd,mg x=some (.ref f)/\Fun (whole h) x x (KD p i) f fd:=by
 cases hs:KD p i with
 |FunctionDef name a b _ _ _ sc _ _ pos=>
  rw[hs]at hn;cases hn;have hd:(⟨x,a,b,sc,pos⟩:DefRec)∈recsOf q:=by rw[e];exact List.mem_filterMap.mpr ⟨i,by simpa using hi,by rw[hs];rfl⟩
  obtain⟨f,⟨oc,od,dt,osl⟩,pm,cd,doc,h1,h2,h3,h4⟩:=T.fn _ hd;have h3:dt=_:=h3;subst h3;refine⟨f,_,h1,⟨⟨oc,od,.none,doc,pm,_,cd,_,osl,rfl,by rw[Tf];exact h2,?_⟩,?_⟩⟩
  ·obtain⟨c,⟨_,_,dc,_⟩,vs,t,rfl,g1,g2,g3⟩:=h4;have g2:dc=_:=g2;subst g2;unfold PySem.W.codeIn;dsimp only;rw[Tf,g1];dsimp only;have g4:vs.toList[1]?=some (.str x t):=by rw[Array.getElem?_toList];exact g3
   cases hv:vs.toList with
   |nil=>rw[hv]at g4;cases g4
   |cons v0 r=>
    rw[hv]at g4;cases r with
    |nil=>cases g4
    |cons v1 r=>cases g4;exact beq_self_eq_true _
  ·unfold PySem.W.keepIn;dsimp only;rw[Tf,h2]
 |_=>rw[hs]at hn;cases hn
theorem EZ{K:Frag}{x qual y:Str}{st:Stmt}{f:Ud}{fd:Ue}(F:Fun K x qual st f fd)
  (hb:∀(kV doc pm:Ua)(an:Option Ud)(cdv ct v:Ua),bindArgs (PySem.W.fnOf x qual (W3 st) (Y7 st) (K4 st) .none kV doc pm an cdv ct) ⟨[v],[]⟩=pure [(y,v)]) (s:Ub) (v:Ua):BindsTo s fd ⟨[v],[]⟩ [(y,v)]:=by
 obtain⟨oc,od,kV,doc,pm,an,cdv,ct,osl,rfl,lk,hcd⟩:=F.ex;exact .of_eq (hb kV doc pm an cdv ct v)
def VU(q:Uc)(loose:List Str)(x:Str):Bool:=
 !startupNames.contains x && !loose.contains x && !((recsOf q).map (·.name)).contains x && !((litsOf q).map (·.1)).contains x && !((clssOf q loose).map (·.name)).contains x
theorem ZV(T:Top q loose mean mg mb h){xs:List Str}(e:xs.all (VU q loose)=true){x:Str}(hx:x∈xs):mg x=none:=by have:=Jc.mp e x hx;unfold VU at this;simp only[QX,Bool.not_eq_true',List.contains_eq_mem,decide_eq_false_iff_not]at this;exact T.free x this.1.1.1.1 this.1.1.1.2 this.1.1.2 this.1.2 this.2
theorem Tj(T:Top q loose mean mg mb h){x:Str}{i:Int}(e:valOf q x=some (.int i)):∃t,mg x=some (.int i t):=by obtain⟨v,h1,h2⟩:=T.const x _ e;have:=h2 h;cases this;exact⟨_,h1⟩
end
def scOk(sc:Scope)(N gl:List Str):Bool:=(N.all λx=>match sc.names.lookup x with|some .local=>true|some .cell=>true|_=>false)&&gl.all λx=>match sc.names.lookup x with|some .globalImplicit=>true|_=>false
def fnB(sc:Scope)(N gl:List Str):Bool:=decide (sc.kind=.function) && !sc.isCoroutine && !sc.isGenerator&&decide N.Nodup&&(sc.names.all λy=>match y.2 with | .free=>false|_=>true)&&scOk sc N gl
structure FnNm(sc:Scope)(N gl:List Str):Prop where
 kind:sc.kind=.function
 co:sc.isCoroutine=false
 gen:sc.isGenerator=false
 nd:N.Nodup
 nofree:∀y∈sc.names,y.2≠.free
 nm:∀x∈N,sc.names.lookup x=some .local∨sc.names.lookup x=some .cell
 gl:∀x∈gl,sc.names.lookup x=some .globalImplicit
theorem KH{sc:Scope}{N gl:List Str}(H:fnB sc N gl=true):FnNm sc N gl:=by
 unfold fnB scOk at H;simp only[QX,Ja,Bool.not_eq_true',Jc]at H;obtain⟨⟨⟨⟨⟨h1,h2⟩,h3⟩,h4⟩,h5⟩,h6,h7⟩:=H;refine⟨h1,h2,h3,h4,λy hy e=>?_,λx hx=>?_,λx hx=>?_⟩
 ·have:=h5 y hy;rw[e]at this;cases this
 ·have:=h6 x hx;split at this
  ·rename_i e;exact .inl e
  ·rename_i e;exact .inr e
  ·cases this
 ·have:=h7 x hx;split at this
  ·rename_i e;exact e
  ·cases this
section
variable{sc:Scope}{N gl:List Str}{x:Str}
theorem fq(H:FnNm sc N gl)(n:Nat):Vz N (N.take n) sc:=⟨H.kind,H.co,H.gen,H.nd,by rw[Jg,List.take_eq_take_iff];omega,λx hx=>H.nm x (JT hx),H.nofree⟩
theorem lq(H:FnNm sc N gl)(i:Nat)(h:N[i]?=some x:=by rfl):L2.Loc sc x:=H.nm x (Qp h)
theorem pq{X:Cx}{pos:Pos}(H:FnNm X.env.scope X.N gl)(i:Nat)(h:X.N[i]?=some x:=by rfl)(hd:(x==("__debug__" : Str))=false:=by decide)(hc:(x==("__classdict__" : Str))=false:=by decide):PE X (.Name x pos) (Km i):=
 RN h ((H.nm x (Qp h)).elim .inl λz=>.inr (.inl z)) hd hc
end
theorem KJ{q p:Uc}{loose:List Str}{mean:ExcName->Option Ua}{mg mb:Str->Option Ua}{h:Heap}{ix:List Nat}(P:Uc)(w:World)(base:Heap){ps:List Str}{k n:Nat}{F:List D->Option D}(T:Top q loose mean mg mb h)(e:recsOf q=Vu p ix)(i:Nat)(x:Str)(hi:ix.contains i=true)(hn:TU (KD p i)=some x)
  (ok:∀{f:Ud}{fd:Ue},Fun (whole h) x x (KD p i) f fd->FnOk P w (whole h) mg base CX0 k f fd ps (spD (whole h) n F))
  (hb:∀(kV doc pm:Ua)(an:Option Ud)(cdv ct:Ua)(us:List Ua),us.length=ps.length->bindArgs (PySem.W.fnOf x x (W3 (KD p i)) (Y7 (KD p i)) (K4 (KD p i)) .none kV doc pm an cdv ct) ⟨us,[]⟩=pure (ps.zip us)):Def P w (whole h) mg base x k n F:=by
 obtain⟨f,fd,m,FU⟩:=RA T e i x hi hn;exact Def.mk m FU (FU.binds hb) (ok FU)
section
variable{X:Cx}{B G0:Hp}{e:Uf}{pos:Pos}{es:List Uf}
theorem pdf{k kk n:Nat}{F:List D->Option D}{g:M (List D)}{x:Str}{p2:Pos}(d:Def X.prog X.w X.K X.mg X.base x k n F)(hr:Room kk X.A)(hg:Gl X x)(ha:PA X (e::es) (tDs X.K B G0 g))(hk:k<=kk:=by decide)(hn:(e::es).length=n:=by rfl)
  (hdb:(x==("__debug__" : Str))=false:=by decide) (he:Ui (e::es) X.env=(false,eval e X.env)::Ui es X.env:=by rfl) (hpl:(backTo pos (Ui es X.env)).any (·.1)=false:=by rfl) :
  PE X (.Call (.Name x p2) (e::es) [] pos) (tD X.K B G0 (UT n F g)):=Hq d (hr.mono hk) hg ha hn hdb he hpl
end
theorem NW{q p:Uc}{loose:List Str}{mean:ExcName->Option Ua}{mg mb:Str->Option Ua}{h:Heap}{ix:List Nat}{P:Uc}{w:World}{k:Nat}{F:List D->Option D}{y:Str}{fa:Ud}(T:Top q loose mean mg mb h)(e:recsOf q=Vu p ix)(i:Nat)(x:Str)(hi:ix.contains i=true)(hn:TU (KD p i)=some x)(hfa:mg x=some (.ref fa))
  (hb:∀(kV doc pm:Ua)(an:Option Ud)(cdv ct v:Ua),bindArgs (PySem.W.fnOf x x (W3 (KD p i)) (Y7 (KD p i)) (K4 (KD p i)) .none kV doc pm an cdv ct) ⟨[v],[]⟩=pure [(y,v)])
  (ok:∀(base:Heap){f:Ud}{fd:Ue},Fun (whole h) x x (KD p i) f fd->FnOk P w (whole h) mg base CX0 k f fd [y] (spD (whole h) 1 F)) :
  ∃fd:Ue,(∀(s:Ub)(v:Ua),BindsTo s fd ⟨[v],[]⟩ [(y,v)])/\∀base:Heap,FnOk P w (whole h) mg base CX0 k fa fd [y] (spD (whole h) 1 F):=by
 obtain⟨f,fd,m,FU⟩:=RA T e i x hi hn;cases hfa.symm.trans m;exact⟨fd,EZ FU hb,λbase=>ok base FU⟩
theorem FP{l:PySem.W.OpenLaw}{n k:Nat}{q:Uc}{loose:List Str}{XP:(Str->Option Ua)->Heap->Prop}{YP:World->Heap->Prop}{d:DefRec}{F:List D->Option D}{x:Str}
  (hn:l.most=some n) (hn2:n<=Ug) (hdf:d.params.defaults=[]) (hr:Room k callerA)
  (hF:∀(w:World)(s₀:Ub)(mg mb:Str->Option Ua)(fa:Ud)(h:Heap),PySem.W.Ground q loose [] XP w s₀ mg mb h->mg d.name=some (.ref fa) ->
   ∃fd:Ue,(∀(s:Ub)(u:Ua),BindsTo s fd ⟨[u],[]⟩ [(x,u)])/\∀base:Heap,FnOk l.prog w (whole h) mg base CX0 k fa fd [x] (spD (whole h) 1 F))
  (hl:∀ns:List Int,ns.length<=n->F [.list (ns.map int)]=some (.bool true)) :
  PySem.W.WalkO q loose XP YP l.row.toRowW d [] (λf vs=>PySem.call f vs):=by
 refine Att.attach_call hn hdf λw s₀ s₁ mg mb fa o pm cd doc a vs ns G Y ho hd hcd hmg hobj hints hlen hg=>?_
 obtain⟨fd,hb,hF⟩:=hF w s₀ mg mb fa _ G hmg;exact Ex (FQ _) G.T.g G.T.b G.T.builtins G.T.nolimit hg hobj hints (QN hlen hn2) hr (λbase _ _=>hF base) hb (λH hO hS=>Mx hS (hl ns hlen)) λH e s' z=>z
section
variable{α β:Type}{ρ ρ1 ρ2 ρ3 ρ':UB}{f:M D}{s t:SM}{Q:Out->Prop}{d:D}{ds fs:List D}{nm x:Str}{o:Out}
theorem FO{c:String}{t:Bool}(h:f ρ=.ok d ρ1)(ht:U9 d c=t):UM (λd=>Uo (U9 d c)) f ρ=.ok (Uo t) ρ1:=by subst ht;exact Kx (k:=λd=>Uo (U9 d c)) h
theorem Rz{c:String}{kvs:List (D×D)}(h:f ρ=.ok (.dict kvs) ρ1)(hc:(("dict" == c) || ("" == c))=false:=by decide):UM (λd=>Uo (U9 d c)) f ρ=.ok (Uo false) ρ1:=FO h (nty hc)
theorem Tb{c:String}{kvs:List (D×D)}(h:f ρ=.ok (.dict kvs) ρ1)(hc:(("dict" == c) || ("" == c))=false:=by decide):U8 (KS (UM (λd=>.bool (U9 d c)) f)) ρ=.ok true ρ1:=Zc h (by rw[nty hc];rfl)
end
end DL
namespace L2
open PySem PySem.Spec PyProof.Rows
end L2
namespace DL
open PySem PySem.Spec L2
open PyProof.Rows hiding St
def ZB:D->Option Key
 |.int i=>some (.inl i)
 |.str x=>some (.inr x)
 |_=>none
section
variable{K:Frag}{B G0 G H:Hp}{σ:St}{ρ:UB}
theorem PZ{d:D}{k:Key}(h:ZB d=some k):d=kD k:=by
 cases d with
 |int i=>cases h;rfl
 |str x=>cases h;rfl
 |_=>cases h
theorem Rep.key_inv{v:V}{k:Key}(r:Rep K G v (kD k)):v=kV k:=by
 cases k with
 |inl i=>exact r.int_inv
 |inr x=>exact r.str_inv
theorem EOk.under{p:Ud}(k:EOk K B G0 G H σ ρ)(hp:H p=none):EOk K (upd B p (.dK [])) G0 G (upd H p (.dK [])) σ ρ where
 bh:=λb o q=>by
  by_cases z:b=p
  ·subst z;rw[Ki]at q⊢;exact q
  ·rw[U0 z]at q⊢;exact k.bh b o q
 gh:=k.gh.trans (Kw hp)
 g0:=k.g0
 np:=λa u q n=>by
  by_cases z:a=p
  ·subst z;exact k.gh.free hp
  ·rw[U0 z]at q;exact k.np a u q n
 len:=k.len
 pub:=k.pub
 own:=λi ds q=>by obtain⟨a,vs,h1,h2,h3,h4,h5⟩:=k.own i ds q;have z:a≠p:=K3 h4 hp;exact⟨a,vs,h1,by rw[U0 z];exact h2,h3,by rw[U0 z];exact h4,h5⟩
 sep:=k.sep
 dp:=k.dp.map (λ_ _ _ q=>⟨q,rfl⟩) (λ_ ds q=>⟨ds,q,rfl⟩) λi pt d v fp q s r w n=>⟨r.mono (.refl _) (Kw hp),λb m=>let ⟨_,hl⟩:=r.isl b m;⟨by rw[U0 (K3 hl hp)];exact(w b m).1,(w b m).2⟩⟩
end
section
variable{X:Cx}{B G0:Hp}{KX:XW}{e o a b c:Uf}{pos p2:Pos}{es rest:List Uf}
theorem Vx(k:Key):ZB (kD k)=some k:=by cases k<;>rfl
end
end DL
namespace DL
open PySem PySem.Spec L2 PySem.SeqAt PySem.AutoSeq1
open PyProof.Rows hiding St
end DL
namespace DL
open PySem PySem.Spec L2
open PyProof.Rows hiding St
end DL
namespace L2
open PySem PySem.Spec PyProof.Rows
end L2
namespace DL
open PySem PySem.Spec L2
open PyProof.Rows hiding St
section
variable{X:Cx}
def TF:D->D->Option Bool
 |.bool c,.bool b=>some (!(c==b))
 |_,_=>none
theorem HR:OpR X (Uj .IsNot) (λx y H Q=>∃c b,x=.bl c/\y=.bl b/\Q (.bl (!(c==b))) H):=by intro pins s σ H x y v u Q I rx ry h;obtain⟨c,b,rfl,rfl,q⟩:=h;cases rx;cases ry;unfold Uj;refine Qd (wpAny_of_eq (a:=(c==b)) (by cases c<;>cases b<;>rfl) (Qj (T7 I q rfl)))
theorem MY:OpB X (Uj .IsNot) TF:=⟨_,HR,λv u G H x y d Q s rx ry e q=>by
 unfold TF at e;split at e
 ·cases e;exact⟨_,_,rx.bl_inv,ry.bl_inv,q⟩
 ·cases e⟩
end
end DL
namespace L2
open PySem PySem.Spec PyProof.Rows
end L2
namespace DL
open PySem PySem.Spec L2
open PyProof.Rows hiding St
end DL
namespace L2
open PySem PySem.Spec PyProof.Rows
end L2
namespace DL
open PySem PySem.Spec L2
open PyProof.Rows hiding St
end DL
namespace L2
open PySem PySem.Spec PyProof.Rows
end L2
namespace DL
open PySem PySem.Spec L2
open PyProof.Rows hiding St
end DL
namespace L2
open PySem PySem.Spec PyProof.Rows
end L2
namespace DL
open PySem PySem.Spec L2
open PyProof.Rows hiding St
theorem T4{α:Type}(a:α):[a].Nodup:=by simp
section
variable{K:Frag}{B G0 G H:Hp}{σ:St}{ρ:UB}
structure NewT(K:Frag)(B G H:Hp)(σ:St)(ρ:UB)(pt:Pat)(v:V)(d:D)(fp:List Ud):Prop where
 r:RepO K G H pt v d fp
 nd:fp.Nodup
 b:∀a∈fp,B a=none/\G a=none
 f:∀a∈fp,∀(j:Nat) es,ρ[j]?=some (some (.own es))->σ[j]?≠some (some (.ref a))
 dp:∀a∈fp,∀(j:Nat) p d v fp',ρ[j]?=some (some (.deep p d))->σ[j]?=some (some v)->RepO K G H p v d fp'->a∉fp'
theorem EOk.setDeep{i:Nat}{pt:Pat}{v:V}{d:D}{fp:List Ud}(k:EOk K B G0 G H σ ρ)(n:NewT K B G H σ ρ pt v d fp)(hi:i<ρ.length):EOk K B G0 G H (σ.set i (some v)) (ρ.set i (some (.deep pt d))) where
 bh:=k.bh
 gh:=k.gh
 g0:=k.g0
 np:=k.np
 len:=by rw[Q3,Q3];exact k.len
 pub:=λj d' q=>by
  by_cases z:i=j
  ·subst z;have:=KU q;cases this
  ·rw[Ql z]at q⊢;exact k.pub j d' q
 own:=λj es q=>by
  by_cases z:i=j
  ·subst z;have:=KU q;cases this
  ·rw[Ql z]at q⊢;exact k.own j es q
 sep:=λj l c es fs q1 q2 s1 s2=>by
  have z1:i≠j:=λz=>by subst z;have:=KU q1;cases this
  have z2:i≠l:=λz=>by subst z;have:=KU q2;cases this
  rw[Ql z1]at q1 s1;rw[Ql z2]at q2 s2;exact k.sep j l c es fs q1 q2 s1 s2
 dp:=by
  obtain⟨ω,k1,k2⟩:=k.dp;have hs:i<σ.length:=by rw[←k.len];exact hi
  refine⟨λb=>if b∈fp then i else ω b,λj p d' q=>?_,λj es b q s=>?_⟩
  ·by_cases z:i=j
   ·subst z;have:=KU q;cases this;exact⟨v,fp,QG hs,n.r,n.nd,λa m=>⟨(n.b a m).1,(n.b a m).2,Qr m⟩⟩
   ·rw[Ql z]at q⊢;obtain⟨v',fp',s,r,nn,w⟩:=k1 j p d' q;refine⟨v',fp',s,r,nn,λb m=>⟨(w b m).1,(w b m).2.1,?_⟩⟩;dsimp only;rw[QJ (λz=>n.dp b z j p d' v' fp' q s r m)];exact(w b m).2.2
  ·by_cases z:i=j
   ·subst z;have:=KU q;cases this
   ·rw[Ql z]at q s;dsimp only;rw[QJ (λz=>n.f b z j es q s)];exact k2 j es b q s
theorem RepOl.leaf:∀{vs:List V}{ds:List D},Reps K G vs ds->RepOl K G H .leaf vs ds []
 |_,_,.nil=>.nil
 |_,_,.cons h t=>.cons (f1:=[]) (f2:=[]) (.leaf h) (RepOl.leaf t)
def VT(ρ:UB)(i:Nat):Option (Pat×D):=match ρ[i]? with
 |some (some (.own ds))=>some (.lst .leaf,.list ds)
 |some (some (.deep p d))=>some (p,d)
 |_=>none
theorem EOk.slots(k:EOk K B G0 G H σ ρ):∃ω:Ud->Nat,∀(i:Nat) p d,VT ρ i=some (p,d)->∃v fp,σ[i]?=some (some v)/\RepO K G H p v d fp/\fp.Nodup/\∀a∈fp,B a=none/\G a=none/\ω a=i:=by
 obtain⟨ω,k1,k2⟩:=k.dp;refine⟨ω,λi p d h=>?_⟩;unfold VT at h;split at h
 ·rename_i ds q;cases h;obtain⟨a,vs,h1,h2,h3,h4,h5⟩:=k.own i ds q;refine⟨.ref a,[a],h1,.lst h4 (.leaf h5),T4 a,λb m=>?_⟩;rw[QK.mp m];exact⟨h2,h3,k2 i ds a q h1⟩
 ·rename_i p' d' q;cases h;exact k1 i p d q
 ·cases h
theorem EOk.mutD{j:Nat}{p:Pat}{d d':D}{v:V}{fp fp':List Ud}{a:Ud}{o:HO}(k:EOk K B G0 G H σ ρ)(hd:ρ[j]?=some (some (.deep p d)))(hv:σ[j]?=some (some v))(r:RepO K G H p v d fp)(ha:a∈fp)
  (r':RepO K G (upd H a o) p v d' fp') (nd':fp'.Nodup) (sub:∀b∈fp',b∈fp):EOk K B G0 G (upd H a o) σ (ρ.set j (some (.deep p d'))):=by
 obtain⟨ω,k1,k2⟩:=k.dp;obtain⟨v0,fp0,s0,r0,n0,w0⟩:=k1 j p d hd;rw[hv]at s0;cases s0;have e0:=r0.uniq (.refl _) r;subst e0;obtain⟨hb,hg,hw⟩:=w0 a ha;obtain⟨ws,hl⟩:=r.isl a ha;have nt:∀vs,H a≠some (.tup vs):=λvs z=>by rw[hl]at z;cases ws<;>cases z
 have hjl:j<ρ.length:=(Qf.mp hd).1;have nz:∀{m:Nat}{s:Sl},j≠m->(ρ.set j (some (.deep p d')))[m]?=some (some s)->ρ[m]?=some (some s):=λ{m s} z q=>by rw[Ql z]at q;exact q
 refine⟨λb u e=>?_,λb u e=>?_,k.g0,k.np,by rw[Q3];exact k.len,λm dm e=>?_,λm es e=>?_,λm l c es fs q1 q2 s1 s2=>?_,ω,λm pm dm e=>?_,λm es b e s=>?_⟩
 ·rw[U0 (K3 e hb)];exact k.bh b u e
 ·rw[U0 (K3 e hg)];exact k.gh b u e
 ·by_cases z:j=m
  ·subst z;have:=KU e;cases this
  ·exact k.pub m dm (nz z e)
 ·by_cases z:j=m
  ·subst z;have:=KU e;cases this
  ·have e:=nz z e;obtain⟨c,us,g1,g2,g3,g4,g5⟩:=k.own m es e;have zc:c≠a:=λw=>by subst w;exact z (hw.symm.trans (k2 m es c e g1))
   exact⟨c,us,g1,g2,g3,by rw[U0 zc];exact g4,g5⟩
 ·have z1:j≠m:=λz=>by subst z;have:=KU q1;cases this
  have z2:j≠l:=λz=>by subst z;have:=KU q2;cases this
  exact k.sep m l c es fs (nz z1 q1) (nz z2 q2) s1 s2
 ·by_cases z:j=m
  ·subst z;have:=KU e;cases this;exact⟨v,fp',hv,r',nd',λb mb=>w0 b (sub b mb)⟩
  ·obtain⟨vm,fm,sm,rm,nm,wm⟩:=k1 m pm dm (nz z e);exact⟨vm,fm,sm,rm.upd nt (λmm=>z (hw.symm.trans (wm a mm).2.2)),nm,wm⟩
 ·have z:j≠m:=λz=>by subst z;have:=KU e;cases this
  exact k2 m es b (nz z e) s
end
def tT(K:Frag)(B G0:Hp)(pt:Pat)(f:M D):TE:=λσ H Q=>∃G ρ,EOk K B G0 G H σ ρ/\match f ρ with
 |.ok d ρ'=>∀v fp G' H',EOk K B G0 G' H' σ ρ'->Same G G'->NewT K B G' H' σ ρ' pt v d fp->Q v H'
 |.bad=>False
def WJ(i:Nat)(pt:Pat)(f:M D):SM:=sB f λd ρ=>if i<ρ.length then .nx (ρ.set i (some (.deep pt d)))else .bad
section
variable{X:Cx}{B G0:Hp}{KX:XW}{e o a b c:Uf}{pos:Pos}{es:List Uf}{st:Stmt}{sts:List Stmt}{pt:Pat}
theorem HQ{i:Nat}{x:Str}{f:M D}{p2:Pos}(hN:X.N.Nodup)(hi:X.N[i]?=some x)(hx:Loc X.env.scope x)(he:PE X e (tT X.K B G0 pt f))(hs:swapsWith e (some (.Name x p2)) pos.line X.env=pure false:=by rfl)
  (hf:X.fn x=true∨X.env.scope.names.lookup x=some .local:=by first|exact .inl rfl|exact .inr rfl|assumption):PS X (.Assign [.Name x p2] e pos) (tS X.K B G0 KX (WJ i pt f)):=
 KE (T8 hN hi hx he hs hf) λD σ H ⟨G,ρ,k,a⟩=>by
  refine⟨G,ρ,k,?_⟩;unfold WJ sB at a;cases z:f ρ with
  |bad=>rw[z]at a;exact a.elim
  |ok ds ρ1=>
   rw[z]at a;intro v fp G' H' k' s' n;dsimp only at a;split at a
   ·rename_i hl;exact a _ G' H' (k'.setDeep n hl) s'
   ·exact a.elim
end
section
variable{ρ ρ1 ρ2 ρ':UB}{pt:Pat}
theorem HP{i:Nat}{f:M D}{d:D}(h1:f ρ=.ok d ρ1)(h2:i<ρ1.length)(h3:ρ1.set i (some (.deep pt d))=ρ'):WJ i pt f ρ=.nx ρ':=by unfold WJ sB;rw[h1];dsimp only;rw[if_pos h2];subst h3;rfl
end
def Z4(kvs:List (D×D))(k:Key)(d:D):List (D×D):=if kvs.any (λp=>decide (ZB p.1=some k))then kvs.map (λp=>if ZB p.1=some k then(p.1,d)else p)else kvs++[(kD k,d)]
def VS(j:Nat)(g f:M D):SM:=sB f λd ρ1=>match ρ1[j]? with
 |some (some (.deep .dic _))=>sB g (λy ρ2=>match ZB y,ρ2[j]? with
  |some k,some (some (.deep .dic (.dict kvs)))=>if kvs.length<1000 then .nx (ρ2.set j (some (.deep .dic (.dict (Z4 kvs k d)))))else .bad
  |_,_=>.bad) ρ1
 |_=>.bad
section
variable{K:Frag}{G:Hp}
theorem Pu{k:Key}:∀{ks:List Key}{vs:List V}{ds:List D},Reps K G vs ds->((ks.map kD).zip ds).any (λp=>decide (ZB p.1=some k))=(ks.zip vs).any λkv=>decide (kv.1=k)
 |[],_,_,_=>rfl
 |_::_,_,_,.nil=>rfl
 |k0::ks,_,_,.cons _ t=>by
  rw[Qx,Jb,Jb,JK,JK,Pu t,Vx]
  congr 1
  by_cases e:k0=k
  ·subst e;simp
  ·simp[e]
theorem PY{k:Key}{w:V}{d:D}(r:Rep K G w d):∀{ks:List Key}{vs:List V}{ds:List D},Reps K G vs ds->∃vs' ds',(ks.zip vs).map (λkv=>if kv.1=k then(kv.1,w)else kv)=ks.zip vs'/\((ks.map kD).zip ds).map (λp=>if ZB p.1=some k then(p.1,d)else p)=(ks.map kD).zip ds'/\ds'.length=ds.length/\Reps K G vs' ds'
 |[],vs,ds,h=>⟨vs,ds,rfl,rfl,rfl,h⟩
 |_::_,_,_,.nil=>⟨[],[],rfl,rfl,rfl,.nil⟩
 |k0::ks,_,_,.cons (v:=v0) (d:=d0) h t=>by
  obtain⟨vs',ds',e1,e2,e3,e4⟩:=PY r (ks:=ks) t;by_cases e:k0=k
  ·refine⟨w::vs',d::ds',?_,?_,by rw[QA,e3,QA],.cons r e4⟩
   ·rw[Jb,Qx,e1,Qr e,Jb]
   ·rw[Qx,Jb,Qx,e2,Qr (by rw[Vx,e]),Jb]
  ·refine⟨v0::vs',d0::ds',?_,?_,by rw[QA,e3,QA],.cons h e4⟩
   ·rw[Jb,Qx,e1,QJ e,Jb]
   ·rw[Qx,Jb,Qx,e2,QJ (by rw[Vx];exact λz=>e (Qo z)),Jb]
theorem Reps.snoc{w:V}{d:D}(r:Rep K G w d):∀{vs:List V}{ds:List D},Reps K G vs ds->Reps K G (vs++[w]) (ds++[d])
 |_,_,.nil=>.cons r .nil
 |_,_,.cons h t=>.cons h (Reps.snoc r t)
theorem HN{k:Key}{w:V}{d:D}(r:Rep K G w d){ks:List Key}{vs:List V}{ds:List D}(h:Reps K G vs ds)(hl:ks.length=ds.length):∃(ks':List Key)(vs':List V)(ds':List D),KR (ks.zip vs) k w=ks'.zip vs'/\Z4 ((ks.map kD).zip ds) k d=(ks'.map kD).zip ds'/\ks'.length=ds'.length/\Reps K G vs' ds':=by
 unfold KR Z4;rw[Pu h];have hv:=h.length;split
 ·obtain⟨vs',ds',e1,e2,e3,e4⟩:=PY r (k:=k) (ks:=ks) h;exact⟨ks,vs',ds',e1,e2,by rw[e3];exact hl,e4⟩
 ·refine⟨ks++[k],vs++[w],ds++[d],?_,?_,by rw[Qk,Qk,hl];rfl,h.snoc r⟩
  ·rw[List.zip_append (by omega)];rfl
  ·rw[QI,List.zip_append (by rw[Qe];omega)];rfl
end
section
variable{X:Cx}{B G0:Hp}{KX:XW}{e o i:Uf}{pos p2:Pos}
theorem MX{j:Nat}{f g:M D}(hu:X.A.units+64<cLine)(he:PE X e (tD X.K B G0 f))(ho:PE X o (Km j))(hi:PE X i (tD X.K B G0 g))(hs:swapsWith e (some (.Subscript o i p2)) pos.line X.env=pure false:=by rfl) :
  PS X (.Assign [.Subscript o i p2] e pos) (tS X.K B G0 KX (VS j g f)):=
 KE (GH (by omega) ho hi he hs) λD σ H q=>tS.bnd (R:=Rep X.K) q λv H1 G1 ρ1 d k r a=>by
  split at a
  ·rename_i d0 q0;obtain⟨ω,ks1⟩:=k.slots;obtain⟨v0,fp0,hv0,r0,_,_⟩:=ks1 j .dic d0 (by unfold VT;rw[q0]);refine⟨v0,hv0,G1,ρ1,k,?_⟩;unfold sB at a;cases z:g ρ1 with
   |bad=>rw[z]at a;exact a.elim
   |ok y ρ2=>
    rw[z]at a;dsimp only at a;intro kv G' H' k' s' r';split at a
    ·rename_i ky kvs hk q2;split at a
     ·rename_i hlt;obtain⟨ω2,ks2⟩:=k'.slots;obtain⟨v2,fp2,hv2,r2,nd2,w2⟩:=ks2 j .dic (.dict kvs) (by unfold VT;rw[q2]);rw[hv0]at hv2;cases hv2;have ey:=PZ hk;subst ey;have ekv:=r'.key_inv;subst ekv;cases r2 with
      |@dic ad ks vs ds _ e hl h rr=>
       obtain⟨ks',vs',ds',e1,e2,e3,e4⟩:=HN (k:=ky) (r.mono s') rr hl;refine⟨ad,_,rfl,DPut.k h ?_,a σ G' _ (k'.mutD q2 hv0 (.dic e hl h rr) Qq (.dic (ks:=ks') (vs:=vs') (ds:=ds') (by rw[e];exact e2) e3 (by rw[Ki,e1]) e4) (T4 ad) λb m=>m) (s'.trans (.refl _))⟩;have:(ks.zip vs).length<=kvs.length:=by rw[e,List.length_zip,List.length_zip,Qe];have:=rr.length;omega
       exact Nat.lt_of_le_of_lt this (QB hlt (by decide))
     ·exact a.elim
    ·exact a.elim
  ·exact a.elim
theorem EOk.fillO{K:Frag}{B G0 G H:Hp}{σ:St}{ρ:UB}{p:Ud}{u:HO}(k:EOk K (upd B p (.dK [])) G0 G H σ ρ)(hb:B p=none)(h0:G0 p=none):EOk K B G0 G (upd H p u) σ ρ/\G p=none/\H p=some (.dK [])/\(∀(j:Nat) es,ρ[j]?=some (some (.own es))->σ[j]?≠some (some (.ref p))) /\
  ∀(j:Nat) pt d v fp',ρ[j]?=some (some (.deep pt d))->σ[j]?=some (some v)->RepO K G (upd H p u) pt v d fp'->p∉fp':=by
 have hG:G p=none:=k.np p (.k []) Ki h0;have hH:H p=some (.dK []):=k.bh p _ Ki;refine⟨⟨λb o q=>?_,λb o q=>?_,k.g0,λa w q n=>?_,k.len,k.pub,λi ds q=>?_,k.sep,k.dp.map (λ_ _ _ q=>⟨q,rfl⟩) (λ_ ds q=>⟨ds,q,rfl⟩) λi pt d v fp q s r w n=>?_⟩,hG,hH,λj es q s=>?_,λj pt d v fp' q s r=>?_⟩
 ·have z:b≠p:=K3 q hb;rw[U0 z];exact k.bh b o (by rw[U0 z];exact q)
 ·rw[U0 (K3 q hG)];exact k.gh b o q
 ·have z:a≠p:=K3 q hb;exact k.np a w (by rw[U0 z];exact q) n
 ·obtain⟨a,vs,h1,h2,h3,h4,h5⟩:=k.own i ds q;have z:a≠p:=λe=>by subst e;rw[Ki]at h2;cases h2
  exact⟨a,vs,h1,by rw[U0 z]at h2;exact h2,h3,by rw[U0 z];exact h4,h5⟩
 ·have zz:∀b∈fp,b≠p:=λb m e=>by subst e;have:=(w b m).1;rw[Ki]at this;cases this
  refine⟨r.upd (λ_ e=>by rw[hH]at e;cases e) (λm=>zz p m rfl),λb m=>?_⟩;obtain⟨w1,w2⟩:=w b m;rw[U0 (zz b m)]at w1;exact⟨w1,w2⟩
 ·obtain⟨a,vs,h1,h2,h3,h4,h5⟩:=k.own j es q;rw[h1]at s;cases s;rw[Ki]at h2;cases h2
 ·obtain⟨ω,k1,_⟩:=k.dp;obtain⟨v',fp,s',r',_,w⟩:=k1 j pt d q;rw[s]at s';cases s';have zz:p∉fp:=λm=>by have:=(w p m).1;rw[Ki]at this;cases this
  have e:=(r'.upd (o:=u) (λ_ e=>by rw[hH]at e;cases e) zz).uniq (.refl _) r;rw[←e];exact zz
theorem FN:PE X (.Dict [] [] pos) (tT X.K B G0 .dic (UE (.dict []))):=UW FG λσ H Q ⟨G,ρ,k,a⟩ p hp=>by
 obtain⟨f1,f2,f3,f4,f5⟩:=(k.under hp).fillO (u:=.dK []) (k.bh.free hp) (k.g0.free (k.gh.free hp));have e:upd (upd H p (.dK [])) p (.dK [])=upd H p (.dK []):=by funext b;unfold upd;split<;>rfl
 rw[e]at f1 f5;exact a (.ref p) [p] _ _ f1 (.refl _) ⟨.dic (ks:=[]) (vs:=[]) (ds:=[]) rfl rfl Ki .nil,T4 p,λb m=>by rw[QK.mp m];exact⟨k.bh.free hp,f2⟩,λb m=>by rw[QK.mp m];exact f4,λb m=>by rw[QK.mp m];exact f5⟩
theorem MW{j:Nat}{g f:M D}{ρ ρ1 ρ2 ρ':UB}{d y e0:D}{k:Key}{kvs:List (D×D)}(h1:f ρ=.ok d ρ1)(q1:ρ1[j]?=some (some (.deep .dic e0)))(h2:g ρ1=.ok y ρ2)(hk:ZB y=some k)(q2:ρ2[j]?=some (some (.deep .dic (.dict kvs))))(hl:kvs.length<1000)
  (h3:ρ2.set j (some (.deep .dic (.dict (Z4 kvs k d))))=ρ'):VS j g f ρ=.nx ρ':=by
 unfold VS sB;rw[h1];dsimp only;rw[q1];dsimp only;rw[h2];dsimp only;rw[hk,q2];dsimp only;rw[Qr hl,h3]
end
end DL
namespace L2
open PySem PySem.Spec PyProof.Rows PySem.Calls PyProof.V
end L2
namespace DL
open PySem PySem.Spec L2
open PyProof.Rows hiding St
section
variable{X:Cx}
def Wd:D->D->Option Bool
 |.list xs,.list ys=>if xs.length=ys.length then none else some false
 |_,_=>none
theorem NV(hu:X.A.units+64<cLine):OpB X (Uj .Eq) Wd:=by
 refine⟨λv u H Q=>∃l m xs ys,v=.ref l/\u=.ref m/\SqL X.K H l xs/\SqL X.K H m ys/\xs.length≠ys.length/\Q (.bl false) H,?_,λv u G H x y d Q s rx ry e k=>?_⟩
 ·intro pins s σ H x y v u Q I rx ry h;obtain⟨l,m,xs,ys,rfl,rfl,h1,h2,hne,q⟩:=h;cases rx;cases ry;obtain⟨its,r,p,z⟩:=I.list h1;obtain⟨its2,r2,p2,z2⟩:=I.list h2;refine SeqAt.eq_list_lengthsAt p.isList p2.isList ?_ (by omega) ⟨.bl false,H,I,rfl,q⟩;rw[QE,QE,←r.length,←r2.length];simpa using hne
 ·unfold Wd at e;split at e
  ·split at e
   ·cases e
   ·rename_i hl;cases e;obtain⟨l,vs,rfl,h1,r1⟩:=rx.lst_inv;obtain⟨m,ws,rfl,h2,r2⟩:=ry.lst_inv;exact⟨l,m,vs,ws,rfl,rfl,s.seq h1,s.seq h2,by rw[r1.length,r2.length];exact hl,k⟩
  ·cases e
def We(x y:D):Option Bool:=(Wd x y).orElse λ_=>oEq x y
theorem NU(hu:X.A.units+64<cLine):OpB X (Uj .Eq) We:=(NV hu).or (B_eq hu)
theorem HM{xs:List D}:We (.list xs) (.list [])=some xs.isEmpty:=by
 cases xs with
 |nil=>kernel_rfl
 |cons x r=>rfl
end
def tgN:Uf->List Str
 |.Name x _=>[x]
 |.Tuple [.Name x _] _ _=>[x]
 |.Tuple [.Name x _,.Name y _] _ _=>[x,y]
 |.Tuple [.Name x _,.Name y _,.Name z _] _ _=>[x,y,z]
 |.Tuple [.Name x _,.Name y _,.Name z _,.Name u _] _ _=>[x,y,z,u]
 |_=>[]
def adN(vs:List Str):List Str->List Str
 |[]=>vs
 |x::r=>adN (if vs.elem x then vs else vs++[x]) r
def Wg(vs:List Str):List Comprehension->List Str
 |[]=>vs
 |⟨tg,_,_,_⟩::r=>Wg (adN vs (tgN tg)) r
def dotN(x:Str):Str:=("." : Str)++x
def blN(N:List Str)(gs:List Comprehension):List Str:=N.map (λx=>if(Wg [] gs).elem x then dotN x else x)++Wg [] gs
def glN(sc:Scope):List Str:=sc.names.filterMap λy=>match y.2 with | .globalImplicit=>some y.1|_=>none
abbrev NmF(s:Stmt)(N:List Str):Prop:=FnNm (K4 s) N (glN (K4 s))
theorem mq{α:Type}{l:List α}{x:α}(n:Nat)(h:l[n]?=some x):x∈l:=Qp h
section
variable{sc:Scope}{N gl:List Str}{x:Str}
theorem gA(H:FnNm sc N gl)(h:gl.elem x=true):sc.names.lookup x=some .globalImplicit:=H.gl x (by simpa using h)
end
section
variable{X:Cx}{B G0:Hp}{KX:XW}{e e1 e2 o a b c i:Uf}{gl:List Str}{pos p2:Pos}{x:Str}{j:Nat}
theorem NT(H:FnNm X.env.scope X.N gl)(hi:X.N[j]?=some x:=by rfl)(hf:X.fn x=true∨X.env.scope.names.lookup x=some .local:=by first|exact .inl rfl|exact .inr rfl|assumption):PG X (.Name x pos) (tG X.K B G0 (gN j)):=PK (Pv H.nd hi (lq H j hi) hf)
theorem MV{N':List Str}{scope:Scope}{cl:List (Str×Ud)}{C:Ud}{s₀:Ub}{H₀:Hp}{ex:List Ud}(hN:N'.Nodup:=by decide +kernel)(hi:N'[j]?=some x:=by rfl)(hl:scope.names.lookup x=some .local:=by rfl):PG (X.blk N' scope cl C s₀ H₀ ex) (.Name x pos) (tG X.K B G0 (gN j)):=PK (Pv hN hi (Hm hl) (.inr (Mw hl)))
theorem aSet{f:M D}(H:FnNm X.env.scope X.N gl)(he:PE X e (tD X.K B G0 f))(hi:X.N[j]?=some x:=by rfl)(hs:swapsWith e (some (.Name x p2)) pos.line X.env=pure false:=by rfl)
  (hf:X.fn x=true∨X.env.scope.names.lookup x=some .local:=by first|exact .inl rfl|exact .inr rfl|assumption):PS X (.Assign [.Name x p2] e pos) (tS X.K B G0 KX (UY j f)):=MA H.nd hi (lq H j hi) he hs hf
theorem Rp{f:M (List D)}(H:FnNm X.env.scope X.N gl)(he:PE X e (tL X.K B G0 f))(hi:X.N[j]?=some x:=by rfl)(hs:swapsWith e (some (.Name x p2)) pos.line X.env=pure false:=by rfl)
  (hf:X.fn x=true∨X.env.scope.names.lookup x=some .local:=by first|exact .inl rfl|exact .inr rfl|assumption):PS X (.Assign [.Name x p2] e pos) (tS X.K B G0 KX (Kt j f)):=Ht H.nd hi (lq H j hi) he hs hf
theorem NS{f:M D}{pt:Pat}(H:FnNm X.env.scope X.N gl)(he:PE X e (tT X.K B G0 pt f))(hi:X.N[j]?=some x:=by rfl)(hs:swapsWith e (some (.Name x p2)) pos.line X.env=pure false:=by rfl)
  (hf:X.fn x=true∨X.env.scope.names.lookup x=some .local:=by first|exact .inl rfl|exact .inr rfl|assumption):PS X (.Assign [.Name x p2] e pos) (tS X.K B G0 KX (WJ j pt f)):=HQ H.nd hi (lq H j hi) he hs hf
theorem NR{l:Bool}{tg elt iter:Uf}{ifs:List Uf}{gs:List Comprehension}{scope:Scope}{f:M (List D)}{s:D->UB->Option UB}{t:M Bool}{rd:RdB}{F:M (List D)}{k:Nat}{SC:Scope}{N1:List Str}(H:FnNm SC N1 gl)(le:∀ρ es ρ',F ρ=.ok es ρ'->dCG l f k s t rd ρ=.ok es ρ')(hc:X.calm=true)
  (hi:PI X tg iter (iD X.K B G0 f)) (hblk:ZA X (blN N1 (⟨tg,iter,ifs,0⟩::gs)) scope (.ListComp elt (⟨tg,iter,ifs,0⟩::gs) scope pos) tg ifs s t rd) (hb:XH WL SC scope N1 (blN N1 (⟨tg,iter,ifs,0⟩::gs)) k=true) (h1:X.env.scope=SC:=by rfl) (h2:X.N=N1:=by rfl) (hs:∀x,Uz iter X.env x=pure x:=by intro _;rfl) :
  PE X (.ListComp elt (⟨tg,iter,ifs,0⟩::gs) scope pos) (tL X.K B G0 F):=N9 _ _ _ k le hc hi hblk h1 h2 hb hs
theorem NQ{l:Bool}{y:Str}{py spos:Pos}{tg elt iter:Uf}{ifs:List Uf}{gs:List Comprehension}{scope:Scope}{f:M (List D)}{s:D->UB->Option UB}{t:M Bool}{rd:RdB}{F:M (List D)}{k:Nat}{SC:Scope}{N1:List Str}(H:FnNm SC N1 gl)(le:∀ρ es ρ',F ρ=.ok es ρ'->dCG l f k s t rd ρ=.ok es ρ')(hc:X.calm=true)
  (hi:PI X tg iter (iD X.K B G0 f)) (hblk:ZA X (blN N1 (⟨tg,iter,ifs,0⟩::gs)) scope (.ListComp elt (⟨tg,iter,ifs,0⟩::gs) scope pos) tg ifs s t rd) (hb:XH WL SC scope N1 (blN N1 (⟨tg,iter,ifs,0⟩::gs)) k=true) (hj:N1[j]?=some y:=by rfl) (hy:SC.names.lookup y=some .local:=by rfl) (h1:X.env.scope=SC:=by rfl) (h2:X.N=N1:=by rfl) (hs:∀x,Uz iter X.env x=pure x:=by intro _;rfl)
  (hsw:swapsWith (.ListComp elt (⟨tg,iter,ifs,0⟩::gs) scope pos) (some (.Name y py)) spos.line X.env=pure true:=by rfl) :
  PS X (.Assign [.Name y py] (.ListComp elt (⟨tg,iter,ifs,0⟩::gs) scope pos) spos) (tS X.K B G0 KX (Kt j F)):=sD_1 _ _ _ k le (h2 ▸ H.nd) (h2 ▸ hj) (h1 ▸ hy) hc hi hblk h1 h2 hb hs hsw
end
end DL
namespace DL
open PySem PySem.Spec L2
open PyProof.Rows hiding St
open Builtin Builtin.Str
end DL
namespace DL
open PySem PySem.Spec L2
open PyProof.Rows hiding St
end DL
namespace DL
open PySem PySem.Spec L2
open PyProof.Rows hiding St
open PySem.SeqRoads2 PySem.SeqAt
end DL
namespace DL
open PySem PySem.Spec L2
open PyProof.Rows hiding St
end DL
namespace L2
open PySem PySem.Spec PyProof.Rows
section
variable{prog:Uc}{w:World}{A:Around}{elt tg i:Uf}{ifs:List Uf}{gens:List Comprehension}{scope:Scope}{pos:Pos}{it acc:Ua}{env:Env}{j:Nat}
theorem Dy(hg:gens[j]?=some ⟨tg,i,ifs,0⟩)(hn:gens[j+1]?=none):Wc prog w A tg ifs env it (.compLoop (.SetComp elt gens scope pos) j it acc env)
  (λQ s=>Uh (model prog w) A (eval elt env) (λx s₄=>Uh (model prog w) A (call (.builtin "set.add") [acc,x]) (λ_ s₅=>Q s₅) nox s₄) nox s):=by
 intro R I n s h turn;refine codeAny_loop rfl I (λn s hI=>?_) n h;show Uh _ A ((compTurn (.SetComp elt gens scope pos) j it acc env).onRaise (λx=>do noteFrame x env;theTreesLotGoes x)) _ _ s;refine wpAny_noted ?_;unfold compTurn;dsimp only;simp only[hg,hn];refine Qd (Q8 (Qd (Qy (turn n s hI) (λr s₁ h₁=>?_) λ_ _ h'=>h'.elim)));cases r with
 |none=>exact Qj h₁
 |some v=>
  refine Qd (Qy h₁ (λ_ s₁' h₁'=>?_) λ_ _ h'=>h'.elim);refine Qd (Qy h₁' (λ_ s₂ h₂=>Qd (Qy h₂ (λok s₃ h₃=>?_) λ_ _ h'=>h'.elim)) λ_ _ h'=>h'.elim);cases ok with
  |false=>exact Qj ⟨rfl,h₃⟩
  |true=>exact Qd (Qd (Qy h₃ (λx s₄ h₄=>Qd (Q8 (Qd (Qy h₄ (λ_ s₅ h₅=>Qj (Qj ⟨rfl,h₅⟩)) λ_ _ h'=>h'.elim)))) λ_ _ h'=>h'.elim))
theorem Dg{R:Result->Ub->Prop}{s:Ub}{target iter:Uf}{rest:List Comprehension}
  (h0:codeAny (model prog w) A (.compLoop (.SetComp elt (⟨target,iter,ifs,0⟩::rest) scope pos) 0 it acc env) R s)
  (h:Uh (model prog w) A (pyIter it) (λit' s'=>codeAny (model prog w) A (.compLoop (.SetComp elt (⟨target,iter,ifs,0⟩::rest) scope pos) 0 it' acc env) R s')
   (notedBy (model prog w) A env λx s'=>R (.error x) s') s) :
  codeAny (model prog w) A (.compStart (.SetComp elt (⟨target,iter,ifs,0⟩::rest) scope pos) 0 it acc env) R s:=by
 refine codeAny_of_tree ?_;show Uh _ _ ((compStart (.SetComp elt (⟨target,iter,ifs,0⟩::rest) scope pos) 0 it acc env).onRaise (λx=>do noteFrame x env;standAt theWindowsPlace)) _ _ s;refine wpAny_notedAt ?_;unfold compStart;show Uh _ _ (ask >>= _) _ _ s;refine Qd (wpAny_askSetting (wpAny_ite ?_));split
 ·first
   |exact Qj (And.intro rfl h0)
   |exact Qd (Qj (Qj (And.intro rfl h0)))
 ·refine Qd (wpAny_rule ?_);show Uh _ _ (standAt iter.pos >>= _) _ _ s;exact Qd (Q8 (Qd (Qy h (λit' s' h'=>Qj (And.intro rfl h')) λ_ _ x=>x)))
end
end L2
namespace DL
open PySem PySem.Spec L2
open PyProof.Rows hiding St
theorem OY(ns:List Int):KZ ns=(ns.foldl step_dedup []).length:=by
 unfold KZ firstMet
 congr 2
 apply List.ext_getElem
 ·simp
 ·intro i h1 h2;simp[List.getD_eq_getElem?_getD,h2]
theorem PX(z:Int):∀(ns σ:List Int),(ns.foldl step_dedup σ).any (· == z)=(σ.any (· == z) || ns.any (· == z))
 |[],σ=>by simp
 |x::r,σ=>by
  rw[List.foldl_cons,PX z r,step_any,JK,Bool.or_assoc]
  congr 2
  by_cases h:z=x
  ·subst h;simp
  ·have h':x≠z:=λq=>h q.symm
   simp[h,h']
theorem Cs(ns:List Int)(i:Int):KZ (ns++[i])=if ns.any (· == i)=true then KZ ns else KZ ns+1:=by rw[OY,OY,List.foldl_append,List.foldl_cons,List.foldl_nil,step_length,PX];simp
theorem SL:∀(ns:List Int),KZ ns<=ns.length:=λns=>by unfold KZ;exact firstMet_length_le _ _
def KP(ns:List Int):HO:=.set (λz=>ns.any (· == z)) (KZ ns)
def cTS(s:D->UB->Option UB)(t:M Bool)(g:M D):List D->UB->List Int->Option (List Int)
 |[],_,ns=>some ns
 |d::r,ρ,ns=>match s d ρ with
  |none=>none
  |some ρ1=>match t ρ1 with
   |.bad=>none
   |.ok b ρ2=>if b=true then(match g ρ2 with
     |.ok (.int i) ρ3=>if ns.length+1<4096 then cTS s t g r (U2 ρ3) (ns++[i])else none
     |_=>none)
    else cTS s t g r (U2 ρ2) ns
def Vj(f:M (List D))(k:Nat)(s:D->UB->Option UB)(t:M Bool)(g:M D):M (List Int):=λρ=>match f ρ with
 |.bad=>.bad
 |.ok ds ρ1=>match cTS s t g ds (U2 ρ1++Ul k none) []with
  |none=>.bad
  |some ns=>.ok ns ρ1
structure Ro(Y:Cx)(D':Ud)(pins:List (Ud×Obj))(H G:Hp)(ns:List Int)(ρ':UB)(σ':St)(H' G':Hp)(s':Ub):Prop where
 inv:Inv Y pins σ' H' s'
 eok:EOk Y.K H' G' G' H' σ' ρ'
 hh:∀a o,a≠D'->H a=some o->H' a=some o
 gg:Same G G'
 np:∀a(u:MO),a≠D'->H a=some u.ho->G a=none->G' a=none
 hd:H' D'=some (KP ns)
 gd:G' D'=none
section
variable{Y:Cx}{D':Ud}
theorem FM{pins:List (Ud×Obj)}{σ:St}{H:Hp}{s:Ub}{ns:List Int}{i:Int}{ev:Ua}(I:Inv Y pins σ H s)(hD:H D'=some (KP ns))(hb:ns.length+1<4096)(rv:RelV (.int i) ev) :
  Uh (model Y.prog Y.w) Y.A (call (.builtin "set.add") [.ref D',ev]) (λ_ s'=>Inv Y pins σ (upd H D' (KP (ns++[i]))) s') nox s:=by
 obtain⟨tk,rfl⟩:=rv;have hS:s.heap.SetOf (intKind Y.prog Y.w) D' (λz=>ns.any (· == z)) (KZ ns):=I.hok _ _ hD;refine call_set_add (knd:=intKind Y.prog Y.w) (k:=i) (by simp[intKind,Value.isInt]) rfl hS (by have:=SL ns;have hsb:scanBound=4096:=rfl;omega) λh' sb hS'=>?_
 refine I.write (x:=D') (e:=D') (o:=KP (ns++[i])) (t':=s.toks+1) (by rw[hD];exact trivial) (.inl rfl) (λb u hb' e=>(sb.2 b hb').trans e) ?_ ?_
 ·obtain⟨o,_,_,_,e,_⟩:=hS';exact⟨o,e⟩
 ·show h'.SetOf (intKind Y.prog Y.w) D' (λz=>(ns++[i]).any (· == z)) (KZ (ns++[i]));rw[Cs]
  have:(λz=>(ns++[i]).any (· == z))=λk'=>ns.any (· == k') || decide (k'=i):=by
   funext z;rw[List.any_append,JK,List.any_nil,Bool.or_false]
   congr 1
   by_cases h:z=i
   ·subst h;simp
   ·simp[h];exact λq=>h q.symm
  rw[this];exact hS'
theorem FL{tg elt:Uf}{ifs:List Uf}{code:Code}{s:D->UB->Option UB}{t:M Bool}{g:M D}{it:Ud}(hx:Y.xe=nox)(hc:Y.calm=true)
  (rule:Wc Y.prog Y.w Y.A tg ifs Y.env (.ref it) code (λQ s=>Uh (model Y.prog Y.w) Y.A (eval elt Y.env) (λx s₄=>Uh (model Y.prog Y.w) Y.A (call (.builtin "set.add") [.ref D',x]) (λ_ s₅=>Q s₅) nox s₄) nox s))
  (hg:∀B1 G1,PG Y tg (tG Y.K B1 G1 s)) (ht:∀B1 G1,Zm Y ifs (tBo Y.K B1 G1 t)) (he:∀B1 G1,PE Y elt (tD Y.K B1 G1 g))
  {pins:List (Ud×Obj)} {sh:Ub} {σ:St} {H G:Hp} {ρ:UB} {fp:List Ud} {tn:Nat->Heap->Prop} {J:It} {ds:List D} {ns nsF:List Int} {R:Result->Ub->Prop}
  (I:Inv Y pins σ H sh) (T:Turn Y.prog Y.w Y.K tg J fp it tn) (st:tn 0 sh.heap) (hf:∀b∈fp,Kp Y pins H b)
  (k:EOk Y.K H G G H σ ρ) (its:ZR Y.K J ds G) (hD:H D'=some (KP ns)) (gD:G D'=none) (zl:cTS s t g ds ρ ns=some nsF)
  (hfin:∀ρ' σ' H' G' s',Ro Y D' pins H G nsF ρ' σ' H' G' s'->R (.ok .next) s'):codeAny (model Y.prog Y.w) Y.A code R sh:=by
 have stat:∀{H':Hp},(∀b∈fp,H' b=none)->∀b∈fp,Kp Y pins H' b:=λhn b hb=>⟨hn b hb,(hf b hb).2⟩
 refine rule R (λn s'=>∃i σ' H' G' ρ' ns',n=ds.length-i/\tn i s'.heap/\(∀b∈fp,H' b=none)/\Ro Y D' pins H G ns' ρ' σ' H' G' s'/\cTS s t g (ds.drop i) ρ' ns'=some nsF) ds.length sh
  ⟨0,σ,H,G,ρ,ns,rfl,st,λb hb=>(hf b hb).1,⟨I,k,λ_ _ _ q=>q,.refl _,λ_ _ _ _ n=>n,hD,gD⟩,by rw[List.drop_zero];exact zl⟩ ?_
 rintro n s' ⟨i,σ',H',G',ρ',ns',rfl,tn',fr',⟨I',k',sh',sg',np',hD',gD'⟩,zc⟩;by_cases hlt:i<ds.length
 ·rw[JC hlt,cTS]at zc;cases zs:s ds[i] ρ' with
  |none=>rw[zs]at zc;cases zc
  |some ρ2=>
  rw[zs]at zc;dsimp only at zc;cases zt:t ρ2 with
  |bad=>rw[zt]at zc;cases zc
  |ok b ρ3=>
  rw[zt]at zc;dsimp only at zc;refine thn (T.item Y rfl rfl rfl hc i pins s' σ' H' nox I' (stat fr') tn' (its.go i G' H' sg' k'.gh hlt)) λrr s4 ⟨u,hr,h4⟩=>?_;subst hr;refine thn h4 λ_ s5 ⟨x,H5,I5,r5,y5,st5,fr5⟩=>?_
  obtain⟨G5,e5,rx⟩:=its.yld i G' H' x H5 ds[i] sg' k'.gh (Qb hlt) y5;have h6:=hg H' G' _ s5 σ' H5 x u (λσ6 H6=>∃G6,EOk Y.K H' G' G6 H6 σ6 ρ2) (I5.pinned (stat fr5) (T.obj _ _ st5)) r5 ⟨G5,ρ',ds[i],ρ2,k'.ext e5,rx,zs,λσ6 G6 H6 k6 _=>⟨G6,k6⟩⟩;rw[hx]at h6;refine thn h6 λ_ s6 ⟨σ6,H6,I6,G6,k6⟩=>?_;have h7:=ht H' G' _ s6 σ6 H6 (λc H7=>c=b/\∃G7,EOk Y.K H' G' G7 H7 σ6 ρ3) I6 ⟨G6,ρ2,k6,by unfold aft;rw[zt];exact λc G7 H7 k7 _ q=>⟨q,G7,k7⟩⟩
  rw[hx]at h7;refine thn h7 λok s7 ⟨H7,I7,hb7,G7,k7⟩=>?_;subst hb7
  have again:∀{H9:Hp}{σ9:St}{s9:Ub},Inv Y (pins++WV fp s5.heap) σ9 H9 s9->Inv Y pins σ9 H9 s9/\tn (i+1) s9.heap/\∀b∈fp,H9 b=none:=λ{H9 σ9 s9} I9=>by refine⟨I9.unpinned,T.keep _ _ _ st5 λb hb o e=>(I9.pin (b,o) (Qw _ (Qw _ (W4 hb e)))).1,λb hb=>?_⟩;obtain⟨o,e,d⟩:=T.obj _ _ st5 b hb;exact(I9.pin (b,o) (Qw _ (Qw _ (W4 hb e)))).2.1
  have lt:ds.length-(i+1)<ds.length-i:=Nat.sub_lt_sub_left hlt (Nat.lt_succ_self i);cases ok with
  |false=>rw[QJ (by decide)]at zc⊢;obtain⟨J1,J2,J3⟩:=again I7;exact⟨_,lt,i+1,σ6,H7,G7,U2 ρ3,ns',rfl,J2,J3,⟨J1,k7.rebase,λa o z q=>k7.bh a o (sh' a o z q),sg'.trans k7.g0,λa o z q w=>k7.np a o (sh' a _ z q) (np' a o z q w),k7.bh _ _ hD',k7.np _ (.s _ _) hD' gD'⟩,zc⟩
  |true=>
   rw[Qr rfl]at zc⊢;split at zc
   ·rename_i z ρ4 zg;split at zc
    ·rename_i hle;have h8:=he H' G' _ s7 σ6 H7 (λv H8=>∃G8,EOk Y.K H' G' G8 H8 σ6 ρ4/\Rep Y.K G8 v (.int z)) I7 ⟨G7,ρ3,k7,by unfold aft;rw[zg];exact λv G8 H8 k8 _ q=>⟨G8,k8,q⟩⟩;rw[hx]at h8;refine thn h8 λev s8 ⟨v,H8,I8,rv,G8,k8,r8⟩=>?_
     have:v=.int z:=r8.int_inv;subst this;refine thn (FM I8 (k8.bh _ _ hD') hle rv) λ_ s9 I9=>?_
     obtain⟨J1,J2,J3⟩:=again I9;have g8:=k8.np _ (.s _ _) hD' gD';exact⟨_,lt,i+1,σ6,_,G8,_,_,rfl,J2,J3,⟨J1,k8.beside g8,λa o z q=>by rw[U0 z];exact k8.bh a o (sh' a o z q),sg'.trans k8.g0,λa o z q w=>k8.np a o (sh' a _ z q) (np' a o z q w),Ki,g8⟩,zc⟩
    ·cases zc
   ·cases zc
 ·rw[List.drop_eq_nil_of_le (QW hlt),cTS]at zc;cases zc;refine thn (T.done Y rfl rfl rfl hc i pins s' σ' H' nox I' (stat fr') tn' (its.stop i G' H' sg' k'.gh (QW hlt))) λrr s4 ⟨hr,I6⟩=>?_
  subst hr;exact hfin ρ' σ' H' G' s4 ⟨I6,k',sh',sg',np',hD',gD'⟩
end
section
variable{X:Cx}{B G0:Hp}
def TD(X:Cx)(N2:List Str)(scope:Scope)(elt tg:Uf)(ifs:List Uf)(s:D->UB->Option UB)(t:M Bool)(g:M D):Prop:=
 ∀(cl:List (Str×Ud))(C:Ud)(s₀:Ub)(H₀:Hp)(ex:List Ud),(∀B' G',PG (X.blk N2 scope cl C s₀ H₀ ex) tg (tG X.K B' G' s))/\(∀B' G',Zm (X.blk N2 scope cl C s₀ H₀ ex) ifs (tBo X.K B' G' t))/\∀B' G',PE (X.blk N2 scope cl C s₀ H₀ ex) elt (tD X.K B' G' g)
def tSC(K:Frag)(B G0:Hp)(f:M (List Int)):TE:=λσ H Q=>∃G ρ,EOk K B G0 G H σ ρ/\match f ρ with
 |.bad=>False
 |.ok ns ρ1=>∀D G' H',EOk K B G0 G' H' σ ρ1->Same G G'->H' D=some (KP ns)->Q (.ref D) H'
theorem HL{tg elt iter:Uf}{ifs:List Uf}{scope:Scope}{pos:Pos}{N2:List Str}{k:Nat}{f:M (List D)}{s:D->UB->Option UB}{t:M Bool}{g:M D}(hc:X.calm=true)
  (hi:PI X tg iter (iD X.K B G0 f)) (hblk:TD X N2 scope elt tg ifs s t g) (hb:WM X.env.scope scope X.N N2 k) (hs:∀x,Uz iter X.env x=pure x:=by intro _;rfl) :
  PE X (.SetComp elt [⟨tg,iter,ifs,0⟩] scope pos) (tSC X.K B G0 (Vj f k s t g)):=by
 intro pins s0 σ H Q I ⟨G,ρ,k0,a⟩;unfold Vj at a;cases zf:f ρ with
 |bad=>rw[zf]at a;exact a.elim
 |ok ds ρ1=>
 rw[zf]at a;dsimp only at a;cases zl:cTS s t g ds (U2 ρ1++Ul k none) []with
 |none=>rw[zl]at a;exact a.elim
 |some nsF=>
 rw[zl]at a;dsimp only at a;show Uh _ X.A (comprehension (.SetComp elt [⟨tg,iter,ifs,0⟩] scope pos) scope X.env _ (newSet (.type "set")) false (eval iter X.env) none) _ _ s0;obtain⟨cl,hcl,cl1,cl2⟩:=O8 (scope:=scope) (env:=X.env) λy hy hf=>I.ok.has y.1 (hb.free y hy hf)
 refine wpAny_comprehension_free rfl hs hcl hb.kind hb.names (thn (hi pins s0 σ H (λJ H1=>∃G1,EOk X.K B G0 G1 H1 σ ρ1/\Same G G1/\ZR X.K J ds G1) I ⟨G,ρ,k0,by rw[zf];exact λJ G1 H1 k1 s1 it=>⟨G1,k1,s1,it⟩⟩) λv s1 h1=>thn h1 λitv s2 h2=>?_);obtain⟨it,fp,tn,J,H2,rfl,I2,T,st2,f2,G1,k1,sg1,its⟩:=h2;refine wpAny_newSet_of (knd:=intKind X.prog X.w) λled hS=>wpAny_newFunctionEnv hb.cell (by intro y hy;simp at hy) (λh₁ hns₁ hsb₁=>?_) hb.kind
 dsimp only at hns₁ hsb₁⊢;have hfr:H2 s2.heap.objs.size=none:=I2.hok.fresh (Qm _)
 have I3:Inv X pins σ (upd H2 s2.heap.objs.size (KP [])) {s2 with heap:=s2.heap.push {cls:=.type "set", dict:=none,data:=.set #[] 0 (.fresh 0 0 led)}}:=
  I2.laid (t':=s2.toks) (λb u e=>Qi _ e) (Qm _) (show Heap.SetOf _ _ _ _ _ from hS)
 generalize hP:s2.heap.push {cls:=.type "set", dict:=none,data:=.set #[] 0 (.fresh 0 0 led)}=P at I3 hns₁ hsb₁⊢;have old:∀b o,s2.heap.get? b=some o->P.get? b=some o:=λb o e=>hP ▸ Qi _ e;have kept:∀b o,P.get? b=some o->h₁.get? b=some o:=λb o e=>hsb₁.extBut b o (QD (Qh e)) (Qi _ e);have fpo:∀b∈fp,∃o,s2.heap.get? b=some o:=λb hb=>let ⟨o,e,_⟩:=T.obj _ _ st2 b hb;⟨o,e⟩
 have fpD:∀b∈fp,b≠s2.heap.objs.size:=λb hb=>let ⟨o,e⟩:=fpo b hb;QD (Qh e)
 have f3:∀b∈fp,Kp X pins (upd H2 s2.heap.objs.size (KP [])) b:=λb hb=>⟨by rw[U0 (fpD b hb)];exact(f2 b hb).1,(f2 b hb).2⟩
 have I4:=I3.enter (scope:=scope) (cl:=cl) (N2:=N2) (k:=k) (fp:=fp) (t':=s2.toks+([]:List (Str×Ua)).length) hb.b hb.kind hb.cell hb.free cl1 cl2 hns₁ kept f3 (λb hb=>let ⟨o,e⟩:=fpo b hb;⟨o,old b o e⟩);dsimp only at I4;have gD:G1 s2.heap.objs.size=none:=k1.gh.free hfr;have kb:EOk X.K _ G1 G1 _ _ _:=(k1.beside (o:=KP []) gD).more k;have sH:Same H2 (upd H2 s2.heap.objs.size (KP [])):=Kw hfr;have hD3:upd H2 s2.heap.objs.size (KP []) s2.heap.objs.size=some (KP []):=Ki;generalize upd H2 s2.heap.objs.size (KP [])=H3 at I3 I4 f3 kb sH hD3;generalize s2.heap.objs.size=D at *;have tn0:tn 0 h₁:=T.keep 0 _ _ st2 λb hb o e=>kept b o (old b o e)
 have stat:∀b∈fp,Kp (X.blk N2 scope cl P.objs.size {s2 with heap:=P} H3 fp) pins H3 b:=λb hb=>by
  obtain⟨z0,z1,z2,z3,z4,z5⟩:=f3 b hb;obtain⟨o,e⟩:=fpo b hb;refine⟨z0,QD (Qh (old b o e)),λz=>?_,.inl hb,λx c q=>z4 x c (cl1 x c q),z5⟩;rcases QP.mp (I3.stkSub b z)with q|q
  ·exact z1 q
  ·exact z2 q
 have neD:∀a o,H2 a=some o->a≠D:=λa o q z=>by subst z;rw[hfr]at q;cases q
 obtain⟨hg,ht,he⟩:=hblk cl P.objs.size {s2 with heap:=P} H3 fp
 have loop:=FL (Y:=X.blk N2 scope cl P.objs.size {s2 with heap:=P} H3 fp) (D':=D) (R:=compPost (model X.prog X.w) X.A X.xe none (EP X pins σ Q) (.ref D) P.objs.size) rfl hc (Dy (elt:=elt) (gens:=[⟨tg,iter,ifs,0⟩]) (scope:=scope) (pos:=pos) (j:=0) (i:=iter) rfl rfl) hg ht he I4 T tn0 stat kb its hD3 gD zl λρ' σ' H' G' s4 L=>by
   obtain⟨m,hm,_⟩:=id L.inv.loc;have I7:Inv X pins σ H' s4:=I3.call' (ch:=fp) L.inv.os L.inv.base L.inv.hok L.inv.bare λb hb=>⟨(f3 b hb).2.2.2.1,(f3 b hb).2.1,(f3 b hb).2.2.2.2.1,(f3 b hb).2.2.2.2.2⟩;have eF:Ext G1 H2 G' H':=⟨λa o q=>L.hh a o (neD a o q) (sH a o q),L.gg,L.eok.gh,λa o q z=>L.np a o (neD a _ q) (sH a _ q) z⟩
   refine⟨m,hm,λh' sb=>⟨.ref D,H',I7.turned (t':=s4.toks) (it:=P.objs.size) (λb o hb e=>(sb.2 b hb).trans e) L.inv.free (Jw I3.lt) (.inr I3.sz) (λx c e z=>by obtain⟨_,q⟩:=I3.cell x c e;exact absurd q.lt (by rw[z];exact Jf _)) (λp hp z=>by have:=Qh (I3.pin p hp).1;exact absurd this (by rw[z];exact Jf _)),rfl,a D G' H' (k1.ext eF) (sg1.trans eF.g) L.hd⟩⟩
 exact Dg loop (T.self X.A 0 _ _ _ tn0 loop)
def Vt(f:M (List D))(k:Nat)(s:D->UB->Option UB)(t:M Bool)(g:M D):M D:=λρ=>match Vj f k s t g ρ with
 |.bad=>.bad
 |.ok ns ρ1=>.ok (.int (KZ ns)) ρ1
theorem MU{tg elt iter:Uf}{ifs:List Uf}{scope:Scope}{pos p3 p4:Pos}{k:Nat}{f:M (List D)}{s:D->UB->Option UB}{t:M Bool}{g:M D}{SC:Scope}{N1 gl:List Str}(H:FnNm SC N1 gl)(hg:Gl X "len")(hm:X.mg "len" = none)(hc:X.calm=true)
  (hi:PI X tg iter (iD X.K B G0 f)) (hblk:TD X (blN N1 [⟨tg,iter,ifs,0⟩]) scope elt tg ifs s t g) (hb:XH WL SC scope N1 (blN N1 [⟨tg,iter,ifs,0⟩]) k=true) (h1:X.env.scope=SC:=by rfl) (h2:X.N=N1:=by rfl) (hs:∀x,Uz iter X.env x=pure x:=by intro _;rfl)
  (he:Ui [.SetComp elt [⟨tg,iter,ifs,0⟩] scope p3] X.env=(false,eval (.SetComp elt [⟨tg,iter,ifs,0⟩] scope p3) X.env)::Ui [] X.env:=by rfl) :
  PE X (.Call (.Name "len" p4) [.SetComp elt [⟨tg,iter,ifs,0⟩] scope p3] [] pos) (tD X.K B G0 (Vt f k s t g)):=
 UW (VG OI hg hm boot_len (Z0 (HL hc hi hblk (by rw[h1,h2];exact T9 hb) hs) Yt he) (by decide) (by decide) he rfl) λσ Hh Q ⟨G,ρ,k0,q⟩=>⟨G,ρ,k0,by
  unfold Vt aft at q;cases z:Vj f k s t g ρ with
  |bad=>rw[z]at q;exact q.elim
  |ok ns ρ1=>rw[z]at q;exact λD G' H' k' sg hd=>⟨D,_,_,rfl,hd,q (.int (KZ ns)) G' H' k' sg (.int _)⟩⟩
theorem SK{s:D->UB->Option UB}{t:M Bool}{g:M D}:∀{ds:List D}{ρ:UB}{es esF:List D},Kl s t g ds ρ es=some esF->∃r,esF=es++r
 |[],ρ,es,esF,h=>by rw[Kl]at h;cases h;exact⟨[],by simp⟩
 |d::r,ρ,es,esF,h=>by
  rw[Kl]at h;cases zs:s d ρ with
  |none=>rw[zs]at h;cases h
  |some ρ1=>
  rw[zs]at h;dsimp only at h;cases zt:t ρ1 with
  |bad=>rw[zt]at h;cases h
  |ok b ρ2=>
  rw[zt]at h;dsimp only at h;cases b with
  |false=>exact SK (ds:=r) h
  |true=>
   rw[Qr rfl]at h;cases zg:g ρ2 with
   |bad=>rw[zg]at h;cases h
   |ok e ρ3=>
   rw[zg]at h;dsimp only at h;split at h
   ·obtain⟨z,hz⟩:=SK (ds:=r) h;exact⟨e::z,by rw[hz];simp⟩
   ·cases h
theorem intI:∀{a b:List Int},a.map int=b.map int->a=b
 |[],[],_=>rfl
 |[],_::_,h=>by cases h
 |_::_,[],h=>by cases h
 |_::_,_::_,h=>by rw[Qx,Qx]at h;injection h with h1 h2;rw[PyData.int.inj h1,intI h2]
theorem T3{s:D->UB->Option UB}{t:M Bool}{g:M D}:∀{ds:List D}{ρ:UB}{ns nsF:List Int},Kl s t g ds ρ (ns.map int)=some (nsF.map int)->nsF.length<4096->cTS s t g ds ρ ns=some nsF/\ns.length<=nsF.length
 |[],ρ,ns,nsF,h,hl=>by rw[Kl]at h;have h:=Qo h;have:ns=nsF:=intI h;subst this;exact⟨rfl,Qm _⟩
 |d::r,ρ,ns,nsF,h,hl=>by
  rw[Kl]at h;rw[cTS];cases zs:s d ρ with
  |none=>rw[zs]at h;cases h
  |some ρ1=>
  rw[zs]at h;dsimp only at h⊢;cases zt:t ρ1 with
  |bad=>rw[zt]at h;cases h
  |ok b ρ2=>
  rw[zt]at h;dsimp only at h⊢;cases b with
  |false=>exact T3 (ds:=r) h hl
  |true=>
   rw[Qr rfl]at h⊢;cases zg:g ρ2 with
   |bad=>rw[zg]at h;cases h
   |ok e ρ3=>
   rw[zg]at h;dsimp only at h⊢;split at h
   ·obtain⟨z,hz⟩:=SK h
    have:∃i,e=.int i:=by
     have m:e∈nsF.map int:=by rw[hz];simp
     obtain⟨i,_,rfl⟩:=Qt.mp m;exact⟨i,rfl⟩
    obtain⟨i,rfl⟩:=this;rw[show ns.map int++[.int i]=(ns++[i]).map int by simp]at h;obtain⟨h1,h2⟩:=T3 (ds:=r) h hl;rw[Qk,Q0]at h2;dsimp only;rw[Qr (by omega)];exact⟨h1,by omega⟩
   ·cases h
theorem FJ{f:M (List D)}{k:Nat}{s:D->UB->Option UB}{t:M Bool}{g:M D}{ns:List Int}{ρ ρ1:UB}(h:ZC f k s t g ρ=.ok (ns.map int) ρ1)(hl:ns.length<4096):Vt f k s t g ρ=.ok (.int (KZ ns)) ρ1:=by
 unfold ZC at h;unfold Vt Vj;cases zf:f ρ with
 |bad=>rw[zf]at h;cases h
 |ok ds ρ2=>
 rw[zf]at h;dsimp only at h⊢;cases zl:Kl s t g ds (U2 ρ2++Ul k none) []with
 |none=>rw[zl]at h;cases h
 |some esF=>
 rw[zl]at h;dsimp only at h;cases h;rw[(T3 (ns:=[]) zl hl).1]
end
end DL
namespace DL
open PySem PySem.Spec L2
open PyProof.Rows hiding St
open PySem.SeqRoads2 PySem.SeqAt
end DL
namespace DL
open PySem PySem.Spec L2
open PyProof.Rows hiding St
def VwO(p d:Ud):HO:=.ext λh=>h.IsValuesView p d
section
variable{X:Cx}{B G0:Hp}{e o:Uf}{pos apos cpos p2:Pos}
theorem Df:MtR X "dict.values" (λx xs H Q=>∃a kvs,x=.ref a/\xs=[]/\Rd H a (.dK kvs)/\∀p,H p=none->Q (.ref p) (upd H p (VwO p a))):=by intro pins s σ H x xs v us Q I rx rs h;obtain⟨a,kvs,rfl,rfl,e,q⟩:=h;obtain rfl:v=Value.ref a:=rx;cases rs;obtain⟨z,hd,vs,rel,dd⟩:=V1 I.hok e;refine call_meetsIn PySem.F.slot_dict_values dd.typeIs PySem.F.entry_dict_values (PySem.F.args_dict_values_1 _) (meets_dict_values (ZF X.prog X.w) a hd) ⟨⟨_,dd⟩,?_⟩;exact⟨.ref _,_,I.laid (λb o e=>Qi _ e) (Qm _) (show Kz X.prog X.w _ _ _ (VwO _ a)from⟨⟨_,Qv _ rfl,rfl,rfl⟩,⟨_,Qv _ rfl⟩,λh1 h2 ⟨o,g1,g2⟩ k=>⟨o,k o g1,g2⟩⟩),rfl,q _ (I.hok.fresh (Qm _))⟩
theorem Pt{κ:Type}:∀{kvs:List (κ×V)}{vs:List (κ×Ua)},KV kvs vs->Vals (kvs.map (·.2)) (vs.map (·.2))
 |[],[],_=>.nil
 |_::_,_::_,.cons h t=>.cons h.2 (Pt t)
theorem CW(hc:X.calm=true):ZI X (.type "list") (λxs H Q=>∃r a kvs,xs=[.ref r]/\H r=some (VwO r a)/\Rd H a (.dK kvs)/\∀p,H p=none->Q (.ref p) (upd H p (.lst (kvs.map (·.2))))):=by
 intro pins s σ H xs us Q I rx h;obtain⟨r,a,kvs,rfl,hr,e,q⟩:=h;obtain⟨u,rfl,ru⟩:=rx.one;cases ru;obtain⟨hw,_,_⟩:=I.hok r _ hr;obtain⟨z,hd,vs,rel,dd⟩:=V1 I.hok e;obtain⟨o,es,ep,g1,g2⟩:=dd;refine PySem.W.kdl_call (PySem.W.kdl_values (kvs:=vs) (knd:=ZF X.prog X.w) (d:=a) (r:=r) (ep:=ep)) (I.ok.hd hc) ⟨hw,o,es,g1,g2⟩ (by rw[←rel.length];exact z) λh' tk acc' c' hk hS hI=>?_
 refine⟨.ref _,_,I.laid hk (Qm _) (show Kz X.prog X.w _ _ _ (.lst (kvs.map (·.2)))from ?_),rfl,q _ (I.hok.fresh (Qm _))⟩;refine⟨by rw[List.length_map];exact z,acc'.toList,c',?_,by simpa using hS⟩
 have e2:acc'.toList=vs.map (·.2):=by
  have hl:acc'.toList.length=vs.length:=by simpa using hI.1
  refine List.ext_getElem (by rw[hl,Qe]) λi h1 h2=>?_
  obtain⟨k,hk⟩:=hI.2 i acc'.toList[i] (by rw[←Array.getElem?_toList];exact Qb h1);rw[List.getElem_map];obtain⟨_,hk⟩:=Qf.mp hk;rw[hk]
 rw[e2];exact Pt rel
def TC:D->Bool
 |.int _=>true
 |.str _=>true
 |_=>false
def YY:D->Option (List D)
 |.dict kvs=>if(kvs.all λkv=>TC kv.1)=true then some (kvs.map (·.2))else none
 |_=>none
theorem Sn{α β:Type}:∀{as:List α}{bs:List β},as.length=bs.length->(as.zip bs).map (·.2)=bs
 |[],[],_=>rfl
 |_::as,_::bs,h=>congrArg _ (Sn (by simpa using h))
theorem De{K:Frag}{G:Hp}{v:V}{d:D}{ds:List D}(r:Rep K G v d)(h:YY d=some ds):∃a ks vs,v=.ref a/\G a=some (.dK ks)/\ks.map (·.2)=vs/\Reps K G vs ds:=by
 unfold YY at h;split at h
 ·split at h
  ·rename_i hk;cases h;cases r with
   |dic h=>exact⟨_,[],[],rfl,h,rfl,.nil⟩
   |exc _ _ _ _=>cases hk
   |@dct a ks vs ds kvs e hne hl h r=>subst e;refine⟨a,ks.zip vs,vs,rfl,h,Sn (by rw[hl,r.length]),?_⟩;rw[Sn (by rw[Qe,hl])];exact r
   |@dtt a o ks vs ds kvs e hl h r=>subst e;cases hk
  ·cases h
 ·cases h
theorem Dx{f:M D}{p4:Pos}(hc:X.calm=true)(hg:Gl X "list")(hm:X.mg "list" = none)(ho:PE X o (tD X.K B G0 f))(hbase:attributeBase o "values" X.env (eval o X.env)=eval o X.env:=by rfl)(hline:(apos.endLine==cpos.line)=true:=by rfl)
  (he2:Ui [.Call (.Attribute o "values" apos) [] [] cpos] X.env=(false,eval (.Call (.Attribute o "values" apos) [] [] cpos) X.env)::Ui [] X.env:=by rfl) :
  PE X (.Call (.Name "list" p4) [.Call (.Attribute o "values" apos) [] [] cpos] [] pos) (tL X.K B G0 (UO f λd=>US (YY d))):=
 UW (Ti (CW hc) hg hm Rf (Z0 (LU F.plainAttrs_dict F.slot_dict_values F.type_dict_values Df ho hbase hline) Yt he2) (by decide) (by decide) he2 rfl) λσ H Q ⟨G,ρ,k,q⟩=>by
  refine⟨G,ρ,k,?_⟩;unfold UO at q;cases z:f ρ with
  |bad=>rw[z]at q;exact q.elim
  |ok d ρ1=>
  rw[z]at q;dsimp only[US]at q;intro v G' H' k' s' r;cases z2:YY d with
  |none=>rw[z2]at q;exact q.elim
  |some ds=>
  rw[z2]at q;obtain⟨a,ks,vs,rfl,hG,hv,rs⟩:=De r z2;have hH:=k'.gh _ _ hG;refine⟨.inr (.inr (.inl ⟨rfl,.inl ⟨_,hH⟩⟩)),a,ks,rfl,rfl,.inl hH,λp hp=>⟨p,a,ks,rfl,Ki,.inl (by rw[U0 (K3 hH hp)];exact hH),λp' hp'=>?_⟩⟩;have k2:=k'.ext (Ext.hid (o:=VwO p a) k'.gh hp);rw[hv];exact q p' _ G' _ (k2.ext (Ext.hid k2.gh hp')) s' (NewL.of k2 hp' rs)
theorem Dd{f:M D}{ρ ρ1:UB}{d:D}{ds:List D}(h1:f ρ=.ok d ρ1)(h2:YY d=some ds):(UO f λd=>US (YY d)) ρ=.ok ds ρ1:=Ke h1 (KY h2)
end
section
variable{X:Cx}{B G0:Hp}{KX:XW}{e e':Uf}{es es':List Uf}{st st':Stmt}{sts sts':List Stmt}{pos p2:Pos}{x:Str}{j:Nat}{gl:List Str}
theorem FI{g h:SM}(q:st::sts=sts')(h1:PS X st (tS X.K B G0 KX g))(h2:PSs X sts (tS X.K B G0 KX h)):PSs X sts' (tS X.K B G0 KX (UF g h)):=q ▸ PL h1 h2
theorem MT{f:M (List D)}(q:Stmt.Assign [.Name x p2] e pos=st')(H:FnNm X.env.scope X.N gl)(he:PE X e (tL X.K B G0 f))(hi:X.N[j]?=some x:=by rfl)(hs:swapsWith e (some (.Name x p2)) pos.line X.env=pure false:=by rfl)
  (hf:X.fn x=true∨X.env.scope.names.lookup x=some .local:=by first|exact .inl rfl|exact .inr rfl|assumption):PS X st' (tS X.K B G0 KX (Kt j f)):=q ▸ Rp H he hi hs hf
theorem FH{f:M (List D)}(q:Expr.List es pos=e')(h:PA X es (tDs X.K B G0 f)):PE X e' (tL X.K B G0 (UO f λxs=>if xs.length<=1000000 then UE xs else λ_=>.bad)):=q ▸ PJ h
theorem Dc{f:M D}{g:M (List D)}(q:e::es=es')(ha:PE X e (tD X.K B G0 f))(hr:PA X es (tDs X.K B G0 g))(hs:Ui (e::es) X.env=(false,eval e X.env)::Ui es X.env:=by rfl):PA X es' (tDs X.K B G0 (UH f g)):=q ▸ Oc ha hr hs
end
section
variable{X:Cx}{B G0:Hp}{e o:Uf}{es:List Uf}{pos apos cpos p2:Pos}
theorem MS(hu:X.A.units+1<cLine):MtR X "dict.get" (λx xs H Q=>∃a kvs k,x=.ref a/\xs=[kV k]/\Rd H a (.dK kvs)/\Q ((KM kvs k).getD .non) H):=by intro pins s σ H x xs v us Q I rx rs h;obtain⟨a,kvs,k,rfl,rfl,e,q⟩:=h;obtain rfl:v=Value.ref a:=rx;obtain⟨u,rfl,ru⟩:=rs.one;obtain⟨z,hd,vs,rel,dd⟩:=V1 I.hok e;refine call_meetsIn PySem.F.slot_dict_get dd.typeIs PySem.F.entry_dict_get (PySem.F.args_dict_get_2 _ _) (meets_dict_get (ZF X.prog X.w) a (TL ru) hd) ⟨_,dd.mapOf,?_⟩;exact⟨(KM kvs k).getD .non,H,I.tok _,(rel.val k).getD (d:=.non) rfl,q⟩
def V0:D->Bool
 |.dict kvs=>kvs.all λkv=>TC kv.1
 |_=>false
def Xd(x y:D):Option D:=match x,ZB y with
 |.dict kvs,some k=>some (((kvs.find? λp=>decide (ZB p.1=some k)).map (·.2)).getD .none)
 |_,_=>none
def YD(f:M D)(g:M (List D)):M D:=UO f λd=>if V0 d=true then(UO g λks=>US (match ks with | [k]=>Xd d k|_=>none))else λ_=>.bad
theorem Pa{K:Frag}{G:Hp}{k:Key}:∀{ks:List Key}{vs:List V}{ds:List D},ks.length=ds.length->Reps K G vs ds->Rep K G ((KM (ks.zip vs) k).getD .non) (((((ks.map kD).zip ds).find? λp=>decide (ZB p.1=some k)).map (·.2)).getD .none)
 |[],_,_,_,_=>.non
 |_::_,[],[],hl,.nil=>by cases hl
 |q::ks,v::vs,d::ds,hl,.cons r t=>by
  by_cases z:q=k
  ·subst z;show Rep K G ((KM ((q,v)::ks.zip vs) q).getD .non) ((((((kD q,d)::(ks.map kD).zip ds)).find? λp=>decide (ZB p.1=some q)).map (·.2)).getD .none);rw[Tu rfl,List.find?_cons_of_pos (by rw[Vx];exact QL rfl)];exact r
  ·show Rep K G ((KM ((q,v)::ks.zip vs) k).getD .non) ((((((kD q,d)::(ks.map kD).zip ds)).find? λp=>decide (ZB p.1=some k)).map (·.2)).getD .none);rw[Tt z,List.find?_cons_of_neg (by rw[Vx];simpa using z)];exact Pa (by simpa using hl) t
theorem HK{f:M D}{g:M (List D)}(hu:X.A.units+64<cLine)(ho:PE X o (tD X.K B G0 f))(ha:PA X (e::es) (tDs X.K B G0 g))
  (hbase:attributeBase o "get" X.env (eval o X.env)=eval o X.env:=by rfl)
  (hfew:((backTo cpos (Ui (e::es) X.env)).all (λx=>!x.1)&&(backToKw cpos (keywordEach [] X.env)).all (λx=>x.1.isSome)
   && decide ((e::es).length+([]:List Keyword).length+(if([]:List Keyword).isEmpty then 0 else 1)<30))=true:=by rfl)
  (hline:(apos.endLine==cpos.line)=true:=by rfl) (hs:Ui (e::es) X.env=(false,eval e X.env)::Ui es X.env:=by rfl) (hplain:(backTo cpos (Ui es X.env)).any (·.1)=false:=by rfl) :
  PE X (.Call (.Attribute o "get" apos) (e::es) [] cpos) (tD X.K B G0 (YD f g)):=
 UW (Vk F.plainAttrs_dict F.slot_dict_get F.type_dict_get (MS (by omega)) ho ha hbase hfew hline hs hplain) λσ H Q q=>by
  refine tM.one (R:=Rep X.K) q λv H2 G ρ y k r a=>?_
  by_cases hd:V0 y=true
  ·rw[Qr hd]at a
   obtain⟨ad,ks,vs,ds,rfl,hG,hl,rs,rfl⟩:∃(ad:Ud)(ks:List Key)(vs:List V)(ds:List D),v=.ref ad/\G ad=some (.dK (ks.zip vs))/\ks.length=ds.length/\Reps X.K G vs ds/\y=.dict ((ks.map kD).zip ds):=by
    cases r with
    |dic h=>exact⟨_,[],[],[],rfl,h,rfl,.nil,rfl⟩
    |@dct a' ks vs ds kvs e hne hl h r=>exact⟨a',ks,vs,ds,rfl,h,hl,r,by rw[e]⟩
    |exc _ _ _ _=>cases hd
    |@dtt a o ks vs ds kvs e hl h r=>rw[e]at hd;cases hd
    |_=>cases hd
   refine⟨.inr (.inr (.inl ⟨rfl,.inl ⟨_,k.gh _ _ hG⟩⟩)),?_⟩;refine tM.nx (R:=Reps X.K) k a λxs H3 G3 ρ3 es k3 s3 r3 a3=>?_
   obtain⟨d,e,a4⟩:=a3.opt;split at e
   ·rename_i ky;obtain⟨u,rfl,ru⟩:=r3.one_inv;unfold Xd at e;split at e
    ·rename_i kvs kk e1 e2;cases e1;cases e;have hy:=PZ e2;subst hy;have hu:=ru.key_inv;subst hu;have:=Pa (k:=kk) hl (rs.mono s3);exact⟨ad,_,kk,rfl,rfl,.inl (k3.gh _ _ (s3 _ _ hG)),aft.now a4 k3 this⟩
    ·cases e
   ·cases e
  ·rw[QJ hd]at a;exact a.elim
theorem RQ{f:M D}{g:M (List D)}{ρ ρ1 ρ2:UB}{d k r:D}(h1:f ρ=.ok d ρ1)(hd:V0 d=true)(h2:g ρ1=.ok [k] ρ2)(h3:Xd d k=some r):YD f g ρ=.ok r ρ2:=by unfold YD;refine Ke h1 ?_;rw[Qr hd];exact Ke h2 (KY h3)
end
theorem EOk.publishD{K:Frag}{B G0 G H:Hp}{σ:St}{ρ:UB}{i:Nat}{d:D}(k:EOk K B G0 G H σ ρ)(h:ρ[i]?=some (some (.deep .dic d))) :
  ∃a G',σ[i]?=some (some (.ref a))/\Same G G'/\Rep K G' (.ref a) d/\EOk K B G0 G' H σ (ρ.set i (some (.pub d))):=by
 obtain⟨ω,k1,k2⟩:=k.dp;obtain⟨v,fp,h1,r,nd,w⟩:=k1 i _ _ h;have hl:i<ρ.length:=(Qf.mp h).1;cases r with
 |@dic a ks vs ds kvs e hl' hH hr=>
 obtain⟨h2,h3,hω⟩:=w a Qq;have sg:Same G (upd G a (.dK (ks.zip vs))):=Kw h3
 have rr:Rep K (upd G a (.dK (ks.zip vs))) (.ref a) (.dict kvs):=by
  cases ks with
  |nil=>
   have e:kvs=[]:=by rw[e];rfl
   subst e;exact .dic Ki
  |cons q ks=>exact .dct e (by simp) hl' Ki (hr.mono sg)
 have nz:∀{m:Nat}{s:Sl},(ρ.set i (some (Sl.pub (.dict kvs))))[m]?=some (some s)->(i=m/\s=.pub (.dict kvs))∨(i≠m/\ρ[m]?=some (some s)):=λ{m s} q=>by
  by_cases z:i=m
  ·subst z;rw[QG hl]at q;cases q;exact .inl ⟨rfl,rfl⟩
  ·rw[Ql z]at q;exact .inr ⟨z,q⟩
 refine⟨a,upd G a (.dK (ks.zip vs)),h1,sg,rr,⟨k.bh,λb u q=>?_,k.g0.trans sg,λb o q n=>?_,by rw[Q3];exact k.len,λj d q=>?_,λj es q=>?_,λj l c es fs q1 q2 s1 s2=>?_,?_⟩⟩
 ·by_cases z:b=a
  ·subst z;rw[Ki]at q;cases q;exact hH
  ·rw[U0 z]at q;exact k.gh b u q
 ·have z:b≠a:=λz=>by subst z;rw[h2]at q;cases q
  rw[U0 z];exact k.np b o q n
 ·rcases nz q with ⟨rfl,e⟩|⟨_,q⟩
  ·cases e;exact⟨.ref a,h1,rr⟩
  ·obtain⟨v,g1,g2⟩:=k.pub j d q;exact⟨v,g1,g2.mono sg⟩
 ·rcases nz q with ⟨_,e⟩|⟨zi,q⟩
  ·cases e
  ·obtain⟨b,ws,g1,g2,g3,g4,g5⟩:=k.own j es q;have zb:b≠a:=λe=>zi (by rw[←hω,←e];exact k2 j es b q g1)
   exact⟨b,ws,g1,g2,by rw[U0 zb];exact g3,g4,g5.mono sg⟩
 ·rcases nz q1 with ⟨_,e⟩|⟨_,q1⟩
  ·cases e
  ·rcases nz q2 with ⟨_,e⟩|⟨_,q2⟩
   ·cases e
   ·exact k.sep j l c es fs q1 q2 s1 s2
 ·refine⟨ω,λm p d q=>?_,λm es b q s=>?_⟩
  ·rcases nz q with ⟨_,e⟩|⟨zi,q⟩
   ·cases e
   ·obtain⟨v,fp,s,r,n,w2⟩:=k1 m p d q;exact⟨v,fp,s,r.mono sg (.refl _),n,λb mb=>⟨(w2 b mb).1,by rw[U0 (λz=>zi (by rw[←hω,←z];exact(w2 b mb).2.2))];exact(w2 b mb).2.1,(w2 b mb).2.2⟩⟩
  ·rcases nz q with ⟨_,e⟩|⟨_,q⟩
   ·cases e
   ·exact k2 m es b q s
def Vd(i:Nat):M D:=λρ=>match ρ[i]? with
 |some (some (.deep .dic d))=>.ok d (ρ.set i (some (.pub d)))
 |_=>.bad
section
variable{X:Cx}{B G0:Hp}{e:Uf}
theorem Gs{i:Nat}(h:PE X e (Km i)):PE X e (tD X.K B G0 (Vd i)):=UW h λσ H Q ⟨G,ρ,k,a⟩=>by
 unfold Vd at a;split at a
 ·rename_i d q;obtain⟨ad,G',h1,h2,h3,h4⟩:=k.publishD q;exact⟨.ref ad,h1,a (.ref ad) G' H h4 h2 h3⟩
 ·exact a.elim
theorem Gr{i:Nat}{ρ ρ':UB}{d:D}(h:ρ[i]?=some (some (.deep .dic d)))(h2:ρ.set i (some (.pub d))=ρ'):Vd i ρ=.ok d ρ':=by unfold Vd;rw[h];subst h2;rfl
end
section
variable{X:Cx}{B G0:Hp}{KX:XW}{a b e e':Uf}{es es':List Uf}{st st':Stmt}{sts sts':List Stmt}{pos p2:Pos}{x:Str}{j:Nat}{gl:List Str}
theorem Mm{f:M D}(q:Stmt.Assign [.Name x p2] e pos=st')(H:FnNm X.env.scope X.N gl)(he:PE X e (tD X.K B G0 f))(hi:X.N[j]?=some x:=by rfl)(hs:swapsWith e (some (.Name x p2)) pos.line X.env=pure false:=by rfl)
  (hf:X.fn x=true∨X.env.scope.names.lookup x=some .local:=by first|exact .inl rfl|exact .inr rfl|assumption):PS X st' (tS X.K B G0 KX (UY j f)):=q ▸ aSet H he hi hs hf
theorem Ea{f:M (List D)}(q:Expr.List es pos=e')(h:PA X es (tDs X.K B G0 f)):PE X e' (tD X.K B G0 (Kn f)):=q ▸ PM h
theorem F9{x1}{f:M (List D)}(q:Expr.Tuple es x1 pos=e')(h:PA X es (tDs X.K B G0 f)):PE X e' (tD X.K B G0 (ZM f)):=q ▸ PN h
theorem RP{op:Operator}{p:D->D->Option D}{f g:M D}(o:OpD X (binaryOp op) p)(q:Expr.BinOp a op b pos=e')(ha:PE X a (tD X.K B G0 f))(hb:PE X b (tD X.K B G0 g)):PE X e' (tD X.K B G0 (UG p f g)):=q ▸ XX o ha hb
end
section
variable{X:Cx}{B G0:Hp}{KX:XW}{e o:Uf}{es:List Uf}{pos apos cpos p2:Pos}
theorem Reps.erase{K:Frag}{G:Hp}:∀{vs:List V}{ds:List D}(m:Nat),Reps K G vs ds->Reps K G (vs.eraseIdx m) (ds.eraseIdx m)
 |_,_,_,.nil=>.nil
 |_,_,0,.cons _ t=>t
 |_,_,m+1,.cons r t=>.cons r (Reps.erase m t)
def YC(j:Nat)(f:M D):M D:=λρ=>match ZZ ρ j with
 |none=>.bad
 |some _=>match f ρ with
  |.bad=>.bad
  |.ok d ρ1=>match d,ZZ ρ1 j with
   |.int i,some ds=>if ds.length<=1000000 then(match ixN ds.length i with
    |some m=>(match ds[m]? with
     |some y=>.ok y (ρ1.set j (some (.own (ds.eraseIdx m))))
     |none=>.bad)
    |none=>.bad)else .bad
   |_,_=>.bad
theorem Gq{j:Nat}{f:M D}(ho:PE X o (Km j))(he:PE X e (tD X.K B G0 f))
  (hbase:attributeBase o "pop" X.env (eval o X.env)=eval o X.env:=by rfl)
  (hfew:((backTo cpos (Ui [e] X.env)).all (λx=>!x.1)&&(backToKw cpos (keywordEach [] X.env)).all (λx=>x.1.isSome)
   && decide ([e].length+([]:List Keyword).length+(if([]:List Keyword).isEmpty then 0 else 1)<30))=true:=by rfl)
  (hline:(apos.endLine==cpos.line)=true:=by rfl) (hs:Ui [e] X.env=[(false,eval e X.env)]:=by rfl) :
  PE X (.Call (.Attribute o "pop" apos) [e] [] cpos) (tD X.K B G0 (YC j f)):=
 UW (Vk PySem.F.plainAttrs_list PySem.F.slot_list_pop PySem.F.type_list_pop Ey ho (Z0 he Yt (by rw[hs];rfl)) hbase hfew hline (by rw[hs];rfl) rfl) λσ H Q ⟨G,ρ,k,a⟩=>by
  unfold YC at a;cases q0:ZZ ρ j with
  |none=>rw[q0]at a;exact a.elim
  |some ds0=>
  rw[q0]at a;dsimp only at a;obtain⟨ad,vs0,h1,h2,h3,h4,h5⟩:=k.own j ds0 (W7 q0);refine⟨.ref ad,h1,.inl ⟨rfl,_,SqL.of h4⟩,G,ρ,k,?_⟩;cases z:f ρ with
  |bad=>rw[z]at a;exact a.elim
  |ok d ρ1=>
  rw[z]at a;dsimp only at a;intro v G1 H1 k1 s1 r1;cases d with
  |int i=>
   cases q1:ZZ ρ1 j with
   |none=>rw[q1]at a;exact a.elim
   |some ds=>
   rw[q1]at a;dsimp only at a;split at a
   ·rename_i hl;cases q2:ixN ds.length i with
    |none=>rw[q2]at a;exact a.elim
    |some m=>
    rw[q2]at a;dsimp only at a;cases q3:ds[m]? with
    |none=>rw[q3]at a;exact a.elim
    |some y=>
    rw[q3]at a;obtain⟨ad1,vs,g1,g2,g3,g4,g5⟩:=k1.own j ds (W7 q1);rw[h1]at g1;cases g1;obtain⟨w,hw,rw'⟩:=g5.get q3;obtain⟨i1,i2,i3,i4⟩:=PD q2;refine⟨ad,vs,i,m,w,rfl,by rw[r1.int_inv],g4,by omega,by omega,by rw[g5.length];exact i1,hw,?_⟩;exact a w G1 _ (k1.change (W7 q1) h1 (Reps.erase m g5)) s1 rw'
   ·exact a.elim
  |_=>exact a.elim
theorem MR{j:Nat}{f:M D}{ρ ρ1:UB}{ds0 ds:List D}{m:Nat}{y:D}(h0:ρ[j]?=some (some (.own ds0)))(h1:f ρ=.ok (.int (m:Nat)) ρ1)(h2:ρ1[j]?=some (some (.own ds)))(hl:ds.length<=1000000)(h3:ds[m]?=some y):YC j f ρ=.ok y (ρ1.set j (some (.own (ds.eraseIdx m)))):=by have hm:=(Qf.mp h3).1;unfold YC ZZ;rw[h0];dsimp only;rw[h1];dsimp only;rw[h2];dsimp only;rw[Qr hl,show ixN ds.length (m:Int)=some m by unfold ixN;rw[Qr (by omega),Qr (by omega),QZ]];dsimp only;rw[h3]
end
end DL
namespace W
open PySem PySem.Spec L2 DL
open PyProof.Rows hiding St
def top(i:Nat):Stmt:=PySem.Challenge.pw_wishdeal_k30_whole_ways_in_any_order.main.body.getD i (.Pass ⟨0,0,0,0⟩)
abbrev GG(s:Stmt)(x:Str):Prop:=(K4 s).names.lookup x=some NameKind.globalImplicit
abbrev VV(s:Stmt)(x:Str):Prop:=L2.Vis (K4 s) x
abbrev LL(s:Stmt)(x:Str):Prop:=L2.Loc (K4 s) x
theorem vk{s:Stmt}{x:Str}(h:(K4 s).names.lookup x=some .local∨(K4 s).names.lookup x=some .cell∨(K4 s).names.lookup x=some .free):VV s x:=h
theorem lk{s:Stmt}{x:Str}(h:(K4 s).names.lookup x=some .local∨(K4 s).names.lookup x=some .cell):LL s x:=h
structure Txt(K:Frag)(mg:Str->Option Ua):Prop where
 b_all:mg "all" = none
 b_bool:mg "bool" = none
 b_enumerate:mg "enumerate" = none
 b_int:mg "int" = none
 b_isinstance:mg "isinstance" = none
 b_len:mg "len" = none
 b_list:mg "list" = none
 b_max:mg "max" = none
 b_range:mg "range" = none
 b_set:mg "set" = none
 b_sorted:mg "sorted" = none
 b_sum:mg "sum" = none
 b_tuple:mg "tuple" = none
 b_zip:mg "zip" = none
 c_MOST_ASKERS:∃t,mg "MOST_ASKERS" = some (Value.int 7 t)
 c_MOST_COPIES:∃t,mg "MOST_COPIES" = some (Value.int 7 t)
 c_MOST_RANKS:∃t,mg "MOST_RANKS" = some (Value.int 5 t)
 c_MOST_THINGS:∃t,mg "MOST_THINGS" = some (Value.int 6 t)
abbrev Sas:Stmt:=top 32
abbrev N_as:List Str:=["_law_script", "_law_k"]
theorem Has:NmF Sas N_as:=KH (by decide +kernel)
def Xe:SM:=
 UF (sIf (Ks (oIB λi j=>decide (i<j)) 1 (KF 0))
 (UQ (UL 0 (UA 1)))
 (sNx))
 (UQ (UE (.int 0)))
def Zo:List D->Option D:=UZ N_as Xe
abbrev Saq:Stmt:=top 29
abbrev N_aq:List Str:=["dealing", "way", "told", "asker", "taken"]
theorem Haq:NmF Saq N_aq:=KH (by decide +kernel)
def R9:SM:=
 Vf 2 (UA 3) (UA 4)
def Wq:SM:=
 UF (Kt 2 (X1 0))
 (UF (Kh (KL (UA 1)) (gT 2 (gNC (gN 3) (gNC (gN 4) (gN0)))) R9)
 (UQ (UA 2)))
def Xo:List D->Option D:=UZ N_aq Wq
abbrev Sao:Stmt:=top 27
abbrev N_ao:List Str:=["dealing", "takings", "place", "taken"]
theorem Hao:NmF Sao N_ao:=KH (by decide +kernel)
def R8:SM:=
 UF (UY 3 (UG oIx (UL 1 (UG Zh (UA 2) (UE (.int 1)))) (UE (.int 1))))
 (sIf (mOr (UM isNon (UA 3)) (UG oNe (UL 0 (UG oIx (UL 1 (UA 2)) (UE (.int 0)))) (UA 3)))
 (UQ (UE (.bool false)))
 (sNx))
def Ws:SM:=
 UF (Kh (WN (UH (UE (.int 1)) (UH (KF 1) (UD)))) (gN 2) R8)
 (UQ (UE (.bool true)))
def YJ:List D->Option D:=UZ N_ao Ws
abbrev Saa:Stmt:=top 5
abbrev N_aa:List Str:=["thing"]
theorem Haa:NmF Saa N_aa:=KH (by decide +kernel)
def WF:SM:=
 UQ (XE (UM (λd=>.bool (U9 d "int")) (UA 0)) (Vn (UM (λd=>.bool (U9 d "bool")) (UA 0))))
def ZQ:List D->Option D:=UZ N_aa WF
abbrev Sah:Stmt:=top 17
abbrev N_ah:List Str:=["ranks", "thing", "number", "rank"]
theorem Hah:NmF Sah N_ah:=KH (by decide +kernel)
def R7:SM:=
 sIf (Ks oIn 1 (UA 3))
 (UQ (UA 2))
 (sNx)
def Wz:SM:=
 UF (Kh (V7 (UH (UA 0) (UD))) (gT 2 (gNC (gN 2) (gNC (gN 3) (gN0)))) R7)
 (UQ (UE (.int 0)))
def Xu:List D->Option D:=UZ N_ah Wz
abbrev Sab:Stmt:=top 6
abbrev N_ab:List Str:=["thing", "many"]
theorem Hab:NmF Sab N_ab:=KH (by decide +kernel)
def Xf:SM:=
 UQ (XE (UT 1 ZQ (UH (UA 0) (UD))) (UM Uo (X3 (oIB λi j=>decide (i<=j)) (oIB λi j=>decide (i<j)) (UE (.int 0)) (UA 0) (UA 1))))
def K9:List D->Option D:=UZ N_ab Xf
abbrev San:Stmt:=top 26
abbrev N_an:List Str:=["lists", "dealing", "thing", "asker", "taken"]
theorem Han:NmF San N_an:=KH (by decide +kernel)
def Wt:SM:=
 UF (sIf (mOr (U8 (KS (UM (λd=>.bool (U9 d "tuple")) (UA 2)))) (UG oNe (KF 2) (UE (.int 2))))
 (UQ (UE (.bool false)))
 (sNx))
 (UF (Zw (UA 2) (gT 2 (gNC (gN 3) (gNC (gN 4) (gN0)))))
 (UF (sIf (U8 (KS (UT 2 K9 (UH (UA 3) (UH (KF 0) (UD))))))
 (UQ (UE (.bool false)))
 (sNx))
 (UF (sIf (UM isNon (UA 4))
 (UQ (UM (λd=>.bool (!isNon d)) (UL 1 (UA 3))))
 (sNx))
 (UQ (XE (UT 1 ZQ (UH (UA 4) (UD))) (XE (UM Uo (Ks oNe 4 (UL 1 (UA 3)))) (UM Uo (UG (oIB λi j=>decide (j<i)) (UT 2 Xu (UH (UL 0 (UA 3)) (UH (UA 4) (UD)))) (UE (.int 0))))))))))
def YK:List D->Option D:=UZ N_an Wt
abbrev Sad:Stmt:=top 13
abbrev N_ad:List Str:=["thing", "things"]
theorem Had:NmF Sad N_ad:=KH (by decide +kernel)
def WD:SM:=
 UF (sIf (mOr (U8 (KS (UM (λd=>.bool (U9 d "list")) (UA 0)))) (UG oEq (KF 0) (UE (.int 0))))
 (UQ (UE (.bool false)))
 (sNx))
 (UQ (ZG Zj (UH (UM Um (ZC (KL (UA 0)) 1 (gN 2) (UE true) (UT 2 K9 (UH (UA 2) (UH (UA 1) (UD)))))) (UD))))
def YL:List D->Option D:=UZ N_ad WD
abbrev Sae:Stmt:=top 14
abbrev N_ae:List Str:=["thing", "things", "wished"]
theorem Hae:NmF Sae N_ae:=KH (by decide +kernel)
def WC:SM:=
 UF (sIf (mOr (U8 (KS (UM (λd=>.bool (U9 d "list")) (UA 0)))) (UG (oIB λi j=>decide (j<i)) (KF 0) (UE (.int 5))))
 (UQ (UE (.bool false)))
 (sNx))
 (UF (sIf (U8 (KS (ZG Zj (UH (UM Um (ZC (KL (UA 0)) 1 (gN 3) (UE true) (UT 2 YL (UH (UA 3) (UH (UA 1) (UD)))))) (UD)))))
 (UQ (UE (.bool false)))
 (sNx))
 (UF (Kt 2 (Vs (KL (UA 0)) 2 (gN 3) (UE true) (KL (UA 3)) (gN 4) (UE true) (UA 4)))
 (UQ (UM Uo (UG oEq (ZG W2 (UH (UA 2) (UD))) (KF 2))))))
def Xw:List D->Option D:=UZ N_ae WC
abbrev Saf:Stmt:=top 15
abbrev N_af:List Str:=["lists", "things", "asker", "ranks"]
theorem Haf:NmF Saf N_af:=KH (by decide +kernel)
def R6:SM:=
 sIf (U8 (KS (UT 2 Xw (UH (UA 3) (UH (UA 1) (UD))))))
 (X2)
 (sNx)
def WB:SM:=
 UF (sIf (mOr (U8 (KS (UM (λd=>.bool (U9 d "list")) (UA 0)))) (U8 (X3 (oIB λi j=>decide (i<=j)) (oIB λi j=>decide (i<=j)) (UE (.int 1)) (KF 0) (UE (.int 7)))))
 (X2)
 (sNx))
 (Kh (XB (UH (UA 0) (UD))) (gT 2 (gNC (gN 2) (gNC (gN 3) (gN0)))) R6)
def Xv:List D->Option D:=UZ N_af WB
abbrev Sac:Stmt:=top 12
abbrev N_ac:List Str:=["copies", "number", "many"]
theorem Hac:NmF Sac N_ac:=KH (by decide +kernel)
def R5:SM:=
 sIf (U8 (KS (UT 2 K9 (UH (UA 2) (UH (UG U1 (UE (.int 7)) (UE (.int 1))) (UD))))))
 (X2)
 (sNx)
def WE:SM:=
 UF (sIf (mOr (U8 (KS (UM (λd=>.bool (U9 d "list")) (UA 0)))) (U8 (X3 (oIB λi j=>decide (i<=j)) (oIB λi j=>decide (i<=j)) (UE (.int 1)) (KF 0) (UE (.int 6)))))
 (X2)
 (sNx))
 (Kh (XB (UH (UA 0) (UD))) (gT 2 (gNC (gN 1) (gNC (gN 2) (gN0)))) R5)
def Xx:List D->Option D:=UZ N_ac WE
abbrev Sag:Stmt:=top 16
abbrev N_ag:List Str:=["thing", "copies", "lists"]
theorem Hag:NmF Sag N_ag:=KH (by decide +kernel)
def WA:SM:=
 UF (sIf (mOr (U8 (KS (UM (λd=>.bool (U9 d "tuple")) (UA 0)))) (UG oNe (KF 0) (UE (.int 2))))
 (X2)
 (sNx))
 (UF (Zw (UA 0) (gT 2 (gNC (gN 1) (gNC (gN 2) (gN0)))))
 (UF (XV (UT 1 Xx (UH (UA 1) (UD))))
 (XV (UT 2 Xv (UH (UA 2) (UH (KF 1) (UD)))))))
def Yh:List D->Option D:=UZ N_ag WA
abbrev Sam:Stmt:=top 24
abbrev N_am:List Str:=["wishes", "dealing"]
theorem Ham:NmF Sam N_am:=KH (by decide +kernel)
def Wu:SM:=
 UF (XV (UT 1 Yh (UH (UA 0) (UD))))
 (UQ (UM Um (ZC (XB (UH (UL 0 (UE (.int 0))) (UD))) 2 (gT 2 (gNC (gN 2) (gNC (gN 3) (gN0)))) (UE true) (UG Zh (UA 3) (XG (UA 1) (UH (UA 2) (UD)))))))
def Xp:List D->Option D:=UZ N_am Wu
abbrev Sap:Stmt:=top 28
abbrev N_ap:List Str:=["wishes", "dealing", "thing", "left", "last"]
theorem Hap:NmF Sap N_ap:=KH (by decide +kernel)
def Wr:SM:=
 UF (UY 3 (UT 2 Xp (UH (UA 0) (UH (UA 1) (UD)))))
 (UF (sIf (mOr (U8 (KS (UM (λd=>.bool (U9 d "list")) (UA 2)))) (UG oEq (KF 2) (UE (.int 0))))
 (UQ (UE (.bool false)))
 (sNx))
 (UF (sIf (U8 (KS (ZG Zj (UH (UM Um (ZC (KL (UA 2)) 1 (gN 5) (UE true) (UT 3 YK (UH (UL 0 (UE (.int 1))) (UH (UA 1) (UH (UA 5) (UD))))))) (UD)))))
 (UQ (UE (.bool false)))
 (sNx))
 (UF (sIf (mOr (UG oNe (Vt (KL (UA 2)) 2 (gT 2 (gNC (gN 5) (gNC (gN 6) (gN0)))) (UE true) (UA 5)) (KF 2)) (U8 (KS (UT 2 YJ (UH (UA 1) (UH (UA 2) (UD)))))))
 (UQ (UE (.bool false)))
 (sNx))
 (UF (UY 4 (UG oIx (UL 2 (Zl (UE (.int 1)))) (UE (.int 1))))
 (UQ (Yz (UM (λd=>.bool (isNon d)) (UA 4)) (Yz (UM Uo (UG (oIB λi j=>decide (j<i)) (UL 3 (UA 4)) (UE (.int 0)))) (UM Uo (UG oEq (UL 1 (UG oIx (UL 2 (UE (.int 0))) (UE (.int 0)))) (UA 4))))))))))
def Zp:List D->Option D:=UZ N_ap Wr
abbrev Sar:Stmt:=top 30
abbrev N_ar:List Str:=["wishes", "dealing", "way"]
theorem Har:NmF Sar N_ar:=KH (by decide +kernel)
def Wp:SM:=
 UF (sIf (U8 (KS (UT 3 Zp (UH (UA 0) (UH (UA 1) (UH (UA 2) (UD)))))))
 (X2)
 (sNx))
 (UQ (UT 2 Xo (UH (UA 1) (UH (UA 2) (UD)))))
def Xn:List D->Option D:=UZ N_ar Wp
abbrev Sav:Stmt:=top 35
abbrev N_av:List Str:=["_law_wishes_here", "_law_asker"]
theorem Hav:NmF Sav N_av:=KH (by decide +kernel)
def Wm:SM:=
 UQ (ZG VW (UH (ZG WR (UH (UG oIx (UL 0 (UE (.int 1))) (UA 1)) (UH (Kn (UD)) (UD)))) (UD)))
def Ye:List D->Option D:=UZ N_av Wm
abbrev Sax:Stmt:=top 37
abbrev N_ax:List Str:=["_law_thing"]
theorem Hax:NmF Sax N_ax:=KH (by decide +kernel)
def g_ax:SM:=
 UQ (XE (UM (λd=>.bool (U9 d "int")) (UA 0)) (Vn (UM (λd=>.bool (U9 d "bool")) (UA 0))))
def YH:List D->Option D:=UZ N_ax g_ax
abbrev Say:Stmt:=top 38
abbrev N_ay:List Str:=["_law_wishes_here", "_law_dealing", "_law_thing", "_law_askers", "_law_step", "_law_asker", "_law_what", "_law_k", "_law_last"]
theorem Hay:NmF Say N_ay:=KH (by decide +kernel)
def R4:SM:=
 sIf (mOr (UM isNon (UG oIx (UL 2 (UG Zh (UA 7) (UE (.int 1)))) (UE (.int 1)))) (UG oNe (UL 1 (UG oIx (UL 2 (UA 7)) (UE (.int 0)))) (UG oIx (UL 2 (UG Zh (UA 7) (UE (.int 1)))) (UE (.int 1)))))
 (UQ (UE (.bool false)))
 (sNx)
def R3:SM:=
 UF (sIf (mOr (U8 (KS (UM (λd=>.bool (U9 d "tuple")) (UA 4)))) (mOr (UG oNe (KF 4) (UE (.int 2))) (U8 (KS (UT 1 YH (UH (UL 4 (UE (.int 0))) (UD)))))))
 (UQ (UE (.bool false)))
 (sNx))
 (UF (Zw (UA 4) (gT 2 (gNC (gN 5) (gNC (gN 6) (gN0)))))
 (UF (sIf (mOr (Ks (oIB λi j=>decide (i<j)) 5 (UE (.int 0))) (mOr (Ks (oIB λi j=>decide (j<=i)) 5 (KF 1)) (mOr (XZ oIn (UA 5) 3) (Ks oEq 6 (UL 1 (UA 5))))))
 (UQ (UE (.bool false)))
 (sNx))
 (UF (sIf (K1 (UM (λd=>!isNon d) (UA 6)) (U8 (KS (UT 1 YH (UH (UA 6) (UD))))))
 (UQ (UE (.bool false)))
 (sNx))
 (UF (sIf (K1 (UM (λd=>!isNon d) (UA 6)) (Ks Zi 6 (UT 2 Ye (UH (UA 0) (UH (UA 5) (UD))))))
 (UQ (UE (.bool false)))
 (sNx))
 (KQ 3 (UA 5))))))
def Wk:SM:=
 UF (sIf (mOr (U8 (KS (UM (λd=>.bool (U9 d "list")) (UA 2)))) (Ks We 2 (Kn (UD))))
 (UQ (UE (.bool false)))
 (sNx))
 (UF (Kt 3 (UO (UD) λxs=>if xs.length<=1000000 then UE xs else λ_=>.bad))
 (UF (Kh (KL (UA 2)) (gN 4) R3)
 (UF (Kh (WN (UH (UE (.int 1)) (UH (KF 2) (UD)))) (gN 7) R4)
 (UF (UY 8 (UG oIx (UL 2 (Zl (UE (.int 1)))) (UE (.int 1))))
 (UF (sIf (mOr (UM isNon (UA 8)) (Ks oEq 8 (UL 1 (UG oIx (UL 2 (UE (.int 0))) (UE (.int 0))))))
 (UQ (UE (.bool true)))
 (sNx))
 (UQ (UM Uo (UG (oIB λi j=>decide (i<j)) (XG (UA 1) (UH (UA 8) (UD))) (UG oIx (UL 0 (UE (.int 0))) (UA 8))))))))))
def YG:List D->Option D:=UZ N_ay Wk
abbrev Sba:Stmt:=top 40
abbrev N_ba:List Str:=["_law_wishes_here", "_law_one", "_law_other", "_law_ways", "_law_here", "_law_way", "_law_over"]
theorem Hba:NmF Sba N_ba:=KH (by decide +kernel)
def R1:SM:=
 UF (sIf (mOr (UG TF (WK 3 Zp (UH (UA 0) (WX 4 (UH (UA 5) (UD))))) (UE (.bool true))) (U8 (KS (WK 3 YG (UH (UA 0) (WX 4 (UH (UA 5) (UD))))))))
 (UQ (UE (.bool false)))
 (sNx))
 (UF (UY 4 (UT 3 Xn (UH (UA 0) (UH (UA 4) (UH (UA 5) (UD))))))
 (UF (Kt 6 (XI (YZ (UH (ZG U5 (UH (UL 0 (UE (.int 0))) (UD))) (UD))) 1 (gN 7) (UG (oIB λi j=>decide (j<i)) (XG (UA 4) (UH (UA 7) (UD))) (UG oIx (UL 0 (UE (.int 0))) (UA 7))) (UA 7)))
 (sIf (Ks oNe 6 (Kn (UD)))
 (UQ (UE (.bool false)))
 (sNx))))
def Wi:SM:=
 UF (Kt 4 (X1 1))
 (UF (Kh (KL (UA 3)) (gN 5) R1)
 (UQ (UM Uo (Ks oEq 4 (UA 2)))))
def YF:List D->Option D:=UZ N_ba Wi
abbrev Sak:Stmt:=top 21
abbrev N_ak:List Str:=["first", "behind", "other", "told", "asker"]
theorem Hak:NmF Sak N_ak:=KH (by decide +kernel)
def Vw:SM:=
 UF (KQ 3 (ZM (UH (UA 4) (UH (UL 2 (UA 4)) (UD)))))
 (UY 4 (YD (UA 1) (UH (UA 4) (UD))))
def Ww:SM:=
 UF (Kt 3 (UO (UH (ZM (UH (UA 0) (UH (UL 2 (UA 0)) (UD)))) (UD)) λxs=>if xs.length<=1000000 then UE xs else λ_=>.bad))
 (UF (UY 4 (YD (UA 1) (UH (UA 0) (UD))))
 (UF (YQ (K1 (UM (λd=>!isNon d) (UA 4)) (Ks oNe 4 (UA 0))) Vw 1000)
 (UQ (UA 3))))
def Xr:List D->Option D:=UZ N_ak Ww
abbrev Sai:Stmt:=top 19
abbrev N_ai:List Str:=["one", "other"]
theorem Hai:NmF Sai N_ai:=KH (by decide +kernel)
def Wy:SM:=
 UQ (UM Um (ZC (XB (UH (UA 0) (UD))) 2 (gT 2 (gNC (gN 2) (gNC (gN 3) (gN0)))) (Ks oNe 3 (UL 1 (UA 2))) (UA 2)))
def Yg:List D->Option D:=UZ N_ai Wy
abbrev Saj:Stmt:=top 20
abbrev N_aj:List Str:=["things", "one", "other", "moved", "told", "thing", "takers", "givers", "taker", "giver"]
theorem Haj:NmF Saj N_aj:=KH (by decide +kernel)
def RZ:SM:=
 VS 4 (UA 8) (UA 9)
def RY:SM:=
 UF (Kt 6 (ZC (KL (UA 3)) 1 (gN 10) (UG oEq (UL 2 (UA 10)) (UA 5)) (UA 10)))
 (UF (Kt 7 (ZC (KL (UA 3)) 1 (gN 10) (UG oEq (UL 1 (UA 10)) (UA 5)) (UA 10)))
 (Kh (Xj (UH (UA 6) (UH (UA 7) (UD)))) (gT 2 (gNC (gN 8) (gNC (gN 9) (gN0)))) RZ))
def Wx:SM:=
 UF (UY 3 (UT 2 Yg (UH (UA 1) (UH (UA 2) (UD)))))
 (UF (WJ 4 .dic (UE (.dict [])))
 (UF (Kh (YZ (UH (UA 0) (UD))) (gN 5) RY)
 (UQ (Vd 4))))
def Xs:List D->Option D:=UZ N_aj Wx
abbrev Sal:Stmt:=top 22
abbrev N_al:List Str:=["wishes", "one", "other", "behind", "led_to", "moved", "firsts", "told", "met", "first", "way"]
theorem Hal:NmF Sal N_al:=KH (by decide +kernel)
def RX:SM:=
 sIf (XZ Zi (UA 9) 8)
 (UF (UY 10 (UT 3 Xr (UH (UA 9) (UH (UA 3) (UH (UA 2) (UD))))))
 (UF (Yv 8 (ZC (KL (UA 10)) 2 (gT 2 (gNC (gN 11) (gNC (gN 12) (gN0)))) (UE true) (UA 11)))
 (KQ 7 (UA 10))))
 (sNx)
def Wv:SM:=
 UF (XV (UT 1 Yh (UH (UA 0) (UD))))
 (UF (UY 3 (UT 3 Xs (UH (ZG U5 (UH (UL 0 (UE (.int 0))) (UD))) (UH (UA 1) (UH (UA 2) (UD))))))
 (UF (Kt 4 (UO (UA 3) λd=>US (YY d)))
 (UF (UY 5 (UT 2 Yg (UH (UA 1) (UH (UA 2) (UD)))))
 (UF (UY 6 (UG U1 (UM Um (XI (KL (UA 5)) 1 (gN 11) (Ks Zi 11 (UA 4)) (UA 11))) (UM Um (XI (KL (UA 5)) 1 (gN 11) (Ks oIn 11 (UA 4)) (UA 11)))))
 (UF (Kt 7 (UO (UD) λxs=>if xs.length<=1000000 then UE xs else λ_=>.bad))
 (UF (Kt 8 (UO (UD) λxs=>if xs.length<=1000000 then UE xs else λ_=>.bad))
 (UF (Kh (KL (UA 6)) (gN 9) RX)
 (UQ (UA 7)))))))))
def Xq:List D->Option D:=UZ N_al Wv
abbrev Sat:Stmt:=top 33
abbrev N_at:List Str:=["_law_cell", "_law_salt", "_law_sizes", "_law_number", "_law_left", "_law_found", "_law_k", "_law_one"]
theorem Hat:NmF Sat N_at:=KH (by decide +kernel)
def Sm:SM:=
 sIf (K1 (Ks (oIB λi j=>decide (j<=i)) 3 (UG Yx (UE (.int 10)) (UE (.int 18)))) (Ks (oIB λi j=>decide (j<i)) 4 (UE (.int 0))))
 (UF (KQ 5 (UG K0 (UA 4) (UL 2 (UA 6))))
 (UY 4 (UG Yy (UA 4) (UL 2 (UA 6)))))
 (UF (UY 7 (UG K0 (UG U1 (UG U1 (UG U1 (UA 3) (UG Kc (UE (.int 7919)) (UA 1))) (UG Kc (UG Kc (UE (.int 101)) (UA 6)) (UA 6))) (UA 6)) (UE (.int 2147483647))))
 (UF (UY 7 (UG K0 (UG Kc (UA 7) (UE (.int 48271))) (UE (.int 2147483647))))
 (UF (UY 7 (UG K0 (UG Kc (UG K0 (UG Kc (UA 7) (UA 7)) (UE (.int 2147483629))) (UE (.int 48271))) (UE (.int 2147483647))))
 (KQ 5 (UG K0 (UG Yy (UA 7) (UE (.int 16))) (UL 2 (UA 6)))))))
def Wo:SM:=
 UF (UY 3 (ZG VO (UH (UA 0) (UH (UG Zh (Zl (UE (.int 1))) (UA 0)) (UD)))))
 (UF (UY 4 (UA 3))
 (UF (Kt 5 (UO (UD) λxs=>if xs.length<=1000000 then UE xs else λ_=>.bad))
 (UF (Kh (YZ (UH (KF 2) (UD))) (gN 6) Sm)
 (UQ (UA 5)))))
def Zn:List D->Option D:=UZ N_at Wo
abbrev Saz:Stmt:=top 39
abbrev N_az:List Str:=["_law_ways", "_law_cell", "_law_salt", "_law_digits", "_law_left", "_law_found", "_law_digit"]
theorem Haz:NmF Saz N_az:=KH (by decide +kernel)
def RW:SM:=
 KQ 5 (YC 4 (UG K0 (UA 6) (KF 4)))
def Wj:SM:=
 UF (UY 3 (UT 3 Zn (UH (UA 1) (UH (UA 2) (UH (Kn (UH (UE (.int 7)) (UH (UE (.int 6)) (UH (UE (.int 5)) (UH (UE (.int 4)) (UH (UE (.int 3)) (UH (UE (.int 2)) (UH (UE (.int 1)) (UD))))))))) (UD))))))
 (UF (Kt 4 (X1 0))
 (UF (Kt 5 (UO (UD) λxs=>if xs.length<=1000000 then UE xs else λ_=>.bad))
 (UF (Kh (KL (Z8 (UA 3) (UE none) (UO (KF 0) λx=>US (Y0 x)))) (gN 6) RW)
 (UQ (UA 5)))))
def Xl:List D->Option D:=UZ N_az Wj
abbrev Saw:Stmt:=top 36
abbrev N_aw:List Str:=["_law_wishes_here", "_law_cell", "_law_salt", "_law_left", "_law_digits", "_law_found", "_law_asker", "_law_some", "_law_thing"]
theorem Haw:NmF Saw N_aw:=KH (by decide +kernel)
def Sk:SM:=
 UF (UY 7 (UG U1 (UM Um (XI (KL (UT 2 Ye (UH (UA 0) (UH (UA 6) (UD))))) 1 (gN 9) (UG (oIB λi j=>decide (j<i)) (UL 3 (UA 9)) (UE (.int 0))) (UA 9))) (Kn (UH (UE .none) (UD)))))
 (UF (UY 8 (UL 7 (UG K0 (UL 4 (UA 6)) (KF 7))))
 (UF (sIf (UM (λd=>!isNon d) (UA 8))
 (Vf 3 (UA 8) (UG Zh (UL 3 (UA 8)) (UE (.int 1))))
 (sNx))
 (KQ 5 (UA 8))))
def Wl:SM:=
 UF (Kt 3 (UO (UH (UL 0 (UE (.int 0))) (UD)) λxs=>US (YM xs)))
 (UF (UY 4 (UT 3 Zn (UH (UA 1) (UH (UA 2) (UH (UG Kc (Kn (UH (UE (.int 61)) (UD))) (ZG U5 (UH (UL 0 (UE (.int 1))) (UD)))) (UD))))))
 (UF (Kt 5 (UO (UD) λxs=>if xs.length<=1000000 then UE xs else λ_=>.bad))
 (UF (Kh (YZ (UH (ZG U5 (UH (UL 0 (UE (.int 1))) (UD))) (UD))) (gN 6) Sk)
 (UQ (UA 5)))))
def YI:List D->Option D:=UZ N_aw Wl
abbrev Sau:Stmt:=top 34
abbrev N_au:List Str:=["_law_script", "_law_at", "_law_most_things", "_law_most_askers", "_law_most_ranks", "_law_digits", "_law_copies", "_law_lists", "_law_asker", "_law_cell", "_law_places", "_law_ranks", "_law_rank", "_law_row"]
theorem Hau:NmF Sau N_au:=KH (by decide +kernel)
def Sj:SM:=
 UF (Kt 13 (ZC (YZ (UH (KF 6) (UD))) 1 (gN 14) (UG oEq (UL 10 (UA 14)) (UA 12)) (UA 14)))
 (sIf (Ks oNe 13 (Kn (UD)))
 (KQ 11 (UG oIx (Kn (UH (UA 13) (UH (YB (UA 13) (UE none) (UE none) (UO (Zl (UE (.int 1))) λx=>US (Y0 x))) (UD)))) (UL 10 (Zl (UE (.int 1))))))
 (sNx))
def Sh:SM:=
 UF (UY 9 (UT 2 Zo (UH (UA 0) (UH (UG U1 (UG U1 (UA 1) (UE (.int 1))) (UA 8)) (UD)))))
 (UF (UY 10 (UT 3 Zn (UH (UA 9) (UH (UG U1 (UG U1 (UG Kc (UE (.int 11)) (UA 1)) (UG Kc (UE (.int 3)) (UA 8))) (UE (.int 1))) (UH (UG U1 (UG Kc (Kn (UH (UG U1 (UA 4) (UE (.int 1))) (UD))) (UA 2)) (Kn (UH (UE (.int 2)) (UD)))) (UD))))))
 (UF (Kt 11 (UO (UD) λxs=>if xs.length<=1000000 then UE xs else λ_=>.bad))
 (UF (Kh (WN (UH (UE (.int 1)) (UH (UG U1 (UA 4) (UE (.int 1))) (UD)))) (gN 12) Sj)
 (KQ 7 (UA 11)))))
def Wn:SM:=
 UF (UY 5 (UT 3 Zn (UH (UT 2 Zo (UH (UA 0) (UH (UA 1) (UD)))) (UH (UA 1) (UH (UG U1 (Kn (UH (UA 2) (UH (UA 3) (UD)))) (UG Kc (Kn (UH (UE (.int 11)) (UD))) (UA 2))) (UD))))))
 (UF (Kt 6 (ZC (KL (Z8 (UA 5) (UO (UE (.int 2)) λx=>US (Y0 x)) (UO (UG U1 (UE (.int 3)) (UL 5 (UE (.int 0)))) λx=>US (Y0 x)))) 1 (gN 14) (UE true) (UG oIx (Kn (UH (UE (.int 1)) (UH (UE (.int 1)) (UH (UE (.int 2)) (UH (UE (.int 0)) (UH (UE (.int 3)) (UH (UE (.int 7)) (UH (UE (.int 1)) (UH (UE (.int 4)) (UH (UE (.int 5)) (UH (UE (.int 6)) (UH (UE (.int 1)) (UD))))))))))))) (UA 14))))
 (UF (Kt 7 (UO (UD) λxs=>if xs.length<=1000000 then UE xs else λ_=>.bad))
 (UF (Kh (YZ (UH (UG U1 (UE (.int 1)) (UL 5 (UE (.int 1)))) (UD))) (gN 8) Sh)
 (UQ (ZM (UH (UA 6) (UH (UA 7) (UD))))))))
def Xm:List D->Option D:=UZ N_au Wn
abbrev Sbb:Stmt:=top 41
abbrev N_bb:List Str:=["_law_script", "_law_wishes_here", "_law_k", "_law_cell", "_law_one", "_law_other", "_law_ways"]
theorem Hbb:NmF Sbb N_bb:=KH (by decide +kernel)
def RV:SM:=
 UF (UY 4 (UT 3 YI (UH (UA 1) (UH (UA 3) (UH (UG U1 (UE (.int 30)) (UA 2)) (UD))))))
 (UF (UY 5 (UT 3 YI (UH (UA 1) (UH (UT 2 Zo (UH (UA 0) (UH (UG U1 (UE (.int 31)) (UA 2)) (UD)))) (UH (UG U1 (UE (.int 70)) (UA 2)) (UD))))))
 (UF (UY 6 (UT 3 Xl (UH (UT 3 Xq (UH (UA 1) (UH (UA 4) (UH (UA 5) (UD))))) (UH (UA 3) (UH (UG U1 (UE (.int 90)) (UA 2)) (UD))))))
 (UF (sIf (U8 (KS (UT 4 YF (UH (UA 1) (UH (UA 4) (UH (UA 5) (UH (UA 6) (UD))))))))
 (UQ (UE (.bool false)))
 (sNx))
 (sIf (U8 (KS (UT 4 YF (UH (UA 1) (UH (UA 4) (UH (UA 5) (UH (YB (UA 6) (UE none) (UE none) (UO (Zl (UE (.int 1))) λx=>US (Y0 x))) (UD))))))))
 (UQ (UE (.bool false)))
 (sNx)))))
def Wh:SM:=
 UF (UY 1 (UT 5 Xm (UH (UA 0) (UH (UE (.int 0)) (UH (UE (.int 6)) (UH (UE (.int 7)) (UH (UE (.int 5)) (UD))))))))
 (UF (Kh (XB (UH (UG U1 (Kn (UH (UT 2 Zo (UH (UA 0) (UH (UE (.int 8)) (UD)))) (UD))) (Z8 (UA 0) (UO (UE (.int 9)) λx=>US (Y0 x)) (UO (UE (.int 30)) λx=>US (Y0 x)))) (UD))) (gT 2 (gNC (gN 2) (gNC (gN 3) (gN0)))) RV)
 (UQ (UE (.bool true))))
def Xk:List D->Option D:=UZ N_bb Wh
set_option hygiene false in
local macro_rules | `(tactic| walk_at "g")=>`(tactic| first | exact gA nm rfl | exact Mv rfl)
set_option hygiene false in
local macro_rules | `(tactic| walk_at "v")=>`(tactic| first | exact pq nm _ | exact pvb _)
set_option hygiene false in
local macro_rules | `(tactic| walk_at "b")=>`(tactic| first | ((with_reducible show OpB _ (compareOp CmpOp.Eq) _);first | exact B_eq hu | exact NU hu) | ((with_reducible show OpB _ (compareOp CmpOp.NotEq) _);first | exact B_ne hu) | ((with_reducible show OpB _ (compareOp CmpOp.Lt) _);first | exact B_lt) | ((with_reducible show OpB _ (compareOp CmpOp.LtE) _);first | exact B_le) | ((with_reducible show OpB _ (compareOp CmpOp.Gt) _);first | exact B_gt) | ((with_reducible show OpB _ (compareOp CmpOp.GtE) _);first | exact B_ge) | ((with_reducible show OpB _ (compareOp CmpOp.In) _);first | exact B_in hu) | ((with_reducible show OpB _ (compareOp CmpOp.NotIn) _);first | exact N4 hu) | ((with_reducible show OpB _ (compareOp CmpOp.IsNot) _);first | exact MY))
set_option hygiene false in
local macro_rules | `(tactic| walk_at "m")=>`(tactic| first | exact LZ _ | exact rfl)
set_option hygiene false in
local macro_rules | `(tactic| walk_at "k")=>`(tactic| first | exact Fs | exact EQ | exact EO)
set_option hygiene false in
local macro_rules | `(tactic| walk_at "w")=>`(tactic| first | exact PassesOwn.never)
set_option hygiene false in
local macro_rules | `(tactic| walk_at "x")=>`(tactic| first | assumption | exact wants_cx)
set_option hygiene false in
local macro_rules | `(tactic| walk_at "c")=>`(tactic| first | exact T.c_MOST_ASKERS | exact T.c_MOST_COPIES | exact T.c_MOST_RANKS | exact T.c_MOST_THINGS)
set_option hygiene false in
local macro_rules | `(tactic| walk_at "ck")=>`(tactic| fail)
set_option hygiene false in
local macro_rules | `(tactic| walk_at "e")=>`(tactic| first | ((with_reducible show PE _ (Expr.Call (Expr.Name _ _) [Expr.SetComp _ _ _ _] _ _) _);first | refine MU nm (by walk_at "g") T.b_len rfl ?_ ?_ (by decide +kernel)) | ((with_reducible show PE _ (Expr.Name _ _) _);first | exact Gs (pq nm _) | exact RE (pq nm _) | exact RE (pvb _) | exact N6 (by walk_at "g") (by walk_at "c")) | ((with_reducible show PE _ (Expr.Constant _ _ _) _);first | exact LM | exact Fi | exact GE) | ((with_reducible show PE _ (Expr.Subscript _ _ _) _);first | refine Hz (by walk_at "v") ?_ (fun _ _=>rfl) | refine DZ ?_ ?_ ?_ | refine Gg ?_ ?_ ?_ ?_ | refine MI ?_ ?_ (fun _ _=>rfl)) | ((with_reducible show PE _ (Expr.BinOp _ Operator.Add _ _) _);first | refine XX Ry ?_ ?_) | ((with_reducible show PE _ (Expr.BinOp _ Operator.Sub _ _) _);first | refine XX Mh ?_ ?_) | ((with_reducible show PE _ (Expr.BinOp _ Operator.Mult _ _) _);first | refine XX Rx ?_ ?_) | ((with_reducible show PE _ (Expr.BinOp _ Operator.Mod _ _) _);first | refine XX Mg ?_ ?_) | ((with_reducible show PE _ (Expr.BinOp _ Operator.FloorDiv _ _) _);first | refine XX Mf ?_ ?_) | ((with_reducible show PE _ (Expr.BinOp _ Operator.Pow _ _) _);first | refine XX Me ?_ ?_) | ((with_reducible show PE _ (Expr.Call (Expr.Name "len" _) _ _ _) _);first | refine Fx (by walk_at "g") T.b_len (by walk_at "v") | refine VL Rl (by walk_at "g") T.b_len boot_len ?_ | refine DY rfl (by walk_at "g") T.b_len (by walk_at "g") T.b_set ?_) | ((with_reducible show PE _ (Expr.Call (Expr.Name "max" _) _ _ _) _);first | refine VL (MH rfl) (by walk_at "g") T.b_max boot_max ?_) | ((with_reducible show PE _ (Expr.Call (Expr.Name "sorted" _) _ _ _) _);first | refine VL MZ (by walk_at "g") T.b_sorted PyProof.Rows.boot_sorted ?_) | ((with_reducible show PE _ (Expr.Call (Expr.Name "sum" _) _ _ _) _);first | refine VL (M7 rfl) (by walk_at "g") T.b_sum PyProof.Rows.boot_sum ?_) | ((with_reducible show PE _ (Expr.Call (Expr.Name "all" _) _ _ _) _);first | refine VL (N8 rfl) (by walk_at "g") T.b_all PyProof.Rows.boot_all ?_) | ((with_reducible show PE _ (Expr.Call (Expr.Name "isinstance" _) [_,Expr.Name "int" _] _ _) _);first | refine Tx (c := "int") (by decide) (by walk_at "g") T.b_isinstance (by walk_at "g") T.b_int (by decide +kernel) ?_ (by decide) (by decide)) | ((with_reducible show PE _ (Expr.Call (Expr.Name "isinstance" _) [_,Expr.Name "list" _] _ _) _);first | refine Tx (c := "list") (by decide) (by walk_at "g") T.b_isinstance (by walk_at "g") T.b_list (by decide +kernel) ?_ (by decide) (by decide)) | ((with_reducible show PE _ (Expr.Call (Expr.Name "isinstance" _) [_,Expr.Name "tuple" _] _ _) _);first | refine Tx (c := "tuple") (by decide) (by walk_at "g") T.b_isinstance (by walk_at "g") T.b_tuple (by decide +kernel) ?_ (by decide) (by decide)) | ((with_reducible show PE _ (Expr.Call (Expr.Name "isinstance" _) [_,Expr.Name "bool" _] _ _) _);first | refine Tx (c := "bool") (by decide) (by walk_at "g") T.b_isinstance (by walk_at "g") T.b_bool (by decide +kernel) ?_ (by decide) (by decide)) | ((with_reducible show PE _ (Expr.Call (Expr.Name _ _) _ _ _) _);first | refine pdf (by assumption) hr (by walk_at "g") ?_ | refine FR (by assumption) (hr.mono (by decide)) (by walk_at "g") ?_) | ((with_reducible show PE _ (Expr.Call _ _ _ _) _);first | refine EF hu ?_ ?_ | refine HK hu ?_ ?_ | refine Gq (by walk_at "v") ?_) | refine PM ?_ | refine PN ?_ | ((with_reducible show PE _ (Expr.Compare _ _ _ _) _);first | refine HB ?_ | refine FA ?_ | refine Gh (by walk_at "b") (by walk_at "v") ?_ (by walk_at "m") | refine Fa (by walk_at "b") ?_ ?_ (by walk_at "m") | refine DE (by walk_at "b") (by walk_at "b") ?_ ?_ ?_) | refine Hj ?_ | refine Hr ?_ | refine HD ?_ | refine HF ?_ ?_ | refine Ha ?_ ?_ | refine HE ?_)
set_option hygiene false in
local macro_rules | `(tactic| walk_at "t")=>`(tactic| first | ((with_reducible show PT _ (Expr.Compare _ _ _ _) _);first | refine HC ?_ | refine FC ?_ | refine Gi (by walk_at "b") (by walk_at "v") ?_ (by walk_at "m") | refine HU (by walk_at "b") ?_ (by walk_at "v") (by walk_at "m") | refine Fb (by walk_at "b") ?_ ?_ (by walk_at "m") | refine DF (by walk_at "b") (by walk_at "b") ?_ ?_ ?_) | ((with_reducible show PT _ (Expr.BoolOp _ _ _) _);refine PW.pt ?_) | refine HH ?_ | refine HG ?_)
set_option hygiene false in
local macro_rules | `(tactic| walk_at "l")=>`(tactic| first | refine Dx rfl (by walk_at "g") T.b_list ?_ | refine NR nm (by walk_at "k") rfl ?_ ?_ (by decide +kernel) | refine EK (by walk_at "g") T.b_list (by walk_at "v") | refine Fl (by walk_at "g") T.b_list ?_ | refine PJ ?_)
set_option hygiene false in
local macro_rules | `(tactic| walk_at "i")=>`(tactic| first | refine DV (by walk_at "g") T.b_range ?_ | refine DU (by walk_at "g") T.b_range ?_ | refine Hs (by walk_at "g") T.b_enumerate ?_ | refine F2 (by walk_at "g") T.b_enumerate ?_ | refine Mn (by walk_at "g") T.b_zip ?_ | refine Ms ?_)
set_option hygiene false in
local macro_rules | `(tactic| walk_at "s")=>`(tactic| first | ((with_reducible show PS _ (Stmt.Assign [Expr.Name _ _] _ _) _);first | refine aSet nm ?_ | refine NQ nm (by walk_at "k") rfl ?_ ?_ (by decide +kernel) | refine Rp nm ?_ | refine NS nm ?_) | ((with_reducible show PS _ (Stmt.Assign _ _ _) _);first | refine MB ?_ ?_ | refine Gj ?_ (by walk_at "v") ?_ | refine MX hu ?_ (by walk_at "v") ?_) | refine Md ?_ ?_ ?_ | refine ME ?_ | refine My (by walk_at "w") rfl ?_ ?_ ?_ | ((with_reducible show PS _ (Stmt.Expr _ _) _);first | refine Mz (by walk_at "v") ?_ | refine M0 (by walk_at "v") ?_ | refine Hv ?_) | exact Fv | refine FX _ (by walk_at "w") ?_ ?_)
set_option hygiene false in
local macro_rules | `(tactic| walk_at "d")=>`(tactic| (have hu:=hr.units;have hgd:=hr.gd;repeat' (first | ((with_reducible show PSs _ (Y7 _) _);show PSs _ (_ :: _) _) | ((with_reducible show PSs _ (Stmt.Assign _ _ _ :: _ :: _) _);generalize hS:(_ :: _:List Stmt)=sts;refine FI hS ?_ ?_) | ((with_reducible show PS _ (Stmt.Assign [Expr.Name _ _] (Expr.List _ _) _) (tS _ _ _ _ (Kt _ _)));generalize hS:Stmt.Assign _ _ _=st;refine MT hS nm ?_) | ((with_reducible show PS _ (Stmt.Assign [Expr.Name _ _] (Expr.BinOp _ _ _ _) _) (tS _ _ _ _ (UY _ _)));generalize hS:Stmt.Assign _ _ _=st;refine Mm hS nm ?_) | ((with_reducible show PE _ (Expr.List _ _) _);generalize hS:Expr.List _ _=e;first | refine FH hS ?_ | refine Ea hS ?_) | ((with_reducible show PE _ (Expr.Tuple _ _ _) _);generalize hS:Expr.Tuple _ _ _=e;refine F9 hS ?_) | ((with_reducible show PE _ (Expr.BinOp _ Operator.Add _ _) (tD _ _ _ _));generalize hS:Expr.BinOp _ _ _ _=e;refine RP Ry hS ?_ ?_) | ((with_reducible show PE _ (Expr.BinOp _ Operator.Mult _ _) (tD _ _ _ _));generalize hS:Expr.BinOp _ _ _ _=e;refine RP Rx hS ?_ ?_) | ((with_reducible show PA _ (_ :: _) (tDs _ _ _ _));generalize hS:(_ :: _:List Expr)=es;refine Dc hS ?_ ?_) | ((with_reducible show PE _ _ (tD _ _ _ _));first | walk_at "e") | ((with_reducible show PA _ _ (tDs _ _ _ _));first | refine Oc ?_ ?_ | exact HA) | ((with_reducible show PSs _ _ (tS _ _ _ _ _));first | refine PL ?_ ?_ | refine MF ?_ | exact MG | exact sD_nevers) | ((with_reducible show PS _ _ _);walk_at "s") | ((with_reducible show PT _ _ _);walk_at "t") | ((with_reducible show PW _ _ _);first | refine HI ?_ ?_ | refine Hb ?_ ?_ | refine FD ?_ | refine HJ ?_) | ((with_reducible show PE _ _ (tL _ _ _ _));walk_at "l") | ((with_reducible show PI _ _ _ _);walk_at "i") | ((with_reducible show PG _ _ _);first | exact NT nm | exact MV | refine MC rfl ?_) | ((with_reducible show PGs _ _ _);first | exact MD | refine Hu ?_ ?_) | ((with_reducible show PO _ _ _);first | exact Fz | refine Fy ?_) | ((with_reducible show TD _ _ _ _ _ _ _ _ _);refine fun cl C s0 H0 ex=>⟨fun B' G'=>?_,fun B' G'=>?_,fun B' G'=>?_⟩) | ((with_reducible show ZA _ _ _ _ _ _ _ _ _);refine fun cl C s0 H0 ex=>⟨fun B' G'=>?_,fun B' G'=>?_,?_⟩) | ((with_reducible show Zm _ _ _);first | exact Hl | refine Hk ?_) | ((with_reducible show Vg _ _ _ _ _ _);first | refine ES rfl rfl rfl fun B' G'=>?_ | refine ER rfl rfl rfl rfl (fun _=>rfl) (fun B' G'=>?_) (fun B' G'=>?_) (fun B' G'=>?_) ?_) | ((with_reducible show PE _ _ (tT _ _ _ _ _));first | refine peT_call (by assumption) hr (by walk_at "g") ?_ | exact peT_nil | exact FN) | ((with_reducible show PA _ _ (ZL _ _ _ _));first | exact HS | refine E1 (by walk_at "v") ?_ | refine FS ?_ ?_))))
section
variable{P:Uc}{w:World}{K:Frag}{mg:Str->Option Ua}{base:Heap}{f:Ud}{fd:Ue}(T:Txt K mg)
include T
theorem Kas(F:Fun K "_law_cell_at" "_law_cell_at" Sas f fd):FnOk P w K mg base CX0 1 f fd ["_law_script", "_law_k"] (spD K 2 Zo):=
 okD (k:=0) (g:=Xe) F (fq Has 2) rfl λcdv A outer s H E B G0 hr=>
 have nm:=Has
 by walk_at "d"
theorem Kaq(F:Fun K "behind_way" "behind_way" Saq f fd):FnOk P w K mg base CX0 1 f fd ["dealing", "way"] (spD K 2 Xo):=
 okD (k:=0) (g:=Wq) F (fq Haq 2) rfl λcdv A outer s H E B G0 hr=>
 have nm:=Haq
 by walk_at "d"
theorem Kao(F:Fun K "is_linked" "is_linked" Sao f fd):FnOk P w K mg base CX0 1 f fd ["dealing", "takings"] (spD K 2 YJ):=
 okD (k:=0) (g:=Ws) F (fq Hao 2) rfl λcdv A outer s H E B G0 hr=>
 have nm:=Hao
 by walk_at "d"
theorem Kaa(F:Fun K "is_whole" "is_whole" Saa f fd):FnOk P w K mg base CX0 1 f fd ["thing"] (spD K 1 ZQ):=
 okD (k:=0) (g:=WF) F (fq Haa 1) rfl λcdv A outer s H E B G0 hr=>
 have nm:=Haa
 by walk_at "d"
theorem Kah(F:Fun K "rank_in" "rank_in" Sah f fd):FnOk P w K mg base CX0 1 f fd ["ranks", "thing"] (spD K 2 Xu):=
 okD (k:=0) (g:=Wz) F (fq Hah 2) rfl λcdv A outer s H E B G0 hr=>
 have nm:=Hah
 by walk_at "d"
theorem Kab(d_aa:Def P w K mg base "is_whole" 1 1 ZQ)(F:Fun K "is_number_below" "is_number_below" Sab f fd):FnOk P w K mg base CX0 2 f fd ["thing", "many"] (spD K 2 K9):=
 okD (k:=1) (g:=Xf) F (fq Hab 2) rfl λcdv A outer s H E B G0 hr=>
 have nm:=Hab
 by walk_at "d"
theorem Kan(d_aa:Def P w K mg base "is_whole" 1 1 ZQ)(d_ah:Def P w K mg base "rank_in" 1 2 Xu)(d_ab:Def P w K mg base "is_number_below" 2 2 K9)(F:Fun K "is_taking" "is_taking" San f fd):FnOk P w K mg base CX0 3 f fd ["lists", "dealing", "thing"] (spD K 3 YK):=
 okD (k:=2) (g:=Wt) F (fq Han 3) rfl λcdv A outer s H E B G0 hr=>
 have nm:=Han
 by walk_at "d"
theorem Kad(d_ab:Def P w K mg base "is_number_below" 2 2 K9)(F:Fun K "is_rank" "is_rank" Sad f fd):FnOk P w K mg base CX0 3 f fd ["thing", "things"] (spD K 2 YL):=
 okD (k:=2) (g:=WD) F (fq Had 2) rfl λcdv A outer s H E B G0 hr=>
 have nm:=Had
 by walk_at "d"
theorem Kae(d_ad:Def P w K mg base "is_rank" 3 2 YL)(F:Fun K "is_asker_list" "is_asker_list" Sae f fd):FnOk P w K mg base CX0 4 f fd ["thing", "things"] (spD K 2 Xw):=
 okD (k:=3) (g:=WC) F (fq Hae 2) rfl λcdv A outer s H E B G0 hr=>
 have nm:=Hae
 by walk_at "d"
theorem Kaf(d_ae:Def P w K mg base "is_asker_list" 4 2 Xw)(F:Fun K "look_at_lists" "look_at_lists" Saf f fd):FnOk P w K mg base CX0 5 f fd ["lists", "things"] (spD K 2 Xv):=
 okD (k:=4) (g:=WB) F (fq Haf 2) rfl λcdv A outer s H E B G0 hr=>
 have nm:=Haf
 by walk_at "d"
theorem Kac(d_ab:Def P w K mg base "is_number_below" 2 2 K9)(F:Fun K "look_at_copies" "look_at_copies" Sac f fd):FnOk P w K mg base CX0 3 f fd ["copies"] (spD K 1 Xx):=
 okD (k:=2) (g:=WE) F (fq Hac 1) rfl λcdv A outer s H E B G0 hr=>
 have nm:=Hac
 by walk_at "d"
theorem Kag(d_af:Def P w K mg base "look_at_lists" 5 2 Xv)(d_ac:Def P w K mg base "look_at_copies" 3 1 Xx)(F:Fun K "look_at_wishes" "look_at_wishes" Sag f fd):FnOk P w K mg base CX0 6 f fd ["thing"] (spD K 1 Yh):=
 okD (k:=5) (g:=WA) F (fq Hag 1) rfl λcdv A outer s H E B G0 hr=>
 have nm:=Hag
 by walk_at "d"
theorem Kam(d_ag:Def P w K mg base "look_at_wishes" 6 1 Yh)(F:Fun K "copies_left" "copies_left" Sam f fd):FnOk P w K mg base CX0 7 f fd ["wishes", "dealing"] (spD K 2 Xp):=
 okD (k:=6) (g:=Wu) F (fq Ham 2) rfl λcdv A outer s H E B G0 hr=>
 have nm:=Ham
 by walk_at "d"
theorem Kap(d_ao:Def P w K mg base "is_linked" 1 2 YJ)(d_an:Def P w K mg base "is_taking" 3 3 YK)(d_am:Def P w K mg base "copies_left" 7 2 Xp)(F:Fun K "is_way" "is_way" Sap f fd):FnOk P w K mg base CX0 8 f fd ["wishes", "dealing", "thing"] (spD K 3 Zp):=
 okD (k:=7) (g:=Wr) F (fq Hap 3) rfl λcdv A outer s H E B G0 hr=>
 have nm:=Hap
 by walk_at "d"
theorem Kar(d_aq:Def P w K mg base "behind_way" 1 2 Xo)(d_ap:Def P w K mg base "is_way" 8 3 Zp)(F:Fun K "done" "done" Sar f fd):FnOk P w K mg base CX0 9 f fd ["wishes", "dealing", "way"] (spD K 3 Xn):=
 okD (k:=8) (g:=Wp) F (fq Har 3) rfl λcdv A outer s H E B G0 hr=>
 have nm:=Har
 by walk_at "d"
theorem Kav(F:Fun K "_law_wished" "_law_wished" Sav f fd):FnOk P w K mg base CX0 1 f fd ["_law_wishes_here", "_law_asker"] (spD K 2 Ye):=
 okD (k:=0) (g:=Wm) F (fq Hav 2) rfl λcdv A outer s H E B G0 hr=>
 have nm:=Hav
 by walk_at "d"
theorem Kax(F:Fun K "_law_whole_number" "_law_whole_number" Sax f fd):FnOk P w K mg base CX0 1 f fd ["_law_thing"] (spD K 1 YH):=
 okD (k:=0) (g:=g_ax) F (fq Hax 1) rfl λcdv A outer s H E B G0 hr=>
 have nm:=Hax
 by walk_at "d"
theorem Kay(d_av:Def P w K mg base "_law_wished" 1 2 Ye)(d_ax:Def P w K mg base "_law_whole_number" 1 1 YH)(F:Fun K "_law_is_way" "_law_is_way" Say f fd):FnOk P w K mg base CX0 2 f fd ["_law_wishes_here", "_law_dealing", "_law_thing"] (spD K 3 YG):=
 okD (k:=1) (g:=Wk) F (fq Hay 3) rfl λcdv A outer s H E B G0 hr=>
 have nm:=Hay
 by walk_at "d"
theorem Kba(d_ar:Def P w K mg base "done" 9 3 Xn)(d_ap:Def P w K mg base "is_way" 8 3 Zp)(d_ay:Def P w K mg base "_law_is_way" 2 3 YG)(F:Fun K "_law_right" "_law_right" Sba f fd):FnOk P w K mg base CX0 10 f fd ["_law_wishes_here", "_law_one", "_law_other", "_law_ways"] (spD K 4 YF):=
 okD (k:=9) (g:=Wi) F (fq Hba 4) rfl λcdv A outer s H E B G0 hr=>
 have nm:=Hba
 by walk_at "d"
theorem Kak(F:Fun K "way_from" "way_from" Sak f fd):FnOk P w K mg base CX0 1 f fd ["first", "behind", "other"] (spD K 3 Xr):=
 okD (k:=0) (g:=Ww) F (fq Hak 3) rfl λcdv A outer s H E B G0 hr=>
 have nm:=Hak
 by walk_at "d"
theorem Kai(F:Fun K "moved_askers" "moved_askers" Sai f fd):FnOk P w K mg base CX0 1 f fd ["one", "other"] (spD K 2 Yg):=
 okD (k:=0) (g:=Wy) F (fq Hai 2) rfl λcdv A outer s H E B G0 hr=>
 have nm:=Hai
 by walk_at "d"
theorem Kaj(d_ai:Def P w K mg base "moved_askers" 1 2 Yg)(F:Fun K "followers" "followers" Saj f fd):FnOk P w K mg base CX0 2 f fd ["things", "one", "other"] (spD K 3 Xs):=
 okD (k:=1) (g:=Wx) F (fq Haj 3) rfl λcdv A outer s H E B G0 hr=>
 have nm:=Haj
 by walk_at "d"
theorem Kal(d_ak:Def P w K mg base "way_from" 1 3 Xr)(d_ai:Def P w K mg base "moved_askers" 1 2 Yg)(d_aj:Def P w K mg base "followers" 2 3 Xs)(d_ag:Def P w K mg base "look_at_wishes" 6 1 Yh)(F:Fun K "ways_between" "ways_between" Sal f fd):FnOk P w K mg base CX0 7 f fd ["wishes", "one", "other"] (spD K 3 Xq):=
 okD (k:=6) (g:=Wv) F (fq Hal 3) rfl λcdv A outer s H E B G0 hr=>
 have nm:=Hal
 by walk_at "d"
theorem Kat(F:Fun K "_law_numbers" "_law_numbers" Sat f fd):FnOk P w K mg base CX0 1 f fd ["_law_cell", "_law_salt", "_law_sizes"] (spD K 3 Zn):=
 okD (k:=0) (g:=Wo) F (fq Hat 3) rfl λcdv A outer s H E B G0 hr=>
 have nm:=Hat
 by walk_at "d"
theorem Kaz(d_at:Def P w K mg base "_law_numbers" 1 3 Zn)(F:Fun K "_law_put_in_order" "_law_put_in_order" Saz f fd):FnOk P w K mg base CX0 2 f fd ["_law_ways", "_law_cell", "_law_salt"] (spD K 3 Xl):=
 okD (k:=1) (g:=Wj) F (fq Haz 3) rfl λcdv A outer s H E B G0 hr=>
 have nm:=Haz
 by walk_at "d"
theorem Kaw(d_av:Def P w K mg base "_law_wished" 1 2 Ye)(d_at:Def P w K mg base "_law_numbers" 1 3 Zn)(F:Fun K "_law_dealt" "_law_dealt" Saw f fd):FnOk P w K mg base CX0 2 f fd ["_law_wishes_here", "_law_cell", "_law_salt"] (spD K 3 YI):=
 okD (k:=1) (g:=Wl) F (fq Haw 3) rfl λcdv A outer s H E B G0 hr=>
 have nm:=Haw
 by walk_at "d"
theorem Kau(d_at:Def P w K mg base "_law_numbers" 1 3 Zn)(d_as:Def P w K mg base "_law_cell_at" 1 2 Zo)(F:Fun K "_law_wishes" "_law_wishes" Sau f fd):FnOk P w K mg base CX0 2 f fd ["_law_script", "_law_at", "_law_most_things", "_law_most_askers", "_law_most_ranks"] (spD K 5 Xm):=
 okD (k:=1) (g:=Wn) F (fq Hau 5) rfl λcdv A outer s H E B G0 hr=>
 have nm:=Hau
 by walk_at "d"
theorem Kbb(d_as:Def P w K mg base "_law_cell_at" 1 2 Zo)(d_ba:Def P w K mg base "_law_right" 10 4 YF)(d_al:Def P w K mg base "ways_between" 7 3 Xq)(d_az:Def P w K mg base "_law_put_in_order" 2 3 Xl)(d_aw:Def P w K mg base "_law_dealt" 2 3 YI)(d_au:Def P w K mg base "_law_wishes" 2 5 Xm)(F:Fun K "law" "law" Sbb f fd):FnOk P w K mg base CX0 11 f fd ["_law_script"] (spD K 1 Xk):=
 okD (k:=10) (g:=Wh) F (fq Hbb 1) rfl λcdv A outer s H E B G0 hr=>
 have nm:=Hbb
 by walk_at "d"
end
theorem KI:recsOf q0=Vu p0 ixL:=by show recsOf (PySem.W.view PySem.Challenge.pw_wishdeal_k30_whole_ways_in_any_order Yo)=Vu PySem.Challenge.pw_wishdeal_k30_whole_ways_in_any_order ixL;rw[PySem.W.Fast.te3399658132070893891,PySem.W.Fast.te15544463708914534981];kernel_rfl
theorem ZS:(["all", "bool", "enumerate", "int", "isinstance", "len", "list", "max", "range", "set", "sorted", "sum", "tuple", "zip"]:List Str).all (VU q0 (PySem.W.looseW q0 []))=true:=by show List.all _ (VU (PySem.W.view PySem.Challenge.pw_wishdeal_k30_whole_ways_in_any_order Yo) (PySem.W.looseW (PySem.W.view PySem.Challenge.pw_wishdeal_k30_whole_ways_in_any_order Yo) []))=true;k_qdec
theorem CV:valOf q0 "MOST_ASKERS" = some (.int 7):=by show valOf (PySem.W.view PySem.Challenge.pw_wishdeal_k30_whole_ways_in_any_order Yo) _=_;rw[Jn,PySem.W.Fast.te15544463708914534981];kernel_rfl
theorem CU:valOf q0 "MOST_COPIES" = some (.int 7):=by show valOf (PySem.W.view PySem.Challenge.pw_wishdeal_k30_whole_ways_in_any_order Yo) _=_;rw[Jn,PySem.W.Fast.te15544463708914534981];kernel_rfl
theorem CH:valOf q0 "MOST_RANKS" = some (.int 5):=by show valOf (PySem.W.view PySem.Challenge.pw_wishdeal_k30_whole_ways_in_any_order Yo) _=_;rw[Jn,PySem.W.Fast.te15544463708914534981];kernel_rfl
theorem CT:valOf q0 "MOST_THINGS" = some (.int 6):=by show valOf (PySem.W.view PySem.Challenge.pw_wishdeal_k30_whole_ways_in_any_order Yo) _=_;rw[Jn,PySem.W.Fast.te15544463708914534981];kernel_rfl
theorem MQ{l:PySem.W.OpenLaw}{w:World}{s0:Ub}{mg mb:Str->Option Ua}{fa:Ud}{h:Heap}{XP:(Str->Option Ua)->Heap->Prop}(G:PySem.W.Ground q0 [] [] XP w s0 mg mb h)(hfa:mg "law" = some (.ref fa)) :
  ∃fd:Ue,(∀(s:Ub)(v:Ua),BindsTo s fd ⟨[v],[]⟩ [("_law_script", v)])/\∀base:Heap,FnOk l.prog w (whole h) mg base CX0 11 fa fd ["_law_script"] (spD (whole h) 1 Xk):=by
 have T:Txt (whole h) mg:=⟨ZV G.T ZS (mq 0 rfl),ZV G.T ZS (mq 1 rfl),ZV G.T ZS (mq 2 rfl),ZV G.T ZS (mq 3 rfl),ZV G.T ZS (mq 4 rfl),ZV G.T ZS (mq 5 rfl),ZV G.T ZS (mq 6 rfl),ZV G.T ZS (mq 7 rfl),ZV G.T ZS (mq 8 rfl),ZV G.T ZS (mq 9 rfl),ZV G.T ZS (mq 10 rfl),ZV G.T ZS (mq 11 rfl),ZV G.T ZS (mq 12 rfl),ZV G.T ZS (mq 13 rfl),Tj G.T CV,Tj G.T CU,Tj G.T CH,Tj G.T CT⟩
 refine NW G.T KI 41 "law" rfl rfl hfa (λ_ _ _ _ _ _ _=>rfl) λbase=>?_
 have d_as:=KJ l.prog w base G.T KI 32 "_law_cell_at" rfl rfl (λF=>Kas T  F) λ_ _ _ _ _ _ us hl=>bz2 (us:=us) hl λ_ _=>rfl
 have d_aq:=KJ l.prog w base G.T KI 29 "behind_way" rfl rfl (λF=>Kaq T  F) λ_ _ _ _ _ _ us hl=>bz2 (us:=us) hl λ_ _=>rfl
 have d_ao:=KJ l.prog w base G.T KI 27 "is_linked" rfl rfl (λF=>Kao T  F) λ_ _ _ _ _ _ us hl=>bz2 (us:=us) hl λ_ _=>rfl
 have d_aa:=KJ l.prog w base G.T KI 5 "is_whole" rfl rfl (λF=>Kaa T  F) λ_ _ _ _ _ _ us hl=>bz1 (us:=us) hl λ_=>rfl
 have d_ah:=KJ l.prog w base G.T KI 17 "rank_in" rfl rfl (λF=>Kah T  F) λ_ _ _ _ _ _ us hl=>bz2 (us:=us) hl λ_ _=>rfl
 have d_ab:=KJ l.prog w base G.T KI 6 "is_number_below" rfl rfl (λF=>Kab T d_aa F) λ_ _ _ _ _ _ us hl=>bz2 (us:=us) hl λ_ _=>rfl
 have d_an:=KJ l.prog w base G.T KI 26 "is_taking" rfl rfl (λF=>Kan T d_aa d_ah d_ab F) λ_ _ _ _ _ _ us hl=>bz3 (us:=us) hl λ_ _ _=>rfl
 have d_ad:=KJ l.prog w base G.T KI 13 "is_rank" rfl rfl (λF=>Kad T d_ab F) λ_ _ _ _ _ _ us hl=>bz2 (us:=us) hl λ_ _=>rfl
 have d_ae:=KJ l.prog w base G.T KI 14 "is_asker_list" rfl rfl (λF=>Kae T d_ad F) λ_ _ _ _ _ _ us hl=>bz2 (us:=us) hl λ_ _=>rfl
 have d_af:=KJ l.prog w base G.T KI 15 "look_at_lists" rfl rfl (λF=>Kaf T d_ae F) λ_ _ _ _ _ _ us hl=>bz2 (us:=us) hl λ_ _=>rfl
 have d_ac:=KJ l.prog w base G.T KI 12 "look_at_copies" rfl rfl (λF=>Kac T d_ab F) λ_ _ _ _ _ _ us hl=>bz1 (us:=us) hl λ_=>rfl
 have d_ag:=KJ l.prog w base G.T KI 16 "look_at_wishes" rfl rfl (λF=>Kag T d_af d_ac F) λ_ _ _ _ _ _ us hl=>bz1 (us:=us) hl λ_=>rfl
 have d_am:=KJ l.prog w base G.T KI 24 "copies_left" rfl rfl (λF=>Kam T d_ag F) λ_ _ _ _ _ _ us hl=>bz2 (us:=us) hl λ_ _=>rfl
 have d_ap:=KJ l.prog w base G.T KI 28 "is_way" rfl rfl (λF=>Kap T d_ao d_an d_am F) λ_ _ _ _ _ _ us hl=>bz3 (us:=us) hl λ_ _ _=>rfl
 have d_ar:=KJ l.prog w base G.T KI 30 "done" rfl rfl (λF=>Kar T d_aq d_ap F) λ_ _ _ _ _ _ us hl=>bz3 (us:=us) hl λ_ _ _=>rfl
 have d_av:=KJ l.prog w base G.T KI 35 "_law_wished" rfl rfl (λF=>Kav T  F) λ_ _ _ _ _ _ us hl=>bz2 (us:=us) hl λ_ _=>rfl
 have d_ax:=KJ l.prog w base G.T KI 37 "_law_whole_number" rfl rfl (λF=>Kax T  F) λ_ _ _ _ _ _ us hl=>bz1 (us:=us) hl λ_=>rfl
 have d_ay:=KJ l.prog w base G.T KI 38 "_law_is_way" rfl rfl (λF=>Kay T d_av d_ax F) λ_ _ _ _ _ _ us hl=>bz3 (us:=us) hl λ_ _ _=>rfl
 have d_ba:=KJ l.prog w base G.T KI 40 "_law_right" rfl rfl (λF=>Kba T d_ar d_ap d_ay F) λ_ _ _ _ _ _ us hl=>bz4 (us:=us) hl λ_ _ _ _=>rfl
 have d_ak:=KJ l.prog w base G.T KI 21 "way_from" rfl rfl (λF=>Kak T  F) λ_ _ _ _ _ _ us hl=>bz3 (us:=us) hl λ_ _ _=>rfl
 have d_ai:=KJ l.prog w base G.T KI 19 "moved_askers" rfl rfl (λF=>Kai T  F) λ_ _ _ _ _ _ us hl=>bz2 (us:=us) hl λ_ _=>rfl
 have d_aj:=KJ l.prog w base G.T KI 20 "followers" rfl rfl (λF=>Kaj T d_ai F) λ_ _ _ _ _ _ us hl=>bz3 (us:=us) hl λ_ _ _=>rfl
 have d_al:=KJ l.prog w base G.T KI 22 "ways_between" rfl rfl (λF=>Kal T d_ak d_ai d_aj d_ag F) λ_ _ _ _ _ _ us hl=>bz3 (us:=us) hl λ_ _ _=>rfl
 have d_at:=KJ l.prog w base G.T KI 33 "_law_numbers" rfl rfl (λF=>Kat T  F) λ_ _ _ _ _ _ us hl=>bz3 (us:=us) hl λ_ _ _=>rfl
 have d_az:=KJ l.prog w base G.T KI 39 "_law_put_in_order" rfl rfl (λF=>Kaz T d_at F) λ_ _ _ _ _ _ us hl=>bz3 (us:=us) hl λ_ _ _=>rfl
 have d_aw:=KJ l.prog w base G.T KI 36 "_law_dealt" rfl rfl (λF=>Kaw T d_av d_at F) λ_ _ _ _ _ _ us hl=>bz3 (us:=us) hl λ_ _ _=>rfl
 have d_au:=KJ l.prog w base G.T KI 34 "_law_wishes" rfl rfl (λF=>Kau T d_at d_as F) λ_ _ _ _ _ _ us hl=>bz5 (us:=us) hl λ_ _ _ _ _=>rfl
 exact λ{_ _} F=>Kbb T d_as d_ba d_al d_az d_aw d_au F
abbrev d_bb:DefRec:=⟨"law", W3 Sbb,Y7 Sbb,K4 Sbb,NX Sbb⟩
theorem walk{YP:World->Heap->Prop}{XP:(Str->Option Ua)->Heap->Prop}(hlaw:∀ns:List Int,ns.length<=63->Xk [.list (ns.map int)]=some (.bool true)):PySem.W.WalkO q0 [] XP YP (PySem.Challenge.rw_wishdeal_k30_whole_ways_in_any_order).row.toRowW d_bb [] (λf vs=>PySem.call f vs):=
 FP (n:=63) (k:=11) (x:= "_law_script") rfl (by decide) rfl ⟨rfl,by decide,by decide,rfl⟩ (λ_ _ _ _ _ _ G hm=>MQ G hm) hlaw
theorem VZ{f:M D}{ρ ρ1:UB}{d:D}{t:Bool}(h:f ρ=.ok d ρ1)(ht:(!isNon d)=t):UM (λd=>!isNon d) f ρ=.ok t ρ1:=by subst ht;exact Kx (k:=λd=>!isNon d) h
theorem Nf{sizes found:List Int}{z d:Int}(h:∀(j:Nat) d z,found[j]?=some d->sizes[j]?=some z->0<=d/\d<z)(hz:sizes[found.length]?=some z)(h0:0<=d/\d<z) :
  ∀(j:Nat) d' z',(found++[d])[j]?=some d'->sizes[j]?=some z'->0<=d'/\d'<z':=by
 intro j d' z' e1 e2;by_cases hj:j<found.length
 ·rw[Qn hj]at e1;exact h j d' z' e1 e2
 ·by_cases hj2:j=found.length
  ·subst hj2;rw[hz]at e2;cases e2;rw[Qs (Qm _),Nat.sub_self,List.getElem?_cons_zero]at e1;cases e1;exact h0
  ·rw[Q4 (by rw[Qk,Q0];omega)]at e1;cases e1
abbrev pb(d:D):Option Sl:=some (.pub d)
def inv(c s:Int)(sizes:List Int)(n:Int)(i:Nat)(ρ:UB):Prop:=∃left found x6 x7,ρ=[some (Sl.pub (.int c)),pb (.int s),pb (.list (sizes.map .int)),pb (.int n),pb (.int left),some (.own ((found:List Int).map .int)),x6,x7] /\
 found.length=i/\∀(j:Nat) d z,found[j]?=some d->sizes[j]?=some z->0<=d/\d<z
theorem Eh{c s n:Int}{sizes:List Int}(hs:∀x∈sizes,0<x/\x<18446744073709551616)(hl:sizes.length<=1000){i:Nat}{d:D}{ρ:UB}{Q:Out->Prop}(hi:(K8 0 sizes.length)[i]?=some d)(h:inv c s sizes n i ρ) :
  ∃ρ2,gN 6 d ρ=some ρ2/\Ho Sm ρ2 (X0 (inv c s sizes n (i+1)) Q):=by
 obtain⟨left,found,x6,x7,rfl,hf,hfd⟩:=h;obtain⟨rfl,hlt⟩:=XQ hi;obtain⟨z,hz⟩:∃z,sizes[i]?=some z:=⟨sizes[i]'(by omega),Qb _⟩
 obtain⟨z1,z2⟩:=hs z (Qp hz);have hix:oIx (.list (sizes.map int)) (.int (0+(i:Int)))=some (.int z):=by rw[Int.zero_add];exact Ku (by rw[Qg,hz];rfl)
 generalize hk:(0:Int)+(i:Int)=k at hix⊢;have hk1:k<18446744073709551616:=by omega
 have hk2 : -18446744073709551616<k:=by omega
 have hlen:(found.map int).length<1000000:=by rw[Qe];omega
 have pw:Yx (.int 10) (.int 18)=some (.int 1000000000000000000):=by rw[Ga (by decide)];rfl
 refine⟨_,UR (Qa rfl) rfl,?_⟩;unfold Sm;apply Kb
 case h1=>exact TZ (K6 rfl (UV UJ UJ pw) rfl) λ_=>K6 rfl UJ rfl
 case h2=>intro _;refine U4 (YT rfl (UV (UC rfl) (Kf rfl (UC rfl) hix) (XR (by omega))) rfl hlen rfl) ?_;refine ZX (KB (UV (UC rfl) (Kf rfl (UC rfl) hix) (Pq (by omega) (by omega))) (Qa rfl) rfl) (K7 ?_);exact⟨_,found++[left % z],_,_,by rw[QI];rfl,by rw[Qk,hf];rfl,Nf hfd (by rw[hf];exact hz) ⟨Int.emod_nonneg _ (by omega),Int.emod_lt_of_pos _ z1⟩⟩
 case h3=>intro _;refine U4 (KB (UV (UV (UV (UV (UC rfl) (UV UJ (UC rfl) (Tq (by decide) (by decide))) ZE) (UV (UV UJ (UC rfl) (Tq (by decide) (by decide))) (UC rfl) (Tp hk2 hk1)) ZE) (UC rfl) ZE) UJ (XR (by decide))) (Qa rfl) rfl) ?_;refine U4 (KB (UV (UV (UC rfl) UJ (Tp (by decide) (by decide))) UJ (XR (by decide))) (Qa rfl) rfl) ?_;refine U4 (KB (UV (UV (UV (UV (UC rfl) (UC rfl) (Tp (by omega) (by omega))) UJ (XR (by decide))) UJ (Tp (by decide) (by decide))) UJ (XR (by decide))) (Qa rfl) rfl) ?_;refine ZX (YT rfl (UV (UV (UC rfl) UJ (Pq (by decide) (by decide))) (Kf rfl (UC rfl) hix) (XR (by omega))) rfl hlen rfl) (K7 ?_);exact⟨_,found++[_ % z],_,_,by rw[QI];rfl,by rw[Qk,hf];rfl,Nf hfd (by rw[hf];exact hz) ⟨Int.emod_nonneg _ (by omega),Int.emod_lt_of_pos _ z1⟩⟩
theorem Tw(c s:Int){sizes:List Int}(hs:∀x∈sizes,0<x/\x<18446744073709551616)(hl:sizes.length<=1000) :
  ∃r,Zn [.int c,.int s,.list (sizes.map int)]=some r/\∃ds:List Int,r=.list (ds.map .int)/\ds.length=sizes.length/\∀(j:Nat) d z,ds[j]?=some d->sizes[j]?=some z->0<=d/\d<z:=by
 refine YR (ρ:=[pb (.int c),pb (.int s),pb (.list (sizes.map int)),none,none,none,none,none]) rfl ?_;unfold Wo;refine U4 (KB (Yr (UI (UC rfl) (UI (UV (WS UJ) (UC rfl) W0) UP)) HZ) (Qa rfl) rfl) ?_;refine U4 (KB (UC rfl) (Qa rfl) rfl) ?_;refine U4 (Zb (Y6 UP (Qa rfl)) (Qa rfl) rfl) ?_;apply Kj;apply Zs (ds:=K8 0 sizes.length) (inv c s sizes (if -1-c > c then -1-c else c))
 case h1=>exact W1 (UI (KG rfl (by rw[Zf,Qe])) UP) (Vc (by omega) (by omega))
 case h0=>exact⟨_,[],none,none,rfl,rfl,λj d z e=>by cases e⟩
 case hst=>exact λi d ρ e h=>Eh hs hl e h
 case hend=>rintro ρ ⟨left,found,x6,x7,rfl,hf,hfd⟩;rw[Yu]at hf;exact Ko (U3 (ZY rfl rfl) ⟨_,rfl,found,rfl,by omega,hfd⟩)
mutual
theorem PV:∀(d:PyData),d.canLay0=true->Ut d d=true
 |.none,_=>rfl
 |.bool b,_=>by cases b<;>rfl
 |.int i,_=>by simp[Ut]
 |.str s,_=>by simp[Ut]
 |.list xs,h=>eqvAll_refl xs h
 |.tuple xs,h=>eqvAll_refl xs h
 |.dict _,h=>by cases h
theorem eqvAll_refl:∀(xs:List PyData),Ur xs=true->PyData.eqvAll xs xs=true
 |[],_=>rfl
 |x::r,h=>by
  have h:(PyData.canLay0 x&&Ur r)=true:=h;rw[QX]at h
  show(Ut x x&&PyData.eqvAll r r)=true
  rw[PV x h.1,eqvAll_refl r h.2];rfl
end
theorem SJ:∀{xs:List D},(∀x∈xs,PyData.canLay0 x=true)->Ur xs=true
 |[],_=>rfl
 |x::r,h=>by
  show(PyData.canLay0 x&&Ur r)=true
  rw[h x Qq,SJ λy hy=>h y (QF _ hy)];rfl
theorem SI{n:Nat}:∀{xs:List D},(∀x∈xs,Us x<=n)->PyData.depthAll xs<=n
 |[],_=>by simp[PyData.depthAll]
 |x::r,h=>by have h1:=h x Qq;have h2:=SI (n:=n) λy hy=>h y (QF _ hy);simp only[PyData.depthAll];omega
def Ky(r:List Int):D:=.list (r.map int)
def Kk(rs:List (List Int)):D:=.list (rs.map Ky)
def Kr(cs:List Int)(ls:L3):D:=.tuple [.list (cs.map int),.list (ls.map Kk)]
structure X9(n:Nat)(rs:List (List Int)):Prop where
 few:rs.length<=5
 some:∀r∈rs,r≠[]
 there:∀r∈rs,∀t∈r,0<=t/\t<n
 once:rs.flatten.Nodup
structure Good(cs:List Int)(ls:L3):Prop where
 c1:1<=cs.length
 c6:cs.length<=6
 c7:∀c∈cs,0<=c/\c<8
 l1:1<=ls.length
 l7:ls.length<=7
 rk:∀rs∈ls,X9 cs.length rs
theorem F8(r:List Int):(Ky r).canLay0=true:=SJ λx hx=>by obtain⟨y,_,rfl⟩:=Qt.mp hx;rfl
theorem Gp(i:Int):(int i).depth<=1:=by simp[Us]
theorem RU{n:Nat}{xs:List D}(h:PyData.depthAll xs<=n):(Um xs).depth<=n+1:=by simp only[Us];omega
theorem F7(r:List Int):(Ky r).depth<=2:=RU (SI λx hx=>by obtain⟨y,_,rfl⟩:=Qt.mp hx;exact Gp y)
theorem Eg(i:Int):ZQ [.int i]=some (.bool true):=by refine Ze (ρ:=[pb (.int i)]) rfl ?_;unfold WF;exact U3 (XS (Kx (UC rfl)) (λ_=>Gc (Kx (UC rfl)))) rfl
theorem OT{i m:Int}(h0:0<=i)(h1:i<m):K9 [.int i,.int m]=some (.bool true):=by
 refine Ze (ρ:=[pb (.int i),pb (.int m)]) rfl ?_;unfold Xf;have hb:(decide (0<=i)&&decide (i<m))=true:=by simp[h0,h1]
 refine U3 (XS (t:=true) (u:=true) (Kg (UI (UC rfl) UP) rfl (Eg i)) (λ_=>?_)) rfl;rw[←hb];exact Kx (Tr UJ (UC rfl) rfl (λ_=>UC rfl) (λ_=>rfl))
theorem OS{α:Type}(l:List α):Zj [.list (l.map λ_=>.bool true)]=some (.bool true):=by
 have:(l.map λ_=>Uo true)=(l.map λ_=>true).map Uo:=by rw[QY];rfl
 rw[this,Po]
 congr 2
 rw[J5];induction l with
 |nil=>rfl
 |cons x r ih=>simpa using ih
theorem Dw{r:List Int}{n:Int}(hne:r≠[])(hl:r.length<=1000)(h:∀t∈r,0<=t/\t<n):YL [Ky r,.int n]=some (.bool true):=by
 refine Ze (ρ:=[pb (Ky r),pb (.int n)]) rfl ?_;unfold WD;apply Kj;have hlen:U5 [Ky r]=some (.int r.length):=by unfold Ky;rw[Zf,Qe]
 have hp:0<r.length:=JY.mpr hne;apply Kb
 case h1=>exact KW (ρ1:=[pb (Ky r),pb (.int n)]) (Zc (UC rfl) rfl) (UV (KG rfl hlen) UJ Td)
 case h2=>
       intro hh;have:(r.length:Int)=0:=by simpa using hh
       omega
 case h3=>
  intro _;refine Kv (Ko ?_)
  have hc:Kl (gN 2) (UE true) (UT 2 K9 (UH (UA 2) (UH (UA 1) (UD)))) (r.map int) (U2 [pb (Ky r),pb (.int n)]++Ul 1 none) []=some (r.map λ_=>.bool true):=by
   rw[YW (λ_=>true) (λ_=>.bool true) (λρ=>∃x,ρ=[pb (Ky r),pb (.int n),x])]
   ·rw[List.filter_eq_self.mpr (λ_ _=>rfl),Jl,QY];rfl
   ·rintro d hm ρ ⟨x,rfl⟩;obtain⟨t,ht,rfl⟩:=Qt.mp hm;exact⟨_,UR (Qa rfl) rfl,rfl,λ_=>Kg (UI (UC rfl) (UI (UC rfl) UP)) rfl (OT (h t ht).1 (h t ht).2),_,rfl⟩
   ·exact⟨none,rfl⟩
   ·rw[Qe,Q2];omega
  exact U3 (Yr (UI (Kx (Yq (Zr (UC rfl) rfl) hc)) UP) (OS r)) rfl
theorem Ow{a b c x3:Option Sl}(ha:YN a=a)(hb:YN b=b)(hc:YN c=c)(hx:YN x3=x3):∀(ds es:List D)(x4:Option Sl),es.length+ds.length<=1000000 ->
  ∃y,Y3 (gN 4) (UE true) (UA 4) ds [a,b,c,x3,x4] es=some (es++ds,[a,b,c,x3,y])
 |[],es,x4,_=>⟨x4,by rw[Y3,Q5]⟩
 |d::r,es,x4,h=>by
  rw[QA]at h;obtain⟨y,e⟩:=Ow ha hb hc hx r (es++[d]) (some (.pub d)) (by rw[Qk,Q0];omega);refine⟨y,?_⟩;rw[Y3];have h1:gN 4 d [a,b,c,x3,x4]=some [a,b,c,x3,pb d]:=UR (Qa rfl) rfl;rw[h1];dsimp only[UE];rw[Qr rfl];have h2:UA 4 [a,b,c,x3,pb d]=.ok d [a,b,c,x3,pb d]:=UC rfl;rw[h2];dsimp only;rw[Qr (by omega)];have h3:U2 [a,b,c,x3,pb d]=[a,b,c,x3,pb d]:=by unfold U2;simp only[Qx,List.map_nil,ha,hb,hc,hx];rfl
  rw[h3,e,Jp];rfl
theorem O9{a b:D}:∀(rs:List (List Int))(es:List D)(x3 x4:Option Sl),es.length+rs.flatten.length<=1000000 ->
  Ys (gN 3) (UE true) (KL (UA 3)) (gN 4) (UE true) (UA 4) (rs.map Ky) [pb a,pb b,none,x3,x4] es=some (es++rs.flatten.map int)
 |[],es,_,_,_=>by rw[List.map_nil,Ys];simp
 |r::rs,es,x3,x4,h=>by rw[QO,Qk]at h;rw[Qx,Ys];have h1:gN 3 (Ky r) [pb a,pb b,none,x3,x4]=some [pb a,pb b,none,pb (Ky r),x4]:=UR (Qa rfl) rfl;rw[h1];dsimp only[UE];rw[Qr rfl];have h2:KL (UA 3) [pb a,pb b,none,pb (Ky r),x4]=.ok (r.map int) [pb a,pb b,none,pb (Ky r),x4]:=Zr (UC rfl) rfl;rw[h2];dsimp only;have h3:U2 [pb a,pb b,none,pb (Ky r),x4]=[pb a,pb b,none,pb (Ky r),YN x4]:=rfl;rw[h3];obtain⟨y,e⟩:=Ow (a:=some (.pub a)) (b:=some (.pub b)) (c:=none) (x3:=some (.pub (Ky r))) rfl rfl rfl rfl (r.map int) es (YN x4) (by rw[Qe];omega);rw[e];dsimp only;have ih:=O9 (a:=a) (b:=b) rs (es++r.map int) (some (.pub (Ky r))) y (by rw[Qk,Qe];omega);refine Eq.trans ih ?_;rw[QO,QI,Jp]
theorem Nd{ns:List Int}(h:ns.Nodup):KZ ns=ns.length:=by
 unfold KZ
 have:∀i,i<=ns.length->(PyProof.Rows.firstMet (λi=>ns.getD i 0) i).length=i:=by
  intro i;induction i with
  |zero=>intro _;rfl
  |succ i ih=>
   intro hi;rw[PyProof.Rows.firstMet_succ]
   have hany:(PyProof.Rows.firstMet (λi=>ns.getD i 0) i).any (· == ns.getD i 0)=false:=by
    rw[PyProof.Rows.firstMet_any,List.any_eq_false];intro x hx;obtain⟨j,hj,rfl⟩:=Qt.mp hx;have hj:=QT.mp hj;intro e;have e:ns.getD j 0=ns.getD i 0:=by simpa using e
    have l1:j<ns.length:=by omega
    have l2:i<ns.length:=by omega
    simp only[List.getD,Qb l1,Qb l2,JO]at e;exact absurd ((List.getElem_inj h).mp e) (by omega)
   unfold PyProof.Rows.step_dedup;rw[hany];rw[QJ (by decide),Qk,ih (by omega)];rfl
 exact this ns.length (Qm _)
theorem Cr{rs:List (List Int)}{n:Nat}(g:X9 n rs)(hn:n<=6)(hf:rs.flatten.length<=1000):Xw [Kk rs,.int n]=some (.bool true):=by
 refine Ze (ρ:=[pb (Kk rs),pb (.int n),none]) rfl ?_;unfold WC;have hlen:U5 [Kk rs]=some (.int rs.length):=by unfold Kk;rw[Zf,Qe]
 have h5:=g.few;have hrl:∀r∈rs,r.length<=1000:=λr hr=>QN (List.Sublist.length_le (List.sublist_flatten_of_mem hr)) hf;apply Kj;apply Kb
 case h1=>exact KW (ρ1:=[pb (Kk rs),pb (.int n),none]) (Zc (UC rfl) rfl) (UV (KG rfl hlen) UJ rfl)
 case h2=>
       intro hh;have:(5:Int)<(rs.length:Int):=by simpa using hh
       omega
 case h3=>
  intro _;refine Kv (Ko ?_)
  have hc:Kl (gN 3) (UE true) (UT 2 YL (UH (UA 3) (UH (UA 1) (UD)))) (rs.map Ky) (U2 [pb (Kk rs),pb (.int n),none]++Ul 1 none) []=some (rs.map λ_=>.bool true):=by
   rw[YW (λ_=>true) (λ_=>.bool true) (λρ=>∃x,ρ=[pb (Kk rs),pb (.int n),none,x])]
   ·rw[List.filter_eq_self.mpr (λ_ _=>rfl),Jl,QY];rfl
   ·rintro d hm ρ ⟨x,rfl⟩;obtain⟨r,hr,rfl⟩:=Qt.mp hm;exact⟨_,UR (Qa rfl) rfl,rfl,λ_=>Kg (UI (UC rfl) (UI (UC rfl) UP)) rfl (Dw (g.some r hr) (hrl r hr) (g.there r hr)),_,rfl⟩
   ·exact⟨none,rfl⟩
   ·rw[Qe,Q2];omega
  apply Kj;apply Kb
  case h1=>exact ZJ (Z2 (Yr (UI (Kx (Yq (Zr (UC rfl) rfl) hc)) UP) (OS rs)))
  case h2=>intro hh;cases hh
  case h3=>
   intro _;refine Kv (Ko ?_);have h2:Vs (KL (UA 0)) 2 (gN 3) (UE true) (KL (UA 3)) (gN 4) (UE true) (UA 4) [pb (Kk rs),pb (.int n),none]=.ok (rs.flatten.map int) [pb (Kk rs),pb (.int n),none]:=by unfold Vs;have e1:KL (UA 0) [pb (Kk rs),pb (.int n),none]=.ok (rs.map Ky) [pb (Kk rs),pb (.int n),none]:=Zr (UC rfl) rfl;rw[e1];dsimp only;have e2:=O9 (a:=Kk rs) (b:=.int n) rs [] none none (by rw[Q2];omega);have e3:Ys (gN 3) (UE true) (KL (UA 3)) (gN 4) (UE true) (UA 4) (rs.map Ky) (U2 [pb (Kk rs),pb (.int n),none]++Ul 2 none) []=some ([]++rs.flatten.map int):=e2;rw[e3];rfl
   refine U4 (Zb h2 (Qa rfl) rfl) ?_;have hls:W2 [.list (rs.flatten.map int)]=some (.int rs.flatten.length):=by unfold W2;dsimp only;rw[O6];dsimp only;rw[Qr (by omega),Nd g.once]
   refine U3 (Kx (UV (Yr (UI (ZY rfl rfl) UP) hls) (KG rfl Zf) Td)) ?_;rw[Qe];simp
theorem Wa{d:D}:∀{xs:List D}{k i:Nat},(Za k xs)[i]?=some d->∃x,xs[i]?=some x/\d=.tuple [.int ((k+i:Nat):Int),x]
 |[],k,i,h=>by cases h
 |x::r,k,0,h=>by cases h;exact⟨x,rfl,rfl⟩
 |x::r,k,i+1,h=>by obtain⟨y,e,q⟩:=Wa (xs:=r) (k:=k+1) (i:=i) h;exact⟨y,e,by rw[q];congr 4;omega⟩
theorem To:∀(n:Nat)(l:List Int),l.Nodup->(∀x∈l,0<=x/\x<n)->l.length<=n
 |0,[],_,_=>Qm _
 |0,x::r,_,h=>by have:=h x Qq;omega
 |n+1,l,hn,h=>by
  by_cases hm:(n:Int)∈l
  ·have:=To n (l.erase (n:Int)) (hn.erase _) λx hx=>by
    have h1:=(List.Nodup.mem_erase_iff hn).mp hx;have h2:=h x h1.2;have h3:=h1.1;omega
   rw[List.length_erase_of_mem hm]at this;omega
  ·have:=To n l hn λx hx=>by
    have h2:=h x hx;have h3:x≠(n:Int):=λe=>hm (e ▸ hx);omega
   omega
theorem Sx{n:Nat}{rs:List (List Int)}(g:X9 n rs):rs.flatten.length<=n:=To n _ g.once λx hx=>by obtain⟨r,hr,hxr⟩:=Jh.mp hx;exact g.there r hr x hxr
theorem Ef{cs:List Int}(h1:1<=cs.length)(h6:cs.length<=6)(h:∀c∈cs,0<=c/\c<8):Xx [.list (cs.map int)]=some .none:=by
 refine TV (ρ:=[pb (.list (cs.map int)),none,none]) rfl ?_;unfold WE;have hlen:U5 [.list (cs.map int)]=some (.int cs.length):=by rw[Zf,Qe]
 apply Kj;apply Kb
 case h1=>exact KW (ρ1:=[pb (.list (cs.map int)),none,none]) (Zc (UC rfl) rfl) (ZJ (Tr UJ (KG rfl hlen) rfl (λ_=>UJ) (λ_=>rfl)))
 case h2=>
  intro hh;have a1:(1:Int)<=(cs.length:Int):=by omega
  have a2:(cs.length:Int)<=6:=by omega
  simp[a1,a2]at hh
 case h3=>
  intro _;refine Kv (Ko ?_);apply Zs (λ_ ρ=>∃x1 x2,ρ=[pb (.list (cs.map int)),x1,x2])
  case h1=>exact Vy (UI (UC rfl) UP) VD
  case h0=>exact⟨_,_,rfl⟩
  case hst=>
   rintro i d ρ hi ⟨x1,x2,rfl⟩;obtain⟨x,hx,rfl⟩:=Wa hi;obtain⟨c,hc,rfl⟩:=Qt.mp (Qp hx);refine⟨_,KN rfl (Ka (UR (Qa rfl) rfl) (Ka (UR (Qa rfl) rfl) KO)),?_⟩;unfold R5;apply Kb
   case h1=>exact ZJ (Z2 (Kg (UI (UC rfl) (UI (UV UJ UJ ZE) UP)) rfl (OT (h c hc).1 (by have:=(h c hc).2;omega))))
   case h2=>intro hh;cases hh
   case h3=>exact λ_=>Kv (K7 ⟨_,_,rfl⟩)
  case hend=>exact λρ ⟨x1,x2,e⟩=>⟨_,rfl⟩
theorem F6{ls:L3}{n:Nat}(hn:n<=6)(h1:1<=ls.length)(h7:ls.length<=7)(h:∀rs∈ls,X9 n rs):Xv [.list (ls.map Kk),.int n]=some .none:=by
 refine TV (ρ:=[pb (.list (ls.map Kk)),pb (.int n),none,none]) rfl ?_;unfold WB;have hlen:U5 [.list (ls.map Kk)]=some (.int ls.length):=by rw[Zf,Qe]
 apply Kj;apply Kb
 case h1=>exact KW (ρ1:=[pb (.list (ls.map Kk)),pb (.int n),none,none]) (Zc (UC rfl) rfl) (ZJ (Tr UJ (KG rfl hlen) rfl (λ_=>UJ) (λ_=>rfl)))
 case h2=>
  intro hh;have a1:(1:Int)<=(ls.length:Int):=by omega
  have a2:(ls.length:Int)<=7:=by omega
  simp[a1,a2]at hh
 case h3=>
  intro _;refine Kv (Ko ?_);apply Zs (λ_ ρ=>∃x2 x3,ρ=[pb (.list (ls.map Kk)),pb (.int n),x2,x3])
  case h1=>exact Vy (UI (UC rfl) UP) VD
  case h0=>exact⟨_,_,rfl⟩
  case hst=>
   rintro i d ρ hi ⟨x1,x2,rfl⟩;obtain⟨x,hx,rfl⟩:=Wa hi;obtain⟨rs,hrs,rfl⟩:=Qt.mp (Qp hx);refine⟨_,KN rfl (Ka (UR (Qa rfl) rfl) (Ka (UR (Qa rfl) rfl) KO)),?_⟩;unfold R6;have hfl:=Sx (h rs hrs);apply Kb
   case h1=>exact ZJ (Z2 (Kg (UI (UC rfl) (UI (UC rfl) UP)) rfl (Cr (h rs hrs) hn (by omega))))
   case h2=>intro hh;cases hh
   case h3=>exact λ_=>Kv (K7 ⟨_,_,rfl⟩)
  case hend=>exact λρ ⟨x1,x2,e⟩=>⟨_,rfl⟩
theorem Ov{cs:List Int}{ls:L3}(g:Good cs ls):Yh [Kr cs ls]=some .none:=by
 refine TV (ρ:=[pb (Kr cs ls),none,none]) rfl ?_;unfold WA;apply Kj;apply Kb
 case h1=>exact KW (ρ1:=[pb (Kr cs ls),none,none]) (Zc (UC rfl) rfl) (UV (KG rfl rfl) UJ Yp)
 case h2=>intro hh;cases hh
 case h3=>
  intro _;refine Kv (Ko ?_);have hlen:U5 [.list (cs.map int)]=some (.int (cs.length:Nat)):=by rw[Zf,Qe]
  refine U4 (TX (UC rfl) (KN rfl (Ka (UR (Qa rfl) rfl) (Ka (UR (Qa rfl) rfl) KO)))) ?_;refine U4 (Tc (Kg (UI (UC rfl) UP) rfl (Ef g.c1 g.c6 g.c7))) ?_;exact ZX (Tc (Kg (UI (UC rfl) (UI (KG rfl hlen) UP)) rfl (F6 g.c6 g.l1 g.l7 g.rk))) ⟨_,rfl⟩
theorem PU:∀(xs ys:List Int),PyData.eqvAll (xs.map int) (ys.map int)=decide (xs=ys)
 |[],[]=>rfl
 |[],y::ys=>by simp[PyData.eqvAll]
 |x::xs,[]=>by simp[PyData.eqvAll]
 |x::xs,y::ys=>by
  have ih:=PU xs ys
  show(Ut (.int x) (.int y)&&PyData.eqvAll (xs.map int) (ys.map int))=_
  rw[ih];have:Ut (.int x) (.int y)=decide (x=y):=rfl;rw[this,J0];simp
theorem Ee{xs:List Int}:oNe (.list (xs.map int)) (.list [])=some (!decide (xs=[])):=by
 unfold oNe;have h1:(Um (xs.map int)).canLay0=true:=F8 xs;have h3:(Um (xs.map int)).depth<=60:=by have:=F7 xs;unfold Ky at this;omega
 rw[Qr ⟨h1,rfl,h3⟩]
 congr 2
 exact PU xs []
theorem Sg{xs:List D}{x:D}(h:xs.getLast?=some x):oIx (.list xs) (.int (-1))=some x:=by
 unfold oIx atI;have hl:xs≠[]:=by rintro rfl;cases h
 have hp:0<xs.length:=JY.mpr hl;rw[JE]at h
 show(ixN xs.length (-1)).bind _=_
 unfold ixN;rw[QJ (by decide),Qr (by omega)];have e2:(-1+(xs.length:Int)).toNat=xs.length-1:=by omega
 simp only[Option.bind_some];rw[e2];exact h
theorem Sf{xs:List Int}{k:Nat}(h:k<xs.length):oIx (.list (xs.map int)) (.int k)=some (.int (xs.getD k 0)):=by refine Ku ?_;rw[Qg,Qb h];simp[List.getD,List.getElem?_eq_getElem h]
theorem Tv(ns:List Int)(k:Nat)(hl:ns.length<=1000):∃v,Zo [.list (ns.map int),.int k]=some (.int v):=by
 have hlen:U5 [.list (ns.map int)]=some (.int ns.length):=by rw[Zf,Qe]
 by_cases h:k<ns.length
 ·refine⟨ns.getD k 0,Ze (ρ:=[pb (.list (ns.map int)),pb (.int k)]) rfl ?_⟩;unfold Xe;apply Kj;apply Kb
  case h1=>exact K6 rfl (KG rfl hlen) rfl
  case h2=>exact λ_=>U3 (Kf rfl (UC rfl) (Sf h)) (Kq rfl)
  case h3=>
        intro hh;have:¬(k:Int)<(ns.length:Int):=by simpa using hh
        omega
 ·refine⟨0,Ze (ρ:=[pb (.list (ns.map int)),pb (.int k)]) rfl ?_⟩;unfold Xe;apply Kj;apply Kb
  case h1=>exact K6 rfl (KG rfl hlen) rfl
  case h2=>
        intro hh;have:(k:Int)<(ns.length:Int):=by simpa using hh
        omega
  case h3=>exact λ_=>Kv (Ko (U3 UJ rfl))
def tab:List Int:=[1,1,2,0,3,7,1,4,5,6,1]
theorem RO{z:Int}(h0:0<=z)(h1:z<11):oIx (.list (tab.map int)) (.int z)=some (.int (tab.getD z.toNat 0))/\0<=tab.getD z.toNat 0/\tab.getD z.toNat 0<8:=by
 have e:z=0∨z=1∨z=2∨z=3∨z=4∨z=5∨z=6∨z=7∨z=8∨z=9∨z=10:=by omega
 rcases e with rfl|rfl|rfl|rfl|rfl|rfl|rfl|rfl|rfl|rfl|rfl<;>exact⟨rfl,by decide,by decide⟩
structure X4(n:Nat)(pl:List Int)(j:Nat)(rs:List (List Int)):Prop where
 few:rs.length<=j
 some:∀r∈rs,r≠[]
 there:∀r∈rs,∀t∈r,(0<=t/\t<n)/\pl.getD t.toNat 0<1+(j:Int)
 once:rs.flatten.Nodup
def Xz(n:Nat)(pl:List Int)(r:Int):List Int:=((Uk n).filter λk=>decide (pl.getD k 0=r)).map λk:Nat=>(k:Int)
theorem Cq(n:Nat)(pl:List Int)(r:Int):(Xz n pl r).Nodup:=by unfold Xz;refine List.Pairwise.map _ (λa b h e=>h (by omega)) ((List.nodup_range).filter _)
theorem Ou{n:Nat}{pl:List Int}{r t:Int}(h:t∈Xz n pl r):(0<=t/\t<n)/\pl.getD t.toNat 0=r:=by
 unfold Xz at h;obtain⟨k,hk,rfl⟩:=Qt.mp h;have hk:=Jk.mp hk;have h1:=QT.mp hk.1;have h2:pl.getD k 0=r:=by simpa using hk.2
 exact⟨⟨by omega,by omega⟩,by rw[QZ];exact h2⟩
theorem X4.add{n:Nat}{pl:List Int}{j:Nat}{rs:List (List Int)}{row:List Int}(g:X4 n pl j rs)(hne:row≠[])(hm:∀t∈row,t∈Xz n pl (1+(j:Int)))(hn:row.Nodup):X4 n pl (j+1) (rs++[row]) where
 few:=by rw[Qk,Q0];have:=g.few;omega
 some:=λr hr=>by
  rcases QM.mp hr with z|z
  ·exact g.some r z
  ·rw[QK.mp z];exact hne
 there:=λr hr t ht=>by
  rcases QM.mp hr with z|z
  ·have:=g.there r z t ht;exact⟨this.1,by omega⟩
  ·rw[QK.mp z]at ht;have:=Ou (hm t ht);exact⟨this.1,by omega⟩
 once:=by rw[Jr,List.flatten_singleton];refine Jq.mpr ⟨g.once,hn,λa ha b hb e=>?_⟩;subst e;obtain⟨r,hr,har⟩:=Jh.mp ha;have h1:=(g.there r hr a har).2;have h2:=(Ou (hm a hb)).2;omega
theorem X4.next{n:Nat}{pl:List Int}{j:Nat}{rs:List (List Int)}(g:X4 n pl j rs):X4 n pl (j+1) rs:=
 ⟨by have:=g.few;omega,g.some,λr hr t ht=>⟨(g.there r hr t ht).1,by have:=(g.there r hr t ht).2;omega⟩,g.once⟩
theorem RT{x:D}{m:Nat}(h:m<=1000):Kc (.list [x]) (.int m)=some (.list (Ul m x)):=by
 rw[O5 ⟨by omega,by omega,by rw[QZ];show 1*m<=_;omega⟩,QZ]
 congr 2
 induction m with
 |zero=>rfl
 |succ m ih=>rw[Q9,QO,ih (by omega)];rfl
def szG(T A:Nat):List Int:=(T:Int)::(A:Int)::Ul T 11
def Zg(T R:Nat):List Int:=Ul T ((R:Int)+1)++[2]
theorem RS{T A:Nat}:(szG T A).length=T+2:=by unfold szG;simp
theorem PR{T R:Nat}:(Zg T R).length=T+1:=by unfold Zg;simp
theorem MP{T A:Nat}(h1:1<=T)(h2:T<=6)(h3:1<=A)(h4:A<=7):∀x∈szG T A,0<x/\x<18446744073709551616:=λx hx=>by unfold szG at hx;simp only[QP,List.mem_replicate]at hx;rcases hx with rfl|rfl|⟨_,rfl⟩<;>omega
theorem Go{T R:Nat}(h:R<=5):∀x∈Zg T R,0<x/\x<18446744073709551616:=λx hx=>by unfold Zg at hx;simp only[QM,QK,List.mem_replicate]at hx;rcases hx with ⟨_,rfl⟩|rfl<;>omega
theorem Ed{T R:Nat}:(Zg T R)[T]?=some 2:=by unfold Zg;simp
theorem MN{T A k:Nat}(h:k<T):(szG T A)[2+k]?=some 11:=by unfold szG;rw[show 2+k=k+1+1 by omega,JN,JN,Qz,Qr h]
def TK(T A R:Nat)(S dz:D)(at_ n:Nat)(cs pl:List Int)(ls:L3)(x9 x10:Option Sl)(j:Nat)(ρ:UB):Prop:=∃(rs:List (List Int))(x13 x14:Option Sl),
 ρ=[pb S,pb (.int at_),pb (.int (T:Nat)),pb (.int (A:Nat)),pb (.int (R:Nat)),pb dz,some (.own (cs.map int)),some (.own (ls.map Kk)),x9,x10,pb (.list (pl.map int)),some (.own (rs.map Ky)),x13,x14]/\X4 n pl j rs
theorem Dv{T A R:Nat}{S dz:D}{at_ n:Nat}{cs pl:List Int}{ls:L3}{v9 v10:D}{j:Nat}{d:D}{ρ:UB}{Q:Out->Prop}(hcs:cs.length=n)(hT:T<=6)(hR:R<=5)(hn:n<=T)(hpl:pl.length=T+1)(hlast:pl.getD T 0=0∨pl.getD T 0=1)
  (hj:(K8 1 ((R:Int)+1))[j]?=some d) (h:TK T A R S dz at_ n cs pl ls (some (.pub v9)) (some (.pub v10)) j ρ) :
  ∃ρ2,gN 12 d ρ=some ρ2/\Ho Sj ρ2 (X0 (TK T A R S dz at_ n cs pl ls (some (.pub v9)) (some (.pub v10)) (j+1)) Q):=by
 obtain⟨rs,x13,x14,rfl,g⟩:=h;obtain⟨rfl,hlt⟩:=XQ hj;have hj5:j<R:=by omega
 refine⟨_,UR (Qa rfl) rfl,?_⟩;unfold Sj
 have hrd:K8 0 ((n:Nat):Int)=(Uk n).map λk=>.int (k:Int):=by
  unfold K8;have:((n:Int)-0).toNat=n:=by omega
  rw[this];apply List.map_congr_left;intro k _;rw[Int.zero_add]
 have hc:Kl (gN 14) (UG oEq (UL 10 (UA 14)) (UA 12)) (UA 14) (K8 0 ((n:Nat):Int)) (U2 [pb S,pb (.int at_),pb (.int (T:Nat)),pb (.int (A:Nat)),pb (.int (R:Nat)),pb dz,some (.own (cs.map int)),some (.own (ls.map Kk)),pb v9,pb v10,pb (.list (pl.map int)),some (.own (rs.map Ky)),pb (.int (1+(j:Int))),x14]++Ul 1 none) []=some ((Xz n pl (1+(j:Int))).map int):=by
  rw[hrd,YW (λd=>match d with | .int k=>decide (pl.getD k.toNat 0=1+(j:Int))|_=>false) (λd=>d) (λρ=>∃x,ρ=[pb S,pb (.int at_),pb (.int (T:Nat)),pb (.int (A:Nat)),pb (.int (R:Nat)),pb dz,none,none,pb v9,pb v10,pb (.list (pl.map int)),none,pb (.int (1+(j:Int))),YN x14,x])]
  ·rw[Jl,J6,JS];unfold Xz;rw[QY];rfl
  ·rintro d hm ρ ⟨x,rfl⟩;obtain⟨k,hk,rfl⟩:=Qt.mp hm;have hk:=QT.mp hk;refine⟨_,UR (Qa rfl) rfl,UV (Kf rfl (UC rfl) (Sf (by omega))) (UC rfl) Td,λ_=>UC rfl,pb (.int k),?_⟩;unfold U2;cases x14 with
   |none=>rfl
   |some sl=>cases sl<;>rfl
  ·exact⟨none,rfl⟩
  ·rw[Qe,QS,Q2];omega
 have hlen:(cs.map int).length=n:=by rw[Qe,hcs]
 refine U4 (Zb (Yq (W1 (UI (Pr rfl) UP) (by rw[hlen];exact Vc (by omega) (by omega))) hc) (Qa rfl) rfl) ?_;generalize hrow:Xz n pl (1+(j:Int))=row;apply Kb
 case h1=>exact SF rfl (ZU UP (by decide)) rfl Ee
 case h2=>
  intro hh;have hne:row≠[]:=by simpa using hh
  have hlx:oIx (.list (pl.map int)) (.int (-1))=some (.int (pl.getD T 0)):=Sg (by rw[JE,Qe,hpl,Qg,Nat.add_sub_cancel,Qb (show T<pl.length by omega)];simp[List.getD,List.getElem?_eq_getElem (show T<pl.length by omega)])
  obtain⟨row',hix,hrow'⟩:∃row':List Int,oIx (.list [.list (row.map int),.list (row.map int).reverse]) (.int (pl.getD T 0))=some (Ky row')/\(row'=row∨row'=row.reverse):=by
   rcases hlast with e|e
   ·rw[e];exact⟨row,rfl,.inl rfl⟩
   ·rw[e];exact⟨row.reverse,by show some (Um (row.map int).reverse)=_;unfold Ky;rw[List.map_reverse],.inr rfl⟩
  have hrl:(rs.map Ky).length<1000000:=by rw[Qe];have:=g.few;omega
  refine ZX (YT rfl (UV (ZU (UI (ZY rfl rfl) (UI (RB (UC rfl) UJ UJ (X8 (WS UJ))) UP)) (Qa rfl)) (Kf rfl (WS UJ) hlx) hix) rfl hrl rfl) ?_;refine K7 ⟨rs++[row'],pb (.int (1+(j:Int))),pb (.list (row.map int)),by rw[QI];rfl,g.add ?_ ?_ ?_⟩
  ·rcases hrow' with e|e<;>rw[e]
   ·exact hne
   ·exact λz=>hne (List.reverse_eq_nil_iff.mp z)
  ·intro t ht;rw[hrow];rcases hrow' with e|e<;>rw[e]at ht
   ·exact ht
   ·exact List.mem_reverse.mp ht
  ·have hnd:=Cq n pl (1+(j:Int));rw[hrow]at hnd;rcases hrow' with e|e<;>rw[e]
   ·exact hnd
   ·exact(List.reverse_perm row).nodup_iff.mpr hnd
 case h3=>exact λ_=>Kv (K7 ⟨rs,_,_,rfl,g.next⟩)
def TJ(T A R:Nat)(S dz:D)(at_ n:Nat)(cs:List Int)(i:Nat)(ρ:UB):Prop:=∃(ls:L3)(x9 x10 x11 x12 x13 x14:Option Sl),
 ρ=[pb S,pb (.int at_),pb (.int (T:Nat)),pb (.int (A:Nat)),pb (.int (R:Nat)),pb dz,some (.own (cs.map int)),some (.own (ls.map Kk)),x9,x10,x11,x12,x13,x14]/\ls.length=i/\∀rs∈ls,X9 n rs/\rs.length<=R
theorem Cp{T A R:Nat}{ns:List Int}{dz:D}{at_ n:Nat}{cs:List Int}{i:Nat}{m:Int}{d:D}{ρ:UB}{Q:Out->Prop}(hns:ns.length<=1000)(hT:T<=6)(hR:R<=5)(hcs:cs.length=n)(hn:n<=T)(hm:m<=100)
  (hi:(K8 0 m)[i]?=some d) (h:TJ T A R (.list (ns.map int)) dz at_ n cs i ρ) :
  ∃ρ2,gN 8 d ρ=some ρ2/\Ho Sh ρ2 (X0 (TJ T A R (.list (ns.map int)) dz at_ n cs (i+1)) Q):=by
 obtain⟨ls,x9,x10,x11,x12,x13,x14,rfl,hl,hg⟩:=h;obtain⟨rfl,hlt⟩:=XQ hi;refine⟨_,UR (Qa rfl) rfl,?_⟩;unfold Sh;obtain⟨v,hv⟩:=Tv ns (at_+1+i) hns;have ev:((at_:Int)+1+(0+(i:Int)))=((at_+1+i:Nat):Int):=by omega
 rw[←ev]at hv;refine U4 (KB (Kg (UI (UC rfl) (UI (UV (UV (UC rfl) UJ ZE) (UC rfl) ZE) UP)) rfl hv) (Qa rfl) rfl) ?_;obtain⟨r,hF,pl,rfl,hpl,hpb⟩:=Tw v (11*(at_:Int)+3*(0+(i:Int))+1) (sizes:=Zg T R) (Go hR) (by rw[PR];omega);have hpl7:pl.length=T+1:=by rw[hpl,PR]
 have hmul:Kc (.list [.int ((R:Int)+1)]) (.int (T:Nat))=some (.list (Ul T (.int ((R:Int)+1)))):=RT (by omega);have hadd:U1 (.list (Ul T (.int ((R:Int)+1)))) (.list [.int 2])=some (.list ((Zg T R).map int)):=by rw[VE (by rw[QR];show T+1<=_;omega)];unfold Zg;rw[QI,List.map_replicate];rfl
 refine U4 (KB (Kg (UI (UC rfl) (UI (UV (UV (UV UJ (UC rfl) (Tq (by decide) (by decide))) (UV UJ (UC rfl) (Tq (by decide) (by decide))) ZE) UJ ZE) (UI (UV (UV (ZU (UI (UV (UC rfl) UJ ZE) UP) (Qa rfl)) (UC rfl) hmul) (ZU (UI UJ UP) (Qa rfl)) hadd) UP))) rfl hF) (Qa rfl) rfl) ?_;refine U4 (Zb (Y6 UP (Qa rfl)) (Qa rfl) rfl) ?_
 have hlast:pl.getD T 0=0∨pl.getD T 0=1:=by
  have e:pl[T]?=some pl[T]:=Qb (by omega);have:=hpb T pl[T] 2 e Ed;have e2:pl.getD T 0=pl[T]:=by simp[List.getD,e]
  rw[e2];omega
 apply Kj;apply Zs (TK T A R (.list (ns.map int)) dz at_ n cs pl ls (some (.pub (.int (0+(i:Int))))) (some (.pub (.int v))))
 case h1=>exact So (UI UJ (UI (UV (UC rfl) UJ ZE) UP)) (SG (by omega) (by omega) (by decide) (by decide))
 case h0=>exact⟨[],x13,x14,rfl,⟨Qm _,λ_ h=>(by cases h),λ_ h=>(by cases h),JU⟩⟩
 case hst=>exact λj d ρ e h=>Dv hcs hT hR hn hpl7 hlast e h
 case hend=>
  rintro ρ ⟨rs,y13,y14,rfl,g⟩;refine Ko ?_;have hl5:(K8 1 ((R:Int)+1)).length=R:=by rw[Yu];omega
  rw[hl5]at g;have hll:(ls.map Kk).length<1000000:=by rw[Qe];omega
  refine ZX (YT rfl (ZY rfl rfl) rfl hll rfl) ?_;refine K7 ⟨ls++[rs],pb (.int (0+(i:Int))),pb (.int v),pb (.list (pl.map int)),pb (.list (rs.map Ky)),y13,y14,by rw[QI];rfl,by rw[Qk,hl];rfl,λx hx=>?_⟩;rcases QM.mp hx with z|z
  ·exact hg x z
  ·rw[QK.mp z];exact⟨⟨by have:=g.few;omega,g.some,λr hr t ht=>(g.there r hr t ht).1,g.once⟩,g.few⟩
theorem Co(T A R:Nat){ns:List Int}(hns:ns.length<=1000)(at_:Nat)(hT1:1<=T:=by decide)(hT:T<=6:=by decide)(hA1:1<=A:=by decide)(hA:A<=7:=by decide)(hR:R<=5:=by decide):∃r,Xm [.list (ns.map int),.int at_,.int (T:Nat),.int (A:Nat),.int (R:Nat)]=some r/\∃cs ls,r=Kr cs ls/\Good cs ls/\cs.length<=T/\ls.length<=A/\∀rs∈ls,rs.length<=R:=by
 obtain⟨v,hv⟩:=Tv ns at_ hns;obtain⟨r,hF,ds,rfl,hl,hd⟩:=Tw v at_ (sizes:=szG T A) (MP hT1 hT hA1 hA) (by rw[RS];omega);have hl8:ds.length=T+2:=by rw[hl,RS]
 have at':∀(j:Nat)(k z:Int),k=j->(szG T A)[j]?=some z->∃d,oIx (.list (ds.map int)) (.int k)=some (.int d)/\ds[j]?=some d/\0<=d/\d<z:=λj k z hk hz=>by
  subst hk;have hj:j<ds.length:=by rw[hl];exact(Qf.mp hz).1
  have e:ds[j]?=some ds[j]:=Qb hj;obtain⟨p0,p1⟩:=hd j ds[j] z e hz;exact⟨ds[j],Ku (by rw[Qg,e];rfl),e,p0,p1⟩
 obtain⟨d0,x0,e0,p0,q0⟩:=at' 0 0 T rfl rfl;obtain⟨d1,x1,e1,p1,q1⟩:=at' 1 1 A rfl rfl;have hmul:Kc (.list [.int 11]) (.int (T:Nat))=some (.list (Ul T (.int 11))):=RT (by omega);have hadd:U1 (.list [.int (T:Nat),.int (A:Nat)]) (.list (Ul T (.int 11)))=some (.list ((szG T A).map int)):=by rw[VE (by rw[QR];show 2+T<=_;omega)];unfold szG;rw[Qx,Qx,List.map_replicate];rfl
 obtain⟨n,hn⟩:∃n:Nat,1+d0=n:=⟨(1+d0).toNat,by omega⟩
 refine YR (ρ:=[pb (.list (ns.map int)),pb (.int at_),pb (.int (T:Nat)),pb (.int (A:Nat)),pb (.int (R:Nat)),none,none,none,none,none,none,none,none,none]) rfl ?_;unfold Wn;refine U4 (KB (Kg (UI (Kg (UI (UC rfl) (UI (UC rfl) UP)) rfl hv) (UI (UC rfl) (UI (UV (ZU (UI (UC rfl) (UI (UC rfl) UP)) (Qa rfl)) (UV (ZU (UI UJ UP) (Qa rfl)) (UC rfl) hmul) hadd) UP))) rfl hF) (Qa rfl) rfl) ?_
 have hcut:DL.cutD (ds.map int) (some 2) (some (3+d0))=((ds.drop 2).take n).map int:=by
  rw[FZ (by decide) (by omega) (by omega)];have:(3+d0).toNat-(2:Int).toNat=n:=by omega
  rw[this];rfl
 have hrowl:((ds.drop 2).take n).length=n:=by rw[Jg,List.length_drop,hl8];omega
 have each:∀z∈(ds.drop 2).take n,0<=z/\z<11:=λz hz=>by
  have hz:=JT hz;obtain⟨k,hk,e⟩:=List.getElem_of_mem hz;rw[List.length_drop,hl8]at hk;rw[List.getElem_drop]at e;have e2:ds[2+k]?=some z:=by rw[←e];exact Qb _
  refine hd (2+k) z 11 e2 (MN ?_);omega
 let cs:List Int:=((ds.drop 2).take n).map λz=>tab.getD z.toNat 0
 have hcl:cs.length=n:=by show(List.map _ _).length=n;rw[Qe,hrowl]
 have hc:∀xs:List (Option Sl),U2 xs=xs->xs.length=14->Kl (gN 14) (UE true) (UG oIx (Kn (UH (UE (.int 1)) (UH (UE (.int 1)) (UH (UE (.int 2)) (UH (UE (.int 0)) (UH (UE (.int 3)) (UH (UE (.int 7)) (UH (UE (.int 1)) (UH (UE (.int 4)) (UH (UE (.int 5)) (UH (UE (.int 6)) (UH (UE (.int 1)) (UD))))))))))))) (UA 14)) (((ds.drop 2).take n).map int) (U2 xs++Ul 1 none) []=some (cs.map int):=by
  intro xs hx hxl;rw[hx,YW (λ_=>true) (λd=>match d with | .int z=>.int (tab.getD z.toNat 0)|_=>.none) (λρ=>∃x,ρ=xs++[x])]
  ·rw[List.filter_eq_self.mpr (λ_ _=>rfl),Jl,QY];show _=some ((((ds.drop 2).take n).map λz=>tab.getD z.toNat 0).map int);rw[QY];rfl
  ·rintro d hm ρ ⟨x,rfl⟩;obtain⟨z,hz,rfl⟩:=Qt.mp hm;have ht:=RO (each z hz).1 (each z hz).2;have hset:(xs++[x]).set 14 (some (Sl.pub (.int z)))=xs++[pb (.int z)]:=by rw[List.set_append_right _ _ (by omega),hxl];rfl
   have hget:(xs++[some (Sl.pub (.int z))])[14]?=some (some (Sl.pub (.int z))):=by rw[Qs (by omega),hxl];rfl
   refine⟨_,UR (by rw[Qk,hxl];exact Qa rfl) hset,rfl,λ_=>?_,pb (.int z),?_⟩
   ·exact UV (ZU (UI UJ (UI UJ (UI UJ (UI UJ (UI UJ (UI UJ (UI UJ (UI UJ (UI UJ (UI UJ (UI UJ UP))))))))))) (Qa rfl)) (UC hget) ht.1
   ·unfold U2 at hx⊢;rw[QI,hx];rfl
  ·exact⟨none,rfl⟩
  ·rw[Qe,hrowl,Q2];omega
 refine U4 (Zb (Yq (Zr (TW (UC rfl) (X8 UJ) (X8 (UV UJ (Kf rfl UJ x0) ZE)) (by rw[SE,hcut])) ZW) (hc _ rfl rfl)) (Qa rfl) rfl) ?_;refine U4 (Zb (Y6 UP (Qa rfl)) (Qa rfl) rfl) ?_;apply Kj;apply Zs (TJ T A R (.list (ns.map int)) (.list (ds.map int)) at_ n cs)
 case h1=>exact W1 (UI (UV UJ (Kf rfl UJ x1) ZE) UP) (Vc (by omega) (by omega))
 case h0=>exact⟨[],_,_,_,_,_,_,rfl,rfl,λ_ h=>by cases h⟩
 case hst=>exact λi d ρ e h=>Cp hns hT hR hcl (by omega) (by omega) e h
 case hend=>rintro ρ ⟨ls,y9,y10,y11,y12,y13,y14,rfl,hll,hg⟩;rw[Yu]at hll;refine Ko (U3 (T2 (UI (ZY rfl rfl) (UI (ZY rfl rfl) UP)) (Qa rfl)) ⟨_,rfl,cs,ls,rfl,⟨?_,by omega,by omega,λrs hrs=>(hg rs hrs).2⟩⟩);exact⟨by omega,by omega,λc hc=>by obtain⟨z,hz,rfl⟩:=Qt.mp hc;exact(RO (each z hz).1 (each z hz).2).2,by omega,by omega,λrs hrs=>by rw[hcl];exact(hg rs hrs).1⟩
def YO(t:Int)(rs:List (List Int)):Nat:=if rs.findIdx (λr=>r.contains t)<rs.length then rs.findIdx (λr=>r.contains t)+1 else 0
theorem Gn(a b:Int):Ut (.int a) (.int b)=(a==b):=by simp[Ut]
theorem RR(t:Int)(r:List Int):oIn (.int t) (Ky r)=some (r.contains t):=by
 have h1:Ur (r.map int)=true:=by
  induction r with
  |nil=>rfl
  |cons x r ih=>rw[Qx];unfold Ur;rw[ih];rfl
 unfold oIn Ky;dsimp only;rw[Qr ⟨rfl,h1,J8 _⟩]
 congr 1
 rw[List.any_map];clear h1;induction r with
 |nil=>rfl
 |cons x r ih=>
  rw[JK,ih,List.contains_cons]
  congr 1
  show Ut (.int x) (.int t)=(t==x);rw[Gn];exact Bool.eq_iff_iff.2 ⟨λh=>beq_iff_eq.2 (beq_iff_eq.1 h).symm,λh=>beq_iff_eq.2 (beq_iff_eq.1 h).symm⟩
theorem Ec{t:Int}{rs:List (List Int)}{i:Nat}{r:List Int}(hr:rs[i]?=some r)(h:r.contains t=true)(hb:∀j r,j<i->rs[j]?=some r->r.contains t=false):YO t rs=1+i:=by obtain⟨hi,e⟩:=List.getElem?_eq_some_iff.1 hr;have hf:rs.findIdx (λr=>r.contains t)=i:=(List.findIdx_eq hi).2 ⟨by rw[e];exact h,λj hj=>hb j _ hj (Qb (Nat.lt_trans hj hi))⟩;unfold YO;rw[hf,Qr hi,Nat.add_comm]
theorem Eb{t:Int}{rs:List (List Int)}(hb:∀j r,j<rs.length->rs[j]?=some r->r.contains t=false):YO t rs=0:=by
 have hf:rs.findIdx (λr=>r.contains t)=rs.length:=List.findIdx_eq_length.2 λr hr=>by obtain⟨j,hj,e⟩:=List.mem_iff_getElem.1 hr;exact hb j r hj (by rw[Qb hj,e])
 unfold YO;rw[hf,QJ (Jf _)]
theorem Du(t:Int)(rs:List (List Int)):Xu [Kk rs,.int t]=some (.int (YO t rs:Nat)):=by
 refine Ze (ρ:=[pb (Kk rs),pb (.int t),none,none]) rfl ?_;unfold Wz;apply Kj;apply Zs (λi ρ=>(∃x2 x3,ρ=[pb (Kk rs),pb (.int t),x2,x3])/\∀j r,j<i->rs[j]?=some r->r.contains t=false)
 case h1=>exact FY (UI (UC rfl) UP) E6
 case h0=>exact⟨⟨_,_,rfl⟩,λj r h=>absurd h (Nat.not_lt_zero _)⟩
 case hst=>
  rintro i d ρ hi ⟨⟨x2,x3,rfl⟩,hb⟩;obtain⟨x,hx,rfl⟩:=Wa hi;rw[Qg]at hx;cases hr:rs[i]? with
  |none=>rw[hr]at hx;cases hx
  |some r=>
   rw[hr]at hx;cases hx;refine⟨_,KN rfl (Ka (UR (Qa rfl) rfl) (Ka (UR (Qa rfl) rfl) KO)),?_⟩;unfold R7;apply Kb
   case h1=>exact K6 rfl (UC rfl) (RR t r)
   case h2=>intro hh;refine U3 (UC rfl) (Ym ?_);rw[Ec hr hh hb];exact⟨rfl⟩
   case h3=>
    intro hh;refine Kv (K7 ⟨⟨_,_,rfl⟩,λj r' hj hr'=>?_⟩);rcases Nat.lt_succ_iff_lt_or_eq.1 hj with h|rfl
    ·exact hb j r' h hr'
    ·rw[hr]at hr';cases hr';exact hh
 case hend=>rintro ρ ⟨⟨x2,x3,rfl⟩,hb⟩;rw[YV,Qe]at hb;refine Ko ?_;rw[Eb hb];exact U3 UJ rfl
def UK:Option Int->D
 |none=>.none
 |some t=>.int t
def UX(ws:LO):D:=.list (ws.map UK)
structure Deal(cs:List Int)(ls:L3)(ws:LO):Prop where
 len:ws.length=ls.length
 wish:∀(i:Nat) t rs,ws[i]?=some (some t)->ls[i]?=some rs->t∈rs.flatten
 cop:∀(k:Nat) c,cs[k]?=some c->((ws.count (some (k:Int)):Nat):Int)<=c
theorem Dt{t:Int}{rs:List (List Int)}(h:t∈rs.flatten):YO t rs≠0:=by obtain⟨r,hr,ht⟩:=Jh.mp h;have:rs.findIdx (λr=>r.contains t)<rs.length:=List.findIdx_lt_length_of_exists ⟨r,hr,by simpa using ht⟩;unfold YO;rw[Qr this];omega
theorem Tn(ws:LO):Ur (ws.map UK)=true:=SJ λx hx=>by obtain⟨y,_,rfl⟩:=Qt.mp hx;cases y<;>rfl
theorem Se(a b:Option Int):Ut (UK a) (UK b)=decide (a=b):=by rw[J0];cases a<;>cases b<;>simp[UK,Ut]
theorem Rb{ws:LO}{k:Int}:XT (UX ws) (.int k)=some (.int (ws.count (some k):Nat)):=by
 unfold UX XT;dsimp only;rw[if_pos ⟨rfl,Tn ws,by simp[Us]⟩]
 congr 3
 induction ws with
 |nil=>rfl
 |cons w r ih=>
  rw[Qx,List.countP_cons,List.count_cons,ih]
  congr 1
  have:=Se w (some k);have e:UK (some k)=.int k:=rfl;rw[e]at this;rw[this];cases w with
  |none=>simp
  |some z=>simp
theorem Tl{f:M (List D)}{k:Nat}{s:D->UB->Option UB}{t:M Bool}{g:M D}{ρ ρ1:UB}{ds es:List D}(h1:f ρ=.ok ds ρ1)(h2:Kl s t g ds (K2 ρ1++Ul k none) []=some es)(h3:es.all flat=true):XI f k s t g ρ=.ok es ρ1:=by unfold XI;rw[h1];dsimp only;rw[h2];dsimp only;rw[if_pos h3]
theorem Ot{cs:List Int}{ls:L3}{rs:List (List Int)}{i:Nat}(hi:ls[i]?=some rs)(hl:rs.flatten.length<64):Ye [Kr cs ls,.int i]=some (.list ((Zt rs.flatten).map int)):=by
 refine Ze (ρ:=[pb (Kr cs ls),pb (.int i)]) rfl ?_;unfold Wm;have i1:oIx (Kr cs ls) (.int 1)=some (.list (ls.map Kk)):=Ku (j:=1) rfl;have i2:oIx (.list (ls.map Kk)) (.int i)=some (Kk rs):=Ku (by rw[Qg,hi];rfl)
 have hs:WR [Kk rs,.list []]=some (.list (rs.flatten.map int)):=by
  have e:Kk rs=.list ((rs.map λr=>r.map int).map Um):=by unfold Kk;rw[QY];rfl
  have e2:(rs.map λr=>r.map int).flatten=rs.flatten.map int:=by rw[List.map_flatten]
  rw[e];unfold WR;dsimp only;rw[Cc];dsimp only;rw[e2,Qr (by rw[Qe];omega)]
 exact U3 (Yr (UI (Yr (UI (UV (Kf rfl UJ i1) (UC rfl) i2) (UI (ZU UP (Qa rfl)) UP)) hs) UP) (DA hl)) rfl
structure X7(cs:List Int)(ls:L3)(lf:List Int)(ws:LO):Prop where
 wish:∀(i:Nat) t rs,ws[i]?=some (some t)->ls[i]?=some rs->t∈rs.flatten
 len:lf.length=cs.length
 cop:∀(k:Nat) c,cs[k]?=some c->lf[k]?=some (c-((ws.count (some (k:Int)):Nat):Int))/\0<=c-((ws.count (some (k:Int)):Nat):Int)
theorem Os{ls:L3}{ws:LO}{o:Option Int}{rs:List (List Int)}(h:∀(i:Nat) t rs,ws[i]?=some (some t)->ls[i]?=some rs->t∈rs.flatten)(hi:ls[ws.length]?=some rs)(ho:∀t,o=some t->t∈rs.flatten) :
  ∀(i:Nat) t rs,(ws++[o])[i]?=some (some t)->ls[i]?=some rs->t∈rs.flatten:=by
 intro j t rs' e1 e2;by_cases hj:j<ws.length
 ·rw[Qn hj]at e1;exact h j t rs' e1 e2
 ·by_cases hj2:j=ws.length
  ·subst hj2;rw[hi]at e2;cases e2;rw[Qs (Qm _),Nat.sub_self,List.getElem?_cons_zero]at e1;cases e1;exact ho t rfl
  ·rw[Q4 (by rw[Qk,Q0];omega)]at e1;cases e1
theorem X7.none{cs:List Int}{ls:L3}{lf:List Int}{ws:LO}{rs:List (List Int)}(d:X7 cs ls lf ws)(hi:ls[ws.length]?=some rs):X7 cs ls lf (ws++[Option.none]) where
 wish:=Os d.wish hi λt e=>by cases e
 len:=d.len
 cop:=λk c e=>by rw[List.count_append];simpa using d.cop k c e
theorem X7.give{cs:List Int}{ls:L3}{lf:List Int}{ws:LO}{rs:List (List Int)}{t v:Int}(d:X7 cs ls lf ws)(hi:ls[ws.length]?=some rs)(ht:t∈rs.flatten)(h0:0<=t)(hv:lf[t.toNat]?=some v)(hp:0<v):X7 cs ls (lf.set t.toNat (v-1)) (ws++[some t]) where
 wish:=Os d.wish hi λt' e=>by cases e;exact ht
 len:=by rw[Q3];exact d.len
 cop:=λk c e=>by
  obtain⟨h1,h2⟩:=d.cop k c e;rw[List.count_append];by_cases hk:t=(k:Int)
  ·subst hk;rw[QZ]at hv⊢;rw[h1]at hv;cases hv;have hl:k<lf.length:=(Qf.mp h1).1;rw[QG hl];simp only[List.count_singleton_self];refine⟨by congr 1;omega,by omega⟩
  ·have hne:t.toNat≠k:=by omega
   rw[Ql hne];have:List.count (some (k:Int)) [some t]=0:=by rw[List.count_eq_zero];intro z;have:=QK.mp z;exact hk (Qo this).symm
   rw[this];exact⟨h1,h2⟩
theorem MM{os:LO}{k:Nat}(h:k<os.length):oIx (.list (os.map UK)) (.int k)=some (UK os[k]):=Ku (by rw[Qg,Qb h];rfl)
theorem PQ{ws:LO}{o:Option Int}:(ws++[o]).map UK=ws.map UK++[UK o]:=by rw[QI];rfl
def Wf(cs:List Int)(ls:L3)(c s:D)(dg:List Int)(i:Nat)(ρ:UB):Prop:=∃(lf:List Int)(ws:LO)(x6 x7 x8:Option Sl),
 ρ=[pb (Kr cs ls),pb c,pb s,some (.own (lf.map int)),pb (.list (dg.map int)),some (.own (ws.map UK)),x6,x7,x8]/\ws.length=i/\X7 cs ls lf ws
theorem Ds{cs:List Int}{ls:L3}{c s:D}{dg:List Int}{i:Nat}{d:D}{ρ:UB}{Q:Out->Prop}(g:Good cs ls)(hdl:dg.length=ls.length)(hd0:∀x∈dg,0<=x)(hi:(K8 0 ls.length)[i]?=some d)(h:Wf cs ls c s dg i ρ) :
  ∃ρ2,gN 6 d ρ=some ρ2/\Ho Sk ρ2 (X0 (Wf cs ls c s dg (i+1)) Q):=by
 obtain⟨lf,ws,x6,x7,x8,rfl,hw,dl⟩:=h;obtain⟨rfl,hlt⟩:=XQ hi;have hil:i<ls.length:=by omega
 have hls:ls[i]?=some ls[i]:=Qb hil;have gr:=g.rk _ (Qp hls);have hfl:=Sx gr;refine⟨_,UR (Qa rfl) rfl,?_⟩;unfold Sk;rw[Int.zero_add];generalize hrs:ls[i]=rs at *;have hmem:∀t∈Zt rs.flatten,t∈rs.flatten:=λt ht=>(Y9 _).mem_iff.mp ht
 have hthere:∀t∈rs.flatten,0<=t/\t<lf.length:=λt ht=>by obtain⟨r,hr,htr⟩:=Jh.mp ht;have:=gr.there r hr t htr;rw[dl.len];exact this
 let L:=(Zt rs.flatten).filter λt=>decide (0<lf.getD t.toNat 0)
 have hc:Kl (gN 9) (UG (oIB λi j=>decide (j<i)) (UL 3 (UA 9)) (UE (.int 0))) (UA 9) ((Zt rs.flatten).map int) (K2 [pb (Kr cs ls),pb c,pb s,some (.own (lf.map int)),pb (.list (dg.map int)),some (.own (ws.map UK)),pb (.int (i:Int)),x7,x8]++Ul 1 none) []=some (L.map int):=by
  rw[YW (λd=>match d with | .int t=>decide (0<lf.getD t.toNat 0)|_=>false) (λd=>d) (λρ=>∃x y7 y8,ρ=[pb (Kr cs ls),pb c,pb s,pb (.list (lf.map int)),pb (.list (dg.map int)),pb (.list (ws.map UK)),pb (.int (i:Int)),y7,y8,x])]
  ·rw[Jl,J6,JS];rfl
  ·rintro d hm ρ ⟨x,y7,y8,rfl⟩;obtain⟨t,ht,rfl⟩:=Qt.mp hm;obtain⟨h0,h1⟩:=hthere t (hmem t ht);obtain⟨k,rfl⟩:∃k:Nat,t=k:=⟨t.toNat,by omega⟩
   refine⟨_,UR (Qa rfl) rfl,UV (Kf rfl (UC rfl) (Sf (by omega))) UJ rfl,λ_=>UC rfl,pb (.int k),YN y7,YN y8,rfl⟩
  ·exact⟨none,TB x7,TB x8,rfl⟩
  ·rw[Qe,Q2,(Y9 _).length_eq];have:=g.c6;omega
 have hLl:L.length<=6:=by have:L.length<=(Zt rs.flatten).length:=Jt _ _;rw[(Y9 _).length_eq]at this;have:=g.c6;omega
 have hadd:U1 (.list (L.map int)) (.list [.none])=some (.list ((L.map some++[none]).map UK)):=by rw[VE (by rw[Qe];show L.length+1<=_;omega),QI,QY];rfl
 refine U4 (KB (UV (Kx (Tl (Zr (Kg (UI (UC rfl) (UI (UC rfl) UP)) rfl (Ot (cs:=cs) hls (by have:=g.c6;omega))) ZW) hc (by rw[J5,Jc];exact λ_ _=>rfl))) (ZU (UI UJ UP) (Qa rfl)) hadd) (Qa rfl) rfl) ?_;have hol:(L.map some++[none]:LO).length=L.length+1:=by rw[Qk,Qe];rfl
 have hlen:U5 [.list ((L.map some++[none]:LO).map UK)]=some (.int ((L.length+1:Nat):Int)):=by rw[Zf,Qe,hol]
 have hdi:dg[i]?=some dg[i]:=Qb (by omega);have hx0:=hd0 _ (Qp hdi);have hix:oIx (.list (dg.map int)) (.int (i:Int))=some (.int dg[i]):=Ku (by rw[Qg,hdi];rfl);have hm0:0<=dg[i] % ((L.length+1:Nat):Int):=Int.emod_nonneg _ (by omega);have hm1:dg[i] % ((L.length+1:Nat):Int)<((L.length+1:Nat):Int):=Int.emod_lt_of_pos _ (by omega);obtain⟨k,hk⟩:∃k:Nat,dg[i] % ((L.length+1:Nat):Int)=k:=⟨(dg[i] % ((L.length+1:Nat):Int)).toNat,by omega⟩
 have hkl:k<(L.map some++[none]:LO).length:=by rw[hol];omega
 have hpick:=MM (os:=L.map some++[none]) hkl;rw[←hk]at hpick;generalize ho:(L.map some++[none]:LO)[k]=o at hpick;refine U4 (KB (Kf rfl (UV (Kf rfl (UC rfl) hix) (KG rfl hlen) (XR (by omega))) hpick) (Qa rfl) rfl) ?_;have hwl:(ws.map UK).length<1000000:=by rw[Qe];have:=g.l7;omega
 have hls':ls[ws.length]?=some rs:=by rw[hw];exact hls
 cases o with
 |none=>
  apply Kj;apply Kb
  case h1=>exact VZ (UC rfl) rfl
  case h2=>intro hh;cases hh
  case h3=>intro _;refine Kv (Ko ?_);refine ZX (YT rfl (UC rfl) rfl hwl rfl) ?_;exact K7 ⟨lf,ws++[none],_,_,_,by rw[PQ (ws:=ws)];rfl,by rw[Qk,hw];rfl,dl.none hls'⟩
 |some t=>
  have htL:t∈L:=by
   have hm:some t∈(L.map some++[none]:LO):=ho ▸ Jd hkl;rcases QM.mp hm with z|z
   ·obtain⟨t',h1,h2⟩:=Qt.mp z;cases h2;exact h1
   ·cases QK.mp z
  obtain⟨htm,htp⟩:=Jk.mp htL;have htf:=hmem t htm;obtain⟨h0,h1⟩:=hthere t htf;have hv:lf[t.toNat]?=some lf[t.toNat]:=Qb (by omega);have hvd:lf.getD t.toNat 0=lf[t.toNat]:=by simp[List.getD,hv]
  have hpos:0<lf[t.toNat]:=by rw[hvd]at htp;simpa using htp
  have hvx:oIx (.list (lf.map int)) (.int t)=some (.int lf[t.toNat]):=M6 h0 (by rw[Qg,hv];rfl);apply Kj;apply Kb
  case h1=>exact VZ (UC rfl) rfl
  case h2=>intro _;refine ZX (Pp (UV (M5 rfl (UC rfl) rfl hvx) UJ W0) rfl (UC rfl) rfl ⟨h0,by rw[Qe];exact h1⟩ rfl) ?_;refine Ko ?_;refine ZX (YT rfl (UC rfl) rfl hwl rfl) ?_;exact K7 ⟨lf.set t.toNat (lf[t.toNat]-1),ws++[some t],_,_,_,by rw[PQ (ws:=ws),←F0];rfl,by rw[Qk,hw];rfl,dl.give hls' htf h0 hv hpos⟩
  case h3=>intro hh;cases hh
theorem Nc{cs:List Int}{ls:L3}(g:Good cs ls)(c s:Int):∃r,YI [Kr cs ls,.int c,.int s]=some r/\∃ws,r=UX ws/\Deal cs ls ws:=by
 refine YR (ρ:=[pb (Kr cs ls),pb (.int c),pb (.int s),none,none,none,none,none,none]) rfl ?_;unfold Wl;have i0:oIx (Kr cs ls) (.int 0)=some (.list (cs.map int)):=Ku (j:=0) rfl;have i1:oIx (Kr cs ls) (.int 1)=some (.list (ls.map Kk)):=Ku (j:=1) rfl;have hlen:U5 [.list (ls.map Kk)]=some (.int ls.length):=by rw[Zf,Qe]
 refine U4 (Zb (Ke (UI (Kf rfl UJ i0) UP) (KY (show YM [.list (cs.map int)]=some (cs.map int)from rfl))) (Qa rfl) rfl) ?_
 have hmul:Kc (.list [.int 61]) (.int ls.length)=some (.list ((Ul ls.length (61:Int)).map int)):=by
  rw[O5 ⟨by omega,by have:=g.l7;omega,by show 1*_<=_;have:=g.l7;omega⟩]
  congr 2
  rw[QZ];generalize ls.length=n;induction n with
  |zero=>rfl
  |succ n ih=>rw[Q9,QO,ih,Q9,Qx];rfl
 obtain⟨r,hF,dg,rfl,hdl,hdb⟩:=Tw c s (sizes:=Ul ls.length (61:Int)) (λx hx=>by rw[(List.mem_replicate.mp hx).2];decide) (by rw[QR];have:=g.l7;omega);rw[QR]at hdl;refine U4 (KB (Kg (UI (UC rfl) (UI (UC rfl) (UI (UV (ZU (UI UJ UP) (Qa rfl)) (Yr (UI (Kf rfl UJ i1) UP) hlen) hmul) UP))) rfl hF) (Qa rfl) rfl) ?_;refine U4 (Zb (Y6 UP (Qa rfl)) (Qa rfl) rfl) ?_;apply Kj;apply Zs (Wf cs ls (.int c) (.int s) dg)
 case h1=>exact W1 (UI (Yr (UI (Kf rfl UJ i1) UP) hlen) UP) (Vc (by have:=g.l7;omega) (by omega))
 case h0=>exact⟨cs,[],_,_,_,rfl,rfl,⟨λ_ _ _ h=>(by cases h),rfl,λk c e=>by have:=g.c7 c (Qp e);simp only[List.count_nil];exact⟨by rw[e];congr 1;omega,by omega⟩⟩⟩
 case hst=>exact λi d ρ e h=>Ds g hdl (λx hx=>by obtain⟨j,hj,e⟩:=List.mem_iff_getElem.mp hx;exact(hdb j x 61 (by rw[Qb hj,e]) (by rw[Qz,Qr (by omega)])).1) e h
 case hend=>rintro ρ ⟨lf,ws,x6,x7,x8,rfl,hw,dl⟩;rw[Yu]at hw;refine Ko (U3 (ZY rfl rfl) ⟨_,rfl,ws,rfl,⟨by omega,dl.wish,λk c e=>by have:=(dl.cop k c e).2;omega⟩⟩)
theorem F5(ws:LO):(UX ws).depth<=2:=RU (SI λx hx=>by obtain⟨y,_,rfl⟩:=Qt.mp hx;cases y<;>simp[UK,Us])
theorem VJ{s:D->UB->Option UB}{t:M Bool}{g:M D}(I:UB->Prop):∀(ds qs:List D)(ρ:UB)(es:List D),qs.length=ds.length ->
  (∀(i:Nat) d e,ds[i]?=some d->qs[i]?=some e->∀ρ,I ρ->∃ρ1,s d ρ=some ρ1/\t ρ1=.ok true ρ1/\g ρ1=.ok e ρ1/\I (U2 ρ1))->I ρ->es.length+ds.length<=1000000->Kl s t g ds ρ es=some (es++qs)
 |[],[],ρ,es,_,_,_,_=>by rw[Kl,Q5]
 |d::r,e::q,ρ,es,hl,st,h0,hz=>by obtain⟨ρ1,e1,e2,e3,h1⟩:=st 0 d e rfl rfl ρ h0;rw[QA]at hz;rw[Kl,e1];dsimp only;rw[e2];dsimp only;rw[Qr rfl,e3];dsimp only;rw[if_pos (by omega),VJ I r q (U2 ρ1) (es++[e]) (by simpa using hl) (λi d' e' x y=>st (i+1) d' e' (by simpa using x) (by simpa using y)) h1 (by rw[List.length_append,List.length_singleton];omega),List.append_assoc];rfl
def XY(cs:List Int)(ws:LO):List Int:=(Uk cs.length).map λk:Nat=>cs.getD k 0-((ws.count (some (k:Int)):Nat):Int)
section
variable{cs:List Int}{ls:L3}{ws:LO}
theorem Ve:oIx (Kr cs ls) (.int 0)=some (.list (cs.map int)):=Ku (j:=0) rfl
theorem Ml:oIx (Kr cs ls) (.int 1)=some (.list (ls.map Kk)):=Ku (j:=1) rfl
theorem CS(g:Good cs ls):Xp [Kr cs ls,UX ws]=some (.list ((XY cs ws).map int)):=by
 refine Ze (ρ:=[pb (Kr cs ls),pb (UX ws)]) rfl ?_;unfold Wu;have hw:=Ov g
 have hc:Kl (gT 2 (gNC (gN 2) (gNC (gN 3) (gN0)))) (UE true) (UG Zh (UA 3) (XG (UA 1) (UH (UA 2) (UD)))) (Za 0 (cs.map int)) (U2 [pb (Kr cs ls),pb (UX ws)]++Ul 2 none) []=some ((XY cs ws).map int):=by
  refine VJ (λρ=>∃x y,ρ=[pb (Kr cs ls),pb (UX ws),x,y]) _ _ _ _ (by unfold XY;rw[Qe,Qe,QS,YV,Qe]) ?_ ⟨none,none,rfl⟩ (by rw[YV,Qe,Q2];have:=g.c6;omega);rintro i d e hd he ρ ⟨x,y,rfl⟩;obtain⟨z,hz,rfl⟩:=Wa hd;rw[Qg]at hz;cases hci:cs[i]? with
  |none=>rw[hci]at hz;cases hz
  |some c=>
  rw[hci]at hz;cases hz;have hil:i<cs.length:=(Qf.mp hci).1;unfold XY at he;rw[Qg,Qg,Qb (by rw[QS];exact hil),List.getElem_range]at he;cases he;rw[Jx];have e:cs.getD i 0=c:=by simp[List.getD,hci]
  dsimp only;rw[e];exact⟨_,KN rfl (Ka (UR (Qa rfl) rfl) (Ka (UR (Qa rfl) rfl) KO)),rfl,UV (UC rfl) (SH (UC rfl) (UI (UC rfl) UP) Rb) W0,_,_,rfl⟩
 refine U4 (Tc (Kg (UI (UC rfl) UP) rfl hw)) ?_;exact U3 (Kx (Yq (Vy (UI (Kf rfl UJ Ve) UP) VD) hc)) rfl
end
theorem Vq{a b:Option Int}:oEq (UK a) (UK b)=some (decide (a=b)):=by unfold oEq;rw[if_pos ⟨by cases a<;>rfl,by cases b<;>rfl,by cases a<;>simp[UK,Us]⟩,Se]
theorem V3{a b:Option Int}:oNe (UK a) (UK b)=some (!decide (a=b)):=by unfold oNe;rw[if_pos ⟨by cases a<;>rfl,by cases b<;>rfl,by cases a<;>simp[UK,Us]⟩,Se]
section
variable{cs:List Int}{ls:L3}{ws:LO}{a:Nat}{o had:Option Int}{rs:List (List Int)}{t:Int}
theorem Dr(h:YO t rs≠0):t∈rs.flatten:=by
 unfold YO at h;split at h
 ·rename_i hl;have:=List.findIdx_getElem (w:=hl);exact List.mem_flatten.mpr ⟨_,List.getElem_mem hl,by simpa using this⟩
 ·exact absurd rfl h
end
theorem ML{xs:List D}{a:Nat}(h:a<=xs.length):DL.cutD xs none (some (a:Int))=xs.take a:=by
 unfold DL.cutD HT.sIx;dsimp only;rw[QJ (by omega),QZ];have:min a xs.length=a:=by omega
 rw[this];simp
def Kd(k:Nat):L3->LP
 |[]=>[]
 |rs::ls=>(Zt rs.flatten).map (λt=>((k:Int),t))++Kd (k+1) ls
theorem PP:∀(ls:L3)(k:Nat),∀q∈Kd k ls,(k:Int)<=q.1
 |[],_,q,h=>by cases h
 |rs::ls,k,q,h=>by
  rcases QM.mp h with h|h
  ·obtain⟨t,_,rfl⟩:=Qt.mp h;exact Jy _
  ·have:=PP ls (k+1) q h;omega
theorem W9:∀{ls:L3}{k:Nat}{q:Int×Int},q∈Kd k ls->∃i rs,ls[i]?=some rs/\q.1=((k+i:Nat):Int)/\q.2∈rs.flatten
 |[],_,q,h=>by cases h
 |rs::ls,k,q,h=>by
  rcases QM.mp h with h|h
  ·obtain⟨t,ht,rfl⟩:=Qt.mp h;exact⟨0,rs,rfl,rfl,(Y9 _).mem_iff.mp ht⟩
  ·obtain⟨i,rs',h1,h2,h3⟩:=W9 h;exact⟨i+1,rs',by simpa using h1,by rw[h2];congr 1;omega,h3⟩
theorem Sw:∀{ls:L3}{k i:Nat}{rs:List (List Int)}{t:Int},ls[i]?=some rs->t∈rs.flatten->(((k+i:Nat):Int),t)∈Kd k ls
 |rs::ls,k,0,rs',t,h,ht=>by cases h;exact Je _ (Qt.mpr ⟨t,(Y9 _).mem_iff.mpr ht,rfl⟩)
 |rs::ls,k,i+1,rs',t,h,ht=>by have:=Sw (ls:=ls) (k:=k+1) (i:=i) (by simpa using h) ht;rw[show k+1+i=k+(i+1)by omega]at this;exact Qw _ this
theorem X9.flat{n:Nat}{rs:List (List Int)}(g:X9 n rs):∀t∈rs.flatten,0<=t/\t<n:=λt ht=>by obtain⟨r,h1,h2⟩:=Jh.mp ht;exact g.there r h1 t h2
theorem Ta{t:Int}{r:List Int}:oIn (.int t) (.list (r.map int))=some (r.contains t):=RR t r
theorem F4{xs:List D}{a b:Option Int}:(DL.cutD xs a b).length<=xs.length:=by unfold DL.cutD;rw[Jg,List.length_drop];omega
theorem F3{xs:List D}{a b:Option Int}{x:D}(h:x∈DL.cutD xs a b):x∈xs:=by unfold DL.cutD at h;exact List.mem_of_mem_drop (JT h)
theorem Ev{ns:List Int}{n:Int}{a b:Option Int}{i:Nat}{x:D}(h:(int n::DL.cutD (ns.map int) a b)[i]?=some x):∃c:Int,x=.int c:=by
 have hm:=Qp h;rcases QP.mp hm with rfl|hm
 ·exact⟨n,rfl⟩
 ·obtain⟨c,_,rfl⟩:=Qt.mp (F3 hm);exact⟨c,rfl⟩
theorem Eu{ns:List Int}{n:Int}{a b:Option Int}(h:ns.length<=1000):U1 (.list [.int n]) (.list (DL.cutD (ns.map int) a b))=some (.list (int n::DL.cutD (ns.map int) a b)):=VE (by
 have:=F4 (xs:=ns.map int) (a:=a) (b:=b);rw[Qe]at this;show 1+_<=_
 omega)
def whB:D->Bool
 |.int _=>true
 |_=>false
def Yc(n:Int):D->Bool
 |.int i=>decide (0<=i)&&decide (i<n)
 |_=>false
def whI:D->Option Int
 |.int i=>some i
 |_=>none
theorem SY(d:D):ZQ [d]=some (.bool (whB d)):=by
 cases d with
 |dict kvs=>exact Ze (ρ:=[pb (.dict kvs)]) rfl (U3 (XS (t:=false) (u:=false) (Rz (UC rfl)) λz=>by cases z) rfl)
 |_=>rfl
theorem Et(d:D)(n:Int):K9 [d,.int n]=some (.bool (Yc n d)):=by
 refine Ze (ρ:=[pb d,pb (.int n)]) rfl ?_;unfold Xf;cases d with
 |int i=>exact U3 (XS (t:=true) (u:=decide (0<=i)&&decide (i<n)) (Kg (UI (UC rfl) UP) rfl (SY (.int i))) (λ_=>Kx (Tr UJ (UC rfl) rfl (λ_=>UC rfl) (λ_=>rfl)))) rfl
 |_=>exact U3 (XS (t:=false) (u:=false) (Kg (UI (UC rfl) UP) rfl (SY _)) (λz=>by cases z)) rfl
theorem Oo{n:Int}{d:D}(h:Yc n d=true):∃i,d=.int i/\0<=i/\i<n:=by
 cases d with
 |int i=>have h:(decide (0<=i)&&decide (i<n))=true:=h;simp only[QX,Ja]at h;exact⟨i,rfl,h⟩
 |_=>cases h
theorem Es{q:D->Bool}(xs:List D):Zj [.list (xs.map λd=>.bool (q d))]=some (.bool (xs.all q)):=by
 have:(xs.map λd=>Uo (q d))=(xs.map q).map Uo:=by rw[QY];rfl
 rw[this,Po]
 congr 2
 rw[J5];rfl
theorem SL{ns:List Int}:∀i,(PyProof.Rows.firstMet (λi=>ns.getD i 0) i).length<=i:=by
 intro i;induction i with
 |zero=>exact Qm _
 |succ i ih=>
  rw[PyProof.Rows.firstMet_succ];unfold PyProof.Rows.step_dedup;split
  ·omega
  ·rw[Qk,Q0];omega
theorem Cn{ns:List Int}(h:KZ ns=ns.length):ns.Nodup:=by
 unfold KZ at h
 have key:∀i,i<=ns.length->(PyProof.Rows.firstMet (λi=>ns.getD i 0) i).length=i->(ns.take i).Nodup:=by
  intro i;induction i with
  |zero=>intro _ _;simp
  |succ i ih=>
   intro hi e;rw[PyProof.Rows.firstMet_succ]at e;unfold PyProof.Rows.step_dedup at e;cases hany:(PyProof.Rows.firstMet (λi=>ns.getD i 0) i).any (· == ns.getD i 0)with
   |true=>rw[hany,Qr rfl]at e;have:=SL (ns:=ns) i;omega
   |false=>
    rw[hany,QJ (by decide),Qk]at e;have e:(PyProof.Rows.firstMet (λi=>ns.getD i 0) i).length=i:=by simpa using e
    have ih:=ih (by omega) e;rw[List.take_succ_eq_append_getElem (by omega),Jq];refine⟨ih,by simp,λa ha b hb=>?_⟩;rw[QK]at hb;subst hb;rw[PyProof.Rows.firstMet_any,List.any_eq_false]at hany;obtain⟨j,hj,rfl⟩:=List.mem_take_iff_getElem.mp ha;have hj':j<i:=by have:=hj;omega
    have:=hany (ns.getD j 0) (Qt.mpr ⟨j,QT.mpr hj',rfl⟩);have l1:j<ns.length:=by omega
    have l2:i<ns.length:=by omega
    simp only[List.getD,Qb l1,Qb l2,JO,beq_iff_eq]at this;exact this
 have:=key ns.length (Qm _) h;rwa[JP]at this
theorem Pk{f g:M Bool}{ρ:UB}{t u:Bool}(h1:f ρ=.ok t ρ)(h2:t=true->g ρ=.ok u ρ)(h3:t=false->u=false):K1 f g ρ=.ok u ρ:=by
 have:=TZ h1 h2;cases t with
 |true=>exact this
 |false=>rw[h3 rfl];exact this
theorem Gm{j:Nat}{f:M (List D)}{ρ ρ1 ρ':UB}{ds0 ds es:List D}(h0:ρ[j]?=some (some (.own ds0)))(h1:f ρ=.ok es ρ1)(h2:ρ1[j]?=some (some (.own ds)))(h3:ds.length+es.length<=1000000)(h4:ρ1.set j (some (.own (ds++es)))=ρ'):Yv j f ρ=.nx ρ':=by unfold Yv;rw[P9 h0];dsimp only;unfold sB;rw[h1];dsimp only;rw[P9 h2];dsimp only;rw[Qr h3,h4]
theorem Dq{α β:Type}{f:α->β}(hf:∀a b,f a=f b->a=b){l:List α}(h:l.Nodup):(l.map f).Nodup:=by unfold List.Nodup at h⊢;rw[List.pairwise_map];exact h.imp λhne e=>hne (hf _ _ e)
theorem Nb:∀(ls:L3)(k:Nat),(∀rs∈ls,rs.flatten.Nodup)->(Kd k ls).Nodup
 |[],_,_=>JU
 |rs::ls,k,h=>by
  show((Zt rs.flatten).map (λt=>((k:Int),t))++Kd (k+1) ls).Nodup
  rw[Jq];refine⟨?_,Nb ls (k+1) λr hr=>h r (QF _ hr),λa ha b hb e=>?_⟩
  ·exact Dq (λx y e=>(Prod.mk.inj e).2) ((Y9 _).nodup_iff.mpr (h rs Qq))
  ·subst e;obtain⟨t,_,rfl⟩:=Qt.mp ha;have:=PP ls (k+1) _ hb;simp at this;omega
theorem Gk{cs:List Int}{ls:L3}(g:Good cs ls):∀q∈Kd 0 ls,(0<=q.1/\q.1<ls.length)/\0<=q.2/\q.2<cs.length:=λq hq=>by obtain⟨i,rs,h1,h2,h3⟩:=W9 hq;have:=(g.rk rs (Qp h1)).flat q.2 h3;have:=(Qf.mp h1).1;omega
structure YX(cs:List Int)(qs:LP)(m:Nat)(ws:LO):Prop where
 len:ws.length=m
 wish:∀(i:Nat) t,ws[i]?=some (some t)->((i:Int),t)∈qs
 cop:∀(k:Nat) c,cs[k]?=some c->((ws.count (some (k:Int)):Nat):Int)<=c
structure Rn(n m:Nat)(qs:LP):Prop where
 nd:qs.Nodup
 lo:∀q∈qs,0<=q.1/\q.1<m/\0<=q.2/\q.2<n
def UN(p:Nat×Option Int):D:=.tuple [.int (p.1:Nat),UK p.2]
theorem Er{ws:LO}{tk:List (Nat×Option Int)}(h:∀p∈tk,p.1<ws.length):Xo [UX ws,.list (tk.map UN)]=some (UX (tk.foldl (λd p=>d.set p.1 p.2) ws)):=by
 refine Ze (ρ:=[pb (UX ws),pb (.list (tk.map UN)),none,none,none]) rfl ?_;unfold Wq;refine U4 (Zb (SD rfl (show YM [UX ws]=some (ws.map UK)from rfl)) (Qa rfl) rfl) ?_
 have hlen:∀(R:List (Nat×Option Int))(d:LO),(R.foldl (λd p=>d.set p.1 p.2) d).length=d.length:=λR=>by
  induction R with
  |nil=>intro d;rfl
  |cons p R ih=>intro d;rw[List.foldl_cons,ih,Q3]
 apply Kj;apply Zs (λk ρ=>∃x3 x4,ρ=[pb (UX ws),pb (.list (tk.map UN)),some (.own (((tk.take k).foldl (λd p=>d.set p.1 p.2) ws).map UK)),x3,x4])
 case h1=>exact Zr (UC rfl) ZW
 case h0=>exact⟨_,_,rfl⟩
 case hst=>
  rintro k d ρ hk ⟨x3,x4,rfl⟩;rw[Qg]at hk;cases hq:tk[k]? with
  |none=>rw[hq]at hk;cases hk
  |some p=>
  rw[hq]at hk;cases hk;have hpl:=h p (Qp hq);have hta:tk.take (k+1)=tk.take k++[p]:=by rw[J7,hq];rfl
  refine⟨_,KN rfl (Ka (UR (Qa rfl) rfl) (Ka (UR (Qa rfl) rfl) KO)),?_⟩;unfold R9;refine ZX (Pp (UC rfl) rfl (UC rfl) rfl ⟨Int.natCast_nonneg _,by rw[Qe,hlen];omega⟩ rfl) (K7 ⟨some (.pub (.int (p.1:Nat))),pb (UK p.2),?_⟩);rw[hta,List.foldl_append];show [_,_,some (Sl.own ((((tk.take k).foldl (λd p=>d.set p.1 p.2) ws).map UK).set ((p.1:Int)).toNat (UK p.2))),_,_]=[_,_,some (Sl.own ((((tk.take k).foldl (λd p=>d.set p.1 p.2) ws).set p.1 p.2).map UK)),_,_];rw[QZ,List.map_set]
 case hend=>rintro ρ ⟨x3,x4,rfl⟩;refine Ko (U3 (ZY rfl rfl) ?_);rw[Qe,JP];rfl
section
variable{cs:List Int}{ls:L3}{ws:LO}{qs:LP}{V:Int->Int->Int}
theorem Dp(g:Good cs ls):Rn cs.length ls.length (Kd 0 ls) where
 nd:=Nb ls 0 λrs hr=>(g.rk rs hr).once
 lo:=λq hq=>by have:=Gk g q hq;exact⟨this.1.1,this.1.2,this.2.1,this.2.2⟩
end
def Mk(cs:List Int)(ws:LO)(t:Nat):Prop:=∃c,cs[t]?=some c/\((ws.count (some (t:Int)):Nat):Int)<c
structure WayQ(cs:List Int)(qs:LP)(ws:LO)(W:List (Nat×Option Int)):Prop where
 ne:W≠[]
 mv:∀p∈W,∃o,ws[p.1]?=some o/\p.2≠o/\∀t,p.2=some t->((p.1:Int),t)∈qs
 nd:(W.map Prod.fst).Nodup
 lnk:∀(k:Nat) p q,W[k]?=some p->W[k+1]?=some q->p.2≠none/\ws[q.1]?=some p.2
 fin:∀p q,W.head?=some p->W.getLast?=some q->q.2=none∨ws[p.1]?=some q.2 ∨ ∃t:Nat,q.2=some (t:Int)/\Mk cs ws t
section
variable{cs:List Int}{ls:L3}{old:Option LO}{ts:List Int}{ws:LO}
theorem On(du:Deal cs ls ws):YX cs (Kd 0 ls) ls.length ws:=⟨du.len,λi t h=>by
 have hil:i<ls.length:=by have:=(Qf.mp h).1;have:=du.len;omega
 have hrs:ls[i]?=some ls[i]:=Qb hil;have:=Sw (k:=0) hrs (du.wish i t _ h hrs);rwa[Jx]at this,du.cop⟩
end
def Yj(W:List (Nat×Option Int))(ws:LO):LO:=W.foldl (λd p=>d.set p.1 p.2) ws
theorem SX:∀(W:List (Nat×Option Int))(ws:LO),(Yj W ws).length=ws.length
 |[],_=>rfl
 |p::W,ws=>(SX W _).trans (by rw[Q3])
theorem VI{i:Nat}:∀(W:List (Nat×Option Int))(ws:LO),i∉W.map Prod.fst->(Yj W ws)[i]?=ws[i]?
 |[],_,_=>rfl
 |p::W,ws,h=>by rw[Qx,QP,not_or]at h;exact(VI W _ h.2).trans (Ql (λe=>h.1 e.symm))
theorem Sv:∀(W:List (Nat×Option Int))(ws:LO),(W.map Prod.fst).Nodup->∀p∈W,p.1<ws.length->(Yj W ws)[p.1]?=some p.2
 |[],_,_,_,h,_=>by cases h
 |p::W,ws,hn,q,h,hl=>by
  rw[Qx,JZ]at hn;cases h with
  |head=>exact(VI W _ hn.1).trans (by rw[QG hl])
  |tail _ h=>exact Sv W _ hn.2 q h (by rw[Q3];exact hl)
theorem Pj{x o o':Option Int}{ws:LO}{i:Nat}(h:ws[i]?=some o):(ws.set i o').count x+(if o=x then 1 else 0)=ws.count x+(if o'=x then 1 else 0):=by
 obtain⟨hl,e⟩:=Qf.mp h;have hc:=List.count_set (a:=o') (b:=x) (l:=ws) hl;rw[e]at hc
 have h1:0<ws.count x∨o≠x:=by
  by_cases hx:o=x
  ·exact .inl (List.count_pos_iff.mpr (hx ▸ e ▸ Jd hl))
  ·exact .inr hx
 rw[hc];by_cases h2:o=x<;>by_cases h3:o'=x<;>simp[h2,h3]<;>first|omega|(rcases h1 with h1|h1<;>first|omega|exact absurd h2 h1)
theorem Pi(x:Option Int):∀(R:List (Nat×Option Int))(p:Nat×Option Int)(ws:LO)(o:Option Int),ws[p.1]?=some o->((p::R).map Prod.fst).Nodup->(∀(k:Nat) a b,(p::R)[k]?=some a->(p::R)[k+1]?=some b->ws[b.1]?=some a.2)->∀l,(p::R).getLast?=some l->(Yj (p::R) ws).count x+(if o=x then 1 else 0)=ws.count x+(if l.2=x then 1 else 0)
 |[],p,ws,o,h,_,_,l,hl=>by cases hl;exact Pj h
 |q::R,p,ws,o,h,hn,hk,l,hl=>by
  have hn':=hn;rw[Qx,JZ]at hn';have hq:∀b∈q::R,p.1≠b.1:=λb hb e=>hn'.1 (e ▸ Qt.mpr ⟨b,hb,rfl⟩);have h1:=Pj (x:=x) (o':=p.2) h
  have h2:=Pi x R q (ws.set p.1 p.2) p.2 (by rw[Ql (hq q Qq)];exact hk 0 p q rfl rfl) hn'.2 (λk a b ha hb=>by rw[Ql (hq b (Qp hb))];exact hk (k+1) a b ha hb) l (by rw[List.getLast?_cons_cons]at hl;exact hl);have e:Yj (p::q::R) ws=Yj (q::R) (ws.set p.1 p.2):=rfl;rw[e];omega
section
variable{cs:List Int}{ls:L3}{ws:LO}{W:List (Nat×Option Int)}{qs:LP}
theorem LK(h:WayQ cs qs ws W):∃p R l o,W=p::R/\W.getLast?=some l/\ws[p.1]?=some o/\∀x,(Yj W ws).count x+(if o=x then 1 else 0)=ws.count x+(if l.2=x then 1 else 0):=by
 cases hW:W with
 |nil=>exact absurd hW h.ne
 |cons p R=>
  subst hW;obtain⟨o,ho,_⟩:=h.mv p Qq;cases hl:(p::R).getLast? with
  |none=>rw[JF]at hl;cases hl
  |some l=>exact⟨p,R,l,o,rfl,rfl,ho,λx=>Pi x R p ws o ho h.nd (λk a b ha hb=>(h.lnk k a b ha hb).2) l hl⟩
theorem Tz(h:WayQ cs qs ws W){p:Nat×Option Int}(hp:p∈W):p.1<ws.length:=by obtain⟨o,ho,_⟩:=h.mv p hp;exact(Qf.mp ho).1
theorem LJ{m:Nat}(hd:YX cs qs m ws)(h:WayQ cs qs ws W):YX cs qs m (Yj W ws) where
 len:=(SX W ws).trans hd.len
 wish:=λi t e=>by
  by_cases hi:i∈W.map Prod.fst
  ·obtain⟨p,hp,rfl⟩:=Qt.mp hi;rw[Sv W ws h.nd p hp (Tz h hp)]at e;obtain⟨o,_,_,hq⟩:=h.mv p hp;exact hq t (Qo e)
  ·rw[VI W ws hi]at e;exact hd.wish i t e
 cop:=λk c hc=>by
  obtain⟨p,R,l,o,hW,hl,ho,hcnt⟩:=LK h;have h1:=hcnt (some (k:Int));have h2:=hd.cop k c hc;by_cases hx:l.2=some (k:Int)
  ·rw[Qr hx]at h1;rcases h.fin p l (by rw[hW];rfl) hl with e|e|⟨t,e,c',hc',hlt⟩
   ·rw[e]at hx;cases hx
   ·rw[ho,hx]at e;rw[Qr (Qo e)]at h1;omega
   ·rw[hx]at e;have e:k=t:=by have:=Qo e;omega
    subst e;rw[hc]at hc';cases hc';split at h1<;>omega
  ·rw[QJ hx]at h1;split at h1<;>omega
theorem WZ{i:Nat}{o:Option Int}(h:ws[i]?=some o):ws.getD i none=o:=by rw[QC,h];rfl
end
def oD:D->Option (Option Int)
 |.none=>some none
 |.int u=>some (some u)
 |_=>none
theorem WW(o:Option Int):oD (UK o)=some o:=by cases o<;>rfl
theorem Mj{t:D}{o:Option Int}(h:oD t=some o):t=UK o:=by cases t<;>cases h<;>rfl
def moB(ls:L3)(ws:LO)(i:Nat)(t:D):Bool:=
 match oD t with
 |some o=>!decide (o=ws.getD i none)&&o.all (λu=>decide (u∈(ls.getD i []).flatten))
 |none=>false
def Zv(ls:L3)(ws:LO):D->Bool
 |.tuple [a,t]=>Yc ls.length a&&moB ls ws ((whI a).getD 0).toNat t
 |_=>false
def MvQ(qs:LP)(ws:LO)(p:Nat×Option Int):Prop:=∃o,ws[p.1]?=some o/\p.2≠o/\∀t,p.2=some t->((p.1:Int),t)∈qs
section
variable{cs:List Int}{ls:L3}{ws:LO}{W:List (Nat×Option Int)}
theorem TR(hl:ws.length=ls.length){i:Nat}(hi:i<ls.length){o:Option Int}:moB ls ws i (UK o)=true ↔ MvQ (Kd 0 ls) ws (i,o):=by
 have hw:ws[i]?=some (ws[i]'(by omega)):=Qb _;have hs:ls[i]?=some ls[i]:=Qb hi;have e1:ws.getD i none=ws[i]'(by omega):=by rw[QC,hw];rfl
 have e2:ls.getD i []=ls[i]:=by rw[QC,hs];rfl
 unfold moB;rw[WW,e1,e2];constructor
 ·intro h;have h:(!decide (o=ws[i]'(by omega))&&o.all (λu=>decide (u∈ls[i].flatten)))=true:=h;rw[QX]at h;refine⟨_,hw,λe=>?_,λt e=>?_⟩
  ·rw[QL e]at h;cases h.1
  ·have e:o=some t:=e;subst e;have:=Qa (show decide (t∈ls[i].flatten)=true from h.2);have:=Sw (k:=0) hs this;rw[Jx]at this;exact this
 ·rintro⟨o',h1,h2,h3⟩;rw[hw]at h1;cases h1
  show(!decide (o=ws[i]'(by omega))&&o.all (λu=>decide (u∈ls[i].flatten)))=true
  rw[Qu h2];cases o with
  |none=>rfl
  |some t=>
   obtain⟨j,rs,hj,e,hm⟩:=W9 (h3 t rfl);have e:i=j:=by have:((i:Nat):Int)=((0+j:Nat):Int):=e;omega
   subst e;rw[hs]at hj;cases hj;exact QL hm
theorem Ph(hl:ws.length=ls.length){p:Nat×Option Int}:Zv ls ws (UN p)=true ↔ MvQ (Kd 0 ls) ws p:=by
 show((decide ((0:Int)<=(p.1:Nat))&&decide (((p.1:Nat):Int)<ls.length))&&moB ls ws (((p.1:Nat):Int)).toNat (UK p.2))=true ↔ _
 rw[QZ,QX,QX,Ja,Ja];constructor
 ·rintro⟨⟨_,h⟩,h2⟩;exact(TR hl (by omega)).mp h2
 ·intro h;obtain⟨o,ho,_⟩:=id h;have:=(Qf.mp ho).1;exact⟨⟨by omega,by omega⟩,(TR hl (by omega)).mpr h⟩
theorem GD{x:D}(h:Zv ls ws x=true):∃p,x=UN p:=by
 cases x with
 |tuple xs=>
  rcases xs with _|⟨a,_|⟨t,_|⟨u,r⟩⟩⟩
  ·cases h
  ·cases h
  ·have h:(Yc ls.length a&&moB ls ws ((whI a).getD 0).toNat t)=true:=h;rw[QX]at h;obtain⟨i,rfl,h0,_⟩:=Oo h.1;have h2:=h.2;unfold moB at h2;cases ho:oD t with
   |none=>rw[ho]at h2;cases h2
   |some o=>refine⟨(i.toNat,o),?_⟩;rw[Mj ho];show _=PyData.tuple [.int ((i.toNat:Nat):Int),UK o];rw[Int.toNat_of_nonneg h0]
  ·cases h
 |_=>cases h
theorem Om(hl:ws.length=ls.length):∀{xs:List D},xs.all (Zv ls ws)=true->∃W:List (Nat×Option Int),xs=W.map UN/\∀p∈W,MvQ (Kd 0 ls) ws p
 |[],_=>⟨[],rfl,λ_ h=>by cases h⟩
 |x::r,h=>by
  rw[List.all_cons,QX]at h;obtain⟨p,rfl⟩:=GD h.1;obtain⟨W,rfl,hW⟩:=Om hl h.2;refine⟨p::W,rfl,λq hq=>?_⟩;cases hq with
  |head=>exact(Ph hl).mp h.1
  |tail _ hq=>exact hW q hq
theorem CG(g:Good cs ls)(hl:ws.length=ls.length)(x:D):YK [.list (ls.map Kk),UX ws,x]=some (.bool (Zv ls ws x)):=by
 have l7:=g.l7
 let S0:Option Sl:=some (.pub (.list (ls.map Kk)))
 let S1:Option Sl:=some (.pub (UX ws))
 let S2:Option Sl:=some (.pub x)
 refine Ze (ρ:=[S0,S1,S2,none,none]) rfl ?_;unfold Wt;have hlen:U5 [.list (ls.map Kk)]=some (.int ls.length):=by rw[Zf,Qe]
 apply Kj;cases x with
 |dict kvs=>exact Kb (b:=true) (ZT (Tb (UC rfl))) (λ_=>U3 UJ (Kq rfl)) λz=>by cases z
 |tuple xs=>
  rcases xs with _|⟨a,_|⟨t,_|⟨u,r⟩⟩⟩
  ·exact Kb (b:=true) (KW (Zc (UC rfl) rfl) (UV (KG rfl XM) UJ Yp)) (λ_=>U3 UJ (Kq rfl)) λz=>by cases z
  ·exact Kb (b:=true) (KW (Zc (UC rfl) rfl) (UV (KG rfl XM) UJ Yp)) (λ_=>U3 UJ (Kq rfl)) λz=>by cases z
  ·refine Kb (b:=false) (KW (Zc (UC rfl) rfl) (UV (KG rfl XM) UJ Yp)) (λz=>by cases z) λ_=>Kv (Ko ?_)
   let S3:Option Sl:=some (.pub a)
   let S4:Option Sl:=some (.pub t)
   refine U4 (ρ1:=[S0,S1,S2,S3,S4]) (TX (UC rfl) (KN rfl (Ka (UR (Qa rfl) rfl) (Ka (UR (Qa rfl) rfl) KO)))) ?_;have e0:Zv ls ws (.tuple [a,t])=(Yc ls.length a&&moB ls ws ((whI a).getD 0).toNat t):=rfl;apply Kj;refine Kb (b:=!Yc ls.length a) (ρ1:=[S0,S1,S2,S3,S4]) (ZJ (Z2 (Kg (UI (UC rfl) (UI (KG rfl hlen) UP)) rfl (Et a ls.length)))) (λz=>U3 UJ (Kq ?_)) λz=>Kv (Ko ?_)
   ·rw[Bool.not_eq_true']at z;rw[e0,z];rfl
   rw[JA]at z;rw[e0,z,Bool.true_and];obtain⟨i,rfl,h0,h1⟩:=Oo z;obtain⟨n,rfl⟩:∃n:Nat,i=n:=⟨i.toNat,by omega⟩
   show Ho _ _ λo=>o=.rt (.bool (moB ls ws (((n:Nat):Int)).toNat t));rw[QZ];have hn:n<ls.length:=by omega
   have hw:ws[n]?=some (ws[n]'(by omega)):=Qb _;have hs:ls[n]?=some ls[n]:=Qb hn;have hix:oIx (UX ws) (.int ((n:Nat):Int))=some (UK (ws[n]'(by omega))):=Ku (by rw[Qg,hw];rfl);have hix2:oIx (.list (ls.map Kk)) (.int ((n:Nat):Int))=some (Kk ls[n]):=Ku (by rw[Qg,hs];rfl);have e1:ws.getD n none=ws[n]'(by omega):=by rw[QC,hw];rfl
   have e2:ls.getD n []=ls[n]:=by rw[QC,hs];rfl
   apply Kj;refine Kb (b:=isNon t) (ρ1:=[S0,S1,S2,S3,S4]) (Kx (k:=isNon) (UC rfl)) (λz=>?_) λz=>Kv (Ko ?_)
   ·have ht:t=.none:=by cases t<;>first|rfl|cases z
    subst ht;refine U3 (Kx (k:=λd=>Uo (!isNon d)) (Kf rfl (UC rfl) hix)) (Kq ?_);have:moB ls ws n .none=(!decide (none=ws.getD n none)&&true):=rfl;rw[this,e1,Bool.and_true];cases ws[n]'(by omega)<;>rfl
   ·have hm:moB ls ws n t=(whB t&&((oD t).any λo=>!decide (o=ws.getD n none)&&o.all (λu=>decide (u∈(ls.getD n []).flatten)))):=by
     unfold moB;cases t<;>first|rfl|cases z
    rw[hm,e1,e2];refine U3 (XS (Kg (UI (UC rfl) UP) rfl (SY t)) λz2=>?_) rfl;cases t with
    |int u=>
     refine XS (t:=!decide (some u=ws[n]'(by omega))) (Kx (K6 rfl (Kf rfl (UC rfl) hix) (V3 (a:=some u)))) λ_=>?_
     have hr:decide ((0:Int)<(YO u ls[n]:Nat))=decide (u∈ls[n].flatten):=by
      by_cases hm:u∈ls[n].flatten
      ·rw[QL hm,QL (by have:=Dt hm;omega)]
      ·rw[Qu hm,Qu (λh=>hm (Dr (by omega)))]
     rw[show(Option.all (λu=>decide (u∈ls[n].flatten)) (some u))=decide (u∈ls[n].flatten)from rfl,←hr];exact Kx (UV (Kg (UI (Kf rfl (UC rfl) hix2) (UI (UC rfl) UP)) rfl (Du u ls[n])) UJ rfl)
    |_=>cases z2
  ·refine Kb (b:=true) (KW (Zc (UC rfl) rfl) (UV (KG rfl XM) UJ (by rw[Yp,Qu (by rw[QA,QA,QA];omega)];rfl))) (λ_=>U3 UJ (Kq rfl)) λz=>by cases z
 |_=>exact Kb (b:=true) (ZT (Zc (UC rfl) rfl)) (λ_=>U3 UJ (Kq rfl)) λz=>by cases z
def WH(ws:LO)(W:List (Nat×Option Int)):Prop:=∀(k:Nat) p q,W[k]?=some p->W[k+1]?=some q->p.2≠none/\ws[q.1]?=some p.2
theorem Cm(hw:∀p∈W,p.1<ws.length)(hl:W.length<=1000):∃b,YJ [UX ws,.list (W.map UN)]=some (.bool b)/\(b=true ↔ WH ws W):=by
 let S0:Option Sl:=some (.pub (UX ws))
 let S1:Option Sl:=some (.pub (.list (W.map UN)))
 have key:∃r,YJ [UX ws,.list (W.map UN)]=some r/\∃b,r=.bool b/\(b=true ↔ WH ws W):=by
  refine YR (ρ:=[S0,S1,none,none]) rfl ?_;unfold Ws;have hlen:U5 [.list (W.map UN)]=some (.int W.length):=by rw[Zf,Qe]
  apply Kj;apply Zs (λi ρ=>(∃x2 x3,ρ=[S0,S1,x2,x3])/\∀(k:Nat) p q,k<i->W[k]?=some p->W[k+1]?=some q->p.2≠none/\ws[q.1]?=some p.2)
  case h1=>exact So (UI UJ (UI (KG rfl hlen) UP)) (SG (by omega) (by omega) (by omega) (by omega))
  case h0=>exact⟨⟨_,_,rfl⟩,λk _ _ h=>absurd h (Nat.not_lt_zero k)⟩
  case hst=>
   rintro k d ρ hk ⟨⟨x2,x3,rfl⟩,hin⟩;obtain⟨rfl,hkl⟩:=XQ hk;have hk1:k+1<W.length:=by omega
   have hp:W[k]?=some W[k]:=Qb _;have hq:W[k+1]?=some W[k+1]:=Qb hk1;have e1:(1:Int)+(k:Nat)=((k+1:Nat):Int):=by omega
   refine⟨_,UR (Qa rfl) rfl,?_⟩;rw[e1];unfold R8
   have hixk:oIx (.list (W.map UN)) (.int (((k+1:Nat):Int)-1))=some (UN W[k]):=by
    have e:(((k+1:Nat):Int)-1)=((k:Nat):Int):=by omega
    rw[e];exact Ku (by rw[Qg,hp];rfl)
   have hixk1:oIx (.list (W.map UN)) (.int ((k+1:Nat):Int))=some (UN W[k+1]):=Ku (by rw[Qg,hq];rfl);have hwl:=hw W[k+1] (Jd _);have hww:ws[(W[k+1]).1]?=some (ws[(W[k+1]).1]'(hwl)):=Qb _;have hixd:oIx (UX ws) (.int (((W[k+1]).1:Nat):Int))=some (UK (ws[(W[k+1]).1]'(hwl))):=Ku (by rw[Qg,hww];rfl)
   let S2:Option Sl:=some (.pub (.int ((k+1:Nat):Int)))
   let S3:Option Sl:=some (.pub (UK (W[k]).2))
   refine U4 (ρ1:=[S0,S1,S2,S3]) (KB (UV (Kf rfl (UV (UC rfl) UJ W0) hixk) UJ (show oIx (UN W[k]) (.int 1)=some (UK (W[k]).2)from rfl)) (Qa rfl) rfl) ?_;refine Kb (b:=isNon (UK (W[k]).2) || !decide (ws[(W[k+1]).1]'(hwl)=(W[k]).2)) (ρ1:=[S0,S1,S2,S3]) (VY (Kx (k:=isNon) (UC rfl)) λ_=>UV (Kf rfl (UV (Kf rfl (UC rfl) hixk1) UJ (show oIx (UN W[k+1]) (.int 0)=some (.int ((W[k+1]).1:Nat))from rfl)) hixd) (UC rfl) V3) (λz=>U3 UJ (Ym ?_)) λz=>Kv (K7 ⟨⟨_,_,rfl⟩,?_⟩)
   ·refine⟨_,rfl,false,rfl,λh=>(by cases h),λh=>?_⟩;obtain⟨h1,h2⟩:=h k _ _ hp hq;rw[hww]at h2;rw[QL (Qo h2)]at z;cases h3:(W[k]).2 with
    |none=>exact absurd h3 h1
    |some t=>rw[h3]at z;cases z
   ·rw[JV]at z;intro j p q hj hp' hq';by_cases e:j=k
    ·subst e;rw[hp]at hp';rw[hq]at hq';cases hp';cases hq';refine⟨λe=>?_,?_⟩
     ·rw[e]at z;cases z.1
     ·rw[hww];by_cases e:ws[(W[j+1]).1]'(hwl)=(W[j]).2
      ·exact JG some e
      ·rw[Qu e]at z;cases z.2
    ·exact hin j p q (by omega) hp' hq'
  case hend=>rintro ρ ⟨⟨x2,x3,rfl⟩,hin⟩;refine Ko (U3 UJ ⟨_,rfl,true,rfl,λ_=>?_,λ_=>rfl⟩);intro k p q hp hq;refine hin k p q ?_ hp hq;have:=(Qf.mp hq).1;rw[Yu];omega
 obtain⟨r,h,b,rfl,hb⟩:=key;exact⟨b,h,hb⟩
def IsW(cs:List Int)(ls:L3)(ws:LO)(d:D):Prop:=∃W,d=.list (W.map UN)/\WayQ cs (Kd 0 ls) ws W
theorem Su{W U:List (Nat×Option Int)}(h:W.map UN=U.map UN):W=U:=by
 refine List.map_inj_right (f:=UN) (λp q e=>?_) |>.mp h
 obtain⟨a,x⟩:=p;obtain⟨b,y⟩:=q;have e:PyData.tuple [.int (a:Nat),UK x]=.tuple [.int (b:Nat),UK y]:=e;injection e with e;injection e with e1 e2;injection e1 with e1;injection e2 with e2
 have:x=y:=by have:=JG oD e2;rw[WW,WW]at this;exact Qo this
 rw[this,Int.ofNat.inj e1]
theorem Do(g:Good cs ls)(hl:ws.length=ls.length){d:D}(hs:∀xs,d=.list xs->xs.length<=1000):∃b,Zp [Kr cs ls,UX ws,d]=some (.bool b)/\(b=true ↔ IsW cs ls ws d):=by
 have l7:=g.l7
 let S0:Option Sl:=some (.pub (Kr cs ls))
 let S1:Option Sl:=some (.pub (UX ws))
 let S2:Option Sl:=some (.pub d)
 let S3:Option Sl:=some (.pub (.list ((XY cs ws).map int)))
 have key:∃r,Zp [Kr cs ls,UX ws,d]=some r/\∃b,r=.bool b/\(b=true ↔ IsW cs ls ws d):=by
  refine YR (ρ:=[S0,S1,S2,none,none]) rfl ?_;unfold Wr;refine U4 (ρ1:=[S0,S1,S2,S3,none]) (KB (Kg (UI (UC rfl) (UI (UC rfl) UP)) rfl (CS g)) (Qa rfl) rfl) ?_;have no:∀{d:D},(¬IsW cs ls ws d)->∃d1:D,Out.rt (.bool false)=.rt d1/\∃b,d1=.bool b/\(b=true ↔ IsW cs ls ws d):=λh=>⟨_,rfl,false,rfl,(λz=>by cases z),λz=>absurd z h⟩
  apply Kj;cases d with
  |dict kvs=>exact Kb (b:=true) (ZT (Tb (UC rfl))) (λ_=>U3 UJ (Kq (no λ⟨W,e,_⟩=>by cases e))) λz=>by cases z
  |list xs=>
   have hx:=hs xs rfl;have hlen:U5 [.list xs]=some (.int xs.length):=Zf;refine Kb (b:=decide ((xs.length:Int)=0)) (ρ1:=[S0,S1,S2,S3,none]) (KW (Zc (UC rfl) rfl) (UV (KG rfl hlen) UJ Td)) (λz=>U3 UJ (Kq (no λ⟨W,e,hW⟩=>hW.ne ?_))) λz=>Kv (Ko ?_)
   ·have:=Qa z;injection e with e;rw[e,Qe]at this;exact List.length_eq_zero_iff.mp (by omega)
   have hne:xs≠[]:=λe=>by rw[e]at z;cases z
   apply Kj;have hc:Kl (gN 5) (UE true) (UT 3 YK (UH (UL 0 (UE (.int 1))) (UH (UA 1) (UH (UA 5) (UD))))) xs (U2 [S0,S1,S2,S3,none]++Ul 1 none) []=some (xs.map λx=>.bool (Zv ls ws x)):=by refine VJ (λρ=>∃x,ρ=[S0,S1,S2,S3,none,x]) _ _ _ _ (by rw[Qe]) ?_ ⟨none,rfl⟩ (by rw[Q2];omega);rintro j y e hj he ρ ⟨x,rfl⟩;rw[Qg,hj]at he;cases he;exact⟨_,UR (Qa rfl) rfl,rfl,Kg (UI (Kf rfl UJ Ml) (UI (UC rfl) (UI (UC rfl) UP))) rfl (CG g hl y),_,rfl⟩
   refine Kb (b:=!xs.all (Zv ls ws)) (ρ1:=[S0,S1,S2,S3,none]) (ZJ (Z2 (Yr (UI (Kx (Yq (Zr (UC rfl) ZW) hc)) UP) (Es xs)))) (λz=>U3 UJ (Kq (no λ⟨W,e,hW⟩=>?_))) λz=>Kv (Ko ?_)
   ·injection e with e
    subst e;rw[Bool.not_eq_true']at z;have:(W.map UN).all (Zv ls ws)=true:=List.all_eq_true.mpr λx hx=>by obtain⟨p,hp,rfl⟩:=Qt.mp hx;exact(Ph hl).mpr (hW.mv p hp)
    rw[this]at z;cases z
   rw[JA]at z;obtain⟨W,rfl,hmv⟩:=Om hl z;rw[Qe]at hx;have hW0:W≠[]:=λe=>hne (by rw[e];rfl)
   have hlt:∀p∈W,p.1<ws.length:=λp hp=>by obtain⟨o,ho,_⟩:=hmv p hp;exact(Qf.mp ho).1
   have isw:IsW cs ls ws (.list (W.map UN)) ↔ WayQ cs (Kd 0 ls) ws W:=⟨λ⟨U,e,hU⟩=>by injection e with e;rw[Su e];exact hU,λh=>⟨W,rfl,h⟩⟩
   let ns:List Int:=W.map λp=>((p.1:Nat):Int)
   have hnl:ns.length=W.length:=Qe _
   have hnd:ns.Nodup ↔ (W.map Prod.fst).Nodup:=by
    have e:ns=(W.map Prod.fst).map λn:Nat=>(n:Int):=by rw[QY];rfl
    rw[e];exact⟨λh=>(List.pairwise_map.mp h).imp λh e=>h (by rw[e]),λh=>List.Pairwise.map _ (λa b h e=>h (by omega)) h⟩
   have hc2:Kl (gT 2 (gNC (gN 5) (gNC (gN 6) (gN0)))) (UE true) (UA 5) (W.map UN) (U2 [S0,S1,S2,S3,none]++Ul 2 none) []=some (ns.map int):=by
    refine VJ (λρ=>∃x y,ρ=[S0,S1,S2,S3,none,x,y]) _ _ _ _ (by rw[Qe,Qe,Qe]) ?_ ⟨none,none,rfl⟩ (by rw[Qe,Q2];omega);rintro j y e hj he ρ ⟨x,y',rfl⟩;rw[Qg]at hj;rw[Qg,Qg]at he;cases hp:W[j]? with
    |none=>rw[hp]at hj;cases hj
    |some p=>
    rw[hp]at hj he;cases hj;cases he;exact⟨_,KN rfl (Ka (UR (Qa rfl) rfl) (Ka (UR (Qa rfl) rfl) KO)),rfl,UC rfl,_,_,rfl⟩
   have hun:decide (((KZ ns:Nat):Int)=((W.map UN).length:Nat))=decide (W.map Prod.fst).Nodup:=by
    rw[Qe,←hnl];by_cases h:(W.map Prod.fst).Nodup
    ·rw[QL h,Nd (hnd.mpr h),QL rfl]
    ·rw[Qu h,Qu (λe=>h (hnd.mp (Cn (by omega))))]
   obtain⟨lb,hlb,hlk⟩:=Cm hlt hx;apply Kj;refine Kb (b:=!decide (W.map Prod.fst).Nodup || !lb) (ρ1:=[S0,S1,S2,S3,none]) (VY (UV (FJ (Yq (Zr (UC rfl) ZW) hc2) (by omega)) (KG rfl hlen) (by rw[Yp,hun])) λ_=>ZJ (Z2 (Kg (UI (UC rfl) (UI (UC rfl) UP)) rfl hlb))) (λz=>U3 UJ (Kq (no λh=>?_))) λz=>Kv (Ko ?_)
   ·have h:=isw.mp h;rw[QL h.nd,hlk.mpr h.lnk]at z;cases z
   rw[JV,JA,JA]at z;have nd:=Qa z.1;have lnk:=hlk.mp z.2
   obtain⟨p0,r0,hW1⟩:∃p r,W=p::r:=by
    cases hW':W with
    |nil=>exact absurd hW' hW0
    |cons x r=>exact⟨x,r,rfl⟩
   obtain⟨q,hgl⟩:∃q,W.getLast?=some q:=by
    cases h:W.getLast? with
    |none=>exact absurd (JF.mp h) hW0
    |some q=>exact⟨q,rfl⟩
   have hhd:W.head?=some p0:=by rw[hW1];rfl
   have hqm:q∈W:=JI hgl;have hpm:p0∈W:=by rw[hW1];exact Qq
   have hixq:oIx (.list (W.map UN)) (.int (-1))=some (UN q):=Sg (by rw[List.getLast?_map,hgl];rfl);have hix0:oIx (.list (W.map UN)) (.int 0)=some (UN p0):=Ku (j:=0) (by rw[hW1];rfl)
   let S4:Option Sl:=some (.pub (UK q.2))
   refine U4 (ρ1:=[S0,S1,S2,S3,S4]) (KB (UV (Kf rfl (WS UJ) hixq) UJ (show oIx (UN q) (.int 1)=some (UK q.2)from rfl)) (Qa rfl) rfl) ?_;obtain⟨o0,ho0,_⟩:=hmv p0 hpm;have hixd:oIx (UX ws) (.int ((p0.1:Nat):Int))=some (UK o0):=Ku (by rw[Qg,ho0];rfl);have tw:UM Uo (UG oEq (UL 1 (UG oIx (UL 2 (UE (.int 0))) (UE (.int 0)))) (UA 4)) [S0,S1,S2,S3,S4]=.ok (.bool (decide (o0=q.2))) [S0,S1,S2,S3,S4]:=Kx (UV (Kf rfl (UV (Kf rfl UJ hix0) UJ (show oIx (UN p0) (.int 0)=some (.int (p0.1:Nat))from rfl)) hixd) (UC rfl) Vq);have hone:∀{p' q':Nat×Option Int},W.head?=some p'->W.getLast?=some q'->p'=p0/\q'=q:=λh1 h2=>by rw[hhd]at h1;rw[hgl]at h2;exact⟨(Qo h1).symm,(Qo h2).symm⟩
   cases hq2:q.2 with
   |none=>refine U3 (TY (t:=true) (u:=true) (Kx (k:=λd=>Uo (isNon d)) (x:=UK q.2) (UC rfl) |>.trans (by rw[hq2];rfl)) λz=>by cases z) ⟨_,rfl,true,rfl,λ_=>isw.mpr ⟨hW0,hmv,nd,lnk,λp' q' h1 h2=>?_⟩,λ_=>rfl⟩;obtain⟨rfl,rfl⟩:=hone h1 h2;exact .inl hq2
   |some t=>
    obtain⟨_,_,_,hqq⟩:=hmv q hqm;obtain⟨i,rs,hi,_,hmem⟩:=W9 (hqq t hq2);obtain⟨r,hr1,hr2⟩:=Jh.mp hmem;have hr:=(g.rk rs (Qp hi)).there r hr1 t hr2;obtain⟨n,rfl⟩:∃n:Nat,t=n:=⟨t.toNat,by omega⟩
    have hn:n<cs.length:=by omega
    have hixl:oIx (.list ((XY cs ws).map int)) (.int ((n:Nat):Int))=some (.int (cs[n]-((ws.count (some (n:Int)):Nat):Int))):=Ku (by
     unfold XY;rw[Qg,Qg,List.getElem?_range hn];show some (int (cs.getD n 0-_))=_;rw[QC,Qb hn]
     rfl)
    refine U3 (TY (t:=false) (u:=decide (0<cs[n]-((ws.count (some (n:Int)):Nat):Int)) || decide (o0=q.2)) (Kx (k:=λd=>Uo (isNon d)) (x:=UK q.2) (UC rfl) |>.trans (by rw[hq2];rfl)) λ_=>TY (Kx (UV (Kf rfl (UC rfl) (by rw[hq2];exact hixl)) UJ YU)) λ_=>tw) ⟨_,rfl,_,rfl,?_⟩;rw[Bool.false_or,Bool.or_eq_true,Ja,Ja,isw];constructor
    ·intro h;refine⟨hW0,hmv,nd,lnk,λp' q' h1 h2=>?_⟩;obtain⟨rfl,rfl⟩:=hone h1 h2;rcases h with h|h
     ·exact .inr (.inr ⟨n,hq2,_,Qb hn,by omega⟩)
     ·exact .inr (.inl (by rw[ho0,h]))
    ·intro h;rcases h.fin p0 q hhd hgl with e|e|⟨t',e,c,hc,hlt⟩
     ·rw[hq2]at e;cases e
     ·rw[ho0]at e;exact .inr (Qo e)
     ·rw[hq2]at e;have e:n=t':=by have:=Qo e;omega
      subst e;rw[Qb hn]at hc;cases hc;exact .inl (by omega)
  |_=>exact Kb (b:=true) (ZT (Zc (UC rfl) rfl)) (λ_=>U3 UJ (Kq (no λ⟨W,e,_⟩=>by cases e))) λz=>by cases z
 obtain⟨r,h,b,rfl,hb⟩:=key;exact⟨b,h,hb⟩
end
def SmI(x:D):Prop:=∀a t,x=.tuple [a,t]->t.canLay0=true/\t.depth<=60
section
variable{cs:List Int}{ls:L3}{ws:LO}{W:List (Nat×Option Int)}
theorem Pg(d:D):YH [d]=some (.bool (whB d)):=by
 cases d with
 |dict kvs=>exact Ze (ρ:=[pb (.dict kvs)]) rfl (U3 (XS (t:=false) (u:=false) (Rz (UC rfl)) λz=>by cases z) rfl)
 |_=>rfl
theorem GC{t:D}{o:Option Int}(h:t.canLay0=true/\t.depth<=60):∃b,oEq t (UK o)=some b:=by unfold oEq;exact⟨_,Qr ⟨h.1,by cases o<;>rfl,h.2⟩⟩
theorem CF(g:Good cs ls)(hl:ws.length=ls.length){d:D}(hs:∀xs,d=.list xs->xs.length<=1000/\∀x∈xs,SmI x):∃b,YG [Kr cs ls,UX ws,d]=some (.bool b)/\(b=true ↔ IsW cs ls ws d):=by
 have l7:=g.l7;have c6:=g.c6
 let S0:Option Sl:=some (.pub (Kr cs ls))
 let S1:Option Sl:=some (.pub (UX ws))
 let S2:Option Sl:=some (.pub d)
 have hlen1:U5 [UX ws]=some (.int ws.length):=by unfold UX;rw[Zf,Qe]
 have key:∃r,YG [Kr cs ls,UX ws,d]=some r/\∃b,r=.bool b/\(b=true ↔ IsW cs ls ws d):=by
  refine YR (ρ:=[S0,S1,S2,none,none,none,none,none,none]) rfl ?_;unfold Wk;have no:∀{d:D},(¬IsW cs ls ws d)->∃d1:D,Out.rt (.bool false)=.rt d1/\∃b,d1=.bool b/\(b=true ↔ IsW cs ls ws d):=λh=>⟨_,rfl,false,rfl,(λz=>by cases z),λz=>absurd z h⟩
  apply Kj;cases d with
  |dict kvs=>exact Kb (b:=true) (ZT (Tb (UC rfl))) (λ_=>U3 UJ (Kq (no λ⟨W,e,_⟩=>by cases e))) λz=>by cases z
  |list xs=>
   obtain⟨hx,hsm⟩:=hs xs rfl;have hlen:U5 [.list xs]=some (.int xs.length):=Zf;refine Kb (b:=xs.isEmpty) (ρ1:=[S0,S1,S2,none,none,none,none,none,none]) (KW (Zc (UC rfl) rfl) (K6 rfl (ZU UP (Qa rfl)) HM)) (λz=>U3 UJ (Kq (no λ⟨W,e,hW⟩=>hW.ne ?_))) λz=>Kv (Ko ?_)
   ·injection e with e
    rw[List.isEmpty_iff]at z;rw[z]at e;exact List.map_eq_nil_iff.mp e.symm
   have hne:xs≠[]:=λe=>by rw[e]at z;cases z
   refine U4 (ρ1:=[S0,S1,S2,some (.own []),none,none,none,none,none]) (Zb (Y6 UP (Qa rfl)) (Qa rfl) rfl) ?_;apply Kj;apply Zs (λk ρ=>∃(W:List (Nat×Option Int))(x4 x5 x6:Option Sl),ρ=[S0,S1,S2,some (.own ((W.map λp=>((p.1:Nat):Int)).map int)),x4,x5,x6,none,none]/\xs.take k=W.map UN/\(∀p∈W,MvQ (Kd 0 ls) ws p)/\(W.map Prod.fst).Nodup)
   case h1=>exact Zr (UC rfl) ZW
   case h0=>exact⟨[],none,none,none,rfl,rfl,λ_ h=>(by cases h),JU⟩
   case hst=>
    rintro k x ρ hk ⟨W,x4,x5,x6,rfl,htk,hmv,hnd⟩;have hkl:k<xs.length:=(Qf.mp hk).1;have hxm:x∈xs:=Qp hk;have hta:xs.take (k+1)=xs.take k++[x]:=by rw[J7,hk];rfl
    have hWl:W.length=k:=by have:=JG List.length htk;rw[Jg,Qe]at this;omega
    let A:List Int:=W.map λp=>((p.1:Nat):Int)
    let SA:Option Sl:=some (.own (A.map int))
    let S4:Option Sl:=some (.pub x)
    refine⟨_,UR (Qa rfl) rfl,?_⟩;unfold R3
    have it:IsW cs ls ws (.list xs)->∃p,x=UN p/\MvQ (Kd 0 ls) ws p/\p.1∉W.map Prod.fst:=λ⟨U,e,hU⟩=>by
     injection e with e;rw[e,Qg]at hk
     cases hp:U[k]? with
     |none=>rw[hp]at hk;cases hk
     |some p=>
      rw[hp]at hk;cases hk;refine⟨p,rfl,hU.mv p (Qp hp),λhm=>?_⟩;have hWU:W=U.take k:=Su (by rw[←htk,e,List.map_take]);have:(U.map Prod.fst)[k]?=some p.1:=by rw[Qg,hp];rfl
      rw[hWU,List.map_take]at hm;obtain⟨j,hj⟩:=Q7.mp hm;have hjk:j<k:=by have:=(Qf.mp hj).1;rw[Jg]at this;omega
      rw[JJ hjk]at hj;obtain⟨l1,e1⟩:=Qf.mp hj;obtain⟨l2,e2⟩:=Qf.mp this;have:=(List.getElem_inj hU.nd).mp (e1.trans e2.symm);omega
    cases x with
    |dict kvs=>apply Kj;exact Kb (b:=true) (ZT (Tb (UC rfl))) (λ_=>U3 UJ (Kq (Ym (Kq (no λh=>by obtain⟨p,e,_⟩:=it h;cases e))))) λz=>by cases z
    |tuple ys=>
     apply Kj;rcases ys with _|⟨a,_|⟨t,_|⟨u,r⟩⟩⟩
     ·exact Kb (b:=true) (KW (Zc (UC rfl) rfl) (ZT (UV (KG rfl XM) UJ Yp))) (λ_=>U3 UJ (Kq (Ym (Kq (no λh=>by obtain⟨p,e,_⟩:=it h;cases e))))) λz=>by cases z
     ·exact Kb (b:=true) (KW (Zc (UC rfl) rfl) (ZT (UV (KG rfl XM) UJ Yp))) (λ_=>U3 UJ (Kq (Ym (Kq (no λh=>by obtain⟨p,e,_⟩:=it h;cases e))))) λz=>by cases z
     ·refine Kb (b:=!whB a) (KW (Zc (UC rfl) rfl) (KW (UV (KG rfl XM) UJ Yp) (ZJ (Z2 (Kg (UI (Kf rfl UJ (show oIx (.tuple [a,t]) (.int 0)=some a from rfl)) UP) rfl (Pg a)))))) (λz=>U3 UJ (Kq (Ym (Kq (no λh=>?_))))) λz=>Kv (Ko ?_)
      ·obtain⟨p,e,_⟩:=it h;injection e with e;injection e with e _;rw[e]at z;cases z
      cases a with
      |int i=>
       let S5:Option Sl:=some (.pub (.int i))
       let S6:Option Sl:=some (.pub t)
       let R:UB:=[S0,S1,S2,SA,S4,S5,S6,none,none]
       refine U4 (ρ1:=R) (TX (UC rfl) (KN rfl (Ka (UR (Qa rfl) rfl) (Ka (UR (Qa rfl) rfl) KO)))) ?_;obtain⟨sm1,sm2⟩:=hsm _ hxm _ _ rfl
       have key2:∃b,mOr (Ks (oIB λi j=>decide (i<j)) 5 (UE (.int 0))) (mOr (Ks (oIB λi j=>decide (j<=i)) 5 (KF 1)) (mOr (XZ oIn (UA 5) 3) (Ks oEq 6 (UL 1 (UA 5))))) R=.ok b R/\(b=true->¬IsW cs ls ws (.list xs))/\(b=false->∃n:Nat,i=n/\n<ws.length/\n∉W.map Prod.fst/\∀o,t=UK o->o≠ws.getD n none):=by
        by_cases h1:i<0
        ·refine⟨true,ZT (K6 rfl UJ (by rw[YU,QL h1])),λ_ h=>?_,λz=>by cases z⟩;obtain⟨p,e,_⟩:=it h;injection e with e;injection e with e _;injection e with e;omega
        obtain⟨n,rfl⟩:∃n:Nat,i=n:=⟨i.toNat,by omega⟩
        by_cases h2:(ws.length:Int)<=n
        ·refine⟨true,KW (K6 rfl UJ (by rw[YU,Qu h1])) (ZT (K6 rfl (KG rfl hlen1) (by rw[YU,QL h2]))),λ_ h=>?_,λz=>by cases z⟩;obtain⟨p,e,⟨o,ho,_⟩,_⟩:=it h;injection e with e;injection e with e _;injection e with e
         have:=(Qf.mp ho).1;omega
        by_cases h3:A.contains (n:Int)=true
        ·refine⟨true,KW (K6 rfl UJ (by rw[YU,Qu h1])) (KW (K6 rfl (KG rfl hlen1) (by rw[YU,Qu h2])) (ZT (Sy (UC rfl) rfl (by rw[Ta,h3])))),λ_ h=>?_,λz=>by cases z⟩;obtain⟨p,e,_,hp⟩:=it h;injection e with e;injection e with e _;injection e with e;have e:n=p.1:=by omega
         subst e;obtain⟨q,hq,e⟩:=List.mem_map.mp (show((p.1:Nat):Int)∈A by simpa using h3);exact hp (Qt.mpr ⟨q,hq,by omega⟩)
        have hn:n<ws.length:=by omega
        have hw:ws[n]?=some ws[n]:=Qb hn;have hix:oIx (UX ws) (.int ((n:Nat):Int))=some (UK ws[n]):=Ku (by rw[Qg,hw];rfl);obtain⟨b,hb⟩:=GC (o:=ws[n]) ⟨sm1,sm2⟩;refine⟨b,KW (K6 rfl UJ (by rw[YU,decide_eq_false h1])) (KW (K6 rfl (KG rfl hlen1) (by rw[YU,decide_eq_false h2])) (KW (Sy (UC rfl) rfl (by rw[Ta];simpa using h3)) (K6 rfl (Kf rfl (UC rfl) hix) hb))),λzb h=>?_,λzb=>⟨n,rfl,hn,λhm=>h3 ?_,λo e=>?_⟩⟩
        ·obtain⟨p,e,⟨o,ho,hne,_⟩,_⟩:=it h;injection e with e;injection e with e e2;injection e with e;injection e2 with e2;have e:n=p.1:=by omega
         subst e;rw[e2,Vq,zb]at hb;rw[hw]at ho;cases ho;exact hne (Qa (Qo hb))
        ·obtain⟨q,hq,e⟩:=Qt.mp hm;have:((n:Nat):Int)∈A:=Qt.mpr ⟨q,hq,by omega⟩;simpa using this
        ·rw[e,Vq,zb]at hb;rw[WZ hw];exact Jz (Qo hb)
       obtain⟨b2,hb2,hT,hF⟩:=key2;apply Kj;refine Kb hb2 (λz=>U3 UJ (Kq (Ym (Kq (no (hT z)))))) λz=>Kv (Ko ?_)
       obtain⟨n,rfl,hn,hnm,ho⟩:=hF z;have nn:UM (λd=>!isNon d) (UA 6) R=.ok (!isNon t) R:=VZ (UC rfl) rfl;have hnl:n<ls.length:=by omega
       have hs':ls[n]?=some ls[n]:=Qb hnl;apply Kj;refine Kb (b:=!isNon t && !whB t) (ρ1:=R) (TZ nn λ_=>ZJ (Z2 (Kg (UI (UC rfl) UP) rfl (Pg t)))) (λz=>U3 UJ (Kq (Ym (Kq (no λh=>?_))))) λz=>Kv (Ko ?_)
       ·obtain⟨p,e,_⟩:=it h;injection e with e;injection e with _ e;injection e with e;rw[e]at z
        cases h2:p.2<;>rw[h2]at z<;>cases z
       obtain⟨o,rfl⟩:∃o,t=UK o:=by
        cases t with
        |none=>exact⟨none,rfl⟩
        |int u=>exact⟨some u,rfl⟩
        |_=>cases z
       have hfl:ls[n].flatten.length<64:=by have:=Sx (g.rk ls[n] (Jd hnl));omega
       apply Kj;refine Kb (b:=!o.all λu=>decide (u∈ls[n].flatten)) (ρ1:=R) (Pk nn (λz=>?_) λz=>?_) (λz=>U3 UJ (Kq (Ym (Kq (no λh=>?_))))) λz=>Kv (Ko ?_)
       ·cases o with
        |none=>cases z
        |some u=>exact K6 rfl (Kg (UI (UC rfl) (UI (UC rfl) UP)) rfl (Ot hs' hfl)) (by
          show Zi (.int u) _=_;unfold Zi;rw[Ta];show some (!(Zt ls[n].flatten).contains u)=some (!decide (u∈ls[n].flatten))
          congr 2
          rw[J0,Ja,JB];exact(Y9 ls[n].flatten).mem_iff)
       ·cases o with
        |none=>rfl
        |some u=>cases z
       ·obtain⟨p,e,⟨o',ho',_,hq⟩,_⟩:=it h;injection e with e;injection e with e e2;injection e with e;injection e2 with e2;have e:n=p.1:=by omega
        subst e;have e2:o=p.2:=by have:=JG oD e2;rw[WW,WW]at this;exact Qo this
        subst e2;cases h2:p.2 with
        |none=>rw[h2]at z;cases z
        |some u=>
         obtain⟨j,rs,hj,e,hm⟩:=W9 (hq u h2);have e:p.1=j:=by have:((p.1:Nat):Int)=((0+j:Nat):Int):=e;omega
         subst e;rw[hs']at hj;cases hj;rw[h2]at z;have z:(!decide (u∈ls[p.1].flatten))=true:=z;rw[QL hm]at z;cases z
       have hmn:MvQ (Kd 0 ls) ws (n,o):=(TR hl hnl).mp (by
        unfold moB;rw[WW]
        show(!decide (o=ws.getD n none)&&o.all λu=>decide (u∈(ls.getD n []).flatten))=true
        rw[Qu (ho o rfl),QC,hs'];rw[JA]at z;exact z)
       refine ZX (YT rfl (UC rfl) rfl (by rw[Qe,Qe];omega) rfl) (K7 ⟨W++[(n,o)],S4,S5,S6,?_,?_,λp hp=>?_,?_⟩)
       ·rw[QI,QI];rfl
       ·rw[hta,htk,QI];rfl
       ·rcases QM.mp hp with hp|hp
        ·exact hmv p hp
        ·cases QK.mp hp;exact hmn
       ·rw[QI];exact Jq.mpr ⟨hnd,List.nodup_cons.mpr ⟨(λh=>by cases h),JU⟩,λa ha b hb e=>by cases QK.mp hb;have e:a=n:=e;subst e;exact hnm ha⟩
      |_=>cases z
     ·exact Kb (b:=true) (KW (Zc (UC rfl) rfl) (ZT (UV (KG rfl XM) UJ (by rw[Yp,Qu (by rw[QA,QA,QA];omega)];rfl)))) (λ_=>U3 UJ (Kq (Ym (Kq (no λh=>by obtain⟨p,e,_⟩:=it h;cases e))))) λz=>by cases z
    |_=>apply Kj;exact Kb (b:=true) (ZT (Zc (UC rfl) rfl)) (λ_=>U3 UJ (Kq (Ym (Kq (no λh=>by obtain⟨p,e,_⟩:=it h;cases e))))) λz=>by cases z
   case hend=>
    rintro ρ ⟨W,x4,x5,x6,rfl,htk,hmv,hnd⟩;refine Ko ?_;rw[JP]at htk;subst htk;rw[Qe]at hx;have hW0:W≠[]:=λe=>hne (by rw[e];rfl)
    have hlt:∀p∈W,p.1<ws.length:=λp hp=>by obtain⟨o,ho,_⟩:=hmv p hp;exact(Qf.mp ho).1
    have isw:IsW cs ls ws (.list (W.map UN)) ↔ WayQ cs (Kd 0 ls) ws W:=⟨λ⟨U,e,hU⟩=>by injection e with e;rw[Su e];exact hU,λh=>⟨W,rfl,h⟩⟩
    let SA:Option Sl:=some (.own ((W.map λp=>((p.1:Nat):Int)).map int))
    have hlen':U5 [.list (W.map UN)]=some (.int W.length):=by rw[Zf,Qe]
    apply Kj;apply Zs (λi ρ=>(∃x7,ρ=[S0,S1,S2,SA,x4,x5,x6,x7,none])/\∀(k:Nat) p q,k<i->W[k]?=some p->W[k+1]?=some q->p.2≠none/\ws[q.1]?=some p.2)
    case h1=>exact So (UI UJ (UI (KG rfl hlen') UP)) (SG (by omega) (by omega) (by omega) (by omega))
    case h0=>exact⟨⟨_,rfl⟩,λk _ _ h=>absurd h (Nat.not_lt_zero k)⟩
    case hst=>
     rintro k d ρ hk ⟨⟨x7,rfl⟩,hin⟩;obtain⟨rfl,hkl⟩:=XQ hk;have hk1:k+1<W.length:=by omega
     have hp:W[k]?=some W[k]:=Qb _;have hq:W[k+1]?=some W[k+1]:=Qb hk1;have e1:(1:Int)+(k:Nat)=((k+1:Nat):Int):=by omega
     refine⟨_,UR (Qa rfl) rfl,?_⟩;rw[e1];unfold R4
     have hixk:oIx (.list (W.map UN)) (.int (((k+1:Nat):Int)-1))=some (UN W[k]):=by
      have e:(((k+1:Nat):Int)-1)=((k:Nat):Int):=by omega
      rw[e];exact Ku (by rw[Qg,hp];rfl)
     have hixk1:oIx (.list (W.map UN)) (.int ((k+1:Nat):Int))=some (UN W[k+1]):=Ku (by rw[Qg,hq];rfl);have hwl:=hlt W[k+1] (Jd _);have hww:ws[(W[k+1]).1]?=some (ws[(W[k+1]).1]'(hwl)):=Qb _;have hixd:oIx (UX ws) (.int (((W[k+1]).1:Nat):Int))=some (UK (ws[(W[k+1]).1]'(hwl))):=Ku (by rw[Qg,hww];rfl)
     let S7:Option Sl:=some (.pub (.int ((k+1:Nat):Int)))
     refine Kb (b:=isNon (UK (W[k]).2) || !decide (ws[(W[k+1]).1]'(hwl)=(W[k]).2)) (ρ1:=[S0,S1,S2,SA,x4,x5,x6,S7,none]) (VY (Kx (k:=isNon) (UV (Kf rfl (UV (UC rfl) UJ W0) hixk) UJ (show oIx (UN W[k]) (.int 1)=some (UK (W[k]).2)from rfl))) λ_=>UV (Kf rfl (UV (Kf rfl (UC rfl) hixk1) UJ (show oIx (UN W[k+1]) (.int 0)=some (.int ((W[k+1]).1:Nat))from rfl)) hixd) (UV (Kf rfl (UV (UC rfl) UJ W0) hixk) UJ (show oIx (UN W[k]) (.int 1)=some (UK (W[k]).2)from rfl)) V3) (λz=>U3 UJ (Ym (Kq (no λh=>?_)))) λz=>Kv (K7 ⟨⟨_,rfl⟩,?_⟩)
     ·obtain⟨h1,h2⟩:=(isw.mp h).lnk k _ _ hp hq;rw[hww]at h2;rw[QL (Qo h2)]at z;cases h3:(W[k]).2 with
      |none=>exact absurd h3 h1
      |some t=>rw[h3]at z;cases z
     ·rw[JV]at z;intro j p q hj hp' hq';by_cases e:j=k
      ·subst e;rw[hp]at hp';rw[hq]at hq';cases hp';cases hq';refine⟨λe=>?_,?_⟩
       ·rw[e]at z;cases z.1
       ·rw[hww];by_cases e:ws[(W[j+1]).1]'(hwl)=(W[j]).2
        ·exact JG some e
        ·rw[Qu e]at z;cases z.2
      ·exact hin j p q (by omega) hp' hq'
    case hend=>
     rintro ρ ⟨⟨x7,rfl⟩,hin⟩;refine Ko ?_
     have lnk:WH ws W:=λk p q hp hq=>hin k p q (by
      have:=(Qf.mp hq).1;rw[Yu]
      omega) hp hq
     obtain⟨p0,r0,hW1⟩:∃p r,W=p::r:=by
      cases hW':W with
      |nil=>exact absurd hW' hW0
      |cons x r=>exact⟨x,r,rfl⟩
     obtain⟨q,hgl⟩:∃q,W.getLast?=some q:=by
      cases h:W.getLast? with
      |none=>exact absurd (JF.mp h) hW0
      |some q=>exact⟨q,rfl⟩
     have hhd:W.head?=some p0:=by rw[hW1];rfl
     have hqm:q∈W:=JI hgl;have hpm:p0∈W:=by rw[hW1];exact Qq
     have hixq:oIx (.list (W.map UN)) (.int (-1))=some (UN q):=Sg (by rw[List.getLast?_map,hgl];rfl);have hix0:oIx (.list (W.map UN)) (.int 0)=some (UN p0):=Ku (j:=0) (by rw[hW1];rfl)
     let S8:Option Sl:=some (.pub (UK q.2))
     let R:UB:=[S0,S1,S2,SA,x4,x5,x6,x7,S8]
     refine U4 (ρ1:=R) (KB (UV (Kf rfl (WS UJ) hixq) UJ (show oIx (UN q) (.int 1)=some (UK q.2)from rfl)) (Qa rfl) rfl) ?_;obtain⟨o0,ho0,_⟩:=hmv p0 hpm;have hixd:oIx (UX ws) (.int ((p0.1:Nat):Int))=some (UK o0):=Ku (by rw[Qg,ho0];rfl);have hone:∀{p' q':Nat×Option Int},W.head?=some p'->W.getLast?=some q'->p'=p0/\q'=q:=λh1 h2=>by rw[hhd]at h1;rw[hgl]at h2;exact⟨(Qo h1).symm,(Qo h2).symm⟩
     apply Kj;refine Kb (b:=isNon (UK q.2) || decide (q.2=o0)) (ρ1:=R) (VY (Kx (k:=isNon) (UC rfl)) λ_=>K6 rfl (Kf rfl (UV (Kf rfl UJ hix0) UJ (show oIx (UN p0) (.int 0)=some (.int (p0.1:Nat))from rfl)) hixd) Vq) (λz=>U3 UJ (Kq ⟨_,rfl,true,rfl,λ_=>isw.mpr ⟨hW0,hmv,hnd,lnk,λp' q' h1 h2=>?_⟩,λ_=>rfl⟩)) λz=>Kv (Ko ?_)
     ·obtain⟨rfl,rfl⟩:=hone h1 h2;rw[Bool.or_eq_true,Ja]at z;rcases z with z|z
      ·refine .inl ?_;cases h2:q'.2 with
       |none=>rfl
       |some t=>rw[h2]at z;cases z
      ·exact .inr (.inl (by rw[ho0,z]))
     rw[JV]at z;cases hq2:q.2 with
     |none=>rw[hq2]at z;cases z.1
     |some t=>
     obtain⟨_,_,_,hqq⟩:=hmv q hqm;obtain⟨i,rs,hi,_,hmem⟩:=W9 (hqq t hq2);obtain⟨r,hr1,hr2⟩:=Jh.mp hmem;have hr:=(g.rk rs (Qp hi)).there r hr1 t hr2;obtain⟨n,rfl⟩:∃n:Nat,t=n:=⟨t.toNat,by omega⟩
     have hn:n<cs.length:=by omega
     have hixc:oIx (.list (cs.map int)) (.int ((n:Nat):Int))=some (.int cs[n]):=Ku (by rw[Qg,Qb hn];rfl);have h8:R[8]?=some (some (.pub (.int ((n:Nat):Int)))):=by show some (some (Sl.pub (UK q.2)))=_;rw[hq2];rfl
     refine U3 (Kx (UV (SH (UC rfl) (UI (UC h8) UP) Rb) (UV (Kf rfl UJ Ve) (UC h8) hixc) YU)) ⟨_,rfl,_,rfl,?_⟩;rw[Ja,isw];constructor
     ·intro h;refine⟨hW0,hmv,hnd,lnk,λp' q' h1 h2=>?_⟩;obtain⟨rfl,rfl⟩:=hone h1 h2;exact .inr (.inr ⟨n,hq2,_,Qb hn,h⟩)
     ·intro h;rcases h.fin p0 q hhd hgl with e|e|⟨t',e,c,hc,hlt⟩
      ·rw[hq2]at e;cases e
      ·rw[ho0]at e;rw[QL (Qo e).symm]at z;cases z.2
      ·rw[hq2]at e;have e:n=t':=by have:=Qo e;omega
       subst e;rw[Qb hn]at hc;cases hc;exact hlt
  |_=>exact Kb (b:=true) (ZT (Zc (UC rfl) rfl)) (λ_=>U3 UJ (Kq (no λ⟨W,e,_⟩=>by cases e))) λz=>by cases z
 obtain⟨r,h,b,rfl,hb⟩:=key;exact⟨b,h,hb⟩
end
section
variable{cs:List Int}{ls:L3}{ws:LO}{W:List (Nat×Option Int)}{old:Option LO}{ts:List Int}
theorem LI(h:∀p∈W,p.1<ws.length)(hb:Zp [Kr cs ls,UX ws,.list (W.map UN)]=some (.bool true)):Xn [Kr cs ls,UX ws,.list (W.map UN)]=some (UX (Yj W ws)):=by
 let S0:Option Sl:=some (.pub (Kr cs ls))
 let S1:Option Sl:=some (.pub (UX ws))
 let S2:Option Sl:=some (.pub (.list (W.map UN)))
 refine Ze (ρ:=[S0,S1,S2]) rfl ?_;unfold Wp;apply Kj;exact Kb (b:=false) (ρ1:=[S0,S1,S2]) (ZJ (Z2 (Kg (UI (UC rfl) (UI (UC rfl) (UI (UC rfl) UP))) rfl hb))) (λz=>by cases z) λ_=>Kv (Ko (U3 (Kg (UI (UC rfl) (UI (UC rfl) UP)) rfl (Er h)) rfl))
theorem Dm(g:Good cs ls)(hd:YX cs (Kd 0 ls) ls.length ws)(h:WayQ cs (Kd 0 ls) ws W):Zp [Kr cs ls,UX ws,.list (W.map UN)]=some (.bool true)/\W.length<=7:=by
 have l7:=g.l7;have hl:=hd.len
 have hWl:W.length<=7:=by
  have h1:=To ws.length (W.map λp=>((p.1:Nat):Int)) (by
   have e:(W.map λp=>((p.1:Nat):Int))=(W.map Prod.fst).map λn:Nat=>(n:Int):=by rw[QY];rfl
   rw[e];exact List.Pairwise.map _ (λa b h e=>h (by omega)) h.nd) (λa ha=>by
   obtain⟨p,hp,rfl⟩:=Qt.mp ha;have:=Tz h hp
   omega)
  rw[Qe]at h1;omega
 obtain⟨b,hb,hi⟩:=Do g hd.len (d:=.list (W.map UN)) (λxs e=>by injection e with e;rw[←e,Qe];omega);rw[hi.mpr ⟨W,rfl,h⟩]at hb;exact⟨hb,hWl⟩
end
def YE(f:Nat->Option Nat):Prop:=∀a b c,f a=some c->f b=some c->a=b
structure Xy(f:Nat->Option Nat)(b:Nat)(A:List Nat):Prop where
 hd:A.head?=some b
 st:∀(k:Nat) x y,A[k]?=some x->A[k+1]?=some y->f x=some y
 ne:∀(k:Nat) x,A[k+1]?=some x->x≠b
structure EndF(f:Nat->Option Nat)(b:Nat)(A:List Nat):Prop where
 wk:Xy f b A
 fin:∀l,A.getLast?=some l->f l=none∨f l=some b
theorem Ol{f:Nat->Option Nat}{b:Nat}{A:List Nat}(hi:YE f)(w:Xy f b A):∀(i j:Nat) x,i<j->A[i]?=some x->A[j]?≠some x
 |0,j,x,h,e1,e2=>by
  obtain⟨m,rfl⟩:∃m,j=m+1:=⟨j-1,by omega⟩
  have:x=b:=by have:=w.hd;rw[JR,e1]at this;exact Qo this
  exact w.ne m x e2 this
 |i+1,j,x,h,e1,e2=>by
  obtain⟨m,rfl⟩:∃m,j=m+1:=⟨j-1,by omega⟩
  have l1:=(Qf.mp e1).1;have l2:=(Qf.mp e2).1;have h1:A[i]?=some A[i]:=Qb _;have h2:A[m]?=some A[m]:=Qb _;have e:=hi _ _ x (w.st i _ _ h1 e1) (w.st m _ _ h2 e2);exact Ol hi w i m A[i] (by omega) h1 (by rw[h2,e])
theorem VH{f:Nat->Option Nat}{b:Nat}{A:List Nat}(hi:YE f)(w:Xy f b A):A.Nodup:=by refine List.pairwise_iff_getElem.mpr λi j h1 h2 hij e=>?_;exact Ol hi w i j A[i] hij (Qb h1) (by rw[e];exact Qb h2)
def Rm(f:Nat->Option Nat)(M:List Nat):Prop:=∀c d,c∉M->f c=some d->d∉M
def Mi(f:Nat->Option Nat)(M:List Nat):Prop:=∀c d,c∈M->f c=some d->d∈M
theorem Oq{f:Nat->Option Nat}{b:Nat}{A M:List Nat}(hs:Rm f M)(w:Xy f b A)(hb:b∉M):∀a∈A,a∉M:=by
 have key:∀(k:Nat) x,A[k]?=some x->x∉M:=λk=>by
  induction k with
  |zero=>intro x e;have:=w.hd;rw[JR,e]at this;rw[Qo this];exact hb
  |succ k ih=>intro x e;have l:=(Qf.mp e).1;have h1:A[k]?=some (A[k]'(by omega)):=Qb _;exact hs _ x (ih _ h1) (w.st k _ _ h1 e)
 intro a ha;obtain⟨k,hk⟩:=Q7.mp ha;exact key k a hk
theorem Pf{f:Nat->Option Nat}{b:Nat}{A:List Nat}(w:EndF f b A){a d:Nat}(ha:a∈A)(h:f a=some d):d∈A:=by
 obtain⟨k,hk⟩:=Q7.mp ha;have l:=(Qf.mp hk).1;by_cases e:k+1<A.length
 ·have h1:A[k+1]?=some A[k+1]:=Qb e;have:=w.wk.st k _ _ hk h1;rw[h]at this;rw[Qo this];exact Jd e
 ·have hl:A.getLast?=some a:=by
   rw[JE,←hk]
   congr 1
   omega
  rcases w.fin a hl with e|e
  ·rw[e]at h;cases h
  ·rw[h]at e;rw[Qo e];exact List.mem_of_mem_head? (by rw[w.wk.hd];rfl)
theorem GB{f:Nat->Option Nat}{b:Nat}{A:List Nat}(hi:YE f)(w:Xy f b A){c d:Nat}(hd:d∈A)(h:f c=some d):c∈A∨d=b:=by
 obtain⟨k,hk⟩:=Q7.mp hd;have l:=(Qf.mp hk).1;cases k with
 |zero=>have:=w.hd;rw[JR,hk]at this;exact .inr (Qo this)
 |succ k=>have h1:A[k]?=some (A[k]'(by omega)):=Qb _;have:=hi _ _ d (w.st k _ _ h1 hk) h;exact .inl (this ▸ Jd _)
structure MetF(f:Nat->Option Nat)(M:List Nat):Prop where
 nd:M.Nodup
 si:Rm f M
 so:Mi f M
theorem GA{f:Nat->Option Nat}:MetF f []:=⟨JU,(λ_ _ _ _ h=>by cases h),λ_ _ h=>by cases h⟩
theorem Gz{f:Nat->Option Nat}{b:Nat}{A M:List Nat}(hi:YE f)(m:MetF f M)(hb:b∉M)(w:EndF f b A)(hc:(∀c,f c≠some b) ∨ ∀l,A.getLast?=some l->f l=some b):MetF f (M++A) where
 nd:=Jq.mpr ⟨m.nd,VH hi w.wk,λa ha x hx e=>Oq m.si w.wk hb x hx (e ▸ ha)⟩
 si:=λc d hc' h hd=>by
  rw[QM,not_or]at hc';rcases QM.mp hd with hd|hd
  ·exact m.si c d hc'.1 h hd
  ·rcases GB hi w.wk hd h with e|rfl
   ·exact hc'.2 e
   ·rcases hc with hc|hc
    ·exact hc c h
    ·cases hA:A.getLast? with
     |none=>rw[JF]at hA;rw[hA]at hd;cases hd
     |some l=>exact hc'.2 (hi _ _ _ (hc l hA) h ▸ JI hA)
 so:=λc d hc' h=>by
  rcases QM.mp hc' with hc'|hc'
  ·exact Je _ (m.so c d hc' h)
  ·exact Qw _ (Pf w hc' h)
theorem XN:∀(a b:List Nat),a.Nodup->(∀x∈a,x∈b)->a.length<=b.length
 |[],_,_,_=>J8 _
 |x::a,b,hn,h=>by
  have hx:=h x Qq;have hn':=JZ.mp hn
  have:=XN a (b.erase x) hn'.2 λy hy=>by
   have hne:y≠x:=λe=>hn'.1 (e ▸ hy)
   exact(List.mem_erase_of_ne hne).mpr (h y (QF _ hy))
  rw[List.length_erase_of_mem hx]at this;have:=List.length_pos_of_mem hx;rw[QA];omega
theorem Ss{f:Nat->Option Nat}:∀{U:List Nat}{u:Nat},u∈U->f u=none->(U.filterMap f).length<U.length
 |x::U,u,h,e=>by
  rcases QP.mp h with rfl|h
  ·rw[List.filterMap_cons_none e,QA];have:=List.length_filterMap_le f U;omega
  ·have ih:=Ss h e;rw[JW];split
   ·rw[QA];omega
   ·rw[QA,QA];omega
theorem LH{f:Nat->Option Nat}{D M:List Nat}(hD:D.Nodup)(hf:∀a b,f a=some b->a∈D)(m:MetF f M)(h:∀u∈D,u∉M->∃c,f c=some u):∀u∈D,u∉M->f u≠none:=by
 intro u hu hm e
 let U:=D.filter λx=>!M.contains x
 have hU:∀{x},x∈U ↔ x∈D/\x∉M:=by intro x;show x∈D.filter _ ↔ _;rw[Jk];simp
 have h1:U.length<=(U.filterMap f).length:=XN U _ (hD.filter _) λx hx=>by obtain⟨hxD,hxM⟩:=hU.mp hx;obtain⟨c,hc⟩:=h x hxD hxM;exact List.mem_filterMap.mpr ⟨c,hU.mpr ⟨hf c x hc,λhcm=>hxM (m.so c x hcm hc)⟩,hc⟩
 have h2:=Ss (f:=f) (hU.mpr ⟨hu,hm⟩) e;omega
def mvL(one other:LO):List Nat:=(Uk one.length).filter λi=>!decide (one.getD i none=other.getD i none)
def tkL(one other:LO)(t:Int):List Nat:=(mvL one other).filter λi=>decide (other.getD i none=some t)
def gvL(one other:LO)(t:Int):List Nat:=(mvL one other).filter λi=>decide (one.getD i none=some t)
def prL(one other:LO)(n:Nat):List (Nat×Nat):=(Uk n).flatMap λt:Nat=>(tkL one other (t:Int)).zip (gvL one other (t:Int))
def U7(ps:List (Nat×Nat))(a:Nat):Option Nat:=(ps.find? λp=>decide (p.1=a)).map (·.2)
section
variable{one other:LO}{n:Nat}
theorem ZD{i:Nat}:i∈mvL one other ↔ i<one.length/\one.getD i none≠other.getD i none:=by unfold mvL;rw[Jk,QT];simp
theorem VM:(mvL one other).Nodup:=List.nodup_range.filter _
theorem YS{t:Int}{i:Nat}:i∈tkL one other t ↔ i∈mvL one other/\other.getD i none=some t:=by unfold tkL;rw[Jk,Ja]
theorem VC{t:Int}{i:Nat}:i∈gvL one other t ↔ i∈mvL one other/\one.getD i none=some t:=by unfold gvL;rw[Jk,Ja]
theorem Oj{α β:Type}:∀{as:List α}{bs:List β}{p:α×β},p∈as.zip bs->∃k:Nat,as[k]?=some p.1/\bs[k]?=some p.2
 |[],_,_,h=>by cases h
 |_::_,[],_,h=>by cases h
 |a::as,b::bs,p,h=>by
  rcases QP.mp h with rfl|h
  ·exact⟨0,rfl,rfl⟩
  ·obtain⟨k,h1,h2⟩:=Oj h;exact⟨k+1,h1,h2⟩
theorem X6{p:Nat×Nat}(h:p∈prL one other n):∃t:Nat,t<n/\∃k:Nat,(tkL one other t)[k]?=some p.1/\(gvL one other t)[k]?=some p.2:=by obtain⟨t,ht,hp⟩:=List.mem_flatMap.mp h;obtain⟨k,h1,h2⟩:=Oj hp;exact⟨t,QT.mp ht,k,h1,h2⟩
theorem Oi{l:List Nat}(h:l.Nodup){i j x:Nat}(h1:l[i]?=some x)(h2:l[j]?=some x):i=j:=by obtain⟨l1,e1⟩:=Qf.mp h1;obtain⟨l2,e2⟩:=Qf.mp h2;exact(List.getElem_inj h).mp (e1.trans e2.symm)
theorem Pe{p q:Nat×Nat}(hp:p∈prL one other n)(hq:q∈prL one other n)(e:p.1=q.1):p=q:=by
 obtain⟨t,_,k,a1,a2⟩:=X6 hp;obtain⟨u,_,m,b1,b2⟩:=X6 hq;have h1:=(YS.mp (Qp a1)).2;have h2:=(YS.mp (Qp b1)).2;rw[e,h2]at h1;have:t=u:=by have:=Qo h1;omega
 subst this;have:=Oi (VM.filter _) a1 (by rw[e];exact b1);subst this;rw[a2]at b2;exact Prod.ext e (Qo b2)
theorem LG{p q:Nat×Nat}(hp:p∈prL one other n)(hq:q∈prL one other n)(e:p.2=q.2):p=q:=by
 obtain⟨t,_,k,a1,a2⟩:=X6 hp;obtain⟨u,_,m,b1,b2⟩:=X6 hq;have h1:=(VC.mp (Qp a2)).2;have h2:=(VC.mp (Qp b2)).2;rw[e,h2]at h1;have:t=u:=by have:=Qo h1;omega
 subst this;have:=Oi (VM.filter _) a2 (by rw[e];exact b2);subst this;rw[a1]at b1;exact Prod.ext (Qo b1) e
theorem W5{ps:List (Nat×Nat)}{a b:Nat}(h:U7 ps a=some b):(a,b)∈ps:=by
 unfold U7 at h;cases e:ps.find? λp=>decide (p.1=a)with
 |none=>rw[e]at h;cases h
 |some p=>
  rw[e]at h;cases h;have h1:=List.mem_of_find?_eq_some e;have h2:p.1=a:=by have:=List.find?_some e;simpa using this
  rw[←h2];exact h1
theorem SW{ps:List (Nat×Nat)}{a:Nat}(h:U7 ps a=none):∀b,(a,b)∉ps:=λb hb=>by unfold U7 at h;rw[Option.map_eq_none_iff,List.find?_eq_none]at h;exact h _ hb (QL rfl)
theorem VA:YE (U7 (prL one other n)):=λa b c h1 h2=>JG Prod.fst (LG (W5 h1) (W5 h2) rfl)
theorem Vp{a b:Nat}(h:U7 (prL one other n) a=some b):a∈mvL one other/\b∈mvL one other/\∃t:Nat,other.getD a none=some (t:Int)/\one.getD b none=some (t:Int):=by obtain⟨t,_,k,h1,h2⟩:=X6 (W5 h);have g1:=YS.mp (Qp h1);have g2:=VC.mp (Qp h2);exact⟨g1.1,g2.1,t,g1.2,g2.2⟩
theorem TQ{α β:Type}:∀{as:List α}{bs:List β}{k:Nat}{a:α}{b:β},as[k]?=some a->bs[k]?=some b->(a,b)∈as.zip bs
 |_::_,_::_,0,_,_,h1,h2=>by cases h1;cases h2;exact Qq
 |_::_,_::_,k+1,_,_,h1,h2=>List.mem_cons_of_mem _ (TQ (k:=k) (by simpa using h1) (by simpa using h2))
theorem Gy{a t:Nat}(ht:t<n)(ha:a∈mvL one other)(h:other.getD a none=some (t:Int))(hn:U7 (prL one other n) a=none):(gvL one other t).length<(tkL one other t).length:=by obtain⟨k,hk⟩:=Q7.mp (YS.mpr ⟨ha,h⟩);have l:=(Qf.mp hk).1;apply Decidable.byContradiction;intro hc;have hb:(gvL one other t)[k]?=some ((gvL one other t)[k]'(by omega)):=Qb _;exact SW hn _ (List.mem_flatMap.mpr ⟨t,QT.mpr ht,TQ hk hb⟩)
theorem SV(x:Option Int):∀(l:LO),l.count x=((Uk l.length).filter λi=>decide (l.getD i none=x)).length
 |[]=>rfl
 |o::l=>by
  rw[QA,List.range_succ_eq_map,List.filter_cons,JS,List.count_cons,SV x l];have e:((λi=>decide ((o::l).getD i none=x)) ∘ Nat.succ)=λi=>decide (l.getD i none=x):=rfl;rw[e];show _=(if decide (o=x)=true then _ else _:List Nat).length
  by_cases h:o=x
  ·rw[if_pos (by simpa using h),if_pos (decide_eq_true h),List.length_cons,List.length_map]
  ·rw[if_neg (by simpa using h),if_neg (by simpa using h),List.length_map,Nat.add_zero]
theorem SU{p q:Nat->Bool}:∀(l:List Nat),(l.filter p).length=(l.filter λi=>q i&&p i).length+(l.filter λi=>!q i&&p i).length
 |[]=>rfl
 |x::l=>by have ih:=SU (p:=p) (q:=q) l;cases hp:p x<;>cases hq:q x<;>simp[hp,hq]<;>omega
theorem Ep(hl:one.length=other.length)(t:Int):other.count (some t)+(gvL one other t).length=one.count (some t)+(tkL one other t).length:=by
 have e1:=SU (p:=λi=>decide (other.getD i none=some t)) (q:=λi=>!decide (one.getD i none=other.getD i none)) (Uk one.length);have e2:=SU (p:=λi=>decide (one.getD i none=some t)) (q:=λi=>!decide (one.getD i none=other.getD i none)) (Uk one.length);have c1:=SV (some t) other;have c2:=SV (some t) one;rw[←hl]at c1;have t1:(tkL one other t).length=((Uk one.length).filter λi=>(!decide (one.getD i none=other.getD i none))&&decide (other.getD i none=some t)).length:=by unfold tkL mvL;rw[List.filter_filter];congr 1;congr 1;funext i;exact Bool.and_comm _ _
 have t2:(gvL one other t).length=((Uk one.length).filter λi=>(!decide (one.getD i none=other.getD i none))&&decide (one.getD i none=some t)).length:=by unfold gvL mvL;rw[List.filter_filter];congr 1;congr 1;funext i;exact Bool.and_comm _ _
 have e3:((Uk one.length).filter λi=>!!decide (one.getD i none=other.getD i none)&&decide (other.getD i none=some t))=(Uk one.length).filter λi=>!!decide (one.getD i none=other.getD i none)&&decide (one.getD i none=some t):=by
  congr 1
  funext i;by_cases h:one.getD i none=other.getD i none
  ·rw[h]
  ·rw[Qu h];rfl
 rw[e3]at e1;omega
end
def fwD(p:Nat×Nat):D×D:=(.int (p.1:Nat),.int (p.2:Nat))
def ntD(l:List Nat):List D:=(l.map λi:Nat=>(i:Int)).map int
theorem Zq(l:List Nat):ntD l=l.map λi:Nat=>int (i:Int):=by unfold ntD;rw[QY];rfl
section
variable{one other:LO}
theorem Oh(hl:one.length=other.length)(h7:one.length<=7):Yg [UX one,UX other]=some (.list (ntD (mvL one other))):=by
 let S0:Option Sl:=some (.pub (UX one))
 let S1:Option Sl:=some (.pub (UX other))
 refine Ze (ρ:=[S0,S1]) rfl ?_;unfold Wy
 have hc:Kl (gT 2 (gNC (gN 2) (gNC (gN 3) (gN0)))) (Ks oNe 3 (UL 1 (UA 2))) (UA 2) (Za 0 (one.map UK)) (U2 [S0,S1]++Ul 2 none) []=some (ntD (mvL one other)):=by
  have hq:Za 0 (one.map UK)=(Uk one.length).map λi=>.tuple [.int (i:Nat),UK (one.getD i none)]:=by
   refine List.ext_getElem? λi=>?_
   by_cases hi:i<one.length
   ·rw[Qg,List.getElem?_range hi];have hx:(Za 0 (one.map UK))[i]?=some ((Za 0 (one.map UK))[i]'(by rw[YV,Qe];exact hi)):=Qb _;obtain⟨x,h1,h2⟩:=Wa hx;rw[hx,h2,Jx];rw[Qg,Qb hi]at h1;cases h1;show _=some (PyData.tuple [.int (i:Nat),UK (one.getD i none)]);rw[WZ (Qb hi)]
   ·rw[Q4 (by rw[YV,Qe];omega),Q4 (by rw[Qe,QS];omega)]
  rw[hq,YW (λd=>match d with | .tuple [.int i,_]=>!decide (one.getD i.toNat none=other.getD i.toNat none)|_=>false) (λd=>match d with | .tuple [i,_]=>i|_=>.none) (λρ=>∃x y,ρ=[S0,S1,x,y])]
  ·rw[Jl,JS,QY,Zq];rfl
  ·rintro d hm ρ ⟨x,y,rfl⟩;obtain⟨i,hi,rfl⟩:=Qt.mp hm;have hi:=QT.mp hi;have ho:other[i]?=some (other[i]'(by omega)):=Qb _;have hix:oIx (UX other) (.int ((i:Nat):Int))=some (UK (other.getD i none)):=by rw[WZ ho];exact Ku (by rw[Qg,ho];rfl)
   refine⟨_,KN rfl (Ka (UR (Qa rfl) rfl) (Ka (UR (Qa rfl) rfl) KO)),?_,λ_=>UC rfl,_,_,rfl⟩;show Ks oNe 3 (UL 1 (UA 2)) _=.ok (!decide (one.getD ((i:Nat):Int).toNat none=other.getD ((i:Nat):Int).toNat none)) _;rw[QZ];exact K6 rfl (Kf rfl (UC rfl) hix) V3
  ·exact⟨none,none,rfl⟩
  ·rw[Qe,QS,Q2];omega
 exact U3 (Kx (Yq (Vy (UI (UC rfl) UP) VD) hc)) rfl
theorem Tk(n:Nat):prL one other (n+1)=prL one other n++(tkL one other n).zip (gvL one other n):=by unfold prL;rw[List.range_succ,List.flatMap_append];show _++((tkL one other (n:Int)).zip (gvL one other (n:Int))++[])=_;rw[Q5]
theorem SZ{α β:Type}:∀(as:List α)(bs:List β),((as.zip bs).map Prod.fst).Sublist as
 |[],_=>List.nil_sublist _
 |_::_,[]=>List.nil_sublist _
 |a::as,b::bs=>(SZ as bs).cons₂ a
theorem SS:∀n:Nat,((prL one other n).map Prod.fst).Nodup
 |0=>JU
 |n+1=>by rw[Tk,QI];refine Jq.mpr ⟨SS n,(SZ _ _).nodup (VM.filter _),λa ha b hb e=>?_⟩;obtain⟨p,hp,rfl⟩:=Qt.mp ha;obtain⟨t,ht,k,h1,_⟩:=X6 hp;have g1:=(YS.mp (Qp h1)).2;have g2:=(YS.mp ((SZ _ _).subset hb)).2;rw[←e,g1]at g2;have:=Qo g2;omega
theorem LF(h7:one.length<=7)(n:Nat):(prL one other n).length<=7:=by
 have h1:=XN _ (mvL one other) (SS (one:=one) (other:=other) n) λx hx=>by obtain⟨p,hp,rfl⟩:=Qt.mp hx;obtain⟨t,ht,k,h1,_⟩:=X6 hp;exact(YS.mp (Qp h1)).1
 rw[Qe]at h1;have h2:(mvL one other).length<=one.length:=by have:=Jt (λi=>!decide (one.getD i none=other.getD i none)) (Uk one.length);rw[QS]at this;exact this
 omega
theorem LD{ps:List (Nat×Nat)}{a b:Nat}(h:a∉ps.map Prod.fst):Z4 (ps.map fwD) (.inl (a:Int)) (.int (b:Nat))=(ps++[(a,b)]).map fwD:=by
 unfold Z4;rw[QJ,QI]
 ·rfl
 ·intro hc;rw[List.any_eq_true]at hc;obtain⟨q,hq,e⟩:=hc;obtain⟨p,hp,rfl⟩:=Qt.mp hq;have e:ZB (int (p.1:Nat))=some (.inl ((a:Nat):Int)):=Qa e;have e:some (Sum.inl ((p.1:Nat):Int))=some (Sum.inl (β:=Str) ((a:Nat):Int)):=e;have e:=Sum.inl.inj (Qo e);exact h (Qt.mpr ⟨p,hp,by omega⟩)
end
section
variable{one other:LO}
theorem Pd{ws:LO}{j:Nat}{L:List Nat}{t:Int}{R:UB}(hL:L.length<=100)(hw:∀i∈L,i<ws.length)(I:UB->Prop)(h0:I R)
  (hI:∀ρ,I ρ->∀d,∃ρ1,gN 10 d ρ=some ρ1/\UA 10 ρ1=.ok d ρ1/\(∀y,oIx (UX ws) d=some y->UL j (UA 10) ρ1=.ok y ρ1)/\UA 5 ρ1=.ok (.int t) ρ1/\I (U2 ρ1)) :
  Kl (gN 10) (UG oEq (UL j (UA 10)) (UA 5)) (UA 10) (ntD L) R []=some (ntD (L.filter λi=>decide (ws.getD i none=some t))):=by
 rw[YW (λd=>match d with | .int i=>decide (ws.getD i.toNat none=some t)|_=>false) (λd=>d) I]
 ·rw[Jl,J6,Zq,Zq,JS];rfl
 ·intro d hd ρ hρ;obtain⟨ρ1,e1,e2,e3,e4,e5⟩:=hI ρ hρ d;rw[Zq]at hd;obtain⟨i,hi,rfl⟩:=Qt.mp hd;have hil:=hw i hi;have ho:ws[i]?=some ws[i]:=Qb hil;have hix:oIx (UX ws) (.int ((i:Nat):Int))=some (UK ws[i]):=Ku (by rw[Qg,ho];rfl);refine⟨ρ1,e1,?_,λ_=>e2,e5⟩;show UG oEq _ _ ρ1=.ok (decide (ws.getD ((i:Nat):Int).toNat none=some t)) ρ1;rw[QZ,WZ ho];exact UV (e3 _ hix) e4 (Vq (b:=some t))
 ·exact h0
 ·rw[Zq,Qe,Q2];omega
theorem Ck{n:Nat}(hl:one.length=other.length)(h7:one.length<=7)(hn:n<=6):Xs [.int n,UX one,UX other]=some (.dict ((prL one other n).map fwD)):=by
 let S0:Option Sl:=some (.pub (.int n))
 let S1:Option Sl:=some (.pub (UX one))
 let S2:Option Sl:=some (.pub (UX other))
 let S3:Option Sl:=some (.pub (.list (ntD (mvL one other))))
 have hm7:(mvL one other).length<=7:=by have:=Jt (λi=>!decide (one.getD i none=other.getD i none)) (Uk one.length);rw[QS]at this;exact QN this h7
 have hmw:∀i∈mvL one other,i<one.length:=λi hi=>(ZD.mp hi).1;refine Ze (ρ:=[S0,S1,S2,none,none,none,none,none,none,none]) rfl ?_;unfold Wx;refine U4 (ρ1:=[S0,S1,S2,S3,none,none,none,none,none,none]) (KB (Kg (UI (UC rfl) (UI (UC rfl) UP)) rfl (Oh hl h7)) (Qa rfl) rfl) ?_;refine U4 (ρ1:=[S0,S1,S2,S3,some (.deep .dic (.dict [])),none,none,none,none,none]) (HP UJ (Qa rfl) rfl) ?_;apply Kj;apply Zs (λk ρ=>∃x5 x6 x7 x8 x9,ρ=[S0,S1,S2,S3,some (.deep .dic (.dict ((prL one other k).map fwD))),x5,x6,x7,x8,x9])
 case h1=>exact W1 (UI (UC rfl) UP) (Vc (by omega) (by omega))
 case h0=>exact⟨_,_,_,_,_,rfl⟩
 case hst=>
  rintro k d ρ hk ⟨x5,x6,x7,x8,x9,rfl⟩;obtain⟨rfl,hkn⟩:=XQ hk;rw[Int.zero_add];refine⟨_,UR (Qa rfl) rfl,?_⟩;unfold RY
  let S4:Option Sl:=some (.deep .dic (.dict ((prL one other k).map fwD)))
  let S5:Option Sl:=some (.pub (.int (k:Nat)))
  have c1:Kl (gN 10) (UG oEq (UL 2 (UA 10)) (UA 5)) (UA 10) (ntD (mvL one other)) (U2 [S0,S1,S2,S3,S4,S5,x6,x7,x8,x9]++Ul 1 none) []=some (ntD (tkL one other k)):=
   Pd (by omega) (λi hi=>by have:=hmw i hi;omega) (λρ=>∃y4 y6 y7 y8 y9 x,ρ=[S0,S1,S2,S3,y4,S5,y6,y7,y8,y9,x]) ⟨_,_,_,_,_,none,rfl⟩ λρ ⟨y4,y6,y7,y8,y9,x,e⟩ d=>by subst e;exact⟨_,UR (Qa rfl) rfl,UC rfl,λy hy=>Kf rfl (UC rfl) hy,UC rfl,_,_,_,_,_,_,rfl⟩
  let S6:Option Sl:=some (.own (ntD (tkL one other k)))
  refine U4 (ρ1:=[S0,S1,S2,S3,S4,S5,S6,x7,x8,x9]) (Zb (Yq (Zr (UC rfl) ZW) c1) (Qa rfl) rfl) ?_
  have c2:Kl (gN 10) (UG oEq (UL 1 (UA 10)) (UA 5)) (UA 10) (ntD (mvL one other)) (U2 [S0,S1,S2,S3,S4,S5,S6,x7,x8,x9]++Ul 1 none) []=some (ntD (gvL one other k)):=
   Pd (by omega) hmw (λρ=>∃y4 y6 y7 y8 y9 x,ρ=[S0,S1,S2,S3,y4,S5,y6,y7,y8,y9,x]) ⟨_,_,_,_,_,none,rfl⟩ λρ ⟨y4,y6,y7,y8,y9,x,e⟩ d=>by subst e;exact⟨_,UR (Qa rfl) rfl,UC rfl,λy hy=>Kf rfl (UC rfl) hy,UC rfl,_,_,_,_,_,_,rfl⟩
  let S7:Option Sl:=some (.own (ntD (gvL one other k)))
  refine U4 (ρ1:=[S0,S1,S2,S3,S4,S5,S6,S7,x8,x9]) (Zb (Yq (Zr (UC rfl) ZW) c2) (Qa rfl) rfl) ?_
  let Z:=(tkL one other k).zip (gvL one other k)
  have hz:Zd (ntD (tkL one other k)) (ntD (gvL one other k))=Z.map λp:Nat×Nat=>PyData.tuple [.int (p.1:Nat),.int (p.2:Nat)]:=by unfold ntD;rw[E7,List.zip_map,QY];rfl
  have hfew:=LF (other:=other) h7 (k+1);rw[Tk,Qk]at hfew;have hfew:(prL one other k).length+Z.length<=7:=hfew;have hnd:=SS (one:=one) (other:=other) (k+1);rw[Tk,QI]at hnd;apply Zs (λm ρ=>∃y6 y7 x8 x9,ρ=[S0,S1,S2,S3,some (.deep .dic (.dict ((prL one other k++Z.take m).map fwD))),S5,y6,y7,x8,x9])
  case h1=>exact M4 (UI (ZY rfl rfl) (UI (ZY rfl rfl) UP)) (show Z6 [.list (ntD (tkL one other k)),.list (ntD (gvL one other k))]=_ from JG some hz)
  case h0=>exact⟨_,_,_,_,by rw[JM,Q5];rfl⟩
  case hst=>
   rintro m d ρ hm ⟨y6,y7,x8,x9,rfl⟩;rw[Qg]at hm;cases hp:Z[m]? with
   |none=>rw[hp]at hm;cases hm
   |some p=>
   rw[hp]at hm;cases hm;have hml:m<Z.length:=(Qf.mp hp).1;have hta:Z.take (m+1)=Z.take m++[p]:=by rw[J7,hp];rfl
   have hnot:p.1∉(prL one other k++Z.take m).map Prod.fst:=λhc=>by
    have hs:((prL one other k++Z.take m)++[p]).Sublist (prL one other k++Z):=by rw[Jp,←hta];exact(List.Sublist.refl _).append (List.take_sublist _ _)
    have h1:=(hs.map Prod.fst).nodup (by rw[QI];exact hnd);rw[QI]at h1;exact(List.nodup_append.mp h1).2.2 _ hc _ (by simp) rfl
   refine⟨_,KN rfl (Ka (UR (Qa rfl) rfl) (Ka (UR (Qa rfl) rfl) KO)),?_⟩;unfold RZ;refine ZX (MW (k:=.inl ((p.1:Nat):Int)) (UC rfl) rfl (UC rfl) rfl rfl (by rw[Qe,Qk,Jg];omega) rfl) (K7 ⟨y6,y7,pb (.int (p.1:Nat)),pb (.int (p.2:Nat)),?_⟩);rw[LD hnot,hta,Jp];rfl
  case hend=>rintro ρ ⟨y6,y7,y8,y9,rfl⟩;rw[Qe,JP,←Tk];exact K7 ⟨_,_,_,_,_,rfl⟩
 case hend=>rintro ρ ⟨x5,x6,x7,x8,x9,rfl⟩;rw[Yu,Int.sub_zero,QZ];exact Ko (U3 (Gr rfl rfl) rfl)
def fnD:Option Nat->D
 |none=>.none
 |some c=>.int (c:Nat)
def tkA(other:LO)(a:Nat):D:=UN (a,other.getD a none)
theorem Pc{ps:List (Nat×Nat)}(a:Nat):Xd (.dict (ps.map fwD)) (.int ((a:Nat):Int))=some (fnD (U7 ps a)):=by
 show some ((((ps.map fwD).find? λp=>decide (ZB p.1=some (.inl ((a:Nat):Int)))).map (·.2)).getD .none)=_
 congr 1
 unfold U7;rw[List.find?_map]
 have e:((λp:D×D=>decide (ZB p.1=some (.inl ((a:Nat):Int)))) ∘ fwD)=λp:Nat×Nat=>decide (p.1=a):=by
  funext p;show decide (some (Sum.inl (β:=Str) ((p.1:Nat):Int))=some (Sum.inl ((a:Nat):Int)))=decide (p.1=a);by_cases h:p.1=a
  ·rw[h,QL rfl,QL rfl]
  ·rw[Qu h,Qu (λz=>h (by have:=Sum.inl.inj (Qo z);omega))]
 rw[e];cases ps.find? λp=>decide (p.1=a)<;>rfl
theorem Og{ps:List (Nat×Nat)}:V0 (.dict (ps.map fwD))=true:=by
 show(ps.map fwD).all (λkv=>TC kv.1)=true
 rw[J5,Jc];exact λ_ _=>rfl
theorem Eo{f:Nat->Option Nat}{b c l:Nat}{A:List Nat}(w:Xy f b A)(hl:A.getLast?=some l)(h:f l=some c)(hc:c≠b):Xy f b (A++[c]):=by
 have hne:A≠[]:=λe=>by rw[e]at hl;cases hl
 have hpos:0<A.length:=JY.mpr hne;refine⟨by rw[List.head?_append,w.hd];rfl,λk x y h1 h2=>?_,λk x h1=>?_⟩
 ·have l2:=(Qf.mp h2).1;rw[Qk,Q0]at l2;rw[Qn (by omega)]at h1;by_cases e:k+1<A.length
  ·rw[Qn e]at h2;exact w.st k x y h1 h2
  ·have ek:k+1=A.length:=by omega
   rw[Qs (by omega),ek,Nat.sub_self]at h2;cases h2;have:A[k]?=some l:=by rw[←hl,JE];congr 1;omega
   rw[h1]at this;rw[Qo this];exact h
 ·by_cases e:k+1<A.length
  ·rw[Qn e]at h1;exact w.ne k x h1
  ·have l1:=(Qf.mp h1).1;rw[Qk,Q0]at l1;rw[Qs (by omega)]at h1;have:k+1-A.length=0:=by omega
   rw[this]at h1;cases h1;exact hc
theorem Gx{n b:Nat}(hl:one.length=other.length)(h7:one.length<=7):∀(k fuel:Nat)(A:List Nat)(l:Nat),Xy (U7 (prL one other n)) b A->(∀a∈A,a<one.length)->A.getLast?=some l->A.length+k=8->k<fuel ->
  ∃A' l',YQ (K1 (UM (λd=>!isNon d) (UA 4)) (Ks oNe 4 (UA 0))) Vw fuel [pb (.int (b:Nat)),pb (.dict ((prL one other n).map fwD)),pb (UX other),some (.own (A.map (tkA other))),pb (fnD (U7 (prL one other n) l))]=.nx [pb (.int (b:Nat)),pb (.dict ((prL one other n).map fwD)),pb (UX other),some (.own (A'.map (tkA other))),pb (fnD (U7 (prL one other n) l'))]/\EndF (U7 (prL one other n)) b A'/\∀a∈A',a<one.length:=by
 intro k;induction k with
 |zero=>
  intro fuel A l w hA hl2 hk _;have:=XN A (Uk one.length) (VH VA w) λx hx=>QT.mpr (hA x hx)
  rw[QS]at this;omega
 |succ k ih=>
  intro fuel A l w hA hlast hk hf;obtain⟨fuel,rfl⟩:∃m,fuel=m+1:=⟨fuel-1,by omega⟩
  let f:=U7 (prL one other n)
  let S0:Option Sl:=some (.pub (.int (b:Nat)))
  let S1:Option Sl:=some (.pub (.dict ((prL one other n).map fwD)))
  let S2:Option Sl:=some (.pub (UX other))
  let S3:Option Sl:=some (.own (A.map (tkA other)))
  have tst:∀(t:Bool),((f l=none∨f l=some b)/\t=false)∨((∃c,f l=some c/\c≠b)/\t=true)->K1 (UM (λd=>!isNon d) (UA 4)) (Ks oNe 4 (UA 0)) [S0,S1,S2,S3,pb (fnD (f l))]=.ok t [S0,S1,S2,S3,pb (fnD (f l))]:=λt h=>by
   refine Pk (t:=!isNon (fnD (f l))) (VZ (UC rfl) rfl) (λz=>?_) λz=>?_
   ·cases e:f l with
    |none=>rw[e]at z;cases z
    |some c=>
     refine K6 (d:=fnD (some c)) rfl (UC rfl) ?_;show oNe (.int ((c:Nat):Int)) (.int ((b:Nat):Int))=some t;rw[Yp];rcases h with ⟨h|h,rfl⟩|⟨⟨c',h,hc⟩,rfl⟩
     ·rw[h]at e;cases e
     ·rw[h]at e;cases e;rw[QL rfl];rfl
     ·rw[h]at e;cases e;rw[Qu (by omega)];rfl
   ·rcases h with ⟨_,rfl⟩|⟨⟨c',h,hc⟩,rfl⟩
    ·rfl
    ·rw[h]at z;cases z
  by_cases hend:f l=none∨f l=some b
  ·refine⟨A,l,?_,⟨w,λl' hl'=>?_⟩,hA⟩
   ·rw[YQ,tst false (.inl ⟨hend,rfl⟩)];rfl
   ·rw[hlast]at hl';cases hl';exact hend
  ·rw[not_or]at hend
   obtain⟨c,hc⟩:∃c,f l=some c:=by
    cases e:f l with
    |none=>exact absurd e hend.1
    |some c=>exact⟨c,rfl⟩
   have hcb:c≠b:=λe=>hend.2 (by rw[hc,e])
   have hcl:c<one.length:=(ZD.mp (Vp hc).2.1).1;have ho:other[c]?=some (other[c]'(by omega)):=Qb _;have hix:oIx (UX other) (.int ((c:Nat):Int))=some (UK (other.getD c none)):=by rw[WZ ho];exact Ku (by rw[Qg,ho];rfl)
   have hlen:A.length<=8:=by omega
   have hst:Vw [S0,S1,S2,S3,pb (.int (c:Nat))]=.nx [S0,S1,S2,some (.own ((A++[c]).map (tkA other))),pb (fnD (f c))]:=by
    have:Ho Vw [S0,S1,S2,S3,pb (.int (c:Nat))] λo=>o=.nx [S0,S1,S2,some (.own ((A++[c]).map (tkA other))),pb (fnD (f c))]:=by unfold Vw;refine U4 (ρ1:=[S0,S1,S2,some (.own ((A++[c]).map (tkA other))),pb (.int (c:Nat))]) (YT rfl (T2 (UI (UC rfl) (UI (Kf rfl (UC rfl) hix) UP)) (Qa rfl)) rfl (by rw[Qe];omega) (by rw[QI];rfl)) ?_;exact ZX (KB (RQ (UC rfl) Og (UI (UC rfl) UP) (Pc c)) (Qa rfl) rfl) rfl
    exact this.out
   obtain⟨A',l',h1,h2,h3⟩:=ih fuel (A++[c]) c (Eo w hlast hc hcb) (λa ha=>(List.mem_append.mp ha).elim (hA a) λh=>by cases List.mem_singleton.mp h;exact hcl) (by simp) (by rw[List.length_append,List.length_singleton];omega) (by omega);refine⟨A',l',?_,h2,h3⟩;rw[YQ,tst true (.inr ⟨⟨c,hc,hcb⟩,rfl⟩)];dsimp only;rw[Qr rfl];have e4:fnD (f l)=.int (c:Nat):=by rw[hc];rfl
   rw[e4,hst];exact h1
theorem CD{n b:Nat}(hl:one.length=other.length)(h7:one.length<=7)(hb:b<one.length):∃r,Xr [.int (b:Nat),.dict ((prL one other n).map fwD),UX other]=some r/\∃A,r=.list (A.map (tkA other))/\EndF (U7 (prL one other n)) b A/\∀a∈A,a<one.length:=by
 let S0:Option Sl:=some (.pub (.int (b:Nat)))
 let S1:Option Sl:=some (.pub (.dict ((prL one other n).map fwD)))
 let S2:Option Sl:=some (.pub (UX other))
 have ho:other[b]?=some (other[b]'(by omega)):=Qb _;have hix:oIx (UX other) (.int ((b:Nat):Int))=some (UK (other.getD b none)):=by rw[WZ ho];exact Ku (by rw[Qg,ho];rfl)
 refine YR (ρ:=[S0,S1,S2,none,none]) rfl ?_;unfold Ww;refine U4 (ρ1:=[S0,S1,S2,some (.own ([b].map (tkA other))),none]) (Zb (Y6 (UI (T2 (UI (UC rfl) (UI (Kf rfl (UC rfl) hix) UP)) (Qa rfl)) UP) (Qa rfl)) (Qa rfl) rfl) ?_;refine U4 (ρ1:=[S0,S1,S2,some (.own ([b].map (tkA other))),pb (fnD (U7 (prL one other n) b))]) (KB (RQ (UC rfl) Og (UI (UC rfl) UP) (Pc b)) (Qa rfl) rfl) ?_;obtain⟨A',l',h1,h2,h3⟩:=Gx (n:=n) (b:=b) hl h7 7 1000 [b] b ⟨rfl,(λk x y _ h=>by cases h),λk x h=>by cases h⟩ (λa ha=>by cases QK.mp ha;exact hb) rfl rfl (by decide);refine U4 h1 ?_;exact U3 (ZY rfl rfl) ⟨_,rfl,A',rfl,h2,h3⟩
end
section
variable{cs:List Int}{ls:L3}{one other:LO}
theorem WY(l:List Nat):(ntD l).length=l.length:=by rw[Zq,Qe]
theorem Sr{b:Nat}{M:List Nat}:oIn (.int ((b:Nat):Int)) (.list (ntD M))=some (M.contains b):=by
 unfold ntD;rw[Ta]
 congr 1
 rw[J0,JB,JB];constructor
 ·intro h;obtain⟨i,hi,e⟩:=Qt.mp h;have e:i=b:=by omega
  exact e ▸ hi
 ·exact λh=>Qt.mpr ⟨b,h,rfl⟩
theorem LC{ps:List (Nat×Nat)}:YY (.dict (ps.map fwD))=some (ntD (ps.map Prod.snd)):=by unfold YY;dsimp only;rw[Qr (by rw[J5,Jc];exact λ_ _=>rfl),Zq,QY,QY];rfl
theorem LB{n u:Nat}(h:u∈(prL one other n).map Prod.snd):∃c,U7 (prL one other n) c=some u:=by
 obtain⟨p,hp,rfl⟩:=Qt.mp h;refine⟨p.1,?_⟩;cases e:U7 (prL one other n) p.1 with
 |none=>exact absurd hp (SW e p.2)
 |some v=>have:=Pe (W5 e) hp rfl;exact JG some (JG Prod.snd this)
def wyD(other:LO)(A:List Nat):D:=.list (A.map (tkA other))
structure VN(f:Nat->Option Nat)(D:List Nat)(As:List (List Nat)):Prop where
 met:MetF f As.flatten
 sub:∀a∈As.flatten,a∈D
 each:∀A∈As,∃b,EndF f b A
theorem CY(g:Good cs ls)(hl:one.length=other.length)(h7:one.length<=7):∃r,Xq [Kr cs ls,UX one,UX other]=some r/\∃As,r=.list (As.map (wyD other))/\VN (U7 (prL one other cs.length)) (mvL one other) As/\∀u∈mvL one other,u∈As.flatten:=by
 have c6:=g.c6
 let n:=cs.length
 let f:=U7 (prL one other n)
 let mv:=mvL one other
 let led:=(prL one other n).map Prod.snd
 have hmv7:mv.length<=7:=by have:=Jt (λi=>!decide (one.getD i none=other.getD i none)) (Uk one.length);rw[QS]at this;exact QN this h7
 let S0:Option Sl:=some (.pub (Kr cs ls))
 let S1:Option Sl:=some (.pub (UX one))
 let S2:Option Sl:=some (.pub (UX other))
 let S3:Option Sl:=some (.pub (.dict ((prL one other n).map fwD)))
 let S4:Option Sl:=some (.own (ntD led))
 let S5:Option Sl:=some (.pub (.list (ntD mv)))
 have hlc:U5 [.list (cs.map int)]=some (.int cs.length):=by rw[Zf,Qe]
 refine YR (ρ:=[S0,S1,S2,none,none,none,none,none,none,none,none]) rfl ?_;unfold Wv;refine U4 (ρ1:=[S0,S1,S2,none,none,none,none,none,none,none,none]) (Tc (Kg (UI (UC rfl) UP) rfl (Ov g))) ?_;refine U4 (ρ1:=[S0,S1,S2,S3,none,none,none,none,none,none,none]) (KB (Kg (UI (Yr (UI (Kf rfl UJ Ve) UP) hlc) (UI (UC rfl) (UI (UC rfl) UP))) rfl (Ck hl h7 c6)) (Qa rfl) rfl) ?_;refine U4 (ρ1:=[S0,S1,S2,S3,S4,none,none,none,none,none,none]) (Zb (Dd (UC rfl) LC) (Qa rfl) rfl) ?_;refine U4 (ρ1:=[S0,S1,S2,S3,S4,S5,none,none,none,none,none]) (KB (Kg (UI (UC rfl) (UI (UC rfl) UP)) rfl (Oh hl h7)) (Qa rfl) rfl) ?_
 let P1:=mv.filter λi=>!led.contains i
 let P2:=mv.filter λi=>led.contains i
 have cc:∀(q:Bool->Bool)(op:D->D->Option Bool),(∀b:Nat,op (.int (b:Nat)) (.list (ntD led))=some (q (led.contains b)))->Kl (gN 11) (Ks op 11 (UA 4)) (UA 11) (ntD mv) (K2 [S0,S1,S2,S3,S4,S5,none,none,none,none,none]++Ul 1 none) []=some (ntD (mv.filter λi=>q (led.contains i))):=λq op hop=>by
  rw[YW (λd=>match d with | .int i=>q (led.contains i.toNat)|_=>false) (λd=>d) (λρ=>∃x,ρ=[S0,S1,S2,S3,pb (.list (ntD led)),S5,none,none,none,none,none,x])]
  ·rw[Jl,J6,Zq,Zq,JS];rfl
  ·rintro d hd ρ ⟨x,rfl⟩;rw[Zq]at hd;obtain⟨i,hi,rfl⟩:=Qt.mp hd;refine⟨_,UR (Qa rfl) rfl,?_,λ_=>UC rfl,_,rfl⟩;show Ks op 11 (UA 4) _=.ok (q (led.contains ((i:Nat):Int).toNat)) _;rw[QZ];exact K6 rfl (UC rfl) (hop i)
  ·exact⟨none,rfl⟩
  ·rw[WY,Q2];omega
 have c1:=cc (λb=>!b) Zi (λb=>by unfold Zi;rw[Sr];rfl);have c2:=cc (λb=>b) oIn (λb=>Sr);have hP1:P1.length<=7:=QN (Jt _ _) hmv7;have hP2:P2.length<=7:=QN (Jt _ _) hmv7;have fl:∀l:List Nat,(ntD l).all flat=true:=λl=>by rw[Zq,J5,Jc];exact λ_ _=>rfl
 let S6:Option Sl:=some (.pub (.list (ntD (P1++P2))))
 refine U4 (ρ1:=[S0,S1,S2,S3,S4,S5,S6,none,none,none,none]) (KB (UV (Kx (Tl (Zr (UC rfl) ZW) c1 (fl P1))) (Kx (Tl (Zr (UC rfl) ZW) c2 (fl P2))) (show U1 (.list (ntD P1)) (.list (ntD P2))=some (.list (ntD (P1++P2)))by rw[VE (by rw[WY,WY];omega),Zq,Zq,Zq,QI])) (Qa rfl) rfl) ?_;refine U4 (Zb (Y6 UP (Qa rfl)) (Qa rfl) rfl) ?_;refine U4 (Zb (Y6 UP (Qa rfl)) (Qa rfl) rfl) ?_;have hPm:∀b∈P1++P2,b∈mv:=λb hb=>(QM.mp hb).elim (λh=>(Jk.mp h).1) λh=>(Jk.mp h).1;apply Kj;apply Zs (λk ρ=>∃(As:List (List Nat))(x9 x10:Option Sl),ρ=[S0,S1,S2,S3,S4,S5,S6,some (.own (As.map (wyD other))),some (.own (ntD As.flatten)),x9,x10]/\VN f mv As/\As.length<=k/\∀b∈(P1++P2).take k,b∈As.flatten)
 case h1=>exact Zr (UC rfl) ZW
 case h0=>exact⟨[],none,none,rfl,⟨GA,(λ_ h=>by cases h),λ_ h=>by cases h⟩,Qm _,λ_ h=>by rw[JM]at h;cases h⟩
 case hst=>
  rintro k d ρ hk ⟨As,x9,x10,rfl,hp,hAl,hin⟩;rw[Zq,Qg]at hk;cases hb:(P1++P2)[k]? with
  |none=>rw[hb]at hk;cases hk
  |some b=>
  rw[hb]at hk;cases hk;have hkl:k<(P1++P2).length:=(Qf.mp hb).1;have hkl':k<14:=by rw[Qk]at hkl;omega
  have hbm:b∈mv:=hPm b (Qp hb);have hta:(P1++P2).take (k+1)=(P1++P2).take k++[b]:=by rw[J7,hb];rfl
  refine⟨_,UR (Qa rfl) rfl,?_⟩;unfold RX
  let M:=As.flatten
  let S7:Option Sl:=some (.own (As.map (wyD other)))
  let S8:Option Sl:=some (.own (ntD M))
  let S9:Option Sl:=some (.pub (.int (b:Nat)))
  refine Kb (b:=!M.contains b) (ρ1:=[S0,S1,S2,S3,S4,S5,S6,S7,S8,S9,x10]) (Sy (UC rfl) rfl (by unfold Zi;rw[Sr];rfl)) (λz=>?_) λz=>Kv (K7 ⟨As,_,_,rfl,hp,by omega,λc hc=>?_⟩)
  ·have hbM:b∉M:=λh=>by rw[JB.mpr h]at z;cases z
   obtain⟨r,hw,A,rfl,hE,hAr⟩:=CD (n:=n) (b:=b) hl h7 (ZD.mp hbm).1
   let S10:Option Sl:=some (.pub (wyD other A))
   refine U4 (ρ1:=[S0,S1,S2,S3,S4,S5,S6,S7,S8,S9,S10]) (KB (Kg (UI (UC rfl) (UI (UC rfl) (UI (UC rfl) UP))) rfl hw) (Qa rfl) rfl) ?_;have hAn:=VH VA hE.wk
   have hA7:A.length<=7:=by
    have:=XN A (Uk one.length) hAn λx hx=>QT.mpr (hAr x hx)
    rw[QS]at this;omega
   have hAm:∀a∈A,a∈mv:=λa ha=>by
    obtain⟨j,hj⟩:=Q7.mp ha;cases j with
    |zero=>have:=hE.wk.hd;rw[JR,hj]at this;rw[Qo this];exact hbm
    |succ j=>have l:=(Qf.mp hj).1;exact(Vp (hE.wk.st j _ _ (Qb (by omega)) hj)).2.1
   have hc:Kl (gT 2 (gNC (gN 11) (gNC (gN 12) (gN0)))) (UE true) (UA 11) (A.map (tkA other)) (U2 [S0,S1,S2,S3,S4,S5,S6,S7,S8,S9,S10]++Ul 2 none) []=some (ntD A):=by
    refine VJ (λρ=>∃x y,ρ=[S0,S1,S2,S3,none,S5,S6,none,none,S9,S10,x,y]) _ _ _ _ (by rw[Qe,Qe,Qe]) ?_ ⟨none,none,rfl⟩ (by rw[Qe,Q2];omega);rintro j y e hj he ρ ⟨x,y',rfl⟩;rw[Qg]at hj;rw[Qg,Qg]at he;cases hq:A[j]? with
    |none=>rw[hq]at hj;cases hj
    |some a=>
    rw[hq]at hj he;cases hj;cases he;exact⟨_,KN rfl (Ka (UR (Qa rfl) rfl) (Ka (UR (Qa rfl) rfl) KO)),rfl,UC rfl,_,_,rfl⟩
   have hMl:M.length<=7:=QN (XN M mv hp.met.nd hp.sub) hmv7;refine U4 (ρ1:=[S0,S1,S2,S3,S4,S5,S6,S7,some (.own (ntD (M++A))),S9,S10]) (Gm rfl (Yq (Zr (UC rfl) ZW) hc) rfl (by rw[WY,WY];omega) (by rw[Zq,Zq,Zq,QI];rfl)) ?_
   have hcyc:(∀c,f c≠some b) ∨ ∀l,A.getLast?=some l->f l=some b:=by
    by_cases hbl:b∈led
    ·right;intro l hl2
     have hk1:P1.length<=k:=by apply Decidable.byContradiction;intro hc;rw[Qn (by omega)]at hb;have:=(Jk.mp (Qp hb)).2;rw[JB.mpr hbl]at this;cases this
     have hon:=LH VM (λa c h=>(Vp h).1) hp.met (λu hu hun=>by
      by_cases hul:u∈led
      ·exact LB hul
      ·refine absurd (hin u ?_) hun;have hu1:u∈P1:=List.mem_filter.mpr ⟨hu,by simpa using hul⟩;obtain⟨j,hj⟩:=Q7.mp hu1;have jl:=(Qf.mp hj).1;exact List.mem_iff_getElem?.mpr ⟨j,by rw[JJ (by omega),Qn jl];exact hj⟩)
     have hlA:l∈A:=JI hl2;rcases hE.fin l hl2 with e|e
     ·exact absurd e (hon l (hAm l hlA) (Oq hp.met.si hE.wk hbM l hlA))
     ·exact e
    ·left;intro c hc;exact hbl (Qt.mpr ⟨(c,b),W5 hc,rfl⟩)
   refine ZX (YT rfl (UC rfl) rfl (by rw[Qe];omega) rfl) (K7 ⟨As++[A],S9,S10,?_,⟨?_,λa ha=>?_,λB hB=>?_⟩,?_,λc hc=>?_⟩)
   ·rw[QI,Jr];show _=[S0,S1,S2,S3,S4,S5,S6,some (Sl.own (As.map (wyD other)++[wyD other A])),some (Sl.own (ntD (M++(A++[])))),S9,S10];rw[Q5];rfl
   ·rw[Jr];show MetF f (M++(A++[]));rw[Q5];exact Gz VA hp.met hbM hE hcyc
   ·rw[Jr]at ha;rcases QM.mp ha with h|h
    ·exact hp.sub a h
    ·exact hAm a (by simpa using h)
   ·rcases QM.mp hB with h|h
    ·exact hp.each B h
    ·cases QK.mp h;exact⟨b,hE⟩
   ·rw[Qk,Q0];omega
   ·rw[Jr];rw[hta]at hc;rcases QM.mp hc with h|h
    ·exact Je _ (hin c h)
    ·cases QK.mp h;refine Qw _ ?_;have:b∈A:=List.mem_of_mem_head? (by rw[hE.wk.hd];rfl);simpa using this
  ·rw[JA]at z;rw[hta]at hc;rcases QM.mp hc with h|h
   ·exact hin c h
   ·cases QK.mp h;exact List.contains_iff_mem.mp z
 case hend=>
  rintro ρ ⟨As,x9,x10,rfl,hp,_,hin⟩;refine Ko (U3 (ZY rfl rfl) ⟨_,rfl,As,rfl,hp,λu hu=>hin u ?_⟩);rw[WY,JP];by_cases hul:led.contains u=true
  ·exact Qw _ (List.mem_filter.mpr ⟨hu,hul⟩)
  ·exact List.mem_append_left _ (List.mem_filter.mpr ⟨hu,by simpa using hul⟩)
end
def wyL(other:LO)(A:List Nat):List (Nat×Option Int):=A.map λa=>(a,other.getD a none)
theorem V9{other:LO}(A:List Nat):(wyL other A).map Prod.fst=A:=by unfold wyL;rw[QY];exact J6 A
section
variable{cs:List Int}{ls:L3}{one other:LO}{old:Option LO}{ts:List Int}
theorem X5{ws:LO}{a:Nat}(h:a<ws.length):ws[a]?=some (ws.getD a none):=by rw[QC,Qb h];rfl
theorem MK(A:List Nat):wyD other A=.list ((wyL other A).map UN):=by unfold wyD wyL;rw[QY];rfl
end
section
variable{cs:List Int}{ls:L3}{one other here:LO}
theorem MJ{n a b:Nat}(h:(a,b)∈prL one other n):U7 (prL one other n) a=some b:=by
 cases e:U7 (prL one other n) a with
 |none=>exact absurd h (SW e b)
 |some c=>exact JG some (JG Prod.snd (Pe (W5 e) h rfl))
theorem En{n t y:Nat}(ht:t<n)(hlt:(gvL one other t).length<(tkL one other t).length)(hy:y∈gvL one other t):∃x∈tkL one other t,U7 (prL one other n) x=some y:=by obtain⟨k,hk⟩:=Q7.mp hy;have hkl:=(Qf.mp hk).1;have hx:(tkL one other t)[k]?=some (tkL one other t)[k]:=Qb (by omega);refine⟨_,Qp hx,MJ ?_⟩;unfold prL;exact List.mem_flatMap.mpr ⟨t,QT.mpr ht,TQ hx hk⟩
structure Vo(one other here:LO)(M:List Nat):Prop where
 len:here.length=one.length
 inn:∀i∈M,here.getD i none=other.getD i none
 out:∀i,i∉M->here.getD i none=one.getD i none
theorem Em{qs:LP}{m:Nat}{M:List Nat}(hp:Rn cs.length m qs)(d1:YX cs qs m one)(d2:YX cs qs m other)(hM:∀c∈M,∀d,U7 (prL one other cs.length) c=some d->d∈M)(hh:Vo one other here M){A:List Nat}{b:Nat}(hE:EndF (U7 (prL one other cs.length)) b A)(hA:∀a∈A,a∈mvL one other)(hd:∀a∈A,a∉M):WayQ cs qs here (wyL other A) where
 ne:=λe=>by have:=hE.wk.hd;rw[List.map_eq_nil_iff.mp e]at this;cases this
 mv:=λp h=>by
  obtain⟨a,ha,rfl⟩:=Qt.mp h;have hm:=ZD.mp (hA a ha);have hl:=hh.len;refine⟨_,X5 (by show a<here.length;omega),λe=>hm.2 ?_,λt ht=>d2.wish a t ?_⟩
  ·rw[←hh.out a (hd a ha)];exact e.symm
  ·have:=X5 (ws:=other) (a:=a) (by have:=d1.len;have:=d2.len;omega);rw[this];exact JG some ht
 nd:=by rw[V9];exact VH VA hE.wk
 lnk:=λk p q h1 h2=>by
  unfold wyL at h1 h2;rw[Qg]at h1 h2;cases e1:A[k]? with
  |none=>rw[e1]at h1;cases h1
  |some x=>
  cases e2:A[k+1]? with
  |none=>rw[e2]at h2;cases h2
  |some y=>
  rw[e1]at h1;rw[e2]at h2;cases h1;cases h2;obtain⟨_,hy,t,h1,h2⟩:=Vp (hE.wk.st k x y e1 e2);have hl:=hh.len;have hyl:=(ZD.mp hy).1;refine⟨?_,?_⟩
  ·show other.getD x none≠none;rw[h1];exact λz=>by cases z
  ·show here[y]?=some (other.getD x none);rw[X5 (ws:=here) (by omega),hh.out y (hd y (Qp e2)),h1,h2]
 fin:=λp q h1 h2=>by
  unfold wyL at h1 h2;rw[List.head?_map,hE.wk.hd]at h1;cases h1;rw[List.getLast?_map]at h2;cases e:A.getLast? with
  |none=>rw[e]at h2;cases h2
  |some l=>
  rw[e]at h2;cases h2;have hlA:=JI e;have hl:=hA l hlA;have hlen:=hh.len;have hl1:=(ZD.mp hl).1;rcases hE.fin l e with h|h
  ·cases e3:other.getD l none with
   |none=>exact .inl e3
   |some t=>
    have hlo:l<other.length:=by have:=d1.len;have:=d2.len;omega
    have hq:=hp.lo _ (d2.wish l t (by rw[X5 hlo,e3]));have h3:0<=t:=hq.2.2.1;have h4:t<cs.length:=hq.2.2.2;obtain⟨n,rfl⟩:∃n:Nat,t=n:=⟨t.toNat,by omega⟩
    have hn:n<cs.length:=by omega
    have h5:=Gy hn hl e3 h;have hlU:l∈tkL here other n:=YS.mpr ⟨ZD.mpr ⟨by omega,by rw[hh.out l (hd l hlA)];exact(ZD.mp hl).2⟩,e3⟩;have h8:=Ss (f:=U7 (prL one other cs.length)) hlU h
    have h9:(gvL here other n).length<=((tkL here other n).filterMap (U7 (prL one other cs.length))).length:=by
     refine XN _ _ (VM.filter _) λy hy=>?_
     obtain⟨hy1,hy2⟩:=VC.mp hy;obtain⟨hy3,hy4⟩:=ZD.mp hy1;have hyM:y∉M:=λhm=>hy4 (hh.inn y hm);rw[hh.out y hyM]at hy2 hy4
     obtain⟨x,hx,hf⟩:=En hn h5 (VC.mpr ⟨ZD.mpr ⟨by omega,hy4⟩,hy2⟩);have hxM:x∉M:=λhm=>hyM (hM x hm y hf)
     obtain⟨hx1,hx2⟩:=YS.mp hx;obtain⟨hx3,hx4⟩:=ZD.mp hx1;exact List.mem_filterMap.mpr ⟨x,YS.mpr ⟨ZD.mpr ⟨by omega,by rw[hh.out x hxM];exact hx4⟩,hx2⟩,hf⟩
    have h6:=Ep (one:=here) (other:=other) (by rw[hlen,d1.len,d2.len]) (n:Int);have h7:=d2.cop n _ (Qb hn);exact .inr (.inr ⟨n,e3,_,Qb hn,by omega⟩)
  ·obtain⟨_,hb,t,h1,h2⟩:=Vp h;refine .inr (.inl ?_);have hbA:b∈A:=List.mem_of_mem_head? (by rw[hE.wk.hd];rfl);have:=(ZD.mp hb).1;show here[b]?=some (other.getD l none);rw[X5 (ws:=here) (by omega),hh.out b (hd b hbA),h1,h2]
theorem El{M A:List Nat}(hh:Vo one other here M)(hn:A.Nodup)(hA:∀a∈A,a<one.length):Vo one other (Yj (wyL other A) here) (M++A) where
 len:=by rw[SX];exact hh.len
 inn:=λi hi=>by
  by_cases ha:i∈A
  ·have:=Sv (wyL other A) here (by rw[V9];exact hn) (i,other.getD i none) (Qt.mpr ⟨i,ha,rfl⟩) (by have:=hA i ha;have:=hh.len;show i<here.length;omega);rw[QC]
   show((Yj (wyL other A) here)[i]?).getD none=_
   rw[this];rfl
  ·rw[QC,VI (wyL other A) here (by rw[V9];exact ha),←QC];exact hh.inn i ((QM.mp hi).resolve_right ha)
 out:=λi hi=>by
  have h1:i∉M:=λh=>hi (Je _ h);have h2:i∉A:=λh=>hi (Qw _ h);rw[QC,VI (wyL other A) here (by rw[V9];exact h2),←QC]
  exact hh.out i h1
theorem Dl{M:List Nat}(hl:one.length=other.length)(hh:Vo one other here M)(hM:∀i∈mvL one other,i∈M):here=other:=by
 apply List.ext_getElem?;intro i;have:=hh.len;by_cases hi:i<here.length
 ·rw[X5 hi,X5 (ws:=other) (by omega)];by_cases hm:i∈M
  ·rw[hh.inn i hm]
  ·rw[hh.out i hm];have:one.getD i none=other.getD i none:=Decidable.byContradiction λc=>hm (hM i (ZD.mpr ⟨by omega,c⟩))
   rw[this]
 ·rw[Q4 (by omega),Q4 (by omega)]
theorem Gw{f:Nat->Option Nat}{As:List (List Nat)}(hq:VN f (mvL one other) As)(h7:one.length<=7):As.length<=7:=by
 have key:∀(B:List (List Nat)),(∀A∈B,A≠[])->B.length<=B.flatten.length:=by
  intro B;induction B with
  |nil=>intro _;exact Qm _
  |cons A B ih=>intro h;have h1:=ih λX hX=>h X (QF _ hX);have h2:=JY.mpr (h A Qq);rw[QO,Qk,QA];omega
 have h1:=key As λA hA e=>by obtain⟨b,hE⟩:=hq.each A hA;have:=hE.wk.hd;rw[e]at this;cases this
 have h2:=XN As.flatten (Uk one.length) hq.met.nd λa ha=>QT.mpr (ZD.mp (hq.sub a ha)).1;rw[QS]at h2;omega
end
section
variable{cs:List Int}{ls:L3}{one other here:LO}
theorem smi2{a t:D}(h:t.canLay0=true/\t.depth<=60):SmI (.tuple [a,t]):=λa' t' e=>by injection e with e;injection e with _ e;injection e with e;rw[←e];exact h
theorem smO(o:Option Int):(UK o).canLay0=true/\(UK o).depth<=60:=by cases o<;>exact⟨rfl,by simp[UK,Us]⟩
theorem smW{V:List (Nat×Option Int)}:∀x∈V.map UN,SmI x:=λx hx=>by obtain⟨p,_,rfl⟩:=Qt.mp hx;exact smi2 (smO p.2)
theorem Op{α β:Type}(w:α->β):∀(L:List α)(m:Nat),(L.map w).eraseIdx m=(L.eraseIdx m).map w
 |[],_=>rfl
 |_::_,0=>rfl
 |x::L,m+1=>by show w x::(L.map w).eraseIdx m=w x::(L.eraseIdx m).map w;rw[Op w L m]
theorem Na{α:Type}{x:α}:∀{L:List α}{m:Nat},L[m]?=some x->(x::L.eraseIdx m).Perm L
 |[],_,h=>by cases h
 |y::L,0,h=>by cases h;exact .refl _
 |y::L,m+1,h=>(List.Perm.swap y x _).trans ((Na (L:=L) (m:=m) (by simpa using h)).cons y)
theorem Gv{As:List (List Nat)}{w:List Nat->D}(hl:As.length<=7)(c s:Int):∃r,Xl [.list (As.map w),.int c,.int s]=some r/\∃Bs:List (List Nat),r=.list (Bs.map w)/\Bs.Perm As:=by
 let S0:Option Sl:=some (.pub (.list (As.map w)))
 let S1:Option Sl:=some (.pub (.int c))
 let S2:Option Sl:=some (.pub (.int s))
 refine YR (ρ:=[S0,S1,S2,none,none,none,none]) rfl ?_;unfold Wj;obtain⟨r,hnum,dg,rfl,hdl,hdb⟩:=Tw c s (sizes:=[7,6,5,4,3,2,1]) (by decide) (by decide);have hdl:dg.length=7:=hdl
 let S3:Option Sl:=some (.pub (.list (dg.map int)))
 refine U4 (ρ1:=[S0,S1,S2,S3,none,none,none]) (KB (Kg (UI (UC rfl) (UI (UC rfl) (UI (ZU (UI UJ (UI UJ (UI UJ (UI UJ (UI UJ (UI UJ (UI UJ UP))))))) (Qa rfl)) UP))) rfl hnum) (Qa rfl) rfl) ?_;refine U4 (ρ1:=[S0,S1,S2,S3,some (.own (As.map w)),none,none]) (Zb (SD rfl rfl) (Qa rfl) rfl) ?_;refine U4 (Zb (Y6 UP (Qa rfl)) (Qa rfl) rfl) ?_;have hlen:U5 [.list (As.map w)]=some (.int (As.length:Nat)):=by rw[Zf,Qe]
 apply Kj;apply Zs (ds:=(dg.map int).take As.length) (λk ρ=>∃(F L:List (List Nat))(x6:Option Sl),ρ=[S0,S1,S2,S3,some (.own (L.map w)),some (.own (F.map w)),x6]/\(F++L).Perm As/\F.length=k)
 case h1=>exact Zr (TW (UC rfl) UJ (X8 (KG rfl hlen)) SE) (by rw[ML (by rw[Qe];omega)];exact ZW)
 case h0=>exact⟨[],As,none,rfl,.refl _,rfl⟩
 case hst=>
  rintro k d ρ hk ⟨F,L,x6,rfl,hp,hF⟩;have hkn:k<As.length:=by have:=(Qf.mp hk).1;rw[Jg]at this;omega
  rw[JJ hkn,Qg]at hk;cases hz:dg[k]? with
  |none=>rw[hz]at hk;cases hk
  |some z=>
  rw[hz]at hk;cases hk;refine⟨_,UR (Qa rfl) rfl,?_⟩;unfold RW;have hpl:=hp.length_eq;rw[Qk]at hpl;have hLp:0<L.length:=by omega
  have b0:0<=z % (L.length:Int):=Int.emod_nonneg _ (by omega);have b1:z % (L.length:Int)<L.length:=Int.emod_lt_of_pos _ (by omega);obtain⟨m,hm⟩:∃m:Nat,z % (L.length:Int)=m:=⟨(z % (L.length:Int)).toNat,by omega⟩
  have hml:m<L.length:=by omega
  have hx:L[m]?=some L[m]:=Qb hml;refine ZX (o:=.nx [S0,S1,S2,S3,some (.own ((L.eraseIdx m).map w)),some (.own ((F++[L[m]]).map w)),pb (.int z)]) (YT rfl (MR (m:=m) (ds:=L.map w) rfl (UV (UC rfl) (Pr rfl) (by rw[Qe,XR (by omega),hm])) rfl (by rw[Qe];omega) (by rw[Qg,hx];rfl)) rfl (by rw[Qe];omega) (by rw[Op,QI];rfl)) (K7 ⟨F++[L[m]],L.eraseIdx m,_,rfl,?_,by rw[Qk,hF];rfl⟩);rw[Jp];exact((Na hx).append_left F).trans hp
 case hend=>rintro ρ ⟨F,L,x6,rfl,hp,hF⟩;rw[Jg,Qe]at hF;have hpl:=hp.length_eq;rw[Qk]at hpl;have hL:L=[]:=List.length_eq_zero_iff.mp (by omega);rw[hL,Q5]at hp;exact Ko (U3 (ZY rfl rfl) ⟨_,rfl,F,rfl,hp⟩)
theorem Pb(g:Good cs ls)(d1:YX cs (Kd 0 ls) ls.length one)(d2:YX cs (Kd 0 ls) ls.length other){As Bs:List (List Nat)}(hq:VN (U7 (prL one other cs.length)) (mvL one other) As)(hm:∀u∈mvL one other,u∈As.flatten)(hp:Bs.Perm As):YF [Kr cs ls,UX one,UX other,.list (Bs.map (wyD other))]=some (.bool true):=by
 have l7:=g.l7;have c6:=g.c6;have e1:=d1.len;have e2:=d2.len;have hmem:∀A∈Bs,A∈As:=λA h=>hp.mem_iff.mp h;have hfl:Bs.flatten.Perm As.flatten:=hp.flatten;have hnd:Bs.flatten.Nodup:=hfl.nodup_iff.mpr hq.met.nd;have hA:∀A∈Bs,∀a∈A,a∈mvL one other:=λA h a ha=>hq.sub a (Jh.mpr ⟨A,hmem A h,ha⟩)
 let S0:Option Sl:=some (.pub (Kr cs ls))
 let S1:Option Sl:=some (.pub (UX one))
 let S2:Option Sl:=some (.pub (UX other))
 let S3:Option Sl:=some (.pub (.list (Bs.map (wyD other))))
 have hlc:U5 [.list (cs.map int)]=some (.int cs.length):=by rw[Zf,Qe]
 refine Ze (ρ:=[S0,S1,S2,S3,none,none,none]) rfl ?_;unfold Wi;refine U4 (ρ1:=[S0,S1,S2,S3,some (.own (one.map UK)),none,none]) (Zb (SD rfl rfl) (Qa rfl) rfl) ?_;apply Kj;apply Zs (λk ρ=>∃(here:LO)(x4 x5 x6:Option Sl),ρ=[S0,S1,S2,S3,x4,x5,x6]/\(x4=some (.own (here.map UK))∨x4=some (.pub (UX here)))/\YX cs (Kd 0 ls) ls.length here/\Vo one other here (Bs.take k).flatten)
 case h1=>exact Zr (UC rfl) ZW
 case h0=>exact⟨one,_,_,_,rfl,.inl rfl,d1,rfl,(λi hi=>by rw[JM]at hi;cases hi),λ_ _=>rfl⟩
 case hst=>
  rintro k d ρ hk ⟨here,x4,x5,x6,rfl,h4,dh,hh⟩;rw[Qg]at hk;cases hu:Bs[k]? with
  |none=>rw[hu]at hk;cases hk
  |some A=>
  rw[hu]at hk;cases hk;have hAB:=Qp hu
  have hta:(Bs.take (k+1)).flatten=(Bs.take k).flatten++A:=by
   rw[J7,hu,Jr]
   congr 1
   exact Q5 A
  obtain⟨b,hE⟩:=hq.each A (hmem A hAB);have hAn:=VH VA hE.wk
  have hdis:∀a∈A,a∉(Bs.take k).flatten:=λa ha hin=>by
   have h1:Bs.flatten=(Bs.take (k+1)).flatten++(Bs.drop (k+1)).flatten:=by rw[←Jr,List.take_append_drop]
   rw[h1,hta]at hnd;have h2:=(Jq.mp hnd).1;exact(Jq.mp h2).2.2 a hin a ha rfl
  have hW:WayQ cs (Kd 0 ls) here (wyL other A):=Em (Dp g) d1 d2 (λc hc d hf=>by obtain⟨X,hX,hcX⟩:=Jh.mp hc;obtain⟨b',hE'⟩:=hq.each X (hmem X (JT hX));exact Jh.mpr ⟨X,hX,Pf hE' hcX hf⟩) hh hE (hA A hAB) hdis;obtain⟨hw1,hWl⟩:=Dm g dh hW;have hlt:∀p∈wyL other A,p.1<here.length:=λp hp'=>Tz hW hp'
  obtain⟨bl,hb,hi⟩:=CF g dh.len (d:=.list ((wyL other A).map UN)) λxs e=>by
   injection e with e;rw[←e]
   exact⟨by rw[Qe];omega,smW⟩
  have hbt:bl=true:=hi.mpr ⟨_,rfl,hW⟩;subst hbt;have dh2:=LJ dh hW;have hh2:=El hh hAn λa ha=>(ZD.mp (hA A hAB a ha)).1
  refine⟨_,UR (Qa rfl) rfl,?_⟩;unfold R1;rw[MK]
  let S5:Option Sl:=some (.pub (.list ((wyL other A).map UN)))
  let R:UB:=[S0,S1,S2,S3,x4,S5,x6]
  have ht:Y1 R 4=some (UX here):=by rcases h4 with rfl|rfl<;>rfl
  apply Kj;refine Kb (b:=false) (ρ1:=R) (KW (UV (Pn (UI (UC rfl) (P0 ht (UI (UC rfl) UP) ht)) rfl hw1) UJ rfl) (ZJ (Z2 (t:=true) (Pn (UI (UC rfl) (P0 ht (UI (UC rfl) UP) ht)) rfl hb)))) (λz=>by cases z) λ_=>Kv (Ko ?_)
  let here2:=Yj (wyL other A) here
  have hv:UA 4 R=.ok (UX here) [S0,S1,S2,S3,pb (UX here),S5,x6]:=by
   rcases h4 with rfl|rfl
   ·exact ZY rfl rfl
   ·exact UC rfl
  let P4:Option Sl:=some (.pub (UX here2))
  refine U4 (ρ1:=[S0,S1,S2,S3,P4,S5,x6]) (KB (Kg (UI (UC rfl) (UI hv (UI (UC rfl) UP))) rfl (LI hlt hw1)) (Qa rfl) rfl) ?_
  have hc:Kl (gN 7) (UG (oIB λi j=>decide (j<i)) (XG (UA 4) (UH (UA 7) (UD))) (UG oIx (UL 0 (UE (.int 0))) (UA 7))) (UA 7) (K8 0 (cs.length:Int)) (K2 [S0,S1,S2,S3,P4,S5,x6]++Ul 1 none) []=some []:=by
   rw[YW (λ_=>false) (λd=>d) (λρ=>∃y6 x7,ρ=[S0,S1,S2,S3,P4,S5,y6,x7])]
   ·rw[Jl,J6]
    congr 1
    exact List.filter_eq_nil_iff.mpr λ_ _=>by simp
   ·rintro d hd ρ ⟨y6,x7,rfl⟩;obtain⟨i,hi⟩:=Q7.mp hd;obtain⟨rfl,hin⟩:=XQ hi;rw[Int.zero_add];have hic:i<cs.length:=by omega
    have hg:cs[i]?=some cs[i]:=Qb hic;have hix:oIx (.list (cs.map int)) (.int ((i:Nat):Int))=some (.int cs[i]):=Ku (by rw[Qg,hg];rfl);have hcop:((here2.count (some (i:Int)):Nat):Int)<=cs[i]:=dh2.cop i _ hg;refine⟨_,UR (Qa rfl) rfl,UV (SH (UC rfl) (UI (UC rfl) UP) Rb) (UV (Kf rfl UJ Ve) (UC rfl) hix) (by rw[YU,Qu (by show ¬cs[i]<((here2.count (some (i:Int)):Nat):Int);omega)]),(λz=>by cases z),_,_,rfl⟩
   ·exact⟨_,_,rfl⟩
   ·rw[Q2,Jx,Yu];omega
  refine U4 (ρ1:=[S0,S1,S2,S3,P4,S5,some (.own [])]) (Zb (Tl (W1 (UI (Yr (UI (Kf rfl UJ Ve) UP) hlc) UP) (Vc (by omega) (by omega))) hc rfl) (Qa rfl) rfl) ?_;exact Kb (b:=false) (SF rfl (ZU UP (Qa rfl)) rfl (by kernel_rfl)) (λz=>by cases z) λ_=>Kv (K7 ⟨here2,_,_,_,rfl,.inr rfl,dh2,hta ▸ hh2⟩)
 case hend=>
  rintro ρ ⟨here,x4,x5,x6,rfl,h4,dh,hh⟩;rw[Qe,JP]at hh;have he:here=other:=Dl (by omega) hh λi hi=>hfl.mem_iff.mpr (hm i hi)
  subst he;have heq:oEq (UX here) (UX here)=some true:=by unfold oEq;rw[Qr ⟨Tn here,Tn here,by have:=F5 here;omega⟩,PV (UX here) (Tn here)]
  refine Ko ?_;rcases h4 with rfl|rfl
  ·exact U3 (Kx (SF rfl (UC rfl) rfl heq)) rfl
  ·exact U3 (Kx (K6 rfl (UC rfl) heq)) rfl
theorem Gu:∀ns:List Int,ns.length<=63->Xk [.list (ns.map int)]=some (.bool true):=by
 intro ns hns
 let S0:Option Sl:=some (.pub (.list (ns.map int)))
 refine Ze (ρ:=[S0,none,none,none,none,none,none]) rfl ?_;unfold Wh;obtain⟨r,hr,cs,ls,rfl,g,_⟩:=Co 6 7 5 (ns:=ns) (by omega) 0;have l7:=g.l7
 let S1:Option Sl:=some (.pub (Kr cs ls))
 refine U4 (ρ1:=[S0,S1,none,none,none,none,none]) (KB (Kg (UI (UC rfl) (UI UJ (UI UJ (UI UJ (UI UJ UP))))) rfl hr) (Qa rfl) rfl) ?_;obtain⟨v8,hv8⟩:=Tv ns 8 (by omega);apply Kj;apply Zs (λ_ ρ=>∃x2 x3 x4 x5 x6,ρ=[S0,S1,x2,x3,x4,x5,x6])
 case h1=>exact Vy (UI (UV (ZU (UI (Kg (UI (UC rfl) (UI UJ UP)) rfl hv8) UP) (Qa rfl)) (TW (UC rfl) (X8 UJ) (X8 UJ) SE) (Eu (by omega))) UP) VD
 case h0=>exact⟨_,_,_,_,_,rfl⟩
 case hst=>
  rintro i d ρ hi ⟨x2,x3,x4,x5,x6,rfl⟩;obtain⟨x,hx,rfl⟩:=Wa hi;obtain⟨c,rfl⟩:=Ev hx;rw[Jx];refine⟨_,KN rfl (Ka (UR (Qa rfl) rfl) (Ka (UR (Qa rfl) rfl) KO)),?_⟩;unfold RV
  let S2:Option Sl:=some (.pub (.int (i:Nat)))
  let S3:Option Sl:=some (.pub (.int c))
  obtain⟨r,hd0,one,rfl,dl1⟩:=Nc g c (30+(i:Nat))
  let S4:Option Sl:=some (.pub (UX one))
  refine U4 (ρ1:=[S0,S1,S2,S3,S4,x5,x6]) (KB (Kg (UI (UC rfl) (UI (UC rfl) (UI (UV UJ (UC rfl) ZE) UP))) rfl hd0) (Qa rfl) rfl) ?_;obtain⟨v,hv⟩:=Tv ns (31+i) (by omega);obtain⟨r,hd1,other,rfl,dl2⟩:=Nc g v (70+(i:Nat))
  let S5:Option Sl:=some (.pub (UX other))
  have hv':Zo [.list (ns.map int),.int (31+(i:Nat))]=some (.int v):=hv;refine U4 (ρ1:=[S0,S1,S2,S3,S4,S5,x6]) (KB (Kg (UI (UC rfl) (UI (Kg (UI (UC rfl) (UI (UV UJ (UC rfl) ZE) UP)) rfl hv') (UI (UV UJ (UC rfl) ZE) UP))) rfl hd1) (Qa rfl) rfl) ?_;have q1:=On dl1;have q2:=On dl2;obtain⟨r,hwb,As,rfl,hq,hm⟩:=CY (one:=one) (other:=other) g (by rw[q1.len,q2.len]) (by rw[q1.len];exact l7);have hAl:As.length<=7:=Gw hq (by rw[q1.len];exact l7);obtain⟨r,ho,Bs,rfl,hp⟩:=Gv (w:=wyD other) hAl c (90+(i:Nat))
  let S6:Option Sl:=some (.pub (.list (Bs.map (wyD other))))
  refine U4 (ρ1:=[S0,S1,S2,S3,S4,S5,S6]) (KB (Kg (UI (Kg (UI (UC rfl) (UI (UC rfl) (UI (UC rfl) UP))) rfl hwb) (UI (UC rfl) (UI (UV UJ (UC rfl) ZE) UP))) rfl ho) (Qa rfl) rfl) ?_;apply Kj;refine Kb (b:=false) (ρ1:=[S0,S1,S2,S3,S4,S5,S6]) (ZJ (Z2 (t:=true) (Kg (UI (UC rfl) (UI (UC rfl) (UI (UC rfl) (UI (UC rfl) UP)))) rfl (Pb g q1 q2 hq hm hp)))) (λz=>by cases z) λ_=>Kv (Ko ?_)
  have hr2:=Pb g q1 q2 hq hm ((List.reverse_perm Bs).trans hp);rw[List.map_reverse]at hr2;exact Kb (b:=false) (ρ1:=[S0,S1,S2,S3,S4,S5,S6]) (ZJ (Z2 (t:=true) (Kg (UI (UC rfl) (UI (UC rfl) (UI (UC rfl) (UI (RB (UC rfl) UJ UJ (X8 (WS UJ))) UP)))) rfl hr2))) (λz=>by cases z) λ_=>Kv (K7 ⟨_,_,_,_,_,rfl⟩)
 case hend=>rintro ρ ⟨x2,x3,x4,x5,x6,rfl⟩;exact Ko (U3 UJ rfl)
end
end W
open PySem PySem.W PyProof.Rows
set_option maxRecDepth 100000 in
set_option maxHeartbeats 0 in
theorem PySem.Challenge.cw_wishdeal_k30_whole_ways_in_any_order_holds : PySem.Challenge.rw_wishdeal_k30_whole_ways_in_any_order.Holds := by
 w_on;o_law
 refine holds_open (q:=W.q0) (loose:=[]) (Xt:=λs=>xlAt W.q0 [] s&&recOk [] s) (XP:=XL W.q0 []) (Yf:=Hook.obs .none) (Ya:=Hook.val .none) (YP:=Hook.says .none) (N:=3356) (d:=W.d_bb) (kwd:=[])
  W.Lg (Hook.of .none) (Hook.keeps .none) (λs e=>xl_of s (Bool.and_eq_true_iff.mp e).1) XL.keeps (by rfl) (by rfl) (by rfl)
  (λs e=>recFacts_of (Bool.and_eq_true_iff.mp e).2) (by rfl) (by assumption) (by decide +kernel) ⟨rfl,rfl,rfl,rfl,rfl,by decide +kernel⟩ ?hw (W.walk W.Gu)
 case hw=>w_witness2


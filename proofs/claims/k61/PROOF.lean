import PyProof.Rows.All
import Wide.All
import OpenK.AllK
import Wide.FinOn
import Lean
import PyProof.EqAt
import PyProof.EqKinds
import PyProof.TupleCall
import PyProof.EnumMake
import PyProof.ZipIter
import PyProof.ExcClass2
import PyProof.ExcInit
import PyProof.ExcBaseAll.ValueError
import PyProof.FString2
import PyProof.ExcArgsOwn
import PyProof.InstStoreFacts
import ObjForm.Fk.InstStore
import ObjForm.Fk.InstLoad
import PyProof.StationsW
import PyProof.RulesAs
import PyProof.NsDelKeeps
import OpenK.KMore
import PyProof.IsiBase
import OpenK.KNot
import PyProof.Rows.RuleN_isinstance
import PyProof.NeData
import PyProof.P3In
import PyProof.StrWalks
import PyProof.ConsumeWalk
import PyProof.SliceStr2
import PyProof.MeetsStr
import KE.KItem
import KE.KUnpack
import KE.KRevSl
import PyProof.Rows.SetFrom
import PyProof.SetRoads
import PyProof.Rows.Range3
import PyProof.CallType
import PyProof.Rows.CallKwBuiltin
import PyProof.Rows.MinMaxN
import PyProof.SumWalkG
import PyProof.Rows.SeqMore
import PyProof.Rows.SortWalk
import PyProof.Rows.SumAny
import PyProof.Rows.SeqMore2
import KE.KSortTup
import PyProof.Rows.SortShellK
import PyProof.ReprRoads
import PyProof.ReprBulk
import PyProof.CallFns
import PyProof.NeKinds
import PyProof.Rows.StrJoinMade
import PyProof.StrCalls
import KE.KIntText
import PyProof.ReprDict
import PyProof.DictIter
import PyProof.Rows.DictUnroll
import PyProof.MeetsStr2
import PyProof.Rows.StrNews
import PyProof.StrLawsChain
import PyProof.Rows.StrItems
import PyProof.SeqRoads2
import PySem.Challenge.RW_wishdeal_k61_whole_best_or_not
set_option compiler.extract_closed false
set_option Elab.async false
set_option linter.all false
set_option maxRecDepth 100000
set_option maxHeartbeats 4000000
theorem Qa:type_of% @of_decide_eq_true:=@of_decide_eq_true
theorem Qm:type_of% @if_pos:=@if_pos
theorem QB:type_of% @if_neg:=@if_neg
theorem QT:type_of% @decide_eq_false:=@decide_eq_false
theorem Ja:type_of% @of_decide_eq_false:=@of_decide_eq_false
theorem Jc:type_of% @decide_eq_true:=@decide_eq_true
theorem JF:type_of% @decide_eq_true_eq:=@decide_eq_true_eq
theorem JX:type_of% @congrArg:=@congrArg
open List renaming length_map→Qb,getElem?_map→Qd,getElem?_eq_getElem→Qe,getElem?_eq_some_iff→Qg,length_append→Qi,mem_cons_of_mem→Ql,mem_cons_self→Qn,getD_eq_getElem?_getD→Qo,getElem?_set_ne→Qp,length_range→Qq,mem_of_getElem?→Qr,map_cons→Qt,mem_map→Qu,mem_singleton→Qv,getElem?_append_left→Qw,getElem?_append_right→Qx,length_replicate→Qy,map_append→Qz,getElem?_replicate→QA,length_cons→QC,length_nil→QE,length_singleton→QH,getElem?_set_self→QI,mem_append→QJ,mem_append_right→QL,flatten_cons→QN,getElem?_range→QO,length_take→QP,mem_cons→QS,size_toArray→QU,replicate_succ→QW,append_assoc→QY,lookup_cons→QZ,mem_append_left→Q0,zip_cons_cons→Q4,length_set→Q6,nil_append→Q7,length_filterMap_le→Q8,mem_range→Q9,append_nil→Jb,getElem?_eq_none→Jd,length_drop→Jh,all_eq_true→Jj,mem_filterMap→Jk,map_map→Jl,take_length→Jm,drop_eq_getElem_cons→Jo,pairwise_cons→Ju,filterMap_cons→Jx,mem_filter→Jz,getElem_mem→JB,mem_replicate→JI,map_replicate→JJ,take_succ→JK,length_filter_le→JL,length_zip→JO,count_cons→JP,mem_of_mem_take→JU,take_zero→JY,getElem?_cons_succ→JZ,mem_flatten→J4,getElem_map→J5,foldl_cons→J8,filterMap_append→Ua,take_append_drop→Ub,filter_eq_self→Uc,any_cons→Ud,range→Ut,replicate→Uu,Pairwise→UE
open PySem renaming wpAny_bind→Qf,wpAny_pure→Qk,wpAny_mono→QK,wpAny_loadPart_at→QM,wpAny_truthy_bool→Q2,mem_of_lookup→Jg,wpAny_isSubtype_exc→Jn,wpAny_standAt→Jp,wpAny_passesOwn→Jq,wpAny_pyIter_list→JE,Value→Ui,Shared→Uj,Program→Uk,Addr→Ul,FuncData→Um,Expr→Uo,sizeLine→Up,wpAny→Uq,starEach→Ur,compareOp→Us,assignEach→UG,foldedSetIterable→UH
open PySem.Heap renaming lt_size→Qh,get?_push_of_some→Qj,get?_push_size→QG,size_push→JD
open Nat renaming le_refl→Qs,lt_of_lt_of_le→QF,ne_of_lt→QQ,le_trans→QR,zero_add→QX,le_of_not_lt→Je,lt_irrefl→Jr,not_lt_zero→Js,ne_of_gt→JC,lt_succ_self→JG,le_succ→JQ,zero_le→JR,lt_succ_of_lt→JT,lt_succ_iff_lt_or_eq→JW,add_sub_cancel→J7,le_of_lt→Uf,succ_pos→Ug
open Int renaming toNat_natCast→QD,le_refl→Q3,zero_add→Jt,le_trans→JS,le_antisymm→J9,not_lt→Uh
open Option.some renaming inj→Q5
open Array renaming getD_eq_getD_getElem?→Jf,length_toList→Jy,getElem?_eq_getElem→JM
open Bool renaming and_eq_true→Ji,false_ne_true→JH,eq_iff_iff→JN,and_eq_true_iff→JV,false_eq_true→J6
open PySem.W.Fast renaming te1987589406359920131→Jv
open PyProof.Rows renaming callWith_type1→Jw
open PySem.W renaming kia_one→JA
open Option renaming getD_some→J0
open Array.Perm renaming refl→Ue
open PySem.PyData renaming list→Uv,bool→Uw,str→Ux,strOk→Uy,canLayAll0→Uz,depth→UA,eqv→UB,shown→UF
open PySem.PassesOwn renaming never→UC
open PySem.Str renaming ofString→UD
abbrev L3:=List (List (List Int))
abbrev LO:=List (Option Int)
abbrev LP:=List (Int×Int)
open PySem.W (Frag)
open PySem.PyData (int)
open List (replicate)
namespace DL
open PySem PySem.Spec PySem.W PyProof.Rows
def topRunT(tb:String->Option Builtin)(p:Uk)(w:World)(m:Nat)(ann:Option Ui):Nat->SharedT->Thread->Option SharedT
 |0,_,_=>none
 |n+1,s,t=>match through t,stepOk m ann t with
  |true,_=>some s
  |false,false=>none
  |false,true=>match stepT (denote tb) p w s t with
   |some x=>topRunT tb p w m ann n x.1 x.2
   |none=>none
theorem GW{tb:String->Option Builtin}{p:Uk}{w:World}{m:Nat}{ann:Option Ui}:∀{n:Nat}{s s':SharedT}{t:Thread},topRunT tb p w m ann n s t=some s'->topRun tb p w m ann n s.abs t=some s'.abs
 |0,_,_,_,h=>by cases h
 |n+1,s,s',t,h=>by
  rw[topRunT]at h;rw[topRun];cases ht:through t with
  |true=>rw[ht]at h;cases h;rfl
  |false=>
   rw[ht]at h;cases hk:stepOk m ann t with
   |false=>rw[hk]at h;cases h
   |true=>
    rw[hk]at h;dsimp only at h⊢;cases hs:stepT (denote tb) p w s t with
    |none=>rw[hs]at h;cases h
    |some x=>rw[hs]at h;rw[stepT_spec hs];exact GW h
def btOf(l:List Obj):BT:=(l.foldl (λ(x:BT×Nat) o=>(x.1.ins x.2 o,x.2+1)) (.nil,0)).1
noncomputable def T0 (w:World) (os:OsState):SharedT:=⟨btOf (boot_heap w.params).objs.toList,11,(boot_heap w.params).life,#[],boot_drawn,boot_toks,os⟩
theorem AJ(w:World)(os:OsState):(T0 w os).abs=⟨boot_heap w.params,#[],boot_drawn,boot_toks,os⟩:=by kernel_rfl
theorem jw(w:World):((boot_heap w.params).isNs mainGlobals&&(#[]:Array GenState).size==0,(boot_heap w.params).objs.size,(boot_heap w.params).nsMap mainGlobals "__annotations__")=(true,11,some (.ref 6)):=by kernel_rfl
noncomputable abbrev EZ (p q:Uk) (loose:List Str) (Xt:Uj->Bool) (w:World) (t:SharedT):=
 ((staticsOk (importedModules p.main.body) (boot_heap w.params) t.abs.heap&&namesBound p t.abs.heap&&gensDone t.abs&&laidKept (boot_heap w.params) t.abs.heap),openSeen q loose (importedModules p.main.body) Xt true t.abs)
theorem Bk{p q:Uk}{loose:List Str}{Xt:Uj->Bool}{N M:Nat}(e:opening p=plainProg p.main.scope.names)(hN:Nat.ble 600 N=true)(f:∀s,fenceModules? p s=some s)(le:Nat.ble M N=true)
  (run:∀(w:World)(os:OsState),(topRunT treeTable p w 11 (some (.ref 6)) M (T0 w os) (topStub p)).map (EZ p q loose Xt w)=some (true,openGood q loose)):LeftO p q loose Xt (Hook.obs .none) (Hook.val .none) N:=λw=>by
 obtain⟨⟨h,gs,d,k,os⟩,e0,e'⟩:=Option.map_eq_some_iff.mp (boot_open e hN f w);have e':(h,gs,d,k)=(boot_heap w.params,#[],boot_drawn,boot_toks):=e';obtain⟨rfl,rfl,rfl,rfl⟩:h=boot_heap w.params/\gs=#[]/\d=boot_drawn/\k=boot_toks:=by simpa only[Prod.mk.injEq]using e'
 obtain⟨t,ht,l⟩:=Option.map_eq_some_iff.mp (run w os);have hr:=GW ht;rw[AJ]at hr;have r:=topRun_mono (N-M) _ _ _ _ hr;rw[show M+(N-M)=N by have:=Nat.le_of_ble_eq_true le;omega]at r;obtain⟨l1,l2⟩:=Prod.mk.inj l;have z:=jw w;obtain⟨z1,z2,z3⟩:_/\_/\_:=by simpa only[Prod.mk.injEq]using z
 have tf:topFrom treeTable p w N ⟨boot_heap w.params,#[],boot_drawn,boot_toks,os⟩=some t.abs:=by
  unfold topFrom;dsimp only;rw[z1,z2,z3,r]
  show(match staticsOk (importedModules p.main.body) (boot_heap w.params) t.abs.heap&&namesBound p t.abs.heap&&gensDone t.abs&&laidKept (boot_heap w.params) t.abs.heap with|true=>some t.abs|false=>none)=_
  rw[l1]
 unfold openEnds;rw[e0]
 show(topFrom treeTable p w N _).map _=_
 rw[tf];exact JX some (Prod.ext l2 rfl)
end DL
open PySem in
lay_quick PySem.Challenge.pw_wishdeal_k61_whole_best_or_not DL.topRunT PySem.W.openGood PySem.W.staticsOk PySem.W.namesBound PySem.W.laidKept PySem.W.xlAt
namespace W
open PySem PySem.Spec DL
abbrev p0:Uk:=PySem.Challenge.pw_wishdeal_k61_whole_best_or_not
def XM:List Nat:=[1,2,4,5,6,8,9,10,11,12,13,14,15,16,17,18,19,21,23,24,25,27,28,29,31,32,33,34,35,37,39,40,41,42,43,44,45,46,47,48,49,50,52,53,54,55,56,57,59,61,63,64,65,66,67,68,69,70,71,72,73,74,75]
def ixL:List Nat:=[1,2,12,13,14,15,16,17,18,19,21,24,25,27,28,29,31,32,33,34,35,37,39,40,41,42,43,44,45,46,47,48,49,50,52,53,54,55,56,57,59,61,63,64,65,66,67,68,69,70,71,72,73,74,75]
abbrev q0:Uk:=PySem.W.view p0 XM
theorem EY:∀(w:World)(os:OsState),(PySem.W.Fast.tw10708255244068714335 PySem.W.Fast.tw14364793385576792824 PySem.W.Fast.tw1262811278937853177 w 11 (some (.ref 6)) 2668 (T0 w os) (PySem.W.topStub PySem.W.Fast.tw1262811278937853177)).map (λt=>((PySem.W.Fast.tw13471830651028734593 (PySem.W.Fast.tw5923862056798008813 (Program.main PySem.W.Fast.tw1262811278937853177).body) (PySem.W.boot_heap w.params) t.abs.heap&&PySem.W.Fast.tw4683006035507612052 PySem.W.Fast.tw1262811278937853177 t.abs.heap&&PySem.W.gensDone t.abs&&PySem.W.Fast.tw16898566250750103049 (PySem.W.boot_heap w.params) t.abs.heap),PySem.W.Fast.tw4187177175401517315 (PySem.W.view PySem.W.Fast.tw1262811278937853177 XM) [] (PySem.W.Fast.tw5923862056798008813 (Program.main PySem.W.Fast.tw1262811278937853177).body) (λs=>PySem.W.Fast.tw4757257242682413121 (PySem.W.view PySem.W.Fast.tw1262811278937853177 XM) [] s&&PySem.W.recOk [] s) true t.abs))=some (true,PySem.W.Fast.tw3486900944545009338 (PySem.W.view PySem.W.Fast.tw1262811278937853177 XM) []):=by intro w os;kernel_rfl
theorem EX:PySem.W.LeftO p0 q0 [] (λs=>PySem.W.xlAt q0 [] s&&PySem.W.recOk [] s) (PySem.W.Hook.obs .none) (PySem.W.Hook.val .none) 5236:=by
 refine Bk (M:=2668) (by kernel_rfl) rfl (λs=>by kernel_rfl) rfl λw os=>?_
 have h:=EY w os;rw[←PySem.W.Fast.te10708255244068714335,←PySem.W.Fast.te14364793385576792824,←PySem.W.Fast.te4187177175401517315,←PySem.W.Fast.te5923862056798008813,←PySem.W.Fast.te13471830651028734593,←PySem.W.Fast.te4683006035507612052,←PySem.W.Fast.te16898566250750103049,←PySem.W.Fast.te4757257242682413121,←PySem.W.Fast.te3486900944545009338,←PySem.W.Fast.te1262811278937853177]at h;exact h
end W
namespace L2
open PySem PySem.Spec PyProof.Rows
abbrev Key:=Sum Int Str
def Su:Key->Ui->Bool
 |.inl k,v=>Value.isInt k v
 |.inr x,v=>Value.isStrOf x v
def keyH(w:World):Key->Int
 |.inl k=>hashInt k
 |.inr x=>hashStr w x
theorem WD:∀{k:Key}{v:Ui},Su k v=true->(∃i t,k=Sum.inl i/\v=Value.int i t)∨(∃x t,k=Sum.inr x/\v=Value.str x t)
 |.inl i,v,h=>by obtain⟨t,e⟩:=Value.isInt_shape (k:=i) (v:=v) h;exact .inl ⟨i,t,rfl,e⟩
 |.inr x,v,h=>by obtain⟨t,e⟩:=Value.isStrOf_shape (x:=x) (v:=v) h;exact .inr ⟨x,t,rfl,e⟩
theorem jv(i:Int)(t:Tok):Su (.inl i) (.int i t)=true:=by simp[Su,Value.isInt]
theorem jV(x:Str)(t:Tok):Su (.inr x) (.str x t)=true:=by simp[Su,Value.isStrOf]
theorem Dl(a b:Int):decide ((Sum.inl a:Key)=Sum.inl b)=(a==b):=by
 by_cases e:a=b
 ·subst e;simp
 ·have h:¬(Sum.inl a:Key)=Sum.inl b:=λq=>e (Sum.inl.inj q)
  rw[QT h];exact(beq_eq_false_iff_ne.mpr e).symm
theorem Dk(a b:Str):decide ((Sum.inr a:Key)=Sum.inr b)=decide (a=b):=by
 by_cases e:a=b
 ·subst e;simp
 ·have h:¬(Sum.inr a:Key)=Sum.inr b:=λq=>e (Sum.inr.inj q)
  rw[QT h,QT e]
theorem Dj(a:Int)(b:Str):decide ((Sum.inl a:Key)=Sum.inr b)=false:=QT (λq=>nomatch q)
theorem Di(a:Str)(b:Int):decide ((Sum.inr a:Key)=Sum.inl b)=false:=QT (λq=>nomatch q)
def YW(prog:Uk)(w:World):PySem.KeyKind prog w Key where
 is:=Su
 hash:=keyH w
 inj:=λv a b ha hb=>by
  rcases WD ha with ⟨i,t,rfl,rfl⟩|⟨x,t,rfl,rfl⟩
  ·rcases WD hb with ⟨j,u,rfl,e⟩|⟨y,u,rfl,e⟩
   ·injection e with e1 _;rw[e1]
   ·exact nomatch e
  ·rcases WD hb with ⟨j,u,rfl,e⟩|⟨y,u,rfl,e⟩
   ·exact nomatch e
   ·injection e with e1 _;rw[e1]
 byValue:=λk v h=>by rcases WD h with ⟨i,t,rfl,rfl⟩|⟨x,t,rfl,rfl⟩<;>rfl
 pyHash:=λhv h=>by
  rcases WD hv with ⟨i,t,rfl,rfl⟩|⟨x,t,rfl,rfl⟩
  ·exact wpAny_pyHash_int h
  ·exact wpAny_pyHash_str h
 eqBool:=λhu hv h=>by
  rcases WD hu with ⟨i,t,rfl,rfl⟩|⟨x,t,rfl,rfl⟩
  ·rcases WD hv with ⟨j,u,rfl,rfl⟩|⟨y,u,rfl,rfl⟩
   ·rw[Dl]at h;exact wpAny_eqBool_int h
   ·rw[Dj]at h;exact SeqAt.EqAt.int_str i t y u _ _ _ _ h
  ·rcases WD hv with ⟨j,u,rfl,rfl⟩|⟨y,u,rfl,rfl⟩
   ·rw[Di]at h;exact SeqAt.EqAt.str_int x t j u _ _ _ _ h
   ·rw[Dk]at h;exact wpAny_eqBool_str h
 «strs»:=λk x t v h=>by
  rcases WD h with ⟨i,u,rfl,e⟩|⟨y,u,rfl,e⟩
  ·exact nomatch e
  ·injection e with e1 _
   subst e1;cases v<;>rfl
theorem ka(prog:Uk)(w:World)(i:Int)(t:Tok):(YW prog w).is (.inl i) (.int i t)=true:=jv i t
theorem j9(prog:Uk)(w:World)(x:Str)(t:Tok):(YW prog w).is (.inr x) (.str x t)=true:=jV x t
inductive V where
 |non|bl (b:Bool)|int (i:Int)|str (x:Str)|byt (b:Array UInt8)|flt (b:UInt64)|ref (a:Ul)|ty (n:String)
 deriving DecidableEq
def RelV:V->Ui->Prop
 |.non,u=>u=Value.none
 |.bl b,u=>u=Value.bool b
 |.int i,u=>∃t,u=Value.int i t
 |.str x,u=>∃t,u=Value.str x t
 |.byt b,u=>∃t,u=Value.bytes b t
 |.flt b,u=>∃t,u=Value.float b t
 |.ref a,u=>u=Value.ref a
 |.ty n,u=>u=Value.type n
abbrev Vals:List V->List Ui->Prop:=Paired RelV
theorem Vals.length{xs:List V}{us:List Ui}(r:Vals xs us):xs.length=us.length:=Paired.length r
theorem Vals.get:∀{xs:List V}{us:List Ui}{i:Nat}{x:V},Vals xs us->xs[i]?=some x->∃u,us[i]?=some u/\RelV x u
 |_,_,_,_,.nil,e=>by simp at e
 |_,_,0,_,.cons r _,e=>by simp at e;subst e;exact⟨_,rfl,r⟩
 |_,_,i+1,x,.cons _ t,e=>by obtain⟨u,h1,h2⟩:=Vals.get (i:=i) (x:=x) t (by simpa using e);exact⟨u,by simpa using h1,h2⟩
theorem Vals.set{x:V}{u:Ui}(r:RelV x u):∀{xs:List V}{us:List Ui}(i:Nat),Vals xs us->Vals (xs.set i x) (us.set i u)
 |_,_,_,.nil=>.nil
 |_,_,0,.cons _ t=>.cons r t
 |_,_,i+1,.cons q t=>.cons q (Vals.set r i t)
theorem Vals.append:∀{xs ys:List V}{us ws:List Ui},Vals xs us->Vals ys ws->Vals (xs++ys) (us++ws)
 |_,_,_,_,.nil,s=>s
 |_,_,_,_,.cons r t,s=>.cons r (Vals.append t s)
theorem Vals.take:∀{xs:List V}{us:List Ui}(n:Nat),Vals xs us->Vals (xs.take n) (us.take n)
 |_,_,0,_=>.nil
 |_,_,_+1,.nil=>.nil
 |_,_,n+1,.cons r t=>.cons r (Vals.take n t)
theorem Vals.drop:∀{xs:List V}{us:List Ui}(n:Nat),Vals xs us->Vals (xs.drop n) (us.drop n)
 |_,_,0,r=>r
 |_,_,_+1,.nil=>.nil
 |_,_,n+1,.cons _ t=>Vals.drop n t
def RelO:Option V->Option Ui->Prop
 |some v,some u=>RelV v u
 |none,none=>True
 |_,_=>False
def KV{κ:Type}:List (κ×V)->List (κ×Ui)->Prop:=Paired λ(p:κ×V) (q:κ×Ui)=>p.1=q.1/\RelV p.2 q.2
def kV:Key->V
 |.inl i=>.int i
 |.inr x=>.str x
inductive HO where
  |lst (xs:List V)
  |tup (xs:List V)
  |dK (kvs:List (Key×V))|dT (kvs:List (List Key×V))
  |set (S:Int->Bool) (n:Nat)
  |ins (C dx:Ul) (fs:List (Str×V))
  |own (x:Ul)
  |xd (fs:List (Str×V))
  |met (f x:Ul)
  |rng (lo hi:Int)
  |frz (o:Obj) (u:HO)
  |tbl (ps:Array Ui)
  |ext (φ:Heap->Prop)
abbrev Hp:=Ul->Option HO
def upd(H:Hp)(a:Ul)(o:HO):Hp:=λb=>if b=a then some o else H b
theorem K9{H:Hp}{a:Ul}{o:HO}:upd H a o a=some o:=by unfold upd;rw[Qm rfl]
theorem Ku{H:Hp}{a b:Ul}{o:HO}(h:b≠a):upd H a o b=H b:=by unfold upd;rw[QB h]
theorem EW{H:Hp}{a b:Ul}{o u:HO}(h:H a=some o)(h':H b=some u)(d:o≠u):a≠b:=by intro e;subst e;rw[h]at h';exact d (Q5 h')
theorem Yo{H:Hp}{a b:Ul}{o:HO}(h:H a=some o)(h':H b=none):a≠b:=by intro e;subst e;rw[h]at h';cases h'
section
variable(P:Uk)(w:World)
def ZH(H:Hp)(h:Heap)(a:Ul):HO->Prop
 |.lst xs=>xs.length<=Up/\∃(its:List Ui)(n:Nat),Vals xs its/\h.get? a=some {cls:=.type "list", data:=.seq its.toArray n}
 |.tup xs=>xs.length<=Up/\∃its:List Ui,Vals xs its/\IsTup h a its.toArray
 |.dK kvs=>kvs.length<=Up/\(a==sysModules)=false/\∃vs,KV kvs vs/\h.DictOf (YW P w) a vs
 |.dT kvs=>kvs.length<=Up/\(a==sysModules)=false/\∃xs:List (List Key×Ul×Ui),
   Paired (λ(p:List Key×V) (q:List Key×Ul×Ui)=>p.1=q.1/\H q.2.1=some (.tup (p.1.map kV))/\RelV p.2 q.2.2) kvs xs /\
   ∃o es ep,h.get? a=some o/\o.ExactDict/\o.data=.dict es ep/\es.toList=xs.map (entryOfKey (tupleKind (YW P w)))/\(xs.map (·.1)).Nodup
 |.set S n=>h.SetOf (intKind P w) a S n
 |.ins C dx fs=>H dx=some (.own a)/\fs.length<=1000/\dx≠a/\h.get? a=some (PySem.W.instObj C dx) /\
   ∃mA,h.Ns1 dx mA/\(∀f,RelO (fs.lookup f) (mA f))/\PySem.Within mA (fs.map (·.1))
 |.own _=>∃o,h.get? a=some o
 |.xd fs=>∃mA,h.Ns1 a mA/\∀f,RelO (fs.lookup f) (mA f)
 |.rng lo hi=>∃t u v,h.get? a=some {cls:=.type "range", data:=.fields #[.int lo t,.int hi u,.int 1 v]}
 |.frz o u=>h.get? a=some o/\ZH H h a u
 |.tbl ps=>h.get? a=some {cls:=.none,data:=.fields ps}
 |.met f x=>h.get? a=some (PySem.W.methodObj (.ref f) (.ref x))
 |.ext φ=>φ h/\(∃o,h.get? a=some o)/\∀h1 h2:Heap,φ h1->(∀o,h1.get? a=some o->h2.get? a=some o)->φ h2
def HOk(H:Hp)(h:Heap):Prop:=∀a o,H a=some o->ZH P w H h a o
end
section
variable{P:Uk}{w:World}{H H':Hp}{h h':Heap}{a:Ul}{o:HO}
theorem ZH.lt(x:ZH P w H h a o):a<h.objs.size:=by
 cases o with
 |lst xs=>obtain⟨_,_,_,_,e⟩:=x;exact Qh e
 |tup xs=>obtain⟨_,_,_,p⟩:=x;exact p.lt
 |dK kvs=>obtain⟨_,_,_,_,o,_,_,e,_⟩:=x;exact Qh e
 |dT kvs=>obtain⟨_,_,_,_,o,_,_,e,_⟩:=x;exact Qh e
 |set S n=>obtain⟨o,_,_,_,e,_⟩:=x;exact Qh e
 |ins C dx fs=>obtain⟨_,_,_,e,_⟩:=x;exact Qh e
 |own y=>obtain⟨_,e⟩:=x;exact Qh e
 |xd fs=>obtain⟨_,⟨_,_,_,e,_⟩,_⟩:=x;exact Qh e
 |rng lo hi=>obtain⟨_,_,_,e⟩:=x;exact Qh e
 |frz ob u=>obtain⟨e,_⟩:=x;exact Qh e
 |tbl ps=>exact Qh (show h.get? a=some _ from x)
 |met f y=>exact Qh (show h.get? a=some _ from x)
 |ext φ=>obtain⟨_,⟨_,e⟩,_⟩:=x;exact Qh e
theorem Paired.mapP{α β:Type}{F G:α->β->Prop}:∀{l₁:List α}{l₂:List β},Paired F l₁ l₂->(∀a b,F a b->G a b)->Paired G l₁ l₂
 |_,_,.nil,_=>.nil
 |_,_,.cons r t,f=>.cons (f _ _ r) (Paired.mapP t f)
theorem ZH.stay(x:ZH P w H h a o)(k:∀b u,(b=a∨H b=some (.own a))->h.get? b=some u->h'.get? b=some u)
  (ho:∀b,H b=some (.own a)->H' b=some (.own a)) (ht:∀b xs,H b=some (.tup xs)->H' b=some (.tup xs)):ZH P w H' h' a o:=by
 induction o with
 |lst xs=>obtain⟨z,its,n,r,e⟩:=x;exact⟨z,its,n,r,k _ _ (.inl rfl) e⟩
 |tup xs=>obtain⟨z,its,r,ob,e,c⟩:=x;exact⟨z,its,r,ob,k _ _ (.inl rfl) e,c⟩
 |dK kvs=>obtain⟨z,y,vs,r,ob,es,ep,e,c⟩:=x;exact⟨z,y,vs,r,ob,es,ep,k _ _ (.inl rfl) e,c⟩
 |dT kvs=>obtain⟨z,y,xs,r,ob,es,ep,e,c⟩:=x;exact⟨z,y,xs,Paired.mapP r λp q z=>⟨z.1,ht _ _ z.2.1,z.2.2⟩,ob,es,ep,k _ _ (.inl rfl) e,c⟩
 |set S n=>obtain⟨ob,es,ep,t,e,c⟩:=x;exact⟨ob,es,ep,t,k _ _ (.inl rfl) e,c⟩
 |ins C dx fs=>obtain⟨d,z,ne,e,mA,⟨od,es,ep,e2,c⟩,r⟩:=x;exact⟨ho _ d,z,ne,k _ _ (.inl rfl) e,mA,⟨od,es,ep,k _ _ (.inr d) e2,c⟩,r⟩
 |own y=>obtain⟨ob,e⟩:=x;exact⟨ob,k _ _ (.inl rfl) e⟩
 |xd fs=>obtain⟨mA,⟨od,es,ep,e,c⟩,r⟩:=x;exact⟨mA,⟨od,es,ep,k _ _ (.inl rfl) e,c⟩,r⟩
 |rng lo hi=>obtain⟨t,u,v,e⟩:=x;exact⟨t,u,v,k _ _ (.inl rfl) e⟩
 |frz ob u ih=>obtain⟨e,q⟩:=x;exact⟨k _ _ (.inl rfl) e,ih q⟩
 |tbl ps=>have e:h.get? a=some {cls:=.none,data:=.fields ps}:=x;show h'.get? a=some {cls:=.none,data:=.fields ps};exact k a _ (.inl rfl) e
 |met f y=>have e:h.get? a=some (PySem.W.methodObj (.ref f) (.ref y)):=x;show h'.get? a=some (PySem.W.methodObj (.ref f) (.ref y));exact k a _ (.inl rfl) e
 |ext φ=>obtain⟨p,⟨o,e⟩,st⟩:=x;exact⟨st _ _ p λo q=>k _ _ (.inl rfl) q,⟨o,k _ _ (.inl rfl) e⟩,st⟩
theorem HOk.lt(x:HOk P w H h)(e:H a=some o):a<h.objs.size:=(x a o e).lt
theorem HOk.fresh(x:HOk P w H h)(e:h.objs.size<=a):H a=none:=by
 cases q:H a with
 |none=>rfl
 |some u=>exact absurd (QF (x.lt q) e) (Jr _)
theorem HOk.kept(x:HOk P w H h)(k:∀b u,h.get? b=some u->h'.get? b=some u):HOk P w H h':=λa o e=>
 (x a o e).stay (λb u _ q=>k b u q) (λ_ q=>q) λ_ _ q=>q
theorem HOk.laid(x:HOk P w H h)(k:∀b u,h.get? b=some u->h'.get? b=some u)(hp:h.objs.size<=a)(new:ZH P w (upd H a o) h' a o):HOk P w (upd H a o) h':=λb u e=>by
 have hn:=x.fresh hp;by_cases hb:b=a
 ·subst hb;rw[K9]at e;cases e;exact new
 ·rw[Ku hb]at e;exact(x b u e).stay (λc v _ q=>k c v q) (λc q=>by rw[Ku (Yo q hn)];exact q) λc xs q=>by rw[Ku (Yo q hn)];exact q
end
def Rd(H:Hp)(a:Ul)(u:HO):Prop:=H a=some u ∨ ∃o,H a=some (.frz o u)
theorem Rd.ok{P:Uk}{w:World}{H:Hp}{h:Heap}{a:Ul}{u:HO}(r:Rd H a u)(x:HOk P w H h):ZH P w H h a u:=by
 rcases r with r|⟨o,r⟩
 ·exact x a u r
 ·obtain⟨_,q⟩:=x a _ r;exact q
def Mut:Option HO->Prop
 |some (.lst _)=>True
 |some (.dK _)=>True
 |some (.dT _)=>True
 |some (.set _ _)=>True
 |some (.ins _ _ _)=>True
 |some (.ext _)=>True
 |_=>False
section
variable{P:Uk}{w:World}{H:Hp}{h h':Heap}{x e:Ul}{o':HO}
theorem HOk.write(ok:HOk P w H h)(mu:Mut (H x))(he:e=x∨H e=some (.own x))(k:∀b u,b≠e->h.get? b=some u->h'.get? b=some u)(heo:∃u,h'.get? e=some u)
  (new:ZH P w (upd H x o') h' x o'):HOk P w (upd H x o') h':=λb u q=>by
 have nown:∀c y,H c=some (.own y)->c≠x:=λc y r z=>by subst z;rw[r]at mu;exact mu
 have ntup:∀c xs,H c=some (.tup xs)->c≠x:=λc xs r z=>by subst z;rw[r]at mu;exact mu
 by_cases hb:b=x
 ·subst hb;rw[K9]at q;cases q;exact new
 ·rw[Ku hb]at q;by_cases hbe:b=e
  ·have q':H b=some (.own x):=by
    rcases he with z|z
    ·exact absurd (hbe.trans z) hb
    ·rw[hbe];exact z
   rw[q]at q';cases q';obtain⟨v,hv⟩:=heo;exact⟨v,by rw[hbe];exact hv⟩
  ·refine(ok b u q).stay (λc v hc r=>k c v ?_ r) (λc r=>by rw[Ku (nown c b r)];exact r) λc xs r=>by rw[Ku (ntup c xs r)];exact r
   rcases hc with rfl|hc
   ·exact hbe
   ·rintro rfl;rcases he with z|z
    ·exact nown c b hc z
    ·rw[hc]at z;cases z;exact hb rfl
end
structure Un(fs ex:List Ul)(H H':Hp)(h h':Heap):Prop where
 keep:∀b o,h.get? b=some o->H b=none->b∉fs->b∉ex->h'.get? b=some o
 slot:∀b o,h.get? b=some o->H b=none->b∈fs->b∉ex->∃sl,h'.get? b=some {o with slots:=sl}
 free:∀b o,h.get? b=some o->H b=none->b∉ex->H' b=none
 there:∀b o,h.get? b=some o->b∉ex->∃o',h'.get? b=some o'
 tups:∀b xs,H b=some (.tup xs)->H' b=some (.tup xs)
 frzs:∀b o u,H b=some (.frz o u)->H' b=some (.frz o u)
 tbls:∀b ps,H b=some (.tbl ps)->∃more,H' b=some (.tbl (ps++more))
section
variable{fs fs' ex ex':List Ul}{H H1 H2:Hp}{h h1 h2 h':Heap}{a x e:Ul}{o:HO}
theorem Un.any(u:Un fs ex H H1 h h1){b:Ul}{ob:Obj}(q:h.get? b=some ob)(n:H b=none)(hx:b∉ex):∃sl,h1.get? b=some {ob with slots:=sl}:=by
 by_cases hb:b∈fs
 ·exact u.slot b ob q n hb hx
 ·exact⟨ob.slots,u.keep b ob q n hb hx⟩
theorem Un.kept(k:∀b u,h.get? b=some u->h'.get? b=some u):Un fs ex H H h h':=
 ⟨λb ob q _ _ _=>k b ob q,λb ob q _ _ _=>⟨ob.slots,k b ob q⟩,λ_ _ _ n _=>n,λb ob q _=>⟨ob,k b ob q⟩,λ_ _ q=>q,λ_ _ _ q=>q,λ_ ps q=>⟨#[],by rw[q];simp⟩⟩
theorem Un.refl:Un fs ex H H h h:=Un.kept λ_ _ q=>q
theorem Un.laid(k:∀b u,h.get? b=some u->h'.get? b=some u)(hp:h.objs.size<=a)(hn:H a=none):Un fs ex H (upd H a o) h h' where
 keep:=λb u q _ _ _=>k b u q
 slot:=λb u q _ _ _=>⟨u.slots,k b u q⟩
 free:=λb u q n _=>by rw[Ku (QQ (QF (Qh q) hp))];exact n
 there:=λb u q _=>⟨u,k b u q⟩
 tups:=λb xs q=>by rw[Ku (Yo q hn)];exact q
 frzs:=λb u xs q=>by rw[Ku (Yo q hn)];exact q
 tbls:=λb ps q=>⟨#[],by rw[Ku (Yo q hn),q];simp⟩
theorem Un.write(mu:Mut (H x))(he:e=x∨H e=some (.own x))(k:∀b u,b≠e->h.get? b=some u->h'.get? b=some u)(heo:∃u,h'.get? e=some u):Un fs ex H (upd H x o) h h':=by
 have hx:∀b,H b=none->b≠x:=λb n z=>by subst z;rw[n]at mu;exact mu
 have hb:∀b,H b=none->b≠e:=λb n z=>by
  subst z;rcases he with r|r
  ·exact hx b n r
  ·rw[n]at r;cases r
 have hm:∀b u,H b=some u->¬Mut (some u)->b≠x:=λb u q nm z=>by subst z;rw[q]at mu;exact nm mu
 refine⟨λb u q n _ _=>k b u (hb b n) q,λb u q n _ _=>⟨u.slots,k b u (hb b n) q⟩,λb u q n _=>by rw[Ku (hx b n)];exact n,λb u q _=>?_,
  λb xs q=>by rw[Ku (hm b _ q λz=>z)];exact q,λb u xs q=>by rw[Ku (hm b _ q λz=>z)];exact q,λb ps q=>⟨#[],by rw[Ku (hm b _ q λz=>z),q];simp⟩⟩
 by_cases hbe:b=e
 ·subst hbe;exact heo
 ·exact⟨u,k b u hbe q⟩
end
def trk(h:Heap)(H:Hp):List Ul:=(Ut h.objs.size).filter λa=>(H a).isSome
def YB(h:Heap)(H:Hp):Heap:=PySem.W.hideAll h (trk h H)
theorem jU(h:Heap)(H:Hp):(YB h H).objs.size=h.objs.size:=PySem.W.hideAll_size _ _
theorem AI{h:Heap}{H:Hp}{b:Ul}{o:Obj}(e:h.get? b=some o)(n:H b=none):(YB h H).get? b=some o:=
 PySem.W.hideAll_get _ e λhm=>by have q:(H b).isSome=true:=(Jz.mp hm).2;rw[n]at q;simp at q
theorem Bj{h:Heap}{H:Hp}{b:Ul}{o:Obj}(e:(YB h H).get? b=some o):h.get? b=some o/\H b=none:=by
 have e':h.get? b=some o:=PySem.W.of_hideAll (trk h H) e;refine⟨e',?_⟩;cases q:H b with
 |none=>rfl
 |some x=>have hm:b∈trk h H:=List.mem_filter.mpr ⟨List.mem_range.mpr (Heap.lt_size e'),by simp[q]⟩;have z:(YB h H).get? b=none:=PySem.W.hideAll_none (trk h H) hm;rw[z]at e;cases e
structure Mod(K:Frag)(mg:Str->Option Ui)(base:Heap):Prop where
 kin:K.In base
 glob:base.Ns mainGlobals mg
 blt:∃mb,base.Ns builtinsNs mb/\∀x:Str,x ≠ "__name__" -> mb x=bootBuiltins x
 nolimit:base.NoLimit
structure Cx where
 prog:Uk
 w:World
 K:Frag
 mg:Str->Option Ui
 base:Heap
 A:Around
 N:List Str
 s₀:Uj
 H₀:Hp
 env:Env
 outer:List Env
 stack:List Env
 ex:List Ul
 fn:Str->Bool
 calm:Bool
 pn:List (Ul×Obj)
 xe:Ui->Uj->Prop
def frs(l:List Env):List Ul:=l.filterMap (·.frame)
abbrev Cx.fs(X:Cx):List Ul:=frs X.outer
def Vis(sc:Scope)(x:Str):Prop:=sc.names.lookup x=some .local∨sc.names.lookup x=some .cell∨sc.names.lookup x=some .free
def Loc(sc:Scope)(x:Str):Prop:=sc.names.lookup x=some .local∨sc.names.lookup x=some .cell
def Look(env:Env)(h:Heap)(m:Str->Option Ui)(x:Str)(u:Ui):Prop:=
 (env.kindOf x=some .local/\m x=some u)∨((env.kindOf x=some .cell∨env.kindOf x=some .free)/\∃c,env.cells.lookup x=some c/\h.IsCell c (some u))
structure Cx.Ok(X:Cx):Prop where
 mod:Mod X.K X.mg X.base
 kind:X.env.scope.kind=.function
 glob:X.env.globals=mainGlobals
 blt:X.env.builtins=builtinsNs
 above:X.s₀.heap.objs.size<=X.env.locals
 inj:∀x y c,X.env.cells.lookup x=some c->X.env.cells.lookup y=some c->x=y
 has:∀x,(X.env.kindOf x=some .cell∨X.env.kindOf x=some .free)->∃c,X.env.cells.lookup x=some c
 cab:∀x c,X.fn x=true->X.env.cells.lookup x=some c->X.s₀.heap.objs.size<=c
 hd:X.calm=true->X.A.handled=none
 frames:X.A.frames=some X.stack
 stk:X.stack=X.outer∨(X.stack=X.env::X.outer/\X.env.frame=some X.env.locals)
 exf:∀b∈X.ex,b≠X.env.locals/\∀x c,X.env.cells.lookup x=some c->c≠b
 bs:∀b o,X.base.get? b=some o->X.s₀.heap.get? b=some o/\X.H₀ b=none
 bsz:X.base.objs.size<=X.s₀.heap.objs.size
 noex:∀b o,X.base.get? b=some o->b∉X.ex
 exfs:∀b∈X.ex,b∉X.fs
 funs:X.s₀.heap.FunFrames X.base X.outer
 frf:∀b∈X.fs,X.H₀ b=none
structure Inv(X:Cx)(pins:List (Ul×Obj))(σ:List (Option V))(H:Hp)(s:Uj):Prop where
 ok:X.Ok
 os:s.os=X.s₀.os
 bare:AllBare s.gens
 base:Un X.fs X.ex X.H₀ H X.s₀.heap s.heap
 loc:∃m,s.heap.Ns X.env.locals m/\∀(i:Nat)(x:Str)(v:V),X.N[i]?=some x->σ[i]?=some (some v)->Vis X.env.scope x->∃u,RelV v u/\Look X.env s.heap m x u
 cell:∀x c,X.env.cells.lookup x=some c->∃v,s.heap.IsCell c v
 free:H X.env.locals=none
 freeC:∀x c,X.env.cells.lookup x=some c->H c=none
 pin:∀p∈X.pn++pins,s.heap.get? p.1=some p.2/\H p.1=none/\p.1≠X.env.locals/\p.1∉X.fs/\∀v,p.2.data≠.cell v
 hok:HOk X.prog X.w H s.heap
 len:σ.length=X.N.length
section
variable{X:Cx}{pins:List (Ul×Obj)}{σ:List (Option V)}{H H':Hp}{s:Uj}{h':Heap}
theorem Cx.Ok.nofr(ok:X.Ok){b:Ul}{o:Obj}(e:X.base.get? b=some o):b∉X.fs:=λhb=>by have:=(ok.funs.mem hb).1;rw[e]at this;cases this
theorem Inv.bs(I:Inv X pins σ H s):∀b o,X.base.get? b=some o->s.heap.get? b=some o/\H b=none:=λb o e=>
 ⟨I.base.keep b o (I.ok.bs b o e).1 (I.ok.bs b o e).2 (I.ok.nofr e) (I.ok.noex b o e),I.base.free b o (I.ok.bs b o e).1 (I.ok.bs b o e).2 (I.ok.noex b o e)⟩
theorem Inv.bk(I:Inv X pins σ H s):∀b o,X.base.get? b=some o->s.heap.get? b=some o:=λb o e=>(I.bs b o e).1
theorem Inv.mod(I:Inv X pins σ H s):Mod X.K X.mg X.base:=I.ok.mod
theorem Inv.kIn(I:Inv X pins σ H s):X.K.In s.heap:=I.ok.mod.kin.keeps I.bk
theorem Inv.lt(I:Inv X pins σ H s):X.env.locals<s.heap.objs.size:=let ⟨_,hn,_⟩:=I.loc;hn.lt
theorem Inv.sz(I:Inv X pins σ H s):X.s₀.heap.objs.size<=s.heap.objs.size:=QR I.ok.above (Uf I.lt)
theorem Inv.nofs(I:Inv X pins σ H s){a:Ul}(h:s.heap.objs.size<=a):a∉X.fs:=λhb=>by obtain⟨_,o,ho,_⟩:=I.ok.funs.mem hb;exact absurd (QF (Qh ho) (QR I.sz h)) (Jr _)
theorem Inv.cne(I:Inv X pins σ H s):∀x c,X.env.cells.lookup x=some c->c≠X.env.locals:=λx c e z=>by obtain⟨v,o,ho,hd⟩:=I.cell x c e;obtain⟨m,⟨o',es,ep,ho',hd',_⟩,_⟩:=I.loc;rw[z,ho']at ho;cases ho;rw[hd']at hd;cases hd
theorem Inv.funs(I:Inv X pins σ H s):s.heap.FunFrames X.base X.outer:=by
 have all:∀(l:List Env),(∀b∈frs l,b∈X.fs)->X.s₀.heap.FunFrames X.base l->s.heap.FunFrames X.base l:=by
  intro l;induction l with
  |nil=>intro _ _;trivial
  |cons env r ih=>
   intro hs hl;obtain⟨hk,⟨L,o,hf,hn,ho,hd⟩,hr⟩:=hl;have hL:L∈X.fs:=hs L (by unfold frs;rw[Jx,hf];exact Qn);obtain⟨sl,e⟩:=I.base.slot L o ho (I.ok.frf L hL) hL λz=>I.ok.exfs L z hL
   exact⟨hk,⟨L,_,hf,hn,e,hd⟩,ih (λb hb=>hs b (by unfold frs;rw[Jx,hf];exact Ql _ hb)) hr⟩
 exact all X.outer (λ_ hb=>hb) I.ok.funs
theorem Inv.stack(I:Inv X pins σ H s):s.heap.FunFrames X.base X.stack:=by
 rcases I.ok.stk with e|⟨e,hf⟩
 ·rw[e];exact I.funs
 ·rw[e];obtain⟨m,hn,_⟩:=I.loc;refine .cons (by rw[I.ok.kind];decide) hf hn ?_ I.funs;exact Heap.get?_none_of_le (QR I.ok.bsz I.ok.above)
theorem Inv.stkSub(I:Inv X pins σ H s):∀b∈frs X.stack,b∈X.env.locals::X.fs:=λb hb=>by
 rcases I.ok.stk with e|⟨e,hf⟩
 ·rw[e]at hb;exact Ql _ hb
 ·rw[e]at hb;unfold frs at hb;rw[Jx,hf]at hb;exact hb
theorem Inv.stkFree(I:Inv X pins σ H s):∀b∈frs X.stack,H b=none:=λb hb=>by
 rcases QS.mp (I.stkSub b hb)with e|hb
 ·rw[e];exact I.free
 ·obtain⟨_,o,ho,_⟩:=I.ok.funs.mem hb;exact I.base.free b o ho (I.ok.frf b hb) λz=>I.ok.exfs b z hb
theorem Inv.step{g':Array GenState}{t':Nat}{d':Drawn}{ch:List Ul}(I:Inv X pins σ H s)
  (hch:∀b∈ch,(b∈X.ex∨X.s₀.heap.objs.size<=b)/\b≠X.env.locals/\(∀x c,X.env.cells.lookup x=some c->c≠b)/\∀p∈X.pn++pins,p.1≠b)
  (keep:∀b o,b≠X.env.locals->b∉X.fs->b∉ch->s.heap.get? b=some o->H b=none->h'.get? b=some o)
  (slot:∀b o,b≠X.env.locals->b∈X.fs->b∉ch->s.heap.get? b=some o->H b=none->∃sl,h'.get? b=some {o with slots:=sl}) (free:∀b o,b∉ch->s.heap.get? b=some o->H b=none->H' b=none)
  (there:∀b o,b∉ch->s.heap.get? b=some o->∃o',h'.get? b=some o')
  (tups:∀b xs,H b=some (.tup xs)->H' b=some (.tup xs)) (frzs:∀b o u,H b=some (.frz o u)->H' b=some (.frz o u)) (tbls:∀b ps,H b=some (.tbl ps)->∃more,H' b=some (.tbl (ps++more)))
  (ns:∀m,s.heap.Ns X.env.locals m->h'.Ns X.env.locals m) (hok:HOk X.prog X.w H' h') (hg:AllBare g') :
  Inv X pins σ H' {s with heap:=h',gens:=g',drawn:=d',toks:=t'}:=by
 have neL:∀b o,X.s₀.heap.get? b=some o->b≠X.env.locals:=λb o e=>QQ (QF (Qh e) I.ok.above)
 have neC:∀b o,X.s₀.heap.get? b=some o->b∉X.ex->b∉ch:=λb o e hx hb=>by
  rcases(hch b hb).1 with z|z
  ·exact hx z
  ·exact absurd (QF (Qh e) z) (Jr _)
 have cellK:∀x c,X.env.cells.lookup x=some c->∀v,s.heap.IsCell c v->h'.IsCell c v:=λx c e v ⟨o,ho,hd⟩=>by
  have nch:c∉ch:=λz=>(hch c z).2.2.1 x c e rfl
  by_cases hc:c∈X.fs
  ·obtain⟨sl,q⟩:=slot c o (I.cne x c e) hc nch ho (I.freeC x c e);exact⟨_,q,hd⟩
  ·exact⟨o,keep c o (I.cne x c e) hc nch ho (I.freeC x c e),hd⟩
 refine⟨I.ok,I.os,hg,⟨λb o e n hb hx=>?_,λb o e n hb hx=>?_,λb o e n hx=>?_,λb o e hx=>?_,λb xs e=>tups b xs (I.base.tups b xs e),λb o xs e=>frzs b o xs (I.base.frzs b o xs e),λb ps e=>?_⟩,?_,λx c e=>?_,?_,λx c e=>?_,λp hp=>?_,hok,I.len⟩
 ·exact keep b o (neL b o e) hb (neC b o e hx) (I.base.keep b o e n hb hx) (I.base.free b o e n hx)
 ·obtain⟨sl,e1⟩:=I.base.slot b o e n hb hx;obtain⟨sl',e2⟩:=slot b _ (neL b o e) hb (neC b o e hx) e1 (I.base.free b o e n hx);exact⟨sl',e2⟩
 ·obtain⟨o',e1⟩:=I.base.there b o e hx;exact free b o' (neC b o e hx) e1 (I.base.free b o e n hx)
 ·obtain⟨o',e1⟩:=I.base.there b o e hx;exact there b o' (neC b o e hx) e1
 ·obtain⟨m1,e1⟩:=I.base.tbls b ps e;obtain⟨m2,e2⟩:=tbls b _ e1;exact⟨m1++m2,by rw[e2,Array.append_assoc]⟩
 ·obtain⟨m,hn,hl⟩:=I.loc;refine⟨m,ns m hn,λi x v e1 e2 e3=>?_⟩;obtain⟨u,r,l⟩:=hl i x v e1 e2 e3;refine⟨u,r,?_⟩;rcases l with l|⟨k,c,e,z⟩
  ·exact .inl l
  ·exact .inr ⟨k,c,e,cellK x c e _ z⟩
 ·obtain⟨v,z⟩:=I.cell x c e;exact⟨v,cellK x c e v z⟩
 ·obtain⟨m,⟨o,_,_,ho,_⟩,_⟩:=I.loc;exact free _ o (λz=>(hch _ z).2.1 rfl) ho I.free
 ·obtain⟨v,o,ho,hd⟩:=I.cell x c e;exact free c o (λz=>(hch c z).2.2.1 x c e rfl) ho (I.freeC x c e)
 ·obtain⟨e,n,ne,nf,d⟩:=I.pin p hp;have nch:p.1∉ch:=λz=>(hch p.1 z).2.2.2 p hp rfl
  exact⟨keep p.1 p.2 ne nf nch e n,free p.1 p.2 nch e n,ne,nf,d⟩
theorem Inv.un{t':Nat}(I:Inv X pins σ H s)(u:Un X.fs [] H H' s.heap h')(hok:HOk X.prog X.w H' h'):Inv X pins σ H' {s with heap:=h',toks:=t'}:=by obtain⟨m,⟨o,es,ep,ho,r⟩,_⟩:=id I.loc;obtain⟨sl,hL⟩:=u.any ho I.free (by simp);exact I.step (g':=s.gens) (d':=s.drawn) (ch:=[]) (λ_ z=>nomatch z) (λb o _ hb _ e n=>u.keep b o e n hb (by simp)) (λb o _ hb _ e n=>u.slot b o e n hb (by simp)) (λb o _ e n=>u.free b o e n (by simp)) (λb o _ e=>u.there b o e (by simp)) u.tups u.frzs u.tbls (λm' hm=>by obtain⟨o',es',ep',ho',r'⟩:=hm;rw[ho]at ho';cases ho';exact⟨_,es',ep',hL,r'⟩) hok I.bare
theorem Inv.call{g':Array GenState}{t':Nat}{d':Drawn}{ch:List Ul}(I:Inv X pins σ H s)(u:Un (frs X.stack) ch H H' s.heap h')(hok:HOk X.prog X.w H' h')(hg:AllBare g')
  (hch:∀b∈ch,(b∈X.ex∨X.s₀.heap.objs.size<=b)/\b≠X.env.locals/\(∀x c,X.env.cells.lookup x=some c->c≠b)/\∀p∈X.pn++pins,p.1≠b) :
  Inv X pins σ H' {s with heap:=h',gens:=g',drawn:=d',toks:=t'}:=by
 obtain⟨m,⟨o,es,ep,ho,r⟩,_⟩:=id I.loc;obtain⟨sl,hL⟩:=u.any ho I.free λz=>(hch _ z).2.1 rfl
 exact I.step (ch:=ch) hch (λb o hL hb hc e n=>u.keep b o e n (λz=>(QS.mp (I.stkSub b z)).elim hL hb) hc) (λb o _ _ hc e n=>u.any e n hc) (λb o hc e n=>u.free b o e n hc) (λb o hc e=>u.there b o e hc) u.tups u.frzs u.tbls (λm' hm=>by obtain⟨o',es',ep',ho',r'⟩:=hm;rw[ho]at ho';cases ho';exact⟨_,es',ep',hL,r'⟩) hok hg
theorem Inv.turned{t':Nat}{it:Ul}(I:Inv X pins σ H s)(k:∀b o,b≠it->s.heap.get? b=some o->h'.get? b=some o)(hn:H it=none)(hL:it≠X.env.locals)
  (h1:it∈X.ex∨X.s₀.heap.objs.size<=it) (h2:∀x c,X.env.cells.lookup x=some c->c≠it) (h3:∀p∈X.pn++pins,p.1≠it):Inv X pins σ H {s with heap:=h',toks:=t'}:=by
 have nit:∀b u,H b=some u->b≠it:=λb u e z=>by rw[z,hn]at e;cases e
 refine I.step (g':=s.gens) (d':=s.drawn) (ch:=[it]) (λb hb=>?_) (λb o _ _ hc e _=>k b o (λz=>hc (by simp[z])) e) (λb o _ _ hc e _=>⟨o.slots,k b o (λz=>hc (by simp[z])) e⟩) (λ_ _ _ _ n=>n)
  (λb o hc e=>⟨o,k b o (λz=>hc (by simp[z])) e⟩) (λ_ _ e=>e) (λ_ _ _ e=>e) (λb ps e=>⟨#[],by rw[e];simp⟩) (λm hm=>?_) (λb u e=>?_) I.bare
 ·have e:b=it:=by simpa using hb
  subst e;exact⟨h1,hL,h2,h3⟩
 ·obtain⟨o,es,ep,ho,r⟩:=hm;exact⟨o,es,ep,k _ o (Ne.symm hL) ho,r⟩
 ·refine(I.hok b u e).stay (λc v hc q=>k c v ?_ q) (λ_ q=>q) λ_ _ q=>q
  rcases hc with z|z
  ·rw[z];exact nit b u e
  ·exact nit c _ z
theorem Inv.tok(I:Inv X pins σ H s)(t:Nat):Inv X pins σ H {s with toks:=t}:=I.un (h':=s.heap) (t':=t) Un.refl I.hok
theorem Inv.kept{t':Nat}(I:Inv X pins σ H s)(k:∀b u,s.heap.get? b=some u->h'.get? b=some u):Inv X pins σ H {s with heap:=h',toks:=t'}:=I.un (Un.kept k) (I.hok.kept k)
theorem Inv.laid{a:Ul}{o:HO}{t':Nat}(I:Inv X pins σ H s)(k:∀b u,s.heap.get? b=some u->h'.get? b=some u)(hp:s.heap.objs.size<=a)(new:ZH X.prog X.w (upd H a o) h' a o) :
  Inv X pins σ (upd H a o) {s with heap:=h',toks:=t'}:=I.un (Un.laid k hp (I.hok.fresh hp)) (I.hok.laid k hp new)
theorem Inv.write{x e:Ul}{o:HO}{t':Nat}(I:Inv X pins σ H s)(mu:Mut (H x))(he:e=x∨H e=some (.own x))(k:∀b u,b≠e->s.heap.get? b=some u->h'.get? b=some u)(heo:∃u,h'.get? e=some u)
  (new:ZH X.prog X.w (upd H x o) h' x o):Inv X pins σ (upd H x o) {s with heap:=h',toks:=t'}:=I.un (Un.write mu he k heo) (I.hok.write mu he k heo new)
theorem Inv.pins_of{pins':List (Ul×Obj)}(I:Inv X pins σ H s)(h:∀p∈pins',s.heap.get? p.1=some p.2/\H p.1=none/\p.1≠X.env.locals/\p.1∉X.fs/\∀v,p.2.data≠.cell v):Inv X pins' σ H s:=
 ⟨I.ok,I.os,I.bare,I.base,I.loc,I.cell,I.free,I.freeC,λp hp=>(QJ.mp hp).elim (λz=>I.pin p (Q0 _ z)) (h p),I.hok,I.len⟩
theorem LJ{N:List Str}(hN:N.Nodup){i j:Nat}{x:Str}(a:N[i]?=some x)(b:N[j]?=some x):i=j:=by obtain⟨h1,e1⟩:=Qg.mp a;obtain⟨h2,e2⟩:=Qg.mp b;exact(List.getElem_inj hN).mp (e1.trans e2.symm)
theorem Ni{M:Model}{A:Around}{E:Ui->Uj->Prop}{i:Nat}{x:Str}{v:V}{u:Ui}{Q:Unit->Uj->Prop}(I:Inv X pins σ H s)(hN:X.N.Nodup)(hi:X.N[i]?=some x)(hx:Loc X.env.scope x)(r:RelV v u)
  (h:∀s',Inv X pins (σ.set i (some v)) H s'->(∃a,Heap.SameBut a s.heap s'.heap/\(a=X.env.locals∨X.env.cells.lookup x=some a))->Q () s') (hf:X.fn x=true∨X.env.scope.names.lookup x=some .local:=by first|exact .inl rfl|exact .inr rfl|assumption):Uq M A (storeName X.env x u) Q E s:=by
 obtain⟨m,hn,hl⟩:=id I.loc;have hcls:(X.env.scope.kind==.class || (X.env.scope.kind==.module&&X.env.locals != X.env.globals))=false:=by rw[I.ok.kind];rfl
 have hiσ:i<σ.length:=by rw[I.len];exact(Qg.mp hi).1
 have cne:=I.cne
 have tracked:∀{a:Ul}{h':Heap},(∃o,s.heap.get? a=some o/\H a=none)->Heap.SameBut a s.heap h'->HOk X.prog X.w H h':=λ{a h'} ha hs b ob e=>by
  obtain⟨_,_,hfree⟩:=ha;refine(I.hok b ob e).stay (λc w' hc q=>(hs.2 c ?_).trans q) (λ_ q=>q) λ_ _ q=>q
  rintro rfl;rcases hc with rfl|hc
  ·rw[hfree]at e;cases e
  ·rw[hfree]at hc;cases hc
 rcases hx with hk|hk
 ·refine wpAny_storeName_local hk hn (λh' hn' hs=>?_) hcls;obtain⟨oL,_,_,hoL,_⟩:=id hn;refine h _ ⟨I.ok,I.os,I.bare,⟨λb o e n hb hx=>?_,λb o e n hb hx=>?_,I.base.free,λb o e hx=>?_,I.base.tups,I.base.frzs,I.base.tbls⟩,⟨_,hn',λj y v' e1 e2 e3=>?_⟩,λy c e=>?_,I.free,I.freeC,λp hp=>?_,tracked ⟨oL,hoL,I.free⟩ hs,by simpa using I.len⟩ ⟨_,hs,.inl rfl⟩
  ·exact(hs.2 b (QQ (QF (Qh e) I.ok.above))).trans (I.base.keep b o e n hb hx)
  ·obtain⟨sl,e1⟩:=I.base.slot b o e n hb hx;exact⟨sl,(hs.2 b (QQ (QF (Qh e) I.ok.above))).trans e1⟩
  ·obtain⟨o',e1⟩:=I.base.there b o e hx;exact⟨o',(hs.2 b (QQ (QF (Qh e) I.ok.above))).trans e1⟩
  ·by_cases hj:j=i
   ·subst hj;rw[hi]at e1;cases e1;rw[QI hiσ]at e2;cases e2;exact⟨u,r,.inl ⟨hk,by simp⟩⟩
   ·rw[Qp (Ne.symm hj)]at e2;obtain⟨u',r',q⟩:=hl j y v' e1 e2 e3;refine⟨u',r',?_⟩;rcases q with ⟨k,e⟩|⟨k,c,e,z⟩
    ·refine .inl ⟨k,?_⟩;have:y≠x:=λe=>hj (LJ hN e1 (e ▸ hi))
     simp[this,e]
    ·exact .inr ⟨k,c,e,z.sameBut hs (cne y c e)⟩
  ·obtain⟨w',z⟩:=I.cell y c e;exact⟨w',z.sameBut hs (cne y c e)⟩
  ·obtain⟨e,n,ne,nf,d⟩:=I.pin p hp;exact⟨(hs.2 p.1 ne).trans e,n,ne,nf,d⟩
 ·have hfn:X.fn x=true:=by
   rcases hf with z|z
   ·exact z
   ·rw[z]at hk;cases hk
  obtain⟨c,hc⟩:=I.ok.has x (.inl hk);obtain⟨w',z⟩:=I.cell x c hc;refine wpAny_storeName_cell I.ok.kind hk hc z (λh' hc' hs=>?_);obtain⟨oc,hoc,hocd⟩:=id z;refine h {s with heap:=h'} ⟨I.ok,I.os,I.bare,⟨λb o e n hb hx=>?_,λb o e n hb hx=>?_,I.base.free,λb o e hx=>?_,I.base.tups,I.base.frzs,I.base.tbls⟩,⟨m,hn.sameBut hs (Ne.symm (cne x c hc)),λj y v' e1 e2 e3=>?_⟩,λy c' e=>?_,I.free,I.freeC,λp hp=>?_,tracked ⟨oc,hoc,I.freeC x c hc⟩ hs,by simpa using I.len⟩ ⟨c,hs,.inr hc⟩
  ·exact(hs.2 b (QQ (QF (Qh e) (I.ok.cab x c hfn hc)))).trans (I.base.keep b o e n hb hx)
  ·obtain⟨sl,e1⟩:=I.base.slot b o e n hb hx;exact⟨sl,(hs.2 b (QQ (QF (Qh e) (I.ok.cab x c hfn hc)))).trans e1⟩
  ·obtain⟨o',e1⟩:=I.base.there b o e hx;exact⟨o',(hs.2 b (QQ (QF (Qh e) (I.ok.cab x c hfn hc)))).trans e1⟩
  ·by_cases hj:j=i
   ·subst hj;rw[hi]at e1;cases e1;rw[QI hiσ]at e2;cases e2;exact⟨u,r,.inr ⟨.inl hk,c,hc,hc'⟩⟩
   ·rw[Qp (Ne.symm hj)]at e2;obtain⟨u',r',q⟩:=hl j y v' e1 e2 e3;refine⟨u',r',?_⟩;rcases q with q|⟨k,c',e,z'⟩
    ·exact .inl q
    ·refine .inr ⟨k,c',e,z'.sameBut hs ?_⟩;rintro rfl;exact hj (LJ hN e1 (I.ok.inj _ _ _ e hc ▸ hi))
  ·by_cases hcc:c'=c
   ·subst hcc;exact⟨_,hc'⟩
   ·obtain⟨w2,z2⟩:=I.cell y c' e;exact⟨w2,z2.sameBut hs hcc⟩
  ·obtain⟨e,n,ne,nf,d⟩:=I.pin p hp;refine⟨(hs.2 p.1 ?_).trans e,n,ne,nf,d⟩;intro q;rw[q,hoc]at e;have q':oc=p.2:=Q5 e;exact d w' (by rw[←q'];exact hocd)
theorem OZ{M:Model}{A:Around}{E:Ui->Uj->Prop}{i:Nat}{x:Str}{v:V}{u:Ui}{Q:Unit->Uj->Prop}(I:Inv X pins σ H s)(hN:X.N.Nodup)(hi:X.N[i]?=some x)(hx:Loc X.env.scope x)(r:RelV v u)
  (h:∀s',Inv X pins (σ.set i (some v)) H s'->Q () s') (hf:X.fn x=true∨X.env.scope.names.lookup x=some .local:=by first|exact .inl rfl|exact .inr rfl|assumption):Uq M A (storeName X.env x u) Q E s:=
 Ni I hN hi hx r (λs' I' _=>h s' I') hf
theorem Inv.call'{s':Uj}{ch:List Ul}(I:Inv X pins σ H s)(ho:s'.os=s.os)(u:Un (frs X.stack) ch H H' s.heap s'.heap)(hok:HOk X.prog X.w H' s'.heap)(hg:AllBare s'.gens)
  (hch:∀b∈ch,(b∈X.ex∨X.s₀.heap.objs.size<=b)/\b≠X.env.locals/\(∀x c,X.env.cells.lookup x=some c->c≠b)/\∀p∈X.pn++pins,p.1≠b):Inv X pins σ H' s':=by
 obtain⟨h',g',d',t',o'⟩:=s';have e:o'=s.os:=ho;subst e;exact I.call (g':=g') (t':=t') (d':=d') u hok hg hch
end
abbrev XK:=Ui->Option Ul->Hp->Prop
abbrev St:=List (Option V)
abbrev VK:=V->Hp->Prop
abbrev TE:=St->Hp->VK->Prop
abbrev TT:=St->Hp->(Bool->Hp->Prop)->Prop
abbrev TA:=St->Hp->(List V->Hp->Prop)->Prop
structure Ends where
 nx:St->Hp->Prop
 rt:VK
 bk:St->Hp->Prop:=λ_ _=>False
 ct:St->Hp->Prop:=λ_ _=>False
abbrev TS:=Ends->St->Hp->Prop
def EP(X:Cx)(pins:List (Ul×Obj))(σ:St)(Q:VK)(u:Ui)(s':Uj):Prop:=∃v H',Inv X pins σ H' s'/\RelV v u/\Q v H'
def TP(X:Cx)(pins:List (Ul×Obj))(σ:St)(Q:Bool->Hp->Prop)(b:Bool)(s':Uj):Prop:=∃H',Inv X pins σ H' s'/\Q b H'
def AP(X:Cx)(pins:List (Ul×Obj))(σ:St)(Q:List V->Hp->Prop)(us:List Ui)(s':Uj):Prop:=∃vs H',Inv X pins σ H' s'/\Vals vs us/\Q vs H'
def SP(X:Cx)(pins:List (Ul×Obj))(D:Ends)(f:Flow)(s':Uj):Prop:=
 match f with
 |.next=>∃σ' H',Inv X pins σ' H' s'/\D.nx σ' H'
 |.brk=>∃σ' H',Inv X pins σ' H' s'/\D.bk σ' H'
 |.cont=>∃σ' H',Inv X pins σ' H' s'/\D.ct σ' H'
 |.ret u=>∃v σ' H',Inv X pins σ' H' s'/\RelV v u/\D.rt v H'
def PE(X:Cx)(e:Uo)(t:TE):Prop:=
 ∀(pins:List (Ul×Obj))(s:Uj)(σ:St)(H:Hp)(Q:VK),Inv X pins σ H s->t σ H Q->Uq (model X.prog X.w) X.A (eval e X.env) (EP X pins σ Q) X.xe s
def PT(X:Cx)(e:Uo)(t:TT):Prop:=
 ∀(pins:List (Ul×Obj))(s:Uj)(σ:St)(H:Hp)(Q:Bool->Hp->Prop),Inv X pins σ H s->t σ H Q->Uq (model X.prog X.w) X.A (isTrue e X.env (eval e X.env)) (TP X pins σ Q) X.xe s
def PW(X:Cx)(e:Uo)(t:TT):Prop:=
 ∀(whole:Sem Ui)(pins:List (Ul×Obj))(s:Uj)(σ:St)(H:Hp)(Q:Bool->Hp->Prop),Inv X pins σ H s->t σ H Q->Uq (model X.prog X.w) X.A (isTrue e X.env whole) (TP X pins σ Q) X.xe s
theorem PW.pt{X:Cx}{e:Uo}{t:TT}(h:PW X e t):PT X e t:=h _
def PA(X:Cx)(es:List Uo)(t:TA):Prop:=
 ∀(pos:Pos)(pins:List (Ul×Obj))(s:Uj)(σ:St)(H:Hp)(Q:List V->Hp->Prop),Inv X pins σ H s->t σ H Q->Uq (model X.prog X.w) X.A (spliced (backTo pos (Ur es X.env))) (AP X pins σ Q) X.xe s
def PS(X:Cx)(st:Stmt)(t:TS):Prop:=
 ∀(pins:List (Ul×Obj))(s:Uj)(σ:St)(H:Hp)(D:Ends),Inv X pins σ H s->t D σ H->Uq (model X.prog X.w) X.A (exec st X.env) (SP X pins D) X.xe s
def PSs(X:Cx)(st:List Stmt)(t:TS):Prop:=
 ∀(pins:List (Ul×Obj))(s:Uj)(σ:St)(H:Hp)(D:Ends),Inv X pins σ H s->t D σ H->Uq (model X.prog X.w) X.A (execs st X.env) (SP X pins D) X.xe s
theorem thn{α:Type}{t:Sem α}{Q Q':α->Uj->Prop}{M:Model}{A:Around}{E:Ui->Uj->Prop}{s:Uj}(h:Uq M A t Q E s)(hQ:∀a s,Q a s->Q' a s):Uq M A t Q' E s:=QK h hQ λ_ _ x=>x
section
variable{X:Cx}
def K2(i:Nat):TE:=λσ H Q=>∃v,σ[i]?=some (some v)/\Q v H
def tC(v:V):TE:=λ_ H Q=>Q v H
theorem Mi{i:Nat}{x:Str}{pos:Pos}(hN:X.N[i]?=some x)(hv:Vis X.env.scope x)(hd:(x==("__debug__" : Str))=false:=by decide)(hcd:(x==("__classdict__" : Str))=false:=by decide):PE X (.Name x pos) (K2 i):=by
 intro pins s σ H Q I h;obtain⟨v,e,h⟩:=h;obtain⟨m,hn,hl⟩:=I.loc;obtain⟨u,r,l⟩:=hl i x v hN e hv;have fin:EP X pins σ Q u s:=⟨v,H,I,r,h⟩;rcases l with ⟨hk,hm⟩|⟨hk,c,hc,hcell⟩
 ·exact wpAny_Name (wpAny_loadName_local I.ok.kind hk hn hm fin) hd
 ·rcases hk with hk|hk
  ·exact wpAny_Name (wpAny_loadName_cell I.ok.kind hk hc hcell fin) hd
  ·exact wpAny_Name (wpAny_loadName_free I.ok.kind hk hc hcell fin hcd) hd
theorem Dh{i j pos}:PE X (.Constant (.int i) j pos) (tC (.int i)):=λ_ _ _ H _ I h=>wpAny_Constant_int ⟨.int i,H,I.tok _,⟨_,rfl⟩,h⟩
theorem FD{b j pos}:PE X (.Constant (.bool b) j pos) (tC (.bl b)):=λ_ _ _ H _ I h=>Constant_bool ⟨.bl b,H,I,rfl,h⟩
theorem Dg{j pos}:PE X (.Constant .none j pos) (tC .non):=λ_ _ _ H _ I h=>Constant_none ⟨.non,H,I,rfl,h⟩
theorem Df{x j pos}:PE X (.Constant (.str x) j pos) (tC (.str x)):=λ_ _ _ H _ I h=>Calls.Constant_str ⟨.str x,H,I.tok _,⟨_,rfl⟩,h⟩
def Gl(X:Cx)(x:Str):Prop:=X.env.kindOf x=some .globalImplicit
theorem LB{E:Ui->Uj->Prop}{pins:List (Ul×Obj)}{s:Uj}{σ:St}{H:Hp}{x:Str}{u:Ui}{pos:Pos}{Q:Ui->Uj->Prop}(I:Inv X pins σ H s)(hg:Gl X x)(hm:X.mg x=some u)(h:Q u s)
  (hd:(x==("__debug__" : Str))=false:=by decide):Uq (model X.prog X.w) X.A (eval (.Name x pos) X.env) Q E s:=
 Calls.Name_function_global I.ok.kind hg (Calls.loadGlobal_global (by rw[I.ok.glob];exact I.mod.glob.keeps I.bk) hm h) hd
theorem VD{E:Ui->Uj->Prop}{pins:List (Ul×Obj)}{s:Uj}{σ:St}{H:Hp}{x:Str}{u:Ui}{pos:Pos}{Q:Ui->Uj->Prop}(I:Inv X pins σ H s)(hg:Gl X x)(hm:X.mg x=none)(hv:bootBuiltins x=some u)(h:Q u s)
  (hn:x ≠ "__name__" :=by decide) (hd:(x==("__debug__" : Str))=false:=by decide):Uq (model X.prog X.w) X.A (eval (.Name x pos) X.env) Q E s:=by
 obtain⟨mb,h1,h2⟩:=I.mod.blt;exact Calls.Name_function_global I.ok.kind hg (Calls.loadGlobal_builtin (by rw[I.ok.glob];exact I.mod.glob.keeps I.bk) hm (by rw[I.ok.blt];exact h1.keeps I.bk) ((h2 x hn).trans hv) h) hd
theorem LA{x:Str}{v:V}{u:Ui}{pos:Pos}(hg:Gl X x)(hm:X.mg x=some u)(r:RelV v u)(hd:(x==("__debug__" : Str))=false:=by decide):PE X (.Name x pos) (tC v):=
 λ_ _ _ H _ I h=>LB I hg hm ⟨v,H,I,r,h⟩ hd
theorem Bh{x:Str}{v:V}{u:Ui}{pos:Pos}(hg:Gl X x)(hm:X.mg x=none)(hv:bootBuiltins x=some u)(r:RelV v u)(hn:x ≠ "__name__" :=by decide)(hd:(x==("__debug__" : Str))=false:=by decide):PE X (.Name x pos) (tC v):=
 λ_ _ _ H _ I h=>VD I hg hm hv ⟨v,H,I,r,h⟩ hn hd
variable{a b:Uo}{ta tb:TE}{pos:Pos}
def PC(X:Cx)(op:CmpOp)(a b:Uo)(t:TE):Prop:=
 ∀(pins:List (Ul×Obj))(s:Uj)(σ:St)(H:Hp)(Q:VK),Inv X pins σ H s->t σ H Q ->
  Uq (model X.prog X.w) X.A (eval a X.env) (λv s₁=>Uq (model X.prog X.w) X.A (eval b X.env) (λu s₂=>Uq (model X.prog X.w) X.A (Us op v u) (EP X pins σ Q) X.xe s₂) X.xe s₁) X.xe s
theorem PF(b:Uo){op:CmpOp}(h:op≠.In)(h2:op≠.NotIn):behindInMarks op b=false:=by
 have e1:(op==CmpOp.In)=false:=by cases op<;>first|rfl|exact absurd rfl h
 have e2:(op==CmpOp.NotIn)=false:=by cases op<;>first|rfl|exact absurd rfl h2
 cases b<;>simp[behindInMarks,e1,e2]
def tIsN(ta:TE):TE:=λσ H Q=>ta σ H λx H1=>Q (.bl (decide (x=.non))) H1
def FC(ta:TE):TE:=λσ H Q=>ta σ H λx H1=>Q (.bl (!decide (x=.non))) H1
theorem RelV.none_iff{x:V}{v:Ui}(r:RelV x v):(v==Value.none)=decide (x=.non):=by
 cases x with
 |non=>cases r;rfl
 |bl _=>cases r;rfl
 |int _=>obtain⟨t,rfl⟩:=r;rfl
 |str _=>obtain⟨t,rfl⟩:=r;rfl
 |byt _=>obtain⟨t,rfl⟩:=r;rfl
 |flt _=>obtain⟨t,rfl⟩:=r;rfl
 |ref _=>cases r;rfl
 |ty _=>cases r;rfl
theorem Mh{j pos'}(ha:PE X a ta):PC X .Is a (.Constant .none j pos') (tIsN ta):=by intro pins s σ H Q I h;refine thn (ha pins s σ H _ I h) λv s1 ⟨x,H1,I1,r1,q1⟩=>?_;exact Constant_none (is_none_gen ⟨.bl _,H1,I1,by rw[r1.none_iff];rfl,q1⟩)
theorem Bg{j pos'}(ha:PE X a ta):PC X .IsNot a (.Constant .none j pos') (FC ta):=by intro pins s σ H Q I h;refine thn (ha pins s σ H _ I h) λv s1 ⟨x,H1,I1,r1,q1⟩=>?_;exact Constant_none (isnot_none_gen ⟨.bl _,H1,I1,by rw[r1.none_iff];rfl,q1⟩)
def tB(t:TE):TT:=λσ H Q=>t σ H λx H1=>∃c,x=.bl c/\Q c H1
theorem De{op:CmpOp}{t:TE}(h:PC X op a b t)(h1:behindInMarks op b=false:=by first|exact PF _ (by decide) (by decide)|rfl):PE X (.Compare a [op] [b] pos) t:=λpins s σ H Q I hw=>wpAny_Compare1 (h pins s σ H Q I hw) h1
theorem Pc{op:CmpOp}{t:TE}(h:PC X op a b t)(h1:behindInMarks op b=false:=by first|exact PF _ (by decide) (by decide)|rfl):PT X (.Compare a [op] [b] pos) (tB t):=by intro pins s σ H Q I hw;refine wpAny_isTrue_Compare1 (thn (h pins s σ H _ I hw) λv s1 h1=>thn h1 λu s2 h2=>thn h2 λc s3 ⟨x,H1,I1,r1,q1⟩=>?_) h1;obtain⟨d,rfl,q⟩:=q1;cases r1;exact Q2 ⟨H1,I1,q⟩
theorem Dd{e:Uo}{t:TE}(h:PE X e t)(he:∀whole,isTrue e X.env whole=(do let v ←whole;standAt e.pos;holding [v] (truthy v)):=by intro _;rfl):PT X e (tB t):=by intro pins s σ H Q I hw;refine isTrue_plain (thn (h pins s σ H _ I hw) λv s1 ⟨x,H1,I1,r1,q1⟩=>?_) (he _);obtain⟨d,rfl,q⟩:=q1;cases r1;exact Q2 ⟨H1,I1,q⟩
variable{tA tB':TT}{rest:List Uo}
def tAnd(t u:TT):TT:=λσ H Q=>t σ H λc H1=>if c=true then u σ H1 Q else Q false H1
def tOr(t u:TT):TT:=λσ H Q=>t σ H λc H1=>if c=true then Q true H1 else u σ H1 Q
def tNot(t:TT):TT:=λσ H Q=>t σ H λc H1=>Q (!c) H1
theorem Bf(ha:PT X a tA):PW X (.BoolOp .And [a] pos) tA:=by
 intro wh pins s σ H Q I h;refine isTrue_and (thn (ha pins s σ H Q I h) λc s1 e=>?_);cases c with
 |true=>exact isTrue_and_nil e
 |false=>exact e
theorem Dc(ha:PT X a tA):PW X (.BoolOp .Or [a] pos) tA:=by
 intro wh pins s σ H Q I h;refine isTrue_or (thn (ha pins s σ H Q I h) λc s1 e=>?_);cases c with
 |false=>exact isTrue_or_nil e
 |true=>exact e
theorem Db(ha:PT X a tA)(hb:PW X (.BoolOp .And (b::rest) pos) tB'):PW X (.BoolOp .And (a::b::rest) pos) (tAnd tA tB'):=by
 intro wh pins s σ H Q I h;refine isTrue_and (thn (ha pins s σ H _ I h) λc s1 ⟨H1,I1,q1⟩=>?_);cases c with
 |true=>exact hb wh pins s1 σ H1 Q I1 q1
 |false=>exact⟨H1,I1,q1⟩
theorem FA(ha:PT X a tA)(hb:PW X (.BoolOp .Or (b::rest) pos) tB'):PW X (.BoolOp .Or (a::b::rest) pos) (tOr tA tB'):=by
 intro wh pins s σ H Q I h;refine isTrue_or (thn (ha pins s σ H _ I h) λc s1 ⟨H1,I1,q1⟩=>?_);cases c with
 |true=>exact⟨H1,I1,q1⟩
 |false=>exact hb wh pins s1 σ H1 Q I1 q1
theorem Da(ha:PT X a tA):PT X (.UnaryOp .Not a pos) (tNot tA):=by intro pins s σ H Q I h;exact isTrue_not (ha pins s σ H (λc H1=>Q (!c) H1) I h)
def Fz(ta tb:TE):TE:=λσ H Q=>ta σ H λx H1=>∃c,x=.bl c/\if c=true then tb σ H1 Q else Q (.bl false) H1
def tOrV(ta tb:TE):TE:=λσ H Q=>ta σ H λx H1=>∃c,x=.bl c/\if c=true then Q (.bl true) H1 else tb σ H1 Q
def Fy(ta:TE):TE:=λσ H Q=>ta σ H λx H1=>∃c,x=.bl c/\Q (.bl (!c)) H1
theorem E9{op}{t:TE}(h:PE X a t):PE X (.BoolOp op [a] pos) t:=λpins s σ H Q I hw=>BoolOp_one (h pins s σ H Q I hw)
theorem E8(ha:PE X a ta)(hb:PE X (.BoolOp .And (b::rest) pos) tb):PE X (.BoolOp .And (a::b::rest) pos) (Fz ta tb):=by
 intro pins s σ H Q I h;refine BoolOp_and (thn (ha pins s σ H _ I h) λv s1 ⟨x,H1,I1,r1,q1⟩=>?_);obtain⟨c,rfl,q1⟩:=q1;cases r1;refine Q2 ?_;cases c with
 |true=>exact hb pins s1 σ H1 Q I1 q1
 |false=>exact⟨.bl false,H1,I1,rfl,q1⟩
theorem Fx(ha:PE X a ta)(hb:PE X (.BoolOp .Or (b::rest) pos) tb):PE X (.BoolOp .Or (a::b::rest) pos) (tOrV ta tb):=by
 intro pins s σ H Q I h;refine BoolOp_or (thn (ha pins s σ H _ I h) λv s1 ⟨x,H1,I1,r1,q1⟩=>?_);obtain⟨c,rfl,q1⟩:=q1;cases r1;refine Q2 ?_;cases c with
 |false=>exact hb pins s1 σ H1 Q I1 q1
 |true=>exact⟨.bl true,H1,I1,rfl,q1⟩
theorem E7(ha:PE X a ta):PE X (.UnaryOp .Not a pos) (Fy ta):=by intro pins s σ H Q I h;refine UnaryOp_ (thn (ha pins s σ H _ I h) λv s1 ⟨x,H1,I1,r1,q1⟩=>?_);obtain⟨c,rfl,q1⟩:=q1;cases r1;exact not_of (Q2 ⟨.bl (!c),H1,I1,rfl,q1⟩)
def tIf(t:TT)(ta tb:TE):TE:=λσ H Q=>t σ H λc H1=>if c=true then ta σ H1 Q else tb σ H1 Q
theorem AH{c:Uo}(hc:PT X c tA)(ha:PE X a ta)(hb:PE X b tb):PE X (.IfExp c a b pos) (tIf tA ta tb):=by
 intro pins s σ H Q I h;refine wpAny_IfExp (thn (hc pins s σ H _ I h) λd s1 ⟨H1,I1,q1⟩=>?_);cases d with
 |true=>exact ha pins s1 σ H1 Q I1 q1
 |false=>exact hb pins s1 σ H1 Q I1 q1
end
def SqL(K:Frag)(H:Hp)(a:Ul)(xs:List V):Prop:=
 Rd H a (.lst xs) ∨
  ∃(o:Obj)(its:Array Ui)(n:Nat),K.lookup a=some o/\o.cls=.type "list" /\ o.dict=none/\o.data=.seq its n/\its.size<=Up/\Vals xs its.toList
def SqT(K:Frag)(H:Hp)(a:Ul)(xs:List V):Prop:=
 Rd H a (.tup xs) ∨
  ∃(o:Obj)(its:Array Ui)(n:Nat),K.lookup a=some o/\o.cls=.type "tuple" /\ o.data=.seq its n/\its.size<=Up/\Vals xs its.toList
def absV:Ui->Option V
 |.none=>some .non
 |.bool b=>some (.bl b)
 |.int i _=>some (.int i)
 |.str x _=>some (.str x)
 |.bytes b _=>some (.byt b)
 |.float b _=>some (.flt b)
 |.ref a=>some (.ref a)
 |.type n=>some (.ty n)
 |_=>none
theorem RelV.abs{x:V}{u:Ui}(r:RelV x u):absV u=some x:=by
 cases x with
 |non=>cases r;rfl
 |bl _=>cases r;rfl
 |int _=>obtain⟨t,rfl⟩:=r;rfl
 |str _=>obtain⟨t,rfl⟩:=r;rfl
 |byt _=>obtain⟨t,rfl⟩:=r;rfl
 |flt _=>obtain⟨t,rfl⟩:=r;rfl
 |ref _=>cases r;rfl
 |ty _=>cases r;rfl
theorem RelV.inj{x y:V}{u:Ui}(r:RelV x u)(q:RelV y u):x=y:=Q5 (r.abs.symm.trans q.abs)
theorem Vals.inj:∀{xs ys:List V}{us:List Ui},Vals xs us->Vals ys us->xs=ys
 |_,_,_,.nil,.nil=>rfl
 |_,_,_,.cons r t,.cons r' t'=>by rw[r.inj r',Vals.inj t t']
section
variable{X:Cx}{pins:List (Ul×Obj)}{σ:St}{H:Hp}{s:Uj}{a:Ul}{xs ys:List V}
theorem SqL.of{K:Frag}(h:H a=some (.lst xs)):SqL K H a xs:=.inl (.inl h)
theorem SqT.of{K:Frag}(h:H a=some (.tup xs)):SqT K H a xs:=.inl (.inl h)
theorem Inv.list(I:Inv X pins σ H s)(h:SqL X.K H a xs):∃its:List Ui,Vals xs its/\PlainL s.heap a its.toArray/\xs.length<=Up:=by
 rcases h with h|⟨o,its,n,hk,hc,hd,hs,hz,r⟩
 ·obtain⟨z,its,n,r,e⟩:=h.ok I.hok;exact⟨its,r,⟨_,n,e,rfl,rfl,rfl⟩,z⟩
 ·refine⟨its.toList,r,⟨o,n,I.kIn a o hk,hc,hd,by simpa using hs⟩,?_⟩;have e:=r.length;simp only[Jy]at e;omega
theorem Inv.tuple(I:Inv X pins σ H s)(h:SqT X.K H a xs):∃its:List Ui,Vals xs its/\IsTup s.heap a its.toArray/\xs.length<=Up:=by
 rcases h with h|⟨o,its,n,hk,hc,hs,hz,r⟩
 ·obtain⟨z,its,r,p⟩:=h.ok I.hok;exact⟨its,r,p,z⟩
 ·refine⟨its.toList,r,⟨o,I.kIn a o hk,hc,n,by simpa using hs⟩,?_⟩;have e:=r.length;simp only[Jy]at e;omega
theorem Inv.list_inj(I:Inv X pins σ H s)(h:SqL X.K H a xs)(h':SqL X.K H a ys):xs=ys:=by
 obtain⟨its,r,⟨o,n,e,_,_,d⟩,_⟩:=I.list h;obtain⟨its',r',⟨o',n',e',_,_,d'⟩,_⟩:=I.list h';rw[e]at e';cases e';rw[d]at d';injection d' with d1 _
 have:its=its':=by simpa using congrArg Array.toList d1
 subst this;exact r.inj r'
theorem Inv.tuple_inj(I:Inv X pins σ H s)(h:SqT X.K H a xs)(h':SqT X.K H a ys):xs=ys:=by
 obtain⟨its,r,⟨o,e,_,n,d⟩,_⟩:=I.tuple h;obtain⟨its',r',⟨o',e',_,n',d'⟩,_⟩:=I.tuple h';rw[e]at e';cases e';rw[d]at d';injection d' with d1 _
 have:its=its':=by simpa using congrArg Array.toList d1
 subst this;exact r.inj r'
end
abbrev Cx.wish(X:Cx)(E:Ui->Uj->Prop):Cx:={X with xe:=E}
abbrev Cx.nox(X:Cx):Cx:=X.wish λ_ _=>False
theorem Cx.Ok.wish{X:Cx}(ok:X.Ok)(E:Ui->Uj->Prop):(X.wish E).Ok:=
 ⟨ok.mod,ok.kind,ok.glob,ok.blt,ok.above,ok.inj,ok.has,ok.cab,ok.hd,ok.frames,ok.stk,ok.exf,ok.bs,ok.bsz,ok.noex,ok.exfs,ok.funs,ok.frf⟩
theorem Cx.Ok.unwish{X:Cx}{E:Ui->Uj->Prop}(ok:(X.wish E).Ok):X.Ok:=
 ⟨ok.mod,ok.kind,ok.glob,ok.blt,ok.above,ok.inj,ok.has,ok.cab,ok.hd,ok.frames,ok.stk,ok.exf,ok.bs,ok.bsz,ok.noex,ok.exfs,ok.funs,ok.frf⟩
section
variable{X:Cx}{pins:List (Ul×Obj)}{σ:St}{H:Hp}{s:Uj}{E:Ui->Uj->Prop}
theorem Inv.wish(I:Inv X pins σ H s)(E:Ui->Uj->Prop):Inv (X.wish E) pins σ H s:=⟨I.ok.wish E,I.os,I.bare,I.base,I.loc,I.cell,I.free,I.freeC,I.pin,I.hok,I.len⟩
theorem Inv.unwish(I:Inv (X.wish E) pins σ H s):Inv X pins σ H s:=⟨I.ok.unwish,I.os,I.bare,I.base,I.loc,I.cell,I.free,I.freeC,I.pin,I.hok,I.len⟩
theorem SP.unwish{D:Ends}{f:Flow}{s':Uj}(h:SP (X.wish E) pins D f s'):SP X pins D f s':=by
 cases f with
 |next=>obtain⟨σ',H',I,q⟩:=h;exact⟨σ',H',I.unwish,q⟩
 |brk=>obtain⟨σ',H',I,q⟩:=h;exact⟨σ',H',I.unwish,q⟩
 |cont=>obtain⟨σ',H',I,q⟩:=h;exact⟨σ',H',I.unwish,q⟩
 |ret u=>obtain⟨v,σ',H',I,r,q⟩:=h;exact⟨v,σ',H',I.unwish,r,q⟩
theorem PSs.nox{st:List Stmt}{t:TS}(h:PSs X.nox st t):PSs X st t:=λpins s σ H D I hw=>
 QK (h pins s σ H D (I.wish _) hw) (λ_ _ q=>q.unwish) λ_ _ z=>False.elim z
end
section
variable{X:Cx}{st:Stmt}{rest:List Stmt}{t u:TS}{e:Uo}{te:TE}{pos:Pos}
def Fw:TS:=λD σ H=>D.nx σ H
def tSeq(t u:TS):TS:=λD σ H=>t {D with nx:=u D} σ H
theorem Be:PSs X [] Fw:=λ_ _ σ H _ I h=>wpAny_execs_nil ⟨σ,H,I,h⟩
theorem AG(h1:PS X st t)(h2:PSs X rest u):PSs X (st::rest) (tSeq t u):=by
 intro pins s σ H D I h;refine wpAny_execs_cons (thn (h1 pins s σ H {D with nx:=u D} I h) λf s1 q=>?_);cases f with
 |next=>obtain⟨σ',H',I',q⟩:=q;exact h2 pins s1 σ' H' D I' q
 |ret v=>exact q
 |brk=>exact q
 |cont=>exact q
theorem Bd(h1:PS X st t):PSs X [st] t:=by
 intro pins s σ H D I h;refine wpAny_execs_cons (thn (h1 pins s σ H D I h) λf s1 q=>?_);cases f with
 |next=>exact wpAny_execs_nil q
 |ret v=>exact q
 |brk=>exact q
 |cont=>exact q
theorem Inv.quiet{pins:List (Ul×Obj)}{σ:St}{H:Hp}{s:Uj}(I:Inv X pins σ H s):interactive X.env=false:=by simp[interactive,I.ok.kind]
def Fv(te:TE):TS:=λD σ H=>te σ H λ_ H1=>D.nx σ H1
theorem Lz(he:PE X e te)(hs:swapsWith e none pos.line X.env=pure false:=by rfl):PS X (.Expr e pos) (Fv te):=by intro pins s σ H D I h;exact wpAny_Expr_any (thn (he pins s σ H _ I h) λv s1 ⟨x,H1,I1,r1,q1⟩=>⟨σ,H1,I1,q1⟩) I.quiet hs
def tRet(te:TE):TS:=λD σ H=>te σ H D.rt
theorem E6(he:PE X e te):PS X (.Return (some e) pos) (tRet te):=by intro pins s σ H D I h;exact wpAny_Return_some (thn (he pins s σ H _ I h) λv s1 ⟨x,H1,I1,r1,q1⟩=>⟨x,σ,H1,I1,r1,q1⟩)
def tIfS(c:TT)(t u:TS):TS:=λD σ H=>c σ H λb H1=>if b=true then t D σ H1 else u D σ H1
theorem Fu{c:Uo}{a b:List Stmt}{tc:TT}(hc:PT X c tc)(ha:PSs X a t)(hb:PSs X b u):PS X (.If c a b pos) (tIfS tc t u):=by
 intro pins s σ H D I h;refine wpAny_If (thn (hc pins s σ H _ I h) λd s1 ⟨H1,I1,q1⟩=>?_);cases d with
 |true=>exact ha pins s1 σ H1 D I1 q1
 |false=>exact hb pins s1 σ H1 D I1 q1
end
abbrev TG:=V->St->Hp->(St->Hp->Prop)->Prop
abbrev TGs:=List V->St->Hp->(St->Hp->Prop)->Prop
def PG(X:Cx)(target:Uo)(t:TG):Prop:=
 ∀(pins:List (Ul×Obj))(s:Uj)(σ:St)(H:Hp)(v:V)(u:Ui)(Q:St->Hp->Prop),Inv X pins σ H s->RelV v u->t v σ H Q ->
  Uq (model X.prog X.w) X.A (assign target X.env u) (λ_ s'=>∃σ' H',Inv X pins σ' H' s'/\Q σ' H') X.xe s
def PGs(X:Cx)(ts:List Uo)(t:TGs):Prop:=
 ∀(pins:List (Ul×Obj))(s:Uj)(σ:St)(H:Hp)(vs:List V)(us:List Ui)(Q:St->Hp->Prop),Inv X pins σ H s->Vals vs us->t vs σ H Q ->
  Uq (model X.prog X.w) X.A (assignInOrder ((UG ts X.env).map (·.2)) us) (λ_ s'=>∃σ' H',Inv X pins σ' H' s'/\Q σ' H') X.xe s
abbrev TIp:=V->V->Hp->VK->Prop
def PIp(X:Cx)(op:Operator)(t:TIp):Prop:=
 ∀(pins:List (Ul×Obj))(s:Uj)(σ:St)(H:Hp)(x y:V)(v u:Ui)(Q:VK),Inv X pins σ H s->RelV x v->RelV y u->t x y H Q ->
  Uq (model X.prog X.w) X.A (inplaceOp op v u) (EP X pins σ Q) X.xe s
section
variable{X:Cx}{pos:Pos}
def Oc(i:Nat):TG:=λv σ H Q=>Q (σ.set i (some v)) H
theorem Wg{i:Nat}{x:Str}(hN:X.N.Nodup)(hi:X.N[i]?=some x)(hx:Loc X.env.scope x)(hf:X.fn x=true∨X.env.scope.names.lookup x=some .local:=by first|exact .inl rfl|exact .inr rfl|assumption):PG X (.Name x pos) (Oc i):=by intro pins s σ H v u Q I r h;exact wpAny_assign_Name (OZ I hN hi hx r (λs' I'=>⟨_,H,I',h⟩) hf)
def gNil:TGs:=λvs σ H Q=>vs=[]/\Q σ H
def Ft(t:TG)(u:TGs):TGs:=λvs σ H Q=>∃v r,vs=v::r/\t v σ H λσ' H'=>u r σ' H' Q
theorem Bc:PGs X [] gNil:=by intro pins s σ H vs us Q I r h;obtain⟨e,h⟩:=h;subst e;cases r;exact assignInOrder_nil ⟨σ,H,I,h⟩
theorem AF{e:Uo}{es:List Uo}{t:TG}{u:TGs}(h1:PG X e t)(h2:PGs X es u)
  (hs:(UG (e::es) X.env).map (·.2)=assign e X.env::(UG es X.env).map (·.2):=by rfl):PGs X (e::es) (Ft t u):=by
 intro pins s σ H vs us Q I r h;obtain⟨v,vr,e1,h⟩:=h;subst e1;cases r with
 |cons r rr=>rw[hs];refine assignInOrder_cons (thn (h1 pins s σ H _ _ _ I r h) λ_ s1 ⟨σ1,H1,I1,q1⟩=>?_);exact h2 pins s1 σ1 H1 _ _ Q I1 rr q1
def gTup(K:Frag)(n:Nat)(t:TGs):TG:=λv σ H Q=>∃a xs,v=.ref a/\SqT K H a xs/\xs.length=n/\t xs σ H Q
theorem E5{es:List Uo}{k:Nat}{t:TGs}{n:Nat}(hc:X.calm=true)(h:PGs X es t)
  (hn:(UG es X.env).length=n:=by rfl) (hst:(UG es X.env).findIdx? (·.1)=none:=by rfl):PG X (.Tuple es k pos) (gTup X.K n t):=by
 intro pins s σ H v u Q I r hw;obtain⟨a,xs,e1,hq,hl,hw⟩:=hw;subst e1;cases r;obtain⟨its,rv,ht,hz⟩:=I.tuple hq;refine assign_Tuple_tuple (I.ok.hd hc) ht (by simp[hn,←hl,rv.length]) hst λh' hx=>?_
 have I1:Inv X pins σ H {s with heap:=h'}:=I.kept (t':=s.toks) λb o e=>hx b o (QQ (Qh e)) e;exact h pins _ σ H xs _ Q I1 (by simpa using rv) hw
def tAsg(te:TE)(g:TG):TS:=λD σ H=>te σ H λx H1=>g x σ H1 D.nx
theorem DQ{tg e:Uo}{te:TE}{g:TG}(he:PE X e te)(hg:PG X tg g)(hs:swapsWithSole [tg] e pos.line X.env=pure false:=by rfl)(hw:swappedStores [tg] e X.env=pure none:=by rfl)
  (h1:(UG [tg] X.env).map (·.2)=[assign tg X.env]:=by rfl):PS X (.Assign [tg] e pos) (tAsg te g):=by
 intro pins s σ H D I h;refine wpAny_Assign_stores (thn (he pins s σ H _ I h) λv s1 ⟨x,H1,I1,r1,q1⟩=>?_) hs hw;rw[h1];exact thn (hg pins s1 σ H1 x v _ I1 r1 q1) λ_ s2 q=>q
theorem Ot{i:Nat}{x:Str}{e:Uo}{te:TE}{pos':Pos}(hN:X.N.Nodup)(hi:X.N[i]?=some x)(hx:Loc X.env.scope x)(he:PE X e te)(hs:swapsWith e (some (.Name x pos')) pos.line X.env=pure false:=by rfl)(hf:X.fn x=true∨X.env.scope.names.lookup x=some .local:=by first|exact .inl rfl|exact .inr rfl|assumption) :
  PS X (.Assign [.Name x pos'] e pos) (tAsg te (Oc i)):=by
 intro pins s σ H D I h;refine wpAny_Assign_Name (thn (he pins s σ H _ I h) λv s1 ⟨y,H1,I1,r1,q1⟩=>?_) hs;exact OZ I1 hN hi hx r1 (λs2 I2=>⟨_,H1,I2,q1⟩) hf
def tAug(i:Nat)(te:TE)(ti:TIp):TS:=λD σ H=>∃x,σ[i]?=some (some x)/\te σ H λy H1=>ti x y H1 λz H2=>D.nx (σ.set i (some z)) H2
theorem DP{i:Nat}{x:Str}{e:Uo}{te:TE}{op:Operator}{ti:TIp}{pos':Pos}(hN:X.N.Nodup)(hi:X.N[i]?=some x)(hx:Loc X.env.scope x)(he:PE X e te)(ho:PIp X op ti)(hf:X.fn x=true∨X.env.scope.names.lookup x=some .local:=by first|exact .inl rfl|exact .inr rfl|assumption) :
  PS X (.AugAssign (.Name x pos') op e pos) (tAug i te ti):=by
 intro pins s σ H D I h;obtain⟨v,e1,h⟩:=h;obtain⟨m,hn,hl⟩:=I.loc;have vis:Vis X.env.scope x:=by rcases hx with k|k;exact .inl k;exact .inr (.inl k)
 obtain⟨u,r,l⟩:=hl i x v hi e1 vis;refine wpAny_AugAssign_Name ?_;have go:Uq (model X.prog X.w) X.A (eval e X.env) (λw s₂=>Uq (model X.prog X.w) X.A (inplaceOp op u w) (λr s₃=>Uq (model X.prog X.w) X.A (storeName X.env x r) (λ_=>SP X pins D .next) X.xe s₃) X.xe s₂) X.xe s:=by refine thn (he pins s σ H _ I h) λw s1 ⟨y,H1,I1,r1,q1⟩=>?_;refine thn (ho pins s1 σ H1 v y u w _ I1 r r1 q1) λz s2 ⟨zv,H2,I2,r2,q2⟩=>?_;exact OZ I2 hN hi hx r2 (λs3 I3=>⟨_,H2,I3,q2⟩) hf
 rcases l with ⟨hk,hm⟩|⟨hk,c,hc,hcell⟩
 ·exact wpAny_loadName_local I.ok.kind hk hn hm go
 ·rcases hk with hk|hk
  ·exact wpAny_loadName_cell I.ok.kind hk hc hcell go
  ·rcases hx with k|k
   ·have:X.env.scope.names.lookup x=some .free:=hk;rw[k]at this;cases this
   ·have:X.env.scope.names.lookup x=some .free:=hk;rw[k]at this;cases this
end
section
variable{X:Cx}{pos:Pos}
def DO(c:TT)(tb:TS):TS:=λD σ H=>∃W:Nat->St->Hp->Prop,(∃m,W m σ H)/\∀m σ H,W m σ H ->
 c σ H λb H1=>if b=true then ∃N:St->Hp->Prop,(∀σ' H',N σ' H'->∃m',m'<m/\W m' σ' H')/\tb {D with nx:=N,ct:=N,bk:=D.nx} σ H1 else D.nx σ H1
theorem AE{c:Uo}{body:List Stmt}{tc:TT}{tb:TS}(hp:PassesOwn (model X.prog X.w) X.A X.env X.xe)(hc:PT X c tc)(hb:PSs X body tb):PS X (.While c body [] pos) (DO tc tb):=by
 intro pins s σ H D I h;obtain⟨W,⟨m0,w0⟩,turn⟩:=h;refine wpAny_While (codeAny_whileLoop (λn s'=>∃σ' H',Inv X pins σ' H' s'/\W n σ' H') ?_ m0 ⟨σ,H,I,w0⟩);rintro n s1 ⟨σ1,H1,I1,w1⟩;refine Jq hp (thn (hc pins s1 σ1 H1 _ I1 (turn n σ1 H1 w1)) λb s2 ⟨H2,I2,q2⟩=>?_);cases b with
 |true=>
  obtain⟨N,hN,q2⟩:=q2;rw[Qm rfl];refine Jq hp (thn (hb pins s2 σ1 H2 _ I2 q2) λf s3 q3=>?_);cases f with
  |next=>obtain⟨σ3,H3,I3,n3⟩:=q3;obtain⟨m',hm,w3⟩:=hN σ3 H3 n3;exact⟨m',hm,σ3,H3,I3,w3⟩
  |cont=>obtain⟨σ3,H3,I3,n3⟩:=q3;obtain⟨m',hm,w3⟩:=hN σ3 H3 n3;exact⟨m',hm,σ3,H3,I3,w3⟩
  |brk=>exact q3
  |ret v=>exact q3
 |false=>rw[QB JH];exact wpAny_execs_nil ⟨σ1,H2,I2,q2⟩
end
structure It where
 go:Nat->Hp->Prop
 yld:Nat->Hp->V->Hp->Prop
 stop:Nat->Hp->Prop
def ZD(X:Cx)(pins:List (Ul×Obj))(H:Hp)(b:Ul):Prop:=
 H b=none/\b≠X.env.locals/\b∉X.fs/\(b∈X.ex∨X.s₀.heap.objs.size<=b)/\(∀x c,X.env.cells.lookup x=some c->c≠b)/\∀p∈X.pn++pins,p.1≠b
theorem Inv.fpOk{X:Cx}{pins:List (Ul×Obj)}{σ:St}{H H':Hp}{s:Uj}{b:Ul}(I:Inv X pins σ H s)(hb:s.heap.objs.size<=b)(hn:H' b=none):ZD X pins H' b:=by
 refine⟨hn,JC (QF I.lt hb),I.nofs hb,.inr (QR I.sz hb),λx c e z=>?_,λp hp z=>?_⟩
 ·obtain⟨v,q⟩:=I.cell x c e;exact absurd (QF q.lt (by rw[z];exact hb)) (Jr _)
 ·exact absurd (QF (Qh (I.pin p hp).1) (by rw[z];exact hb)) (Jr _)
structure Turn(P:Uk)(w:World)(K:Frag)(tg:Uo)(J:It)(fp:List Ul)(it:Ul)(tn:Nat->Heap->Prop):Prop where
 mem:it∈fp
 obj:∀i h,tn i h->∀b∈fp,∃o,h.get? b=some o/\∀v,o.data≠.cell v
 keep:∀i h h',tn i h->(∀b∈fp,∀o,h.get? b=some o->h'.get? b=some o)->tn i h'
 item:∀(X:Cx),X.prog=P->X.w=w->X.K=K->X.calm=true->∀(i:Nat)(pins:List (Ul×Obj))(s:Uj)(σ:St)(H:Hp)(E:Ui->Uj->Prop),Inv X pins σ H s->(∀b∈fp,ZD X pins H b)->tn i s.heap->J.go i H ->
  Uq (model P w) X.A (pyNext (.ref it)) (λr s1=>∃u,r=some u /\
   Uq (model P w) X.A (letOwnedTupleGo tg (.ref it) u) (λ_ s2=>∃x H',Inv X pins σ H' s2/\RelV x u/\J.yld i H x H'/\tn (i+1) s2.heap/\∀b∈fp,H' b=none) E s1) E s
 done:∀(X:Cx),X.prog=P->X.w=w->X.K=K->X.calm=true->∀(i:Nat)(pins:List (Ul×Obj))(s:Uj)(σ:St)(H:Hp)(E:Ui->Uj->Prop),Inv X pins σ H s->(∀b∈fp,ZD X pins H b)->tn i s.heap->J.stop i H ->
  Uq (model P w) X.A (pyNext (.ref it)) (λr s1=>r=none/\Inv X pins σ H s1) E s
 self:∀(A:Around)(i:Nat)(s:Uj)(Q:Ui->Uj->Prop)(E:Ui->Uj->Prop),tn i s.heap->Q (.ref it) s->Uq (model P w) A (pyIter (.ref it)) Q E s
abbrev TI:=St->Hp->(It->Hp->Prop)->Prop
def PIE(X:Cx)(pins:List (Ul×Obj))(σ:St)(tg:Uo)(R:It->Hp->Prop)(itv:Ui)(s2:Uj):Prop:=
 ∃(it:Ul)(fp:List Ul)(tn:Nat->Heap->Prop)(J:It)(H':Hp),itv=.ref it/\Inv X pins σ H' s2/\Turn X.prog X.w X.K tg J fp it tn/\tn 0 s2.heap/\(∀b∈fp,ZD X pins H' b)/\R J H'
def PI(X:Cx)(tg iter:Uo)(wi:TI):Prop:=
 ∀(pins:List (Ul×Obj))(s:Uj)(σ:St)(H:Hp)(R:It->Hp->Prop),Inv X pins σ H s->wi σ H R ->
  Uq (model X.prog X.w) X.A (eval iter X.env) (λv s1=>Uq (model X.prog X.w) X.A (pyIter v) (PIE X pins σ tg R) X.xe s1) X.xe s
theorem R7{M:Model}{A:Around}{E:Ui->Uj->Prop}{s:Uj}{tg:Uo}{it:Ul}{u:Ui}{o:Obj}{n:String}{vs:Array Ui}{Q:Unit->Uj->Prop}(ho:s.heap.get? it=some o)(hc:o.cls=.type n)(hd:o.data=.fields vs)
  (hn:["enumerate", "zip", "dict_itemiterator", "dict_reverseitemiterator", "odict_iterator", "itertools.zip_longest", "itertools.pairwise"].contains n=false) (hQ:Q () s):Uq M A (letOwnedTupleGo tg (.ref it) u) Q E s:=by
 unfold letOwnedTupleGo
 cases tg<;>first
  |exact Qk hQ
  |(cases u<;>first
    |exact Qk hQ
    |(
      refine Qf (wpAny_load ho ?_);rw[hc,hd];show Uq M A (if(["enumerate", "zip", "dict_itemiterator", "dict_reverseitemiterator", "odict_iterator", "itertools.zip_longest", "itertools.pairwise"].contains n&&vs[0]?==some (rawInt _))=true then _ else _) Q E s;rw[QB (by intro h;rw[hn,Bool.false_and]at h;cases h)];exact Qk hQ))
def Itl(K:Frag)(a:Ul):It:=
 ⟨λi H=>∃xs x,SqL K H a xs/\xs[i]?=some x,λi H x H'=>H'=H/\∀xs,SqL K H a xs->xs[i]?=some x,λi H=>∃xs,SqL K H a xs/\xs.length<=i⟩
def Itt(K:Frag)(a:Ul):It:=
 ⟨λi H=>∃xs x,SqT K H a xs/\xs[i]?=some x,λi H x H'=>H'=H/\∀xs,SqT K H a xs->xs[i]?=some x,λi H=>∃xs,SqT K H a xs/\xs.length<=i⟩
def Itr(lo:Int)(n:Nat):It:=⟨λi _=>i<n,λi H x H'=>H'=H/\x=.int (lo+i),λi _=>n<=i⟩
theorem jT{P:Uk}{w:World}{K:Frag}{tg:Uo}(a it:Ul):Turn P w K tg (Itl K a) [it] it (λi h=>h.IsListIter it a i) where
 mem:=by simp
 obj:=λi h st b hb=>by
  have e:b=it:=by simpa using hb
  subst e;obtain⟨o,e,c,d⟩:=st;exact⟨o,e,λv z=>by rw[d]at z;cases z⟩
 keep:=λi h h' st k=>st.at λo e=>k it (by simp) o e
 item:=by
  intro X hP hw hK hc i pins s σ H E I hf st hg;subst hP hw hK;obtain⟨xs,x,hq,hx⟩:=hg;obtain⟨its,rv,p,hz⟩:=I.list hq;obtain⟨u,hu,ru⟩:=rv.get hx;obtain⟨f0,f1,f2,f3,f4,f5⟩:=hf it (by simp);refine wpAny_pyNext_list_item st p.isList (x:=u) (by simpa using hu) λh' st' sb=>?_
  have I1:Inv X pins σ H {s with heap:=h'}:=I.turned (t':=s.toks) (λb o hb e=>(sb.2 b hb).trans e) f0 f1 f3 f4 f5;obtain⟨o,e,c,d⟩:=id st';exact⟨u,rfl,R7 (s:={s with heap:=h'}) e c d (by decide) ⟨x,H,I1,ru,⟨rfl,λys hy=>by rw[I.list_inj hy hq];exact hx⟩,st',λb hb=>(hf b hb).1⟩⟩
 done:=by intro X hP hw hK hc i pins s σ H E I hf st hg;subst hP hw hK;obtain⟨xs,hq,hx⟩:=hg;obtain⟨its,rv,p,hz⟩:=I.list hq;obtain⟨f0,f1,f2,f3,f4,f5⟩:=hf it (by simp);have hl:=rv.length;exact wpAny_pyNext_list_end (I.ok.hd hc) st p.isList (by simp;omega) λh' eb=>⟨rfl,I.turned (t':=s.toks) (λb o hb e=>eb b o hb e) f0 f1 f3 f4 f5⟩
 self:=λ_ _ _ _ _ st h=>wpAny_pyIter_listiter st h
theorem ju{P:Uk}{w:World}{K:Frag}{tg:Uo}(a it:Ul):Turn P w K tg (Itt K a) [it] it (λi h=>h.IsTupleIter it a i) where
 mem:=by simp
 obj:=λi h st b hb=>by
  have e:b=it:=by simpa using hb
  subst e;obtain⟨o,e,c,d⟩:=st;exact⟨o,e,λv z=>by rw[d]at z;cases z⟩
 keep:=λi h h' st k=>st.at λo e=>k it (by simp) o e
 item:=by
  intro X hP hw hK hc i pins s σ H E I hf st hg;subst hP hw hK;obtain⟨xs,x,hq,hx⟩:=hg;obtain⟨its,rv,p,hz⟩:=I.tuple hq;obtain⟨u,hu,ru⟩:=rv.get hx;obtain⟨f0,f1,f2,f3,f4,f5⟩:=hf it (by simp);refine wpAny_pyNext_tuple_item st (show s.heap.IsTuple a its.toArray from p) (x:=u) (by simpa using hu) λh' st' sb=>?_
  have I1:Inv X pins σ H {s with heap:=h'}:=I.turned (t':=s.toks) (λb o hb e=>(sb.2 b hb).trans e) f0 f1 f3 f4 f5;obtain⟨o,e,c,d⟩:=id st';exact⟨u,rfl,R7 (s:={s with heap:=h'}) e c d (by decide) ⟨x,H,I1,ru,⟨rfl,λys hy=>by rw[I.tuple_inj hy hq];exact hx⟩,st',λb hb=>(hf b hb).1⟩⟩
 done:=by intro X hP hw hK hc i pins s σ H E I hf st hg;subst hP hw hK;obtain⟨xs,hq,hx⟩:=hg;obtain⟨its,rv,p,hz⟩:=I.tuple hq;obtain⟨f0,f1,f2,f3,f4,f5⟩:=hf it (by simp);have hl:=rv.length;exact wpAny_pyNext_tuple_end (I.ok.hd hc) st (show s.heap.IsTuple a its.toArray from p) (by simp;omega) λh' eb=>⟨rfl,I.turned (t':=s.toks) (λb o hb e=>eb b o hb e) f0 f1 f3 f4 f5⟩
 self:=λ_ _ _ _ _ st h=>wpAny_pyIter_tupleiter st h
theorem jt{P:Uk}{w:World}{K:Frag}{tg:Uo}(it:Ul)(lo:Int)(n:Nat):Turn P w K tg (Itr lo n) [it] it (λi h=>IsRangeIter h it (lo+(i:Nat)*1) ((n:Int)-(i:Nat)) 1) where
 mem:=by simp
 obj:=λi h st b hb=>by
  have e:b=it:=by simpa using hb
  subst e;exact⟨_,st,λv z=>by have z':Data.fields _=Data.cell v:=z;cases z'⟩
 keep:=λi h h' st k=>k it (by simp) _ st
 item:=by
  intro X hP hw hK hc i pins s σ H E I hf st hg;subst hP hw hK;obtain⟨f0,f1,f2,f3,f4,f5⟩:=hf it (by simp);have W:=Walks.range (prog:=X.prog) (w:=X.w) (I.ok.hd hc) it lo 1 n;refine W.item i s _ _ hg st λv h' tk hv st' kk=>?_
  obtain⟨t,rfl⟩:=hv;have I1:Inv X pins σ H {s with heap:=h',toks:=tk}:=I.turned (λb o hb e=>kk b o (by simpa using hb) e) f0 f1 f3 f4 f5;refine⟨_,rfl,R7 (s:={s with heap:=h',toks:=tk}) (n:= "range_iterator") st' rfl rfl (by decide) ⟨.int (lo+i),H,I1,⟨t,?_⟩,⟨rfl,rfl⟩,st',λb hb=>(hf b hb).1⟩⟩;rw[Int.mul_one]
 done:=by intro X hP hw hK hc i pins s σ H E I hf st hg;subst hP hw hK;obtain⟨f0,f1,f2,f3,f4,f5⟩:=hf it (by simp);exact wpAny_pyNext_range_end (I.ok.hd hc) st (by have:n<=i:=hg;omega) λh' eb=>⟨rfl,I.turned (t':=s.toks) (λb o hb e=>eb b o hb e) f0 f1 f3 f4 f5⟩
 self:=λ_ _ _ _ _ st h=>wpAny_pyIter_rangeiter st h
section
variable{X:Cx}{tg:Uo}
theorem LI{pins:List (Ul×Obj)}{σ:St}{H:Hp}{s:Uj}{R:It->Hp->Prop}{E:Ui->Uj->Prop}{lo hi:Int}{t u v:Tok}{tk:Nat}(I:Inv X pins σ H s)(h1 : -(2 ^ 62)<=lo)(h2:lo<2 ^ 62)(h3 : -(2 ^ 62)<=hi)(h4:hi<2 ^ 62)
  (q:R (Itr lo (hi-lo).toNat) H):Uq (model X.prog X.w) X.A (pyIter (.ref s.heap.objs.size)) (PIE X pins σ tg R) E {s with heap:=s.heap.push {cls:=.type "range", data:=.fields #[.int lo t,.int hi u,.int 1 v]},toks:=tk}:=by
 refine wpAny_pyIter_range (IsRange.new ..) (small_one h1 h2 h3 h4) ?_;have I1:Inv X pins σ H {s with heap:=s.heap.push {cls:=.type "range", data:=.fields #[.int lo t,.int hi u,.int 1 v]},toks:=tk}:=I.kept λb o e=>Qj _ e
 refine⟨(s.heap.push {cls:=.type "range", data:=.fields #[.int lo t,.int hi u,.int 1 v]}).objs.size,[(s.heap.push {cls:=.type "range", data:=.fields #[.int lo t,.int hi u,.int 1 v]}).objs.size],_,_,H,rfl,
  I1.kept (t':=tk) λb o e=>Qj _ e,jt _ lo (hi-lo).toNat,?_,λb hb=>?_,q⟩
 ·have e1:lo+((0:Nat):Int)*1=lo:=by simp
  have e2:(((hi-lo).toNat:Nat):Int)-((0:Nat):Int)=Builtin.Range.rangeSize lo hi 1:=by rw[rangeSize_one];split<;>omega
  show IsRangeIter _ _ (lo+((0:Nat):Int)*1) ((((hi-lo).toNat:Nat):Int)-((0:Nat):Int)) 1;rw[e1,e2];exact QG _ rfl
 ·have e:b=(s.heap.push {cls:=.type "range", data:=.fields #[.int lo t,.int hi u,.int 1 v]}).objs.size:=by simpa using hb
  subst e;exact I1.fpOk (Qs _) (I1.hok.fresh (Qs _))
def Fs(ta:TA):TI:=λσ H R=>ta σ H λvs H1=>∃j:Int,vs=[.int j] /\ -(2 ^ 62)<=j/\j<2 ^ 62/\R (Itr 0 j.toNat) H1
def Fq(ta:TA):TI:=λσ H R=>ta σ H λvs H1=>∃i j:Int,vs=[.int i,.int j]/\(-(2 ^ 62)<=i/\i<2 ^ 62 /\ -(2 ^ 62)<=j/\j<2 ^ 62)/\R (Itr i (j-i).toNat) H1
theorem jS{a:Uo}{ta:TA}{p pos:Pos}(hg:Gl X "range")(hm:X.mg "range" = none)(ha:PA X [a] ta)(hs:Ur [a] X.env=[(false,eval a X.env)]:=by rfl):PI X tg (.Call (.Name "range" p) [a] [] pos) (Fs ta):=by
 intro pins s σ H R I h;refine Call_ (VD I hg hm boot_range (Jw (thn (ha pos pins s σ H _ I h) λus s1 ⟨vs,H1,I1,r1,q1⟩=>?_) hs rfl));obtain⟨j,e,q1,q2,q⟩:=q1;subst e;cases r1 with
 |cons r rr=>cases rr;obtain⟨t,rfl⟩:=r;exact call_range_1 (LI I1 (by omega) (by omega) q1 q2 (by simpa using q))
theorem jR{a b:Uo}{ta:TA}{p pos:Pos}(hg:Gl X "range")(hm:X.mg "range" = none)(ha:PA X [a,b] ta)(hs:Ur [a,b] X.env=[(false,eval a X.env),(false,eval b X.env)]:=by rfl)(hs2:Ur [b] X.env=[(false,eval b X.env)]:=by rfl) :
  PI X tg (.Call (.Name "range" p) [a,b] [] pos) (Fq ta):=by
 intro pins s σ H R I h;refine Call_ (VD I hg hm boot_range (Jw (thn (ha pos pins s σ H _ I h) λus s1 ⟨vs,H1,I1,r1,q1⟩=>?_) (by rw[hs,hs2]) (by rw[hs2];rfl)));obtain⟨i,j,e,⟨q1,q2,q3,q4⟩,q⟩:=q1;subst e;cases r1 with
 |cons r rr=>
  cases rr with
  |cons r' rr=>cases rr;obtain⟨t,rfl⟩:=r;obtain⟨t',rfl⟩:=r';exact call_range_2 (LI I1 q1 q2 q3 q4 q)
def tFor(wi:TI)(g:TG)(tb:TS):TS:=λD σ H=>wi σ H λJ H1=>∃W:Nat->Nat->St->Hp->Prop,(∃m,W 0 m σ H1)/\∀i m σ H,W i m σ H ->
 (J.stop i H/\D.nx σ H)∨(J.go i H/\∃N:St->Hp->Prop,(∀σ' H',N σ' H'->∃m',m'<m/\W (i+1) m' σ' H')/\∀x H',J.yld i H x H'->g x σ H' λσ2 H2=>tb {D with nx:=N,ct:=N,bk:=D.nx} σ2 H2)
def RC(fp:List Ul)(h:Heap):List (Ul×Obj):=fp.filterMap λb=>(h.get? b).map λo=>(b,o)
theorem PZ{fp:List Ul}{h:Heap}{b:Ul}{o:Obj}(hb:b∈fp)(e:h.get? b=some o):(b,o)∈RC fp h:=Jk.mpr ⟨b,hb,by rw[e];rfl⟩
theorem jQ{fp:List Ul}{h:Heap}{p:Ul×Obj}(hp:p∈RC fp h):p.1∈fp/\h.get? p.1=some p.2:=by
 obtain⟨b,hb,e⟩:=Jk.mp hp;cases q:h.get? b with
 |none=>rw[q]at e;cases e
 |some o=>rw[q]at e;have e':(b,o)=p:=Q5 e;subst e';exact⟨hb,q⟩
theorem Inv.pinned{pins:List (Ul×Obj)}{σ:St}{H:Hp}{s:Uj}{fp:List Ul}(I:Inv X pins σ H s)(hf:∀b∈fp,ZD X pins H b)(ho:∀b∈fp,∃o,s.heap.get? b=some o/\∀v,o.data≠.cell v):Inv X (pins++RC fp s.heap) σ H s:=
 I.pins_of λp hp=>(QJ.mp hp).elim (λz=>I.pin p (QL _ z)) λz=>by obtain⟨hb,e⟩:=jQ z;obtain⟨f0,f1,f2,_⟩:=hf p.1 hb;obtain⟨o,e',d⟩:=ho p.1 hb;rw[e]at e';cases e';exact⟨e,f0,f1,f2,d⟩
theorem Inv.unpinned{pins pl:List (Ul×Obj)}{σ:St}{H:Hp}{s:Uj}(I:Inv X (pins++pl) σ H s):Inv X pins σ H s:=I.pins_of λp hp=>I.pin p (QL _ (Q0 _ hp))
theorem DN{iter:Uo}{body:List Stmt}{wi:TI}{g:TG}{tb:TS}{pos:Pos}(hp:PassesOwn (model X.prog X.w) X.A X.env X.xe)(hc:X.calm=true)(hi:PI X tg iter wi)(hg:PG X tg g)(hb:PSs X body tb)
  (hs:∀x,UH iter X.env x=pure x:=by intro _;rfl):PS X (.For tg iter body [] pos) (tFor wi g tb):=by
 intro pins s σ H D I h;refine wpAny_For (thn (hi pins s σ H _ I h) λv s1 h1=>thn h1 λitv s2 h2=>?_) hs;obtain⟨it,fp,tn,J,H2,e,I2,T,st2,f2,W,⟨m0,w0⟩,turn⟩:=h2;subst e;have stat:∀{H':Hp},(∀b∈fp,H' b=none)->∀b∈fp,ZD X pins H' b:=λhn b hb=>⟨hn b hb,(f2 b hb).2⟩;refine codeAny_forLoop_any (λn s'=>∃i σ' H',Inv X pins σ' H' s'/\tn i s'.heap/\(∀b∈fp,H' b=none)/\W i n σ' H') ?_ m0 ⟨0,σ,H2,I2,st2,λb hb=>(f2 b hb).1,w0⟩;rintro n s3 ⟨i,σ3,H3,I3,st3,fr3,w3⟩;rcases turn i n σ3 H3 w3 with ⟨stop,qn⟩|⟨go,N,hN,step⟩
 ·refine Jq hp (thn (T.done X rfl rfl rfl hc i pins s3 σ3 H3 X.xe I3 (stat fr3) st3 stop) λr s4 ⟨hr,I4⟩=>?_);subst hr;exact wpAny_execs_nil ⟨σ3,H3,I4,qn⟩
 ·refine Jq hp (thn (T.item X rfl rfl rfl hc i pins s3 σ3 H3 X.xe I3 (stat fr3) st3 go) λr s4 ⟨u,hr,h4⟩=>?_);subst hr;refine Jq hp (thn h4 λ_ s5 ⟨x,H5,I5,r5,y5,st5,fr5⟩=>?_);have I5':=I5.pinned (stat fr5) (T.obj _ _ st5);refine Jq hp (thn (hg _ s5 σ3 H5 x u _ I5' r5 (step x H5 y5)) λ_ s6 ⟨σ6,H6,I6,q6⟩=>?_);refine Jq hp (thn (hb _ s6 σ6 H6 _ I6 q6) λf s7 q7=>?_);have again:∀{σ7:St}{H7:Hp},Inv X (pins++RC fp s5.heap) σ7 H7 s7->N σ7 H7->∃m,m<n/\∃i σ' H',Inv X pins σ' H' s7/\tn i s7.heap/\(∀b∈fp,H' b=none)/\W i m σ' H':=λ{σ7 H7} I7 n7=>by obtain⟨m',hm,w7⟩:=hN σ7 H7 n7;refine⟨m',hm,i+1,σ7,H7,I7.unpinned,T.keep _ _ _ st5 λb hb o e=>(I7.pin (b,o) (QL _ (QL _ (PZ hb e)))).1,λb hb=>?_,w7⟩;obtain⟨o,e,d⟩:=T.obj _ _ st5 b hb;exact(I7.pin (b,o) (QL _ (QL _ (PZ hb e)))).2.1
  cases f with
  |next=>obtain⟨σ7,H7,I7,n7⟩:=q7;exact again I7 n7
  |cont=>obtain⟨σ7,H7,I7,n7⟩:=q7;exact again I7 n7
  |brk=>obtain⟨σ7,H7,I7,q7⟩:=q7;exact⟨σ7,H7,I7.unpinned,q7⟩
  |ret v=>obtain⟨x7,σ7,H7,I7,r7,q7⟩:=q7;exact⟨x7,σ7,H7,I7.unpinned,r7,q7⟩
end
abbrev R2:=V->V->Hp->VK->Prop
def OpR(X:Cx)(f:Ui->Ui->Sem Ui)(r:R2):Prop:=
 ∀(pins:List (Ul×Obj))(s:Uj)(σ:St)(H:Hp)(x y:V)(v u:Ui)(Q:VK),Inv X pins σ H s->RelV x v->RelV y u->r x y H Q ->
  Uq (model X.prog X.w) X.A (f v u) (EP X pins σ Q) X.xe s
def UnR(X:Cx)(f:Ui->Sem Ui)(r:V->Hp->VK->Prop):Prop:=
 ∀(pins:List (Ul×Obj))(s:Uj)(σ:St)(H:Hp)(x:V)(v:Ui)(Q:VK),Inv X pins σ H s->RelV x v->r x H Q ->
  Uq (model X.prog X.w) X.A (f v) (EP X pins σ Q) X.xe s
def YL(X:Cx)(f:Ui)(r:List V->Hp->VK->Prop):Prop:=
 ∀(pins:List (Ul×Obj))(s:Uj)(σ:St)(H:Hp)(xs:List V)(us:List Ui)(Q:VK),Inv X pins σ H s->Vals xs us->r xs H Q ->
  Uq (model X.prog X.w) X.A (call f us) (EP X pins σ Q) X.xe s
def TruR(X:Cx)(r:V->Hp->(Bool->Hp->Prop)->Prop):Prop:=
 ∀(pins:List (Ul×Obj))(s:Uj)(σ:St)(H:Hp)(x:V)(v:Ui)(Q:Bool->Hp->Prop),Inv X pins σ H s->RelV x v->r x H Q ->
  Uq (model X.prog X.w) X.A (truthy v) (TP X pins σ Q) X.xe s
def tOp(r:R2)(ta tb:TE):TE:=λσ H Q=>ta σ H λx H1=>tb σ H1 λy H2=>r x y H2 Q
def tUn(r:V->Hp->VK->Prop)(ta:TE):TE:=λσ H Q=>ta σ H λx H1=>r x H1 Q
def rI(C:Int->Int->Prop)(g:Int->Int->V):R2:=λx y H Q=>∃i j,x=.int i/\y=.int j/\C i j/\Q (g i j) H
def rI0(g:Int->Int->V):R2:=λx y H Q=>∃i j,x=.int i/\y=.int j/\Q (g i j) H
def rU(g:Int->V):V->Hp->VK->Prop:=λx H Q=>∃i,x=.int i/\Q (g i) H
section
variable{X:Cx}{a b c:Uo}{ta tb tc:TE}{pos:Pos}
theorem Sk(ha:PE X a ta)(hb:PE X b tb){pins:List (Ul×Obj)}{s:Uj}{σ:St}{H:Hp}{R:V->V->Hp->Prop}(I:Inv X pins σ H s)
  (h:ta σ H λx H1=>tb σ H1 λy H2=>R x y H2) {Q:Ui->Uj->Prop} {f:Ui->Ui->Sem Ui}
  (hf:∀v u s2 x y H2,Inv X pins σ H2 s2->RelV x v->RelV y u->R x y H2->Uq (model X.prog X.w) X.A (f v u) Q X.xe s2) :
  Uq (model X.prog X.w) X.A (eval a X.env) (λv s₁=>Uq (model X.prog X.w) X.A (eval b X.env) (λu s₂=>Uq (model X.prog X.w) X.A (f v u) Q X.xe s₂) X.xe s₁) X.xe s:=by
 refine thn (ha pins s σ H _ I h) λv s1 ⟨x,H1,I1,r1,q1⟩=>?_;refine thn (hb pins s1 σ H1 _ I1 q1) λu s2 ⟨y,H2,I2,r2,q2⟩=>?_;exact hf v u s2 x y H2 I2 r1 r2 q2
theorem NW{op:Operator}{r:R2}(ho:OpR X (binaryOp op) r)(ha:PE X a ta)(hb:PE X b tb):PE X (.BinOp a op b pos) (tOp r ta tb):=by intro pins s σ H Q I h;exact wpAny_BinOp (Sk ha hb I h λv u s2 x y H2 I2 rx ry q=>ho pins s2 σ H2 x y v u Q I2 rx ry q)
theorem Fp{op:UnaryOp}{r:V->Hp->VK->Prop}(ho:UnR X (unaryOp op) r)(ha:PE X a ta):PE X (.UnaryOp op a pos) (tUn r ta):=by intro pins s σ H Q I h;exact UnaryOp_ (thn (ha pins s σ H _ I h) λv s1 ⟨x,H1,I1,r1,q1⟩=>ho pins s1 σ H1 x v Q I1 r1 q1)
theorem opI{f:Ui->Ui->Sem Ui}{C:Int->Int->Prop}{g:Int->Int->Int}
  (rule:∀(i j:Int)(t u:Tok)(s:Uj)(Q:Ui->Uj->Prop)(E:Ui->Uj->Prop),C i j->Q (.int (g i j) s.toks) {s with toks:=s.toks+1}->Uq (model X.prog X.w) X.A (f (.int i t) (.int j u)) Q E s) :
  OpR X f (rI C λi j=>.int (g i j)):=by
 intro pins s σ H x y v u Q I rx ry h;obtain⟨i,j,rfl,rfl,hc,q⟩:=h;obtain⟨t,rfl⟩:=rx;obtain⟨t',rfl⟩:=ry;exact rule i j t t' s _ _ hc ⟨.int (g i j),H,I.tok _,⟨_,rfl⟩,q⟩
theorem opI0{f:Ui->Ui->Sem Ui}{g:Int->Int->Int}
  (rule:∀(i j:Int)(t u:Tok)(s:Uj)(Q:Ui->Uj->Prop)(E:Ui->Uj->Prop),Q (.int (g i j) s.toks) {s with toks:=s.toks+1}->Uq (model X.prog X.w) X.A (f (.int i t) (.int j u)) Q E s) :
  OpR X f (rI0 λi j=>.int (g i j)):=by
 intro pins s σ H x y v u Q I rx ry h;obtain⟨i,j,rfl,rfl,q⟩:=h;obtain⟨t,rfl⟩:=rx;obtain⟨t',rfl⟩:=ry;exact rule i j t t' s _ _ ⟨.int (g i j),H,I.tok _,⟨_,rfl⟩,q⟩
theorem WE{f:Ui->Ui->Sem Ui}{g:Int->Int->Bool}
  (rule:∀(i j:Int)(t u:Tok)(s:Uj)(Q:Ui->Uj->Prop)(E:Ui->Uj->Prop),Q (.bool (g i j)) s->Uq (model X.prog X.w) X.A (f (.int i t) (.int j u)) Q E s) :
  OpR X f (rI0 λi j=>.bl (g i j)):=by
 intro pins s σ H x y v u Q I rx ry h;obtain⟨i,j,rfl,rfl,q⟩:=h;obtain⟨t,rfl⟩:=rx;obtain⟨t',rfl⟩:=ry;exact rule i j t t' s _ _ ⟨.bl (g i j),H,I,rfl,q⟩
def CPow(i j:Int):Prop:=0<=j/\j<=1000000/\i.natAbs<2 ^ 64
def CMul(i j:Int):Prop:=(-(2 ^ 64)<i/\i<2 ^ 64)∨(-(2 ^ 64)<j/\j<2 ^ 64)
theorem CMul.ok{i j:Int}(h:CMul i j):IntMulOk i j:=by
 rcases h with ⟨h1,h2⟩|⟨h1,h2⟩
 ·exact .of_left (intBits_le_64 h1 h2)
 ·exact .of_right (intBits_le_64 h1 h2)
theorem DM:OpR X (binaryOp .Add) (rI0 λi j=>.int (i+j)):=opI0 λ_ _ _ _ _ _ _ q=>add_int q
theorem DK:OpR X (binaryOp .Sub) (rI0 λi j=>.int (i-j)):=opI0 λ_ _ _ _ _ _ _ q=>sub_int q
theorem DJ:OpR X (binaryOp .Mult) (rI CMul λi j=>.int (i*j)):=opI λ_ _ _ _ _ _ _ hc q=>mul_int q hc.ok
theorem DI:OpR X (binaryOp .Mod) (rI (λ_ j=>0<j) λi j=>.int (i % j)):=opI λi j _ _ _ _ _ hc q=>by have h1:(0:Int)<j:=hc;exact mod_int' (by omega) (by rw[Int.fmod_eq_emod_of_nonneg i (by omega)];exact q)
theorem DH:OpR X (binaryOp .Pow) (rI CPow λi j=>.int (i ^ j.toNat)):=opI λ_ _ _ _ _ _ _ hc q=>pow_int_small hc.1 hc.2.1 hc.2.2 q
theorem Bb:OpR X (inplaceOp .Mult) (rI CMul λi j=>.int (i*j)):=opI λ_ _ _ _ _ _ _ hc q=>imul_int q hc.ok
theorem unI{f:Ui->Sem Ui}{g:Int->Int}
  (rule:∀(i:Int)(t:Tok)(s:Uj)(Q:Ui->Uj->Prop)(E:Ui->Uj->Prop),Q (.int (g i) s.toks) {s with toks:=s.toks+1}->Uq (model X.prog X.w) X.A (f (.int i t)) Q E s) :
  UnR X f (rU λi=>.int (g i)):=by
 intro pins s σ H x v Q I rx h;obtain⟨i,rfl,q⟩:=h;obtain⟨t,rfl⟩:=rx;exact rule i t s _ _ ⟨.int (g i),H,I.tok _,⟨_,rfl⟩,q⟩
theorem DG:UnR X (unaryOp .USub) (rU λi=>.int (-i)):=unI λ_ _ _ _ _ q=>neg_int q
end
section
variable{X:Cx}{a b c:Uo}{ta tb tc:TE}{pos:Pos}
theorem Mg{pins:List (Ul×Obj)}{σ:St}{H:Hp}{s:Uj}{Q:VK}{k k':Bool}(I:Inv X pins σ H s)(q:Q (.bl k) H)(e:k=k'):EP X pins σ Q (.bool k') s:=by subst e;exact⟨.bl k,H,I,rfl,q⟩
theorem Fo:OpR X (Us .Lt) (rI0 λi j=>.bl (decide (i<j))):=WE λ_ _ _ _ _ _ _ q=>lt_int q
theorem Fn:OpR X (Us .LtE) (rI0 λi j=>.bl (decide (i<=j))):=WE λ_ _ _ _ _ _ _ q=>le_int q
theorem Fm:OpR X (Us .Gt) (rI0 λi j=>.bl (decide (j<i))):=WE λ_ _ _ _ _ _ _ q=>gt_int q
theorem Fl:OpR X (Us .GtE) (rI0 λi j=>.bl (decide (j<=i))):=WE λ_ _ _ _ _ _ _ q=>ge_int q
theorem qG:OpR X (Us .In) (λx y H Q=>∃i j,x=.str i/\y=.str j/\Q (.bl (!(Builtin.Str.occurrences j i 0 j.length 1).isEmpty)) H):=by intro pins s σ H x y v u Q I rx ry h;obtain⟨i,j,rfl,rfl,q⟩:=h;obtain⟨t,rfl⟩:=rx;obtain⟨t',rfl⟩:=ry;exact in_str (Mg I q rfl)
theorem kT:OpR X (Us .NotIn) (λx y H Q=>∃i j,x=.str i/\y=.str j/\Q (.bl (!(!(Builtin.Str.occurrences j i 0 j.length 1).isEmpty))) H):=by intro pins s σ H x y v u Q I rx ry h;obtain⟨i,j,rfl,rfl,q⟩:=h;obtain⟨t,rfl⟩:=rx;obtain⟨t',rfl⟩:=ry;exact notIn_str (Mg I q rfl)
theorem OpR.or{f:Ui->Ui->Sem Ui}{r r':R2}(h:OpR X f r)(h':OpR X f r'):OpR X f (λx y H Q=>r x y H Q∨r' x y H Q):=by
 intro pins s σ H x y v u Q I rx ry q;rcases q with q|q
 ·exact h pins s σ H x y v u Q I rx ry q
 ·exact h' pins s σ H x y v u Q I rx ry q
theorem Op(b:Uo){op:CmpOp}(h:op≠.In:=by decide)(h2:op≠.NotIn:=by decide):behindInMarks op b=false:=by
 have e1:(op==CmpOp.In)=false:=by cases op<;>first|rfl|exact absurd rfl h
 have e2:(op==CmpOp.NotIn)=false:=by cases op<;>first|rfl|exact absurd rfl h2
 cases b<;>simp[behindInMarks,e1,e2]
theorem Ll{op:CmpOp}{r:R2}(ho:OpR X (Us op) r)(ha:PE X a ta)(hb:PE X b tb)(hm:behindInMarks op b=false):PE X (.Compare a [op] [b] pos) (tOp r ta tb):=by intro pins s σ H Q I h;exact wpAny_Compare1 (Sk ha hb I h λv u s2 x y H2 I2 rx ry q=>ho pins s2 σ H2 x y v u Q I2 rx ry q) hm
def NV(t:TE):TT:=λσ H Q=>t σ H λx H'=>∃k,x=.bl k/\Q k H'
theorem OG{op:CmpOp}{r:R2}(ho:OpR X (Us op) r)(ha:PE X a ta)(hb:PE X b tb)(hm:behindInMarks op b=false):PT X (.Compare a [op] [b] pos) (NV (tOp r ta tb)):=by
 intro pins s σ H Q I h
 refine wpAny_isTrue_Compare1 (thn (ha pins s σ H _ I h) λv s1 ⟨x,H1,I1,r1,q1⟩=>thn (hb pins s1 σ H1 _ I1 q1) λu s2 ⟨y,H2,I2,r2,q2⟩=>
  thn (ho pins s2 σ H2 x y v u _ I2 r1 r2 q2) λc s3 ⟨z,H3,I3,r3,k,e,q3⟩=>?_) hm
 subst e;cases r3;exact Q2 ⟨H3,I3,q3⟩
def Mf(r r':R2)(ta tb tc:TE):TE:=λσ H Q=>ta σ H λx H1=>tb σ H1 λy H2=>r x y H2 λz H3=>∃k,z=.bl k /\
 (if k=true then tc σ H3 λw' H4=>r' y w' H4 Q else Q (.bl false) H3)
theorem A4{op op':CmpOp}{r r':R2}(ho:OpR X (Us op) r)(ho':OpR X (Us op') r')(ha:PE X a ta)(hb:PE X b tb)(hc:PE X c tc)
  (hm:lastMarks [op,op'] [b,c]=false:=by with_unfolding_all rfl):PE X (.Compare a [op,op'] [b,c] pos) (Mf r r' ta tb tc):=by
 intro pins s σ H Q I h
 refine Compare_chain (thn (ha pins s σ H _ I h) λv s1 ⟨x,H1,I1,r1,q1⟩=>chain_link (thn (hb pins s1 σ H1 _ I1 q1) λu s2 ⟨y,H2,I2,r2,q2⟩=>
  thn (ho pins s2 σ H2 x y v u _ I2 r1 r2 q2) λd s3 ⟨z,H3,I3,r3,k,e,q3⟩=>?_)) hm
 subst e;cases r3;refine Q2 ?_;cases k with
 |false=>exact ite_ff ⟨.bl false,H3,I3,rfl,q3⟩
 |true=>exact ite_tt (chain_last (thn (hc pins s3 σ H3 _ I3 q3) λw' s4 ⟨z',H4,I4,r4,q4⟩=>ho' pins s4 σ H4 y z' u w' Q I4 r2 r4 q4))
theorem A3{op op':CmpOp}{r r':R2}(ho:OpR X (Us op) r)(ho':OpR X (Us op') r')(ha:PE X a ta)(hb:PE X b tb)(hc:PE X c tc)
  (hm:lastMarks [op,op'] [b,c]=false:=by with_unfolding_all rfl):PT X (.Compare a [op,op'] [b,c] pos) (NV (Mf r r' ta tb tc)):=by
 intro pins s σ H Q I h
 refine isTrue_chain (thn (ha pins s σ H _ I h) λv s1 ⟨x,H1,I1,r1,q1⟩=>test_link (thn (hb pins s1 σ H1 _ I1 q1) λu s2 ⟨y,H2,I2,r2,q2⟩=>
  thn (ho pins s2 σ H2 x y v u _ I2 r1 r2 q2) λd s3 ⟨z,H3,I3,r3,k,e,q3⟩=>?_)) hm
 subst e;cases r3;refine Q2 ?_;cases k with
 |false=>obtain⟨k',e',q'⟩:=q3;cases e';exact ite_ff ⟨H3,I3,q'⟩
 |true=>refine ite_tt (test_last (thn (hc pins s3 σ H3 _ I3 q3) λw' s4 ⟨z',H4,I4,r4,q4⟩=>thn (ho' pins s4 σ H4 y z' u w' _ I4 r2 r4 q4) λd' s5 ⟨z2,H5,I5,r5,k2,e2,q5⟩=>?_));subst e2;cases r5;exact Q2 ⟨H5,I5,q5⟩
def TruV(K:Frag)(x:V)(H:Hp)(k:Bool):Prop:=
 match x with
 |.non=>k=false
 |.bl b=>k=b
 |.int i=>k=(i != 0)
 |.str y=>y.length<=Up/\k=((y.length:Int) != 0)
 |.byt y=>y.size<=Up/\k=((y.size:Int) != 0)
 |.ref p=>(∃xs,SqL K H p xs/\k = !xs.isEmpty)∨(∃xs,SqT K H p xs/\k = !xs.isEmpty) ∨ ∃kvs,H p=some (.dK kvs)/\k = !kvs.isEmpty
 |_=>False
theorem js{κ:Type}{kvs:List (κ×V)}{vs:List (κ×Ui)}(r:KV kvs vs):(!vs.isEmpty) = !kvs.isEmpty:=by cases r<;>rfl
theorem GI{xs:List V}{its:List Ui}(r:Vals xs its):(!its.toArray.isEmpty) = !xs.isEmpty:=by cases r<;>simp
theorem RB:(Up:Nat)<2 ^ 63:=by rw[sizeLine_eq];decide
theorem DF:TruR X (λx H Q=>∃k,TruV X.K x H k/\Q k H):=by
 intro pins s σ H x v Q I rx h;obtain⟨k,e,q⟩:=h;have hl:=RB;have hs:Up=16777216:=sizeLine_eq;cases x with
 |non=>cases rx;have e':k=false:=e;subst e';exact truthy_none ⟨H,I,q⟩
 |bl b=>cases rx;have e':k=b:=e;subst e';exact Q2 ⟨H,I,q⟩
 |int i=>obtain⟨t,rfl⟩:=rx;have e':k=(i != 0):=e;subst e';exact PySem.P.truthy_int ⟨H,I,q⟩
 |str y=>obtain⟨t,rfl⟩:=rx;obtain⟨hy,e'⟩:y.length<=Up/\k=((y.length:Int) != 0):=e;subst e';exact PySem.P.truthy_str (by omega) ⟨H,I.tok _,q⟩
 |byt y=>obtain⟨t,rfl⟩:=rx;obtain⟨hy,e'⟩:y.size<=Up/\k=((y.size:Int) != 0):=e;subst e';exact PySem.W.truthy_bytes (by omega) ⟨H,I.tok _,q⟩
 |ref p=>
  cases rx;have e':(∃xs,SqL X.K H p xs/\k = !xs.isEmpty)∨(∃xs,SqT X.K H p xs/\k = !xs.isEmpty) ∨ ∃kvs,H p=some (.dK kvs)/\k = !kvs.isEmpty:=e;rcases e' with ⟨xs,hx,e'⟩|⟨xs,hx,e'⟩|⟨kvs,hx,e'⟩
  ·subst e';obtain⟨its,r,pl,hz⟩:=I.list hx;have hlen:=r.length;exact wpAny_truthy_list pl.isList (by simp only[QU];omega) ⟨H,I.tok _,by rw[GI r];exact q⟩
  ·subst e';obtain⟨its,r,pl,hz⟩:=I.tuple hx;have hlen:=r.length;exact truthy_tuple pl (by simp only[QU];omega) ⟨H,I.tok _,by rw[GI r];exact q⟩
  ·subst e';obtain⟨hz,hS,vs,r,m⟩:kvs.length<=Up/\(p==sysModules)=false/\∃vs,KV kvs vs/\s.heap.DictOf (YW X.prog X.w) p vs:=I.hok p _ hx;have hlen:kvs.length=vs.length:=Paired.length r;exact wpAny_truthy_dict hS m (by omega) ⟨H,I.tok _,by rw[js r];exact q⟩
 |_=>exact(show False from e).elim
theorem A2(ha:PE X a ta)(he:∀whole,isTrue a X.env whole=(do let v ←whole;standAt a.pos;holding [v] (truthy v))) :
  PT X a (λσ H Q=>ta σ H λx H'=>∃k,TruV X.K x H' k/\Q k H'):=by
 intro pins s σ H Q I h;exact isTrue_plain (thn (ha pins s σ H _ I h) λv s1 ⟨x,H1,I1,r1,q1⟩=>DF pins s1 σ H1 x v Q I1 r1 q1) (he _)
theorem jr:OpR X (binaryOp .Add) (λx y H Q=>∃i j,x=.str i/\y=.str j/\i.length+j.length<=Up/\Q (.str (i++j)) H):=by intro pins s σ H x y v u Q I rx ry h;obtain⟨i,j,rfl,rfl,hz,q⟩:=h;obtain⟨t,rfl⟩:=rx;obtain⟨t',rfl⟩:=ry;exact add_str (λt' tk=>⟨.str (i++j),H,I.tok _,⟨_,rfl⟩,q⟩) hz
theorem R6{x:V}{us:List Ui}(r:Vals [x] us):∃u,us=[u]/\RelV x u:=by
 cases r with
 |cons r1 r2=>cases r2;exact⟨_,rfl,r1⟩
theorem Ob{x y:V}{us:List Ui}(r:Vals [x,y] us):∃u w',us=[u,w']/\RelV x u/\RelV y w':=by
 cases r with
 |cons r1 r2=>
  cases r2 with
  |cons r3 r4=>cases r4;exact⟨_,_,rfl,r1,r3⟩
theorem qF(hc:X.calm=true):YL X (.builtin "max") (λxs H Q=>∃i j,xs=[.int i,.int j]/\Q (.int (if j > i then j else i)) H):=by
 intro pins s σ H xs us Q I r h;obtain⟨i,j,rfl,q⟩:=h;obtain⟨u,w',rfl,⟨t,rfl⟩,⟨t',rfl⟩⟩:=Ob r;refine max_two_ints (I.ok.hd hc) λh' tk k=>⟨_,H,I.kept k,?_,q⟩
 by_cases hj:j > i
 ·rw[Qm hj,Qm hj];exact⟨_,rfl⟩
 ·rw[QB hj,QB hj];exact⟨_,rfl⟩
theorem qE:YL X (.type "int") (λxs H Q=>(∃i,xs=[.int i]/\Q (.int i) H) ∨ ∃k,xs=[.bl k]/\Q (.int (if k then 1 else 0)) H):=by
 intro pins s σ H xs us Q I r h;rcases h with ⟨i,rfl,q⟩|⟨k,rfl,q⟩
 ·obtain⟨u,rfl,t,rfl⟩:=R6 r;exact call_int_int ⟨.int i,H,I,⟨_,rfl⟩,q⟩
 ·obtain⟨u,rfl,r1⟩:=R6 r;cases r1;exact call_int_bool ⟨.int (if k then 1 else 0),H,I.tok _,⟨_,rfl⟩,q⟩
def LenV(K:Frag)(x:V)(H:Hp)(n:Nat):Prop:=
 match x with
 |.str y=>y.length<=Up/\n=y.length
 |.byt y=>y.size<=Up/\n=y.size
 |.ref p=>(∃xs,SqL K H p xs/\n=xs.length) ∨ ∃xs,SqT K H p xs/\n=xs.length
 |_=>False
theorem LH:YL X (.builtin "len") (λxs H Q=>∃x n,xs=[x]/\LenV X.K x H n/\Q (.int n) H):=by
 intro pins s σ H xs us Q I r h;obtain⟨x,n,rfl,e,q⟩:=h;obtain⟨u,rfl,rx⟩:=R6 r;have hl:=RB;have hs:Up=16777216:=sizeLine_eq;cases x with
 |str y=>obtain⟨t,rfl⟩:=rx;obtain⟨hy,e'⟩:y.length<=Up/\n=y.length:=e;subst e';exact len_str (by omega) ⟨.int _,H,I.tok _,⟨_,rfl⟩,q⟩
 |byt y=>obtain⟨t,rfl⟩:=rx;obtain⟨hy,e'⟩:y.size<=Up/\n=y.size:=e;subst e';exact PySem.W.len_bytes (by omega) ⟨.int _,H,I.tok _,⟨_,rfl⟩,q⟩
 |ref p=>
  cases rx;have e':(∃xs,SqL X.K H p xs/\n=xs.length) ∨ ∃xs,SqT X.K H p xs/\n=xs.length:=e;rcases e' with ⟨xs,hx,e'⟩|⟨xs,hx,e'⟩
  ·subst e';obtain⟨its,r',pl,hz⟩:=I.list hx;have hlen:=r'.length;exact Calls.call_len_list pl.isList (by simp only[QU];omega) ⟨.int xs.length,H,I.tok _,⟨_,by simp only[QU];rw[hlen]⟩,q⟩
  ·subst e';obtain⟨its,r',pl,hz⟩:=I.tuple hx;have hlen:=r'.length;exact len_tuple pl (by simp only[QU];omega) ⟨.int xs.length,H,I.tok _,⟨_,by simp only[QU];rw[hlen]⟩,q⟩
 |_=>exact(show False from e).elim
end
theorem RelO.some_of{v:V}{o:Option Ui}(r:RelO (some v) o):∃u,o=some u/\RelV v u:=by
 cases o with
 |none=>exact(show False from r).elim
 |some u=>exact⟨u,rfl,r⟩
structure Room(k:Nat)(A:Around):Prop where
 hd:A.handled=none
 dp:A.depth+3*k+5<recursionLimit
 un:A.units+16*k+200<cLine
 gd:A.guards=some []
theorem Room.mono{j k:Nat}{A:Around}(r:Room k A)(h:j<=k):Room j A:=⟨r.hd,by have:=r.dp;omega,by have:=r.un;omega,r.gd⟩
theorem Room.deeper{k:Nat}{A:Around}(r:Room (k+1) A)(env:Env):Room k (A.deeper env):=
 ⟨r.hd,by have:=r.dp;show A.depth+1+3*k+5<_;omega,by have:=r.un;show A.units+3+16*k+200<_;omega,r.gd⟩
theorem Room.depth{k:Nat}{A:Around}(r:Room k A):A.depth<recursionLimit:=by have:=r.dp;omega
theorem Room.units{k:Nat}{A:Around}(r:Room k A):A.units+64<cLine:=by have:=r.un;omega
def tNil:TA:=λ_ H Q=>Q [] H
def Fk(ta:TE)(tr:TA):TA:=λσ H Q=>ta σ H λx H1=>tr σ H1 λxs H2=>Q (x::xs) H2
section
variable{X:Cx}{e:Uo}{es:List Uo}{te:TE}{t:TA}{pos:Pos}
theorem SK:PA X [] tNil:=λ_ _ _ _ H Q I h=>Calls.spliced_nil ⟨[],H,I,.nil,h⟩
theorem V4(ha:PE X e te)(hr:PA X es t)(hs:Ur (e::es) X.env=(false,eval e X.env)::Ur es X.env:=by rfl):PA X (e::es) (Fk te t):=by intro pos pins s σ H Q I h;rw[hs];show Uq _ _ (spliced ((false,eval e X.env)::backTo pos (Ur es X.env))) _ _ s;refine Calls.spliced_cons (thn (ha pins s σ H _ I h) λu s1 ⟨x,H1,I1,r1,q1⟩=>?_);exact thn (hr pos pins s1 σ H1 _ I1 q1) λus s2 ⟨xs,H2,I2,r2,q2⟩=>⟨x::xs,H2,I2,.cons r1 r2,q2⟩
def tTup(t:TA):TE:=λσ H Q=>t σ H λxs H1=>xs.length<=Up/\∀p,H1 p=none->Q (.ref p) (upd H1 p (.tup xs))
def tLst(t:TA):TE:=λσ H Q=>t σ H λxs H1=>xs.length<=Up/\∀p,H1 p=none->Q (.ref p) (upd H1 p (.lst xs))
theorem DE{x1}(h:PA X es t):PE X (.Tuple es x1 pos) (tTup t):=by intro pins s σ H Q I hq;refine wpAny_Tuple_spliced (thn (h pos pins s σ H _ I hq) λus s1 ⟨xs,H1,I1,r,z,q⟩=>⟨by rw[←r.length];exact z,?_⟩);have hf:H1 s1.heap.objs.size=none:=I1.hok.fresh (Qs _);refine⟨.ref s1.heap.objs.size,upd H1 s1.heap.objs.size (.tup xs),I1.laid (t':=s1.toks) (λb u e=>Qj _ e) (Qs _) ?_,rfl,q _ hf⟩;exact⟨z,us,r,⟨_,QG _ rfl,rfl,_,rfl⟩⟩
theorem Me(h:PA X es t):PE X (.List es pos) (tLst t):=by intro pins s σ H Q I hq;refine wpAny_List_spliced (thn (h pos pins s σ H _ I hq) λus s1 ⟨xs,H1,I1,r,z,q⟩=>⟨by rw[←r.length];exact z,?_⟩);have hf:H1 s1.heap.objs.size=none:=I1.hok.fresh (Qs _);refine⟨.ref s1.heap.objs.size,upd H1 s1.heap.objs.size (.lst xs),I1.laid (t':=s1.toks) (λb u e=>Qj _ e) (Qs _) ?_,rfl,q _ hf⟩;exact⟨z,us,0,r,QG _ rfl⟩
end
abbrev Sp:=List V->Hp->VK->XK->Prop
abbrev CXT:=List Env->Hp->Uj->XK->Ui->Uj->Prop
structure Env0(P:Uk)(w:World)(K:Frag)(mg:Str->Option Ui)(base:Heap)(A:Around)(outer:List Env)(s:Uj)(H:Hp):Prop where
 frames:A.frames=some outer
 mod:Mod K mg base
 bs:∀b o,base.get? b=some o->s.heap.get? b=some o/\H b=none
 bsz:base.objs.size<=s.heap.objs.size
 funs:s.heap.FunFrames base outer
 frf:∀b∈frs outer,H b=none
 hok:HOk P w H s.heap
 bare:AllBare s.gens
def CE(outer:List Env)(P:Uk)(w:World)(H:Hp)(s:Uj)(Q:VK)(u:Ui)(s':Uj):Prop:=
 ∃v H',s'.os=s.os/\AllBare s'.gens/\Un (frs outer) [] H H' s.heap s'.heap/\HOk P w H' s'.heap/\RelV v u/\Q v H'
def CR(CX:CXT)(outer:List Env)(P:Uk)(w:World)(H:Hp)(s:Uj)(Q:VK)(E:XK)(r:Result)(s':Uj):Prop:=
 match r with
 |.ok (.ret u)=>CE outer P w H s Q u s'
 |.ok _=>False
 |.error e=>CX outer H s E e s'
structure FnOk(P:Uk)(w:World)(K:Frag)(mg:Str->Option Ui)(base:Heap)(CX:CXT)(k:Nat)(f:Ul)(fd:Um)(ps:List Str)(sp:Sp):Prop where
 len:∀vs H Q E,sp vs H Q E->vs.length=ps.length
 run:∀(A:Around)(outer:List Env)(s:Uj)(H:Hp)(args:Args)(us:List Ui)(vs:List V)(Q:VK)(E:XK),Room k A->Env0 P w K mg base A outer s H->BindsTo s fd args (ps.zip us)->Vals vs us->sp vs H Q E ->
  codeAny (model P w) A (.call (.ref f) args) (CR CX outer P w H s Q E) s
section
variable{X:Cx}{pins:List (Ul×Obj)}{σ:St}{H:Hp}{s s':Uj}
theorem Inv.env0(I:Inv X pins σ H s):Env0 X.prog X.w X.K X.mg X.base X.A X.stack s H:=
 ⟨I.ok.frames,I.ok.mod,I.bs,QR I.ok.bsz I.sz,I.stack,I.stkFree,I.hok,I.bare⟩
theorem Inv.after{Q:VK}{u:Ui}(I:Inv X pins σ H s)(h:CE X.stack X.prog X.w H s Q u s'):EP X pins σ Q u s':=by obtain⟨v,H',os,bare,un,hok,r,q⟩:=h;obtain⟨hh,g,d,t,os'⟩:=s';obtain rfl:os'=s.os:=os;exact⟨v,H',I.call (h':=hh) (g':=g) (d':=d) (t':=t) (ch:=[]) un hok bare (λb z=>absurd z (by simp)),r,q⟩
end
def Fj(sp:Sp)(dvs:List V)(E:XK)(t:TA):TE:=λσ H Q=>t σ H λvs H1=>sp (vs++dvs) H1 Q E
def VA(K:Frag)(fd:Um)(ps:List Str)(ds:List Ui):Prop:=
 ∀(s:Uj)(us:List Ui),K.In s.heap->(us++ds).length=ps.length->BindsTo s fd ⟨us,[]⟩ (ps.zip (us++ds))
theorem VA.all{K:Frag}{fd:Um}{ps:List Str}(h:∀us:List Ui,us.length=ps.length->bindArgs fd ⟨us,[]⟩=pure (ps.zip us)):VA K fd ps []:=λs us _ hl=>by rw[Jb]at hl⊢;exact .of_eq (h us hl)
def Oo(CX:CXT)(X:Cx)(E:XK):Prop:=∀(pins:List (Ul×Obj))(σ:St)(H:Hp)(s:Uj)(e:Ui)(s':Uj),Inv X pins σ H s->CX X.stack H s E e s'->X.xe e s'
section
variable{X:Cx}{CX:CXT}{k:Nat}{f C:Ul}{fd:Um}{ps:List Str}{sp:Sp}{dvs:List V}{ds:List Ui}{E:XK}{x m:Str}{p pos apos:Pos}{e o:Uo}{es:List Uo}{ta:TE}{t:TA}
theorem DD{pins:List (Ul×Obj)}{σ:St}{H:Hp}{s:Uj}{Q:VK}{us:List Ui}{vs:List V}(F:FnOk X.prog X.w X.K X.mg X.base CX k f fd ps sp)(hr:Room k X.A)(hb:VA X.K fd ps ds)(hd:Vals dvs ds)(hx:Oo CX X E)
  (I:Inv X pins σ H s) (r:Vals vs us) (h:sp (vs++dvs) H Q E):Uq (model X.prog X.w) X.A (call (.ref f) us) (EP X pins σ Q) X.xe s:=by
 have r2:Vals (vs++dvs) (us++ds):=r.append hd;have hl:(us++ds).length=ps.length:=by rw[←r2.length];exact F.len _ _ _ _ h
 refine wpAny_call (codeAny_mono (F.run X.A X.stack s H ⟨us,[]⟩ (us++ds) (vs++dvs) Q E hr I.env0 (hb s us I.kIn hl) r2 h) λr s' hq=>?_);cases r with
 |error e=>exact hx pins σ H s e s' I hq
 |ok fl=>
  cases fl with
  |ret u=>exact I.after hq
  |next=>exact False.elim hq
  |brk=>exact False.elim hq
  |cont=>exact False.elim hq
theorem Ba(F:FnOk X.prog X.w X.K X.mg X.base CX k f fd ps sp)(hr:Room k X.A)(hg:Gl X x)(hm:X.mg x=some (.ref f))(hk:PySem.W.keepIn X.K (.ref f)=true)(hb:VA X.K fd ps ds)(hd:Vals dvs ds)(hx:Oo CX X E)
  (ha:PA X (e::es) t) (hdb:(x==("__debug__" : Str))=false:=by decide) (he:Ur (e::es) X.env=(false,eval e X.env)::Ur es X.env:=by rfl) (hpl:(backTo pos (Ur es X.env)).any (·.1)=false:=by rfl) :
  PE X (.Call (.Name x p) (e::es) [] pos) (Fj sp dvs E t):=by
 intro pins s σ H Q I h;refine wpAny_Call_Name_kw (LB I hg hm ?_ hdb);refine PySem.W.callWith_K (h₀:=X.base) I.ok.mod.kin hk (thn (ha pos pins s σ H _ I h) λus s1 ⟨vs,H1,I1,r,q⟩=>⟨I1.kIn,?_⟩) he hpl;exact DD F hr hb hd hx I1 r q
end
structure RE(N P:List Str)(sc:Scope):Prop where
 kind:sc.kind=.function
 co:sc.isCoroutine=false
 gen:sc.isGenerator=false
 nd:N.Nodup
 pre:N.take P.length=P
 par:∀x∈P,sc.names.lookup x=some .local∨sc.names.lookup x=some .cell
 nofree:∀y∈sc.names,y.2≠.free
theorem HI{kindOf:Str->Option NameKind}{x:Str}:∀{binds:List (Str×Ui)}{m:Str->Option Ui},(∀v,(x,v)∉binds)->bindL kindOf binds m x=m x
 |[],_,_=>rfl
 |(n,v)::r,m,h=>by
  unfold bindL;rw[HI λw hw=>h w (Ql _ hw)];split
  ·have:x≠n:=by rintro rfl;exact h v Qn
   simp[this]
  ·rfl
theorem HH{kindOf:Str->Option NameKind}{x:Str}:∀{binds:List (Str×Ui)}{m:Str->Option Ui},(∀v,(x,v)∉binds)->bindC kindOf binds m x=m x
 |[],_,_=>rfl
 |(n,v)::r,m,h=>by
  unfold bindC;rw[HH λw hw=>h w (Ql _ hw)];split
  ·rfl
  ·have:x≠n:=by rintro rfl;exact h v Qn
   simp[this]
theorem HG{kindOf:Str->Option NameKind}{x:Str}{v:Ui}:∀{P:List Str}{vs:List Ui}{i:Nat}{m:Str->Option Ui},P.Nodup->P[i]?=some x->vs[i]?=some v->kindOf x=some .local ->
  bindL kindOf (P.zip vs) m x=some v
 |[],_,_,_,_,h,_,_=>by simp at h
 |_::_,[],_,_,_,_,h,_=>by simp at h
 |p::P,w::vs,0,m,nd,h1,h2,hk=>by simp at h1 h2;subst h1;subst h2;show bindL kindOf ((p,w)::P.zip vs) m p=_;unfold bindL;rw[HI λv hv=>(List.nodup_cons.mp nd).1 (List.of_mem_zip hv).1,Qm hk];simp
 |p::P,w::vs,i+1,m,nd,h1,h2,hk=>by show bindL kindOf ((p,w)::P.zip vs) m x=_;unfold bindL;exact HG (i:=i) (List.nodup_cons.mp nd).2 (by simpa using h1) (by simpa using h2) hk
theorem HF{kindOf:Str->Option NameKind}{x:Str}{v:Ui}:∀{P:List Str}{vs:List Ui}{i:Nat}{m:Str->Option Ui},P.Nodup->P[i]?=some x->vs[i]?=some v->kindOf x≠some .local ->
  bindC kindOf (P.zip vs) m x=some v
 |[],_,_,_,_,h,_,_=>by simp at h
 |_::_,[],_,_,_,_,h,_=>by simp at h
 |p::P,w::vs,0,m,nd,h1,h2,hk=>by simp at h1 h2;subst h1;subst h2;show bindC kindOf ((p,w)::P.zip vs) m p=_;unfold bindC;rw[HH λv hv=>(List.nodup_cons.mp nd).1 (List.of_mem_zip hv).1,QB hk];simp
 |p::P,w::vs,i+1,m,nd,h1,h2,hk=>by show bindC kindOf ((p,w)::P.zip vs) m x=_;unfold bindC;exact HF (i:=i) (List.nodup_cons.mp nd).2 (by simpa using h1) (by simpa using h2) hk
def XU(N:List Str)(vs:List V):St:=vs.map some++Uu (N.length-vs.length) none
def Y5(CX:CXT)(P:Uk)(w:World)(K:Frag)(mg:Str->Option Ui)(base:Heap)(N:List Str)(qual:Str)(scope:Scope)(f:Ul)(cd:Ui)(A:Around)(outer:List Env)(s:Uj)(H:Hp)(E:XK):Cx where
 prog:=P
 w:=w
 K:=K
 mg:=mg
 base:=base
 A:=A.deeper (envOfC qual scope s.heap.objs.size f cd)
 N:=N
 s₀:=s
 H₀:=H
 env:=envOfC qual scope s.heap.objs.size f cd
 outer:=outer
 stack:=envOfC qual scope s.heap.objs.size f cd::outer
 ex:=[]
 calm:=true
 fn:=λ_=>true
 pn:=[]
 xe:=λe s'=>Uq (model P w) (A.deeper (envOfC qual scope s.heap.objs.size f cd)) (leaving (envOfC qual scope s.heap.objs.size f cd) e) (λ_ s''=>CX outer H s E e s'') (λe' s''=>CX outer H s E e' s'') s'
theorem OY{sc:Scope}{n:Nat}{x:Str}(h:sc.names.lookup x=some .cell):∃c,(cellsFrom n sc.names []).lookup x=some c:=by have q:=PySem.W.cellsFrom_some sc.names n [] (.inl h);exact Option.isSome_iff_exists.mp q
theorem qD{CX:CXT}{P:Uk}{w:World}{K:Frag}{mg:Str->Option Ui}{base:Heap}{N ps:List Str}{qual:Str}{scope:Scope}{f:Ul}{cd:Ui}{A:Around}{outer:List Env}{s s1:Uj}{H:Hp}{E:XK}{us:List Ui}{vs:List V}
  (S:RE N ps scope) (hd:A.handled=none) (e0:Env0 P w K mg base A outer s H) (hl:vs.length=ps.length) (r:Vals vs us)
  (x:InCallC s s.heap.objs.size (bindL (envOfC qual scope s.heap.objs.size f cd).kindOf (ps.zip us) λ_=>none) (cellsFrom (s.heap.objs.size+1) scope.names []) (bindC (envOfC qual scope s.heap.objs.size f cd).kindOf (ps.zip us) λ_=>none) s1) :
  Inv (Y5 CX P w K mg base N qual scope f cd A outer s H E) [] (XU N vs) H s1:=by
 have hpl:ps.length<=N.length:=by have:=JX List.length S.pre;rw[QP]at this;omega
 obtain⟨h1,tk,rfl,hk⟩:=x.done;have noA:∀b:Ul,b∉(Y5 CX P w K mg base N qual scope f cd A outer s H E).ex:=λb z=>absurd (show b∈([]:List Ul)from z) (by simp)
 refine⟨⟨e0.mod,S.kind,rfl,rfl,Qs _,λy z c h1 h2=>?_,λy hy=>?_,λy c _ h=>?_,λ_=>hd,Around.frames_deeper e0.frames,.inr ⟨rfl,rfl⟩,λb z=>absurd z (noA b),e0.bs,e0.bsz,λb _ _=>noA b,λb z=>absurd z (noA b),e0.funs,e0.frf⟩,
  rfl,e0.bare,Un.kept hk,⟨_,x.toInCall.ns,λi y v h1 h2 h3=>?_⟩,λy c h=>⟨_,x.cell y c h⟩,e0.hok.fresh (Nat.le_refl _),λy c h=>?_,λp hp=>absurd (show p∈([]:List (Ul×Obj))from hp) (by simp),e0.hok.kept hk,?_⟩
 ·exact name_of_addr x.apart (Jg h1) (Jg h2)
 ·have hy:scope.names.lookup y=some .cell∨scope.names.lookup y=some .free:=hy;rcases hy with hy|hy
  ·exact OY hy
  ·exact absurd rfl (S.nofree _ (Jg hy))
 ·exact Uf (x.above y c (Jg h))
 ·have hi:i<vs.length:=by
   unfold XU at h2;by_cases hi:i<vs.length
   ·exact hi
   ·rw[List.getElem?_append_right (by simpa using hi)]at h2;rw[QA]at h2;split at h2<;>cases h2
  have ha:vs[i]?=some v:=by
   unfold XU at h2;rw[List.getElem?_append_left (by simpa using hi),List.getElem?_map]at h2;cases e:vs[i]? with
   |none=>rw[e]at h2;cases h2
   |some a=>rw[e]at h2;cases h2;rfl
  obtain⟨u,hu,rv⟩:=r.get ha;have hp:ps[i]?=some y:=by rw[←S.pre,List.getElem?_take_of_lt (by omega)];exact h1
  have ndP:ps.Nodup:=by rw[←S.pre];exact S.nd.sublist (List.take_sublist _ _)
  refine⟨u,rv,?_⟩;rcases S.par y (Qr hp)with k|k
  ·exact .inl ⟨k,HG ndP hp hu k⟩
  ·obtain⟨c,e⟩:=OY (n:=s.heap.objs.size+1) k;refine .inr ⟨.inl k,c,e,?_⟩;have q:=x.cell y c e;rw[HF ndP hp hu (by show scope.names.lookup y≠_;rw[k];decide)]at q;exact q
 ·exact e0.hok.fresh (Uf (x.above y c (Jg h)))
 ·unfold XU;show _=N.length;rw[Qi,Qb,Qy];omega
theorem Fi{CX:CXT}{P:Uk}{w:World}{K:Frag}{mg:Str->Option Ui}{base:Heap}{k:Nat}{f:Ul}{name qual:Str}{params:Arguments}{body:List Stmt}{scope:Scope}{dV kV doc pm cdv ct oc:Ui}{an od:Option Ul}
  {osl:Array (Option Ui)} {N ps:List Str} {sp:Sp} (lk:K.lookup f=some ⟨oc,od,.func (PySem.W.fnOf name qual params body scope dV kV doc pm an cdv ct),osl⟩) (hcd:PySem.W.codeIn K cdv qual=true) (S:RE N ps scope)
  (len:∀vs H Q E,sp vs H Q E->vs.length=ps.length)
  (hbody:∀(A:Around)(outer:List Env)(s:Uj)(H:Hp)(vs:List V)(Q:VK)(E:XK),Room k (A.deeper (envOfC qual scope s.heap.objs.size f cdv))->sp vs H Q E ->
   ∃t,PSs (Y5 CX P w K mg base N qual scope f cdv A outer s H E) body t/\t {nx:=λ_ H'=>Q .non H',rt:=Q} (XU N vs) H) :
  FnOk P w K mg base CX (k+1) f (PySem.W.fnOf name qual params body scope dV kV doc pm an cdv ct) ps sp:=by
 refine⟨len,λA outer s H args us vs Q E hr e0 hb r hsp=>?_⟩;have hl:=len _ _ _ _ hsp;have KX:K.In s.heap:=e0.mod.kin.keeps λb o e=>(e0.bs b o e).1;have lim:s.heap.NoLimit:=e0.mod.nolimit.keeps λb o e=>(e0.bs b o e).1
 have hkind:∀y∈ps.zip us,scope.names.lookup y.1=some .local∨(scope.names.lookup y.1=some .cell/\((cellsFrom (s.heap.objs.size+1) scope.names []).lookup y.1).isSome=true):=λ⟨n,v⟩ hy=>by
  rcases S.par n (List.of_mem_zip hy).1 with q|q
  ·exact .inl q
  ·exact .inr ⟨q,PySem.W.cellsFrom_some _ _ _ (.inl q)⟩
 refine codeAny_call_function hr.depth (KX _ _ lk) rfl S.co S.gen rfl (PySem.W.codeRec_of KX hcd) (hb _ _ _ _ ?_);refine wpAny_newFunctionEnv_cells S.kind hkind λenv he s1 x=>?_;subst he
 refine⟨lim.keeps x.toInCall.keep,codeAny_func ?_⟩;obtain⟨t,ht,hq⟩:=hbody A outer s H vs Q E (hr.deeper _) hsp;have I:Inv (Y5 CX P w K mg base N qual scope f cdv A outer s H E) [] (XU N vs) H s1:=qD S hr.hd e0 hl r x;refine QK (ht [] s1 (XU N vs) H _ I hq) (λfl s' hs=>?_) λe s' hs=>hs
 have fin:∀{σ':St}{H':Hp}{v:V}{u:Ui},Inv (Y5 CX P w K mg base N qual scope f cdv A outer s H E) [] σ' H' s'->RelV v u->Q v H'->CE outer P w H s Q u s':=
  λ{σ' H' v u} J rv q=>⟨v,H',J.os,J.bare,J.base,J.hok,rv,q⟩
 cases fl with
 |ret u=>obtain⟨v,σ',H',J,rv,q⟩:=hs;exact fin J rv q
 |next=>obtain⟨σ',H',J,q⟩:=hs;exact fin (v:=V.non) (u:=Value.none) J rfl q
 |brk=>obtain⟨_,_,_,q⟩:=hs;exact False.elim q
 |cont=>obtain⟨_,_,_,q⟩:=hs;exact False.elim q
section
variable{X:Cx}{x:Str}{p pos:Pos}{e:Uo}{es:List Uo}{t:TA}{id T:String}{r:List V->Hp->VK->Prop}
def tCB(r:List V->Hp->VK->Prop)(t:TA):TE:=λσ H Q=>t σ H λvs H1=>r vs H1 Q
theorem PD(hc:YL X (.builtin id) r)(hg:Gl X x)(hm:X.mg x=none)(hv:bootBuiltins x=some (.builtin id))(ha:PA X (e::es) t)(hn:x ≠ "__name__" :=by decide)(hdb:(x==("__debug__" : Str))=false:=by decide)
  (he:Ur (e::es) X.env=(false,eval e X.env)::Ur es X.env:=by rfl) (hpl:(backTo pos (Ur es X.env)).any (·.1)=false:=by rfl):PE X (.Call (.Name x p) (e::es) [] pos) (tCB r t):=by
 intro pins s σ H Q I h;refine wpAny_Call_Name_kw (VD I hg hm hv ?_ hn hdb);exact PyProof.Rows.callWith_builtin1 (thn (ha pos pins s σ H _ I h) λus s1 ⟨vs,H1,I1,r1,q1⟩=>hc pins s1 σ H1 vs us Q I1 r1 q1) he hpl
theorem PR(hc:YL X (.type T) r)(hg:Gl X x)(hm:X.mg x=none)(hv:bootBuiltins x=some (.type T))(ha:PA X (e::es) t)(hn:x ≠ "__name__" :=by decide)(hdb:(x==("__debug__" : Str))=false:=by decide)
  (he:Ur (e::es) X.env=(false,eval e X.env)::Ur es X.env:=by rfl) (hpl:(backTo pos (Ur es X.env)).any (·.1)=false:=by rfl):PE X (.Call (.Name x p) (e::es) [] pos) (tCB r t):=by
 intro pins s σ H Q I h;refine wpAny_Call_Name_kw (VD I hg hm hv ?_ hn hdb);exact Jw (thn (ha pos pins s σ H _ I h) λus s1 ⟨vs,H1,I1,r1,q1⟩=>hc pins s1 σ H1 vs us Q I1 r1 q1) he hpl
end
end L2
namespace HT
open PySem PyProof.Rows
section
variable{prog:Uk}{w:World}{A:Around}{E:Ui->Uj->Prop}{s:Uj}
def sIx(n d:Nat):Option Int->Nat
 |none=>d
 |some v=>if v<0 then(v+(n:Int)).toNat else min v.toNat n
end
end HT
namespace L2
open PySem PySem.Spec PyProof.Rows
abbrev TO:=St->Hp->(Option Int->Hp->Prop)->Prop
def PO(X:Cx)(e:Option Uo)(t:TO):Prop:=
 ∀(pins:List (Ul×Obj))(s:Uj)(σ:St)(H:Hp)(Q:Option Int->Hp->Prop),Inv X pins σ H s->t σ H Q ->
  Uq (model X.prog X.w) X.A (evalPart e X.env) (λu s'=>∃o H',Inv X pins σ H' s'/\IsPart u o/\Q o H') X.xe s
def C9:TO:=λ_ H Q=>Q none H
def Fh(t:TE):TO:=λσ H Q=>t σ H λx H1=>∃i,x=.int i/\Q (some i) H1
section
variable{X:Cx}{e:Uo}{te:TE}{lo hi:Option Uo}{tl th:TO}{pos p2:Pos}
theorem C8:PO X none C9:=by intro pins s σ H Q I h;rw[evalPart_none];exact Qk ⟨none,H,I,.none,h⟩
theorem C7(h:PE X e te):PO X (some e) (Fh te):=by
 intro pins s σ H Q I hw;rw[evalPart_some];refine thn (h pins s σ H _ I hw) λu s1 ⟨x,H1,I1,r1,q1⟩=>?_
 obtain⟨i,rfl,q⟩:=q1;obtain⟨t,rfl⟩:=r1;exact⟨some i,H1,I1,.int i t,q⟩
def SlR(X:Cx)(r:V->Option Int->Option Int->Hp->VK->Prop):Prop:=
 ∀(pins:List (Ul×Obj))(s:Uj)(σ:St)(H:Hp)(x:V)(v vl vu:Ui)(lo hi:Option Int)(sl:Ul)(Q:VK),Inv X pins σ H s->RelV x v->s.heap.IsSliceOf sl vl vu .none->IsPart vl lo->IsPart vu hi->r x lo hi H Q ->
  ∃T id,typeLookup (.type T) "__getitem__" = pure (some (.builtin id))/\s.TypeIs v T/\Uq (model X.prog X.w) X.A (getItem v (.ref sl)) (EP X pins σ Q) X.xe s
theorem SlR.or{r r':V->Option Int->Option Int->Hp->VK->Prop}(h:SlR X r)(h':SlR X r'):SlR X (λx lo hi H Q=>r x lo hi H Q∨r' x lo hi H Q):=by
 intro pins s σ H x v vl vu lo hi sl Q I rx hs pl pu q;rcases q with q|q
 ·exact h pins s σ H x v vl vu lo hi sl Q I rx hs pl pu q
 ·exact h' pins s σ H x v vl vu lo hi sl Q I rx hs pl pu q
def tSl(r:V->Option Int->Option Int->Hp->VK->Prop)(te:TE)(tl th:TO):TE:=λσ H Q=>te σ H λx H1=>tl σ H1 λl H2=>th σ H2 λu H3=>r x l u H3 Q
theorem A1{r:V->Option Int->Option Int->Hp->VK->Prop}(hr:SlR X r)(he:PE X e te)(hl:PO X lo tl)(hu:PO X hi th):PE X (.Subscript e (.Slice lo hi none p2) pos) (tSl r te tl th):=by
 intro pins s σ H Q I h;refine Subscript_ (thn (he pins s σ H _ I h) λv s1 ⟨x,H1,I1,r1,q1⟩=>?_);refine wpAny_Slice (thn (hl pins s1 σ H1 _ I1 q1) λvl s2 ⟨l,H2,I2,pl,q2⟩=>thn (hu pins s2 σ H2 _ I2 q2) λvu s3 ⟨u,H3,I3,pu,q3⟩=>?_);rw[evalPart_none];refine Qk ?_;have I4:Inv X pins σ H3 {s3 with heap:=s3.heap.push {cls:=.type "slice", data:=.fields #[vl,vu,.none]}}:=I3.kept (t':=s3.toks) λb ob q=>Qj _ q
 obtain⟨T,id,hT,ht,hg⟩:=hr pins {s3 with heap:=s3.heap.push {cls:=.type "slice", data:=.fields #[vl,vu,.none]}} σ H3 x v vl vu l u s3.heap.objs.size Q I4 r1 (Heap.IsSliceOf.new ..) pl pu q3;show Uq (model X.prog X.w) X.A (subscriptTail e (.Slice lo hi none p2) v (.ref s3.heap.objs.size)) (EP X pins σ Q) X.xe {s3 with heap:=s3.heap.push {cls:=.type "slice", data:=.fields #[vl,vu,.none]}};exact tail_any (ops:=[.ref s3.heap.objs.size,v]) ht hT hg (by with_unfolding_all rfl)
def Xx(xs:List V)(lo hi:Option Int):List V:=(xs.drop (HT.sIx xs.length 0 lo)).take (HT.sIx xs.length xs.length hi-HT.sIx xs.length 0 lo)
theorem j8(xs:List V)(lo hi:Option Int):(Xx xs lo hi).length<=xs.length:=by unfold Xx;rw[QP,Jh];omega
end
def ixN(n:Nat)(i:Int):Option Nat:=if 0<=i then(if i<n then some i.toNat else none)else if -(n:Int)<=i then some (i+n).toNat else none
def atI{α:Type}(xs:List α)(i:Int):Option α:=(ixN xs.length i).bind λj=>xs[j]?
theorem C6{n:Nat}{i:Int}{j:Nat}(h:ixN n i=some j):seqIndex? i n=some j/\j<n /\ -(n:Int)<=i/\i<n:=by
 unfold ixN at h;by_cases h0:0<=i
 ·rw[Qm h0]at h;by_cases h1:i<n
  ·rw[Qm h1]at h;have e:i.toNat=j:=Q5 h;exact⟨by rw[seqIndex_of h0 h1,e],by omega,by omega,h1⟩
  ·rw[QB h1]at h;cases h
 ·rw[QB h0]at h;by_cases h1 : -(n:Int)<=i
  ·rw[Qm h1]at h;have e:(i+n).toNat=j:=Q5 h;exact⟨by rw[seqIndex_neg (by omega) h1,e],by omega,h1,by omega⟩
  ·rw[QB h1]at h;cases h
theorem OF{α:Type}{xs:List α}{i:Int}{v:α}(h:atI xs i=some v):∃j,seqIndex? i xs.length=some j/\xs[j]?=some v/\j<xs.length /\ -(xs.length:Int)<=i/\i<xs.length:=by
 unfold atI at h;cases e:ixN xs.length i with
 |none=>rw[e]at h;cases h
 |some j=>rw[e]at h;obtain⟨h1,h2,h3,h4⟩:=C6 e;exact⟨j,h1,h,h2,h3,h4⟩
theorem Zc{α:Type}{xs:List α}{j:Nat}{v:α}(h:xs[j]?=some v):atI xs (j:Int)=some v:=by
 have hj:j<xs.length:=(Qg.mp h).1;have e:ixN xs.length (j:Int)=some j:=by unfold ixN;rw[if_pos (by omega),if_pos (by omega)];simp
 unfold atI;rw[e];exact h
def OE(b:Uo):Prop:=∀o i,subscripted b false o i=operate [o,i] (getItem o i)
def IxR(X:Cx)(r:R2):Prop:=
 ∀(value slice:Uo)(pins:List (Ul×Obj))(s:Uj)(σ:St)(H:Hp)(x y:V)(v u:Ui)(Q:VK),Inv X pins σ H s->RelV x v->RelV y u->r x y H Q ->
  subscripted slice false v u=operate [v,u] (getItem v u)->Uq (model X.prog X.w) X.A (subscriptTail value slice v u) (EP X pins σ Q) X.xe s
def MtR(X:Cx)(id:String)(r:V->List V->Hp->VK->Prop):Prop:=
 ∀(pins:List (Ul×Obj))(s:Uj)(σ:St)(H:Hp)(x:V)(xs:List V)(v:Ui)(us:List Ui)(Q:VK),Inv X pins σ H s->RelV x v->Vals xs us->r x xs H Q ->
  Uq (model X.prog X.w) X.A (call (.builtin id) (v::us)) (EP X pins σ Q) X.xe s
section
variable{X:Cx}{a b:Uo}{ta tb:TE}{pos:Pos}
theorem IxR.or{r r':R2}(h:IxR X r)(h':IxR X r'):IxR X (λx y H Q=>r x y H Q∨r' x y H Q):=by
 intro value slice pins s σ H x y v u Q I rx ry q hs;rcases q with q|q
 ·exact h value slice pins s σ H x y v u Q I rx ry q hs
 ·exact h' value slice pins s σ H x y v u Q I rx ry q hs
theorem NU{r:R2}(hr:IxR X r)(ha:PE X a ta)(hb:PE X b tb)(hs:OE b):PE X (.Subscript a b pos) (tOp r ta tb):=by intro pins s σ H Q I h;exact Subscript_ (Sk ha hb I h λv u s2 x y H2 I2 rx ry q=>hr a b pins s2 σ H2 x y v u Q I2 rx ry q (hs _ _))
def rIxL(K:Frag):R2:=λx y H Q=>∃p xs i v,x=.ref p/\y=.int i/\SqL K H p xs/\atI xs i=some v/\Q v H
def rIxT(K:Frag):R2:=λx y H Q=>∃p xs i v,x=.ref p/\y=.int i/\SqT K H p xs/\atI xs i=some v/\Q v H
def rIxS:R2:=λx y H Q=>∃z i c,x=.str z/\y=.int i/\z.length<=Up/\atI z.cps.toList i=some c/\Q (.str ⟨#[c]⟩) H
theorem C5:IxR X (rIxL X.K):=by
 intro value slice pins s σ H x y v u Q I rx ry h hs;obtain⟨p,xs,i,z,rfl,rfl,hq,he,q⟩:=h;cases rx;obtain⟨t,rfl⟩:=ry;obtain⟨its,r,pl,hz⟩:=I.list hq;obtain⟨j,h1,h2,h3,h4,h5⟩:=OF he;obtain⟨w,ew,rw'⟩:=r.get h2;have hl:=r.length;have hn:=RB;have fin:EP X pins σ Q w s:=⟨z,H,I,rw',q⟩
 by_cases h0:0<=i
 ·have hj:i.toNat=j:=by
   rw[seqIndex_of h0 h5]at h1;exact Q5 h1
  exact item_listR pl.isList h0 (by omega) (by rw[hj];simpa using ew) fin hs
 ·have hj:(i+(its.toArray.size:Int)).toNat=j:=by
   rw[seqIndex_neg (by omega) h4]at h1;rw[QU,←hl];exact Q5 h1
  exact subscriptTail_builtinR (x:=w) pl.isList.typeIs slot_list_getitem.lookup
   (wpAny_getItem_list_neg (Q:=λr s'=>r=w/\EP X pins σ Q r s') pl.isList (by omega) (by rw[List.size_toArray]<;>omega) (by omega) (by rw[hj];simpa using ew) ⟨rfl,fin⟩) hs
theorem DC:IxR X (rIxT X.K):=by
 intro value slice pins s σ H x y v u Q I rx ry h hs;obtain⟨p,xs,i,z,rfl,rfl,hq,he,q⟩:=h;cases rx;obtain⟨t,rfl⟩:=ry;obtain⟨its,r,pl,hz⟩:=I.tuple hq;obtain⟨j,h1,h2,h3,h4,h5⟩:=OF he;obtain⟨w,ew,rw'⟩:=r.get h2;have hl:=r.length;have hn:=RB;have fin:EP X pins σ Q w s:=⟨z,H,I,rw',q⟩
 exact subscriptTail_builtinR (x:=w) pl.typeIs slot_tuple_getitem.lookup
  (getItem_tuple (j:=j) (Q:=λr s'=>r=w/\EP X pins σ Q r s') pl (by omega) (by omega) (by rw[List.size_toArray,←hl];exact h1) (by simpa using ew) ⟨rfl,fin⟩) hs
theorem DB:IxR X rIxS:=by
 intro value slice pins s σ H x y v u Q I rx ry h hs;obtain⟨z,i,c,rfl,rfl,hz,he,q⟩:=h;obtain⟨t,rfl⟩:=rx;obtain⟨t',rfl⟩:=ry;obtain⟨j,h1,h2,h3,h4,h5⟩:=OF he;have hl:z.cps.toList.length=z.length:=by simp[Str.length]
 rw[hl]at h1 h4 h5;have hn:=RB;exact tail_any (typeIs_str s z t) slot_str_getitem.lookup (getItem_str (c:=c) (by have e1:decide (i < -(2 ^ 63:Int))=false:=QT (by omega);have e2:decide (i ≥ 2 ^ 63)=false:=QT (by omega);rw[e1,e2,Bool.or_false]) (by rw[h1];simpa using h2) ⟨.str ⟨#[c]⟩,H,I.tok _,⟨_,rfl⟩,q⟩) hs
def rIx(K:Frag):R2:=λx y H Q=>rIxL K x y H Q∨rIxT K x y H Q∨rIxS x y H Q
theorem Md:IxR X (rIx X.K):=C5.or (DC.or DB)
theorem kI(lo hi:Option Int)(n:Nat):(sliceBounds lo hi none n).1=((HT.sIx n 0 lo:Nat):Int)/\(sliceBounds lo hi none n).2.1=((HT.sIx n n hi:Nat):Int)/\(sliceBounds lo hi none n).2.2=1:=by
 refine⟨?_,?_,rfl⟩
 ·cases lo with
  |none=>simp[sliceBounds,HT.sIx]
  |some i=>
   simp only[sliceBounds,HT.sIx,Option.getD_none,show(1:Int) > 0 by decide,if_true];by_cases h:i<0
   ·simp only[h,if_true]<;>omega
   ·simp only[h,if_false]<;>omega
 ·cases hi with
  |none=>simp[sliceBounds,HT.sIx]
  |some i=>
   simp only[sliceBounds,HT.sIx,Option.getD_none,show(1:Int) > 0 by decide,if_true];by_cases h:i<0
   ·simp only[h,if_true]<;>omega
   ·simp only[h,if_false]<;>omega
theorem kP(its:List Ui)(lo hi:Option Int):slicePick its.toArray lo hi none=((its.drop (HT.sIx its.length 0 lo)).take (HT.sIx its.length its.length hi-HT.sIx its.length 0 lo)).toArray:=by obtain⟨h1,h2,h3⟩:=kI lo hi its.toArray.size;unfold slicePick;rw[h1,h2,h3];simp only[sliceRange_one,pick_run,QU]<;>rfl
def rSlL(K:Frag):V->Option Int->Option Int->Hp->VK->Prop:=λx lo hi H Q=>∃a xs,x=.ref a/\SqL K H a xs/\∀p,H p=none->Q (.ref p) (upd H p (.lst (Xx xs lo hi)))
theorem C4:SlR X (rSlL X.K):=by intro pins s σ H x v vl vu lo hi sl Q I rx hs pl pu h;obtain⟨a,xs,rfl,hx,q⟩:=h;cases rx;obtain⟨its,r,ht,hz⟩:=I.list hx;have hlen:=r.length;refine⟨"list", _,slot_list_getitem.lookup,ht.isList.typeIs,?_⟩;refine wpAny_getItem_list_slice ht.isList hs pl pu .none (by simp) ?_ (by rw[List.size_toArray]<;>omega);rw[kP,←hlen];refine⟨.ref s.heap.objs.size,_,I.laid (t':=s.toks) (o:=.lst (Xx xs lo hi)) (λb ob q=>Qj _ q) (Qs _) ?_,rfl,q _ (I.hok.fresh (Qs _))⟩;exact⟨QR (j8 xs lo hi) hz,_,0,(r.drop (HT.sIx xs.length 0 lo)).take (HT.sIx xs.length xs.length hi-HT.sIx xs.length 0 lo),QG _ rfl⟩
theorem GV:YL X (.type "list") (λxs H Q=>∃p ys,xs=[.ref p]/\(SqL X.K H p ys∨SqT X.K H p ys)/\∀l,H l=none->Q (.ref l) (upd H l (.lst ys))):=by
 intro pins s σ H xs us Q I r h;obtain⟨p,ys,rfl,hq,q⟩:=h;obtain⟨u,rfl,rx⟩:=R6 r;cases rx
 have fin:∀(its:List Ui),Vals ys its->ys.length<=Up->∀(h':Heap)(c':Nat),(∀b o',s.heap.get? b=some o'->h'.get? b=some o') ->
   h'.get? s.heap.objs.size=some {cls:=.type "list", dict:=none,data:=.seq its.toArray c',slots:=#[]}->EP X pins σ Q (.ref s.heap.objs.size) {s with heap:=h'}:=λits r' hz h' c' kp e=>
  ⟨.ref s.heap.objs.size,_,I.laid (t':=s.toks) kp (Qs _) (show ZH X.prog X.w _ h' _ (.lst ys)from⟨hz,its,c',r',e⟩),rfl,q _ (I.hok.fresh (Qs _))⟩
 rcases hq with hq|hq
 ·obtain⟨its,r',pl,hz⟩:=I.list hq;have hlen:=r'.length;obtain⟨o,ho,hc,n,hd⟩:=pl.isList;exact call_list_seq p (.inl rfl) ho hc hd (λh' c' kp e=>fin its r' hz h' c' kp e) (by simp only[QU]<;>omega)
 ·obtain⟨its,r',pl,hz⟩:=I.tuple hq;have hlen:=r'.length;obtain⟨o,ho,hc,n,hd⟩:=pl;exact call_list_seq p (.inr rfl) ho hc hd (λh' c' kp e=>fin its r' hz h' c' kp e) (by simp only[QU]<;>omega)
def tyV(K:Frag)(T:String)(x:V)(H:Hp):Prop:=match x with
 |.str _=>T = "str"
 |.int _=>T = "int"
 |.ref p=>(T = "list" /\ ∃xs,SqL K H p xs)∨(T = "tuple" /\ ∃o,K.lookup p=some o/\o.cls=.type "tuple" /\ o.dict=none) ∨
   (T = "dict" /\ ((∃kvs,H p=some (.dK kvs)) ∨ ∃kvs,H p=some (.dT kvs)))∨(T = "set" /\ ∃S n,H p=some (.set S n))
 |_=>False
theorem DA{pins:List (Ul×Obj)}{σ:St}{H:Hp}{s:Uj}{T:String}{x:V}{v:Ui}(I:Inv X pins σ H s)(r:RelV x v)(ty:tyV X.K T x H) :
  s.TypeIs v T/\∀a,v=.ref a->∃ob,s.heap.get? a=some ob/\ob.dict=none:=by
 cases x with
 |str z=>obtain⟨t,rfl⟩:=r;cases (show T = "str" from ty);exact⟨typeIs_str s z t,λ_ e=>nomatch e⟩
 |int i=>obtain⟨t,rfl⟩:=r;cases (show T = "int" from ty);exact⟨typeIs_int s i t,λ_ e=>nomatch e⟩
 |ref p=>
  cases r;rcases ty with ⟨rfl,xs,hq⟩|⟨rfl,o,hk,hc,hd⟩|⟨rfl,hk⟩|⟨rfl,S,n,hk⟩
  ·obtain⟨its,_,pl,_⟩:=I.list hq;refine⟨pl.isList.typeIs,λa e=>?_⟩;cases e;obtain⟨o,n,e,c,hd,_⟩:=pl;exact⟨o,e,hd⟩
  ·refine⟨⟨o,I.kIn p o hk,hc⟩,λa e=>?_⟩;cases e;exact⟨o,I.kIn _ o hk,hd⟩
  ·have z:∃o,s.heap.get? p=some o/\o.ExactDict:=by
    rcases hk with ⟨kvs,hk⟩|⟨kvs,hk⟩
    ·obtain⟨_,_,_,_,o,_,_,e,ex,_⟩:=I.hok p _ hk;exact⟨o,e,ex⟩
    ·obtain⟨_,_,_,_,o,_,_,e,ex,_⟩:=I.hok p _ hk;exact⟨o,e,ex⟩
   obtain⟨o,e,ex⟩:=z;refine⟨⟨o,e,ex.1⟩,λa e2=>?_⟩;cases e2;exact⟨o,e,ex.2.1⟩
  ·obtain⟨o,_,_,_,e,ex,_⟩:=I.hok p _ hk;refine⟨⟨o,e,ex.1⟩,λa e2=>?_⟩;cases e2;exact⟨o,e,ex.2.1⟩
 |_=>exact False.elim ty
def tBM(K:Frag)(T:String)(r:V->List V->Hp->VK->Prop)(to:TE)(t:TA):TE:=λσ H Q=>to σ H λx H1=>tyV K T x H1/\t σ H1 λxs H2=>r x xs H2 Q
variable{o e:Uo}{es:List Uo}{to:TE}{t:TA}{name:Str}{apos cpos:Pos}{T id:String}{r:V->List V->Hp->VK->Prop}
theorem Oa(pa:PlainAttrs T)(slot:Slot T name id)(hty:typeOf (.builtin id)=pure (.type "method_descriptor"))(hm:MtR X id r)(ho:PE X o to)(ha:PA X (e::es) t)
  (hbase:attributeBase o name X.env (eval o X.env)=eval o X.env:=by rfl)
  (hfew:((backTo cpos (Ur (e::es) X.env)).all (λx=>!x.1)&&(backToKw cpos (keywordEach [] X.env)).all (λx=>x.1.isSome)
   && decide ((e::es).length+([]:List Keyword).length+(if([]:List Keyword).isEmpty then 0 else 1)<30))=true:=by rfl)
  (hline:(apos.endLine==cpos.line)=true:=by rfl) (hs:Ur (e::es) X.env=(false,eval e X.env)::Ur es X.env:=by rfl) (hplain:(backTo cpos (Ur es X.env)).any (·.1)=false:=by rfl) :
  PE X (.Call (.Attribute o name apos) (e::es) [] cpos) (tBM X.K T r to t):=by
 intro pins s σ H Q I h;refine wpAny_Call_method_late hbase hfew hline rfl (thn (ho pins s σ H _ I h) λv s1 ⟨x,H1,I1,r1,ty,q1⟩=>?_);obtain⟨h1,h2⟩:=DA I1 r1 ty;refine⟨T,id,pa,slot,hty,h1,h2,?_⟩;have hA:=ha cpos pins s1 σ H1 _ I1 q1;rw[hs]at hA⊢;refine Calls.callWith_builtin (by show(false || (backTo cpos (Ur es X.env)).any (·.1))=false;rw[hplain]<;>rfl) (Calls.evalArgs_plain ?_);exact thn hA λus s2 ⟨vs,H2,I2,r2,q2⟩=>hm pins s2 σ H2 x vs v us Q I2 r1 r2 q2
end
def MtM(X:Cx)(id:String)(r:V->List V->Hp->VK->Prop):Prop:=
 ∀(pins:List (Ul×Obj))(s:Uj)(σ:St)(H:Hp)(x:V)(xs:List V)(v:Ui)(us:List Ui)(Q:VK),Inv X pins σ H s->RelV x v->Vals xs us->r x xs H Q ->
  Uq (model X.prog X.w) X.A (call (.builtin id) (v::us)) (EP X pins σ Q) X.xe s
theorem Vals.one:∀{x:V}{us:List Ui},Vals [x] us->∃u,us=[u]/\RelV x u
 |_,_,.cons r .nil=>⟨_,rfl,r⟩
theorem Vals.two:∀{x y:V}{us:List Ui},Vals [x,y] us->∃u v,us=[u,v]/\RelV x u/\RelV y v
 |_,_,_,.cons r (.cons q .nil)=>⟨_,_,rfl,r,q⟩
theorem Vals.reverse{xs:List V}{us:List Ui}(h:Vals xs us):Vals xs.reverse us.reverse:=by
 induction h with
 |nil=>exact .nil
 |cons r t ih=>rw[List.reverse_cons,List.reverse_cons];exact Vals.append ih (.cons r .nil)
theorem Vals.rep{xs:List V}{us:List Ui}(h:Vals xs us):∀k:Nat,Vals (Uu k xs).flatten (Uu k us).flatten
 |0=>.nil
 |k+1=>by rw[QW,QW,QN,QN];exact Vals.append h (Vals.rep h k)
theorem HE(its:List Ui):∀(k:Nat)(acc:List Ui),
  List.foldl (λx1 x2=>x1++x2) acc.toArray (Uu k its.toArray)=(acc++(Uu k its).flatten).toArray
 |0,acc=>by simp
 |k+1,acc=>by
  have e:acc.toArray++its.toArray=(acc++its).toArray:=by simp
  have e2:(acc++its)++(Uu k its).flatten=acc++(Uu (k+1) its).flatten:=by rw[QW,QN,QY]
  rw[←e2,←HE its k (acc++its),←e,QW,J8]
section
variable{X:Cx}{pins:List (Ul×Obj)}{σ:St}{H:Hp}{s:Uj}{l b:Ul}{xs ys zs:List V}
theorem Inv.lset{its its':List Ui}{n:Nat}{f:Array Ui->Array Ui}{t':Nat}(I:Inv X pins σ H s)(hH:H l=some (.lst xs))
  (e:s.heap.get? l=some {cls:=.type "list", data:=.seq its.toArray n}) (hf:f its.toArray=its'.toArray) (hv:Vals ys its') (hz:ys.length<=Up) :
  Inv X pins σ (upd H l (.lst ys)) {s with heap:=s.heap.update l (Obj.mapSeq f),toks:=t'}:=by
 have q:=PySem.IsL.update e f;rw[hf]at q;refine I.write (x:=l) (e:=l) (by rw[hH];exact trivial) (.inl rfl) (λb' u hb hu=>(Heap.get?_update_other s.heap (Obj.mapSeq f) (Ne.symm hb)).trans hu) ⟨_,q⟩ ?_;exact⟨hz,its',_,hv,q⟩
theorem Inv.lnew{its:List Ui}{t':Nat}(I:Inv X pins σ H s)(hv:Vals ys its)(hz:ys.length<=Up) :
  Inv X pins σ (upd H s.heap.objs.size (.lst ys)) {s with heap:=s.heap.push {cls:=.type "list", data:=.seq its.toArray},toks:=t'}:=
 I.laid (λ_ _ q=>Qj _ q) (Qs _) ⟨hz,its,0,hv,QG _ rfl⟩
theorem Inv.fresh(I:Inv X pins σ H s):H s.heap.objs.size=none:=I.hok.fresh (Qs _)
theorem Inv.lstM(I:Inv X pins σ H s)(hH:H l=some (.lst xs)):xs.length<=Up/\∃(its:List Ui)(n:Nat),Vals xs its/\xs.length=its.length/\s.heap.get? l=some {cls:=.type "list", data:=.seq its.toArray n}:=by obtain⟨z,its,n,r,e⟩:=I.hok l _ hH;exact⟨z,its,n,r,r.length,e⟩
theorem A0{n:Nat}(h:n<=Up):Builtin.List.listTooLong n=false:=by unfold Builtin.List.listTooLong;exact QT (by omega)
end
section
variable{X:Cx}
def Bv:V->List V->Hp->VK->Prop:=λx vs H Q=>∃l xs y,x=.ref l/\vs=[y]/\H l=some (.lst xs)/\xs.length<Up/\Q .non (upd H l (.lst (xs++[y])))
theorem HD:MtM X "list.append" Bv:=by intro pins s σ H x vs v us Q I rx rv h;obtain⟨l,xs,y,rfl,rfl,hH,hz,q⟩:=h;cases rx;obtain⟨u,rfl,ru⟩:=rv.one;obtain⟨z,its,n,r,hl,e⟩:=I.lstM hH;refine call_meets F.slot_list_append ⟨_,e,rfl⟩ F.entry_list_append (F.args_list_append_2 _ _) (PySem.list_append l its.toArray n u (by rw[QU];omega)) ⟨e,?_⟩;refine⟨.non,_,I.lset (its':=its++[u]) hH e (by simp) (r.append (.cons ru .nil)) ?_,rfl,q⟩;rw[Qi,QH];omega
theorem Bu{α:Type}(xs:List α)(k:Nat):(Uu k xs).flatten.length=k*xs.length:=by
 induction k with
 |zero=>simp
 |succ k ih=>rw[QW,QN,Qi,ih,Nat.succ_mul,Nat.add_comm]
end
section
variable{prog:Uk}{w:World}{A:Around}{E:Ui->Uj->Prop}{s:Uj}
set_option maxRecDepth 100000 in
end
end L2
namespace Att
open PySem PySem.W PySem.Calls PyProof.Rows
theorem kZ{P:Params}{h:Heap}:∀(ns:List Int)(vs:List Ui),WellAll P h vs (ns.map WData.int)->IntsAre vs ns:=by
 intro ns;induction ns with
 |nil=>intro vs w;rw[List.map_nil]at w;cases w;exact .nil
 |cons n ns ih=>
  intro vs w;rw[Qt]at w;cases w with
  |cons a b=>cases a;exact .cons _ _ (ih _ b)
theorem qC{l:OpenLaw}{n:Nat}(hn:l.most=some n){P:Params}{h:Heap}{args:List WData}{vals:List Ui}
  (hpre:l.row.toRowW.claim.pre args=true) (hwl:WellAll P h vals args) :
  ∃a vs ns,vals=[Value.ref a]/\args=[WData.list (ns.map WData.int)]/\h.get? a=some {cls:=.type "list", data:=.seq vs.toArray}/\IntsAre vs ns/\ns.length<=n:=by
 have hsh:WShape.hasAll [] args [.list .int]=true:=(pre_splitW hpre).1;have hc:l.pre.holds [] {args:=args}=true:=(pre_splitW hpre).2;obtain⟨d,r,rfl,h1,h2⟩:=hasAllW_cons hsh;obtain rfl:=hasAllW_nil h2;obtain⟨xs,rfl,h3⟩:=hasW_list h1;obtain⟨ns,rfl⟩:=items_int h3
 have hlen:ns.length<=n:=by
  unfold OpenLaw.pre at hc;have h4:(WTm.not (.lt (.lit (.int (n:Int))) (.len (.arg 0)))).holds [] {args:=[.list (ns.map .int)]}=true:=by have h4:=(holds_andW hc).1;rw[hn]at h4;exact h4
  have h5:=condW_of h4 (w_not (w_lt w_lit (w_len_list (w_arg rfl))));rw[Qb]at h5;refine Je λq=>?_;have q':(n:Int)<((ns.length:Nat):Int):=by omega
  first
   |(rw[Jc q']at h5;exact absurd h5 (by decide))
   |(simp at h5;omega)
 cases hwl with
 |cons w1 w2=>
  cases w2;cases w1 with
  |list ho hall=>exact⟨_,_,ns,rfl,rfl,ho,kZ ns _ hall,hlen⟩
theorem qB(l:OpenLaw)(args:List WData):l.row.toRowW.claim.post args (.bool true) args=true:=
 postW_of (r:=l.row.toRowW) (X:=(true==true))
  (show WShape.has [] (.bool true) .bool=true by first|rfl|decide|simp[WShape.has,WShape.arms,WShape.armsAll])
  (show(WTm.eq .res (.lit (.bool true))).value [] {args:=args,res:=some (.bool true),after:=args}=some (.bool (true==true))from w_eq_bool (w_res rfl) w_lit) rfl
theorem attach_call{l:OpenLaw}{n:Nat}{q:Uk}{loose:List Str}{XP:(Str->Option Ui)->Heap->Prop}{YP:World->Heap->Prop}{d:DefRec}
  (hn:l.most=some n) (hdf:d.params.defaults=[])
  (call:∀(w:World)(s₀ s₁:Uj)(mg mb:Str->Option Ui)(fa:Ul)(o:Obj)(pm cd doc:Ui)(a:Ul)(vs:List Ui)(ns:List Int),
   Ground q loose [] XP w s₀ mg mb s₁.heap->YP w s₁.heap ->
   s₁.heap.get? fa=some o->o.data=.func (docDef d.name d.params d.body d.scope pm cd doc)->s₁.heap.CodeRec cd d.name->mg d.name=some (.ref fa) ->
   s₁.heap.get? a=some {cls:=.type "list", data:=.seq vs.toArray}->IntsAre vs ns->ns.length<=n->s₁.gens=#[] ->
   codeAny (model l.prog w) callerA (.call (.ref fa) ⟨[.ref a],[]⟩) (λr s'=>r=.ok (.ret (.bool true))/\OldK s₁.heap s'.heap/\s'.os=s₁.os/\AllBare s'.gens) s₁) :
  WalkO q loose XP YP l.row.toRowW d [] (λf vs=>PySem.call f vs):=by
 intro w s₀ s₁ mg mb G Y fa o pm cd doc dV kV ho hd hcd hD hmg hg args vals as hpre hlay hrd hwl hlo;obtain rfl:dV=.none:=Dflts.none hD hdf;obtain rfl:kV=.none:=Dflts.noKw hD;obtain⟨a,vs,ns,rfl,rfl,hobj,hints,hlen⟩:=qC hn hpre hwl;refine enter_call (codeAny_mono (call w s₀ s₁ mg mb fa o pm cd doc a vs ns G Y ho (fd_plain hd) hcd hmg hobj hints hlen hg) λr s' hq=>?_);obtain⟨rfl,h2,h3,h4⟩:=hq;exact⟨.inl ⟨.bool true,.bool true,[],rfl,λ_=>rfl,.bool true,qB l _,λ_=>⟨List.Pairwise.nil,λ_ hm=>(nomatch hm)⟩⟩,h2,h3,h4⟩
end Att
namespace L2
open PySem PySem.Spec PyProof.Rows
theorem Ww:∀{vs:List Ui}{ns:List Int},IntsAre vs ns->Vals (ns.map V.int) vs
 |_,_,.nil=>.nil
 |_,_,.cons n t h=>.cons ⟨t,rfl⟩ (Ww h)
def Only(H:Hp):Prop:=∀b,H b=none ∨ ∃o xs,H b=some (.frz o (.lst xs))
theorem AZ{P:Uk}{w:World}{K:Frag}{mg mb:Str->Option Ui}{CX:CXT}{k:Nat}{fa a:Ul}{fd:Um}{x:Str}{sp:Sp}{s₁:Uj}{vs:List Ui}{ns:List Int}
  (KX:K.In s₁.heap) (hns:s₁.heap.Ns mainGlobals mg) (hb:s₁.heap.Ns builtinsNs mb) (hbb:∀x:Str,x ≠ "__name__" -> mb x=bootBuiltins x) (hlim:s₁.heap.NoLimit) (hg:s₁.gens=#[])
  (ha:s₁.heap.get? a=some {cls:=.type "list", data:=.seq vs.toArray}) (hi:IntsAre vs ns) (hl:ns.length<=Up) (hr:Room k callerA)
  (F:∀base:Heap,K.In base->base.Ns mainGlobals mg->FnOk P w K mg base CX k fa fd [x] sp) (hbind:∀(s:Uj)(u:Ui),BindsTo s fd ⟨[u],[]⟩ [(x,u)])
  (hsp:∀H:Hp,Only H->SqL K H a (ns.map V.int)->sp [.ref a] H (λv _=>v=.bl true) λ_ _ _=>False)
  (hCX:∀H e s',CX [] H s₁ (λ_ _ _=>False) e s'->False) :
  codeAny (model P w) callerA (.call (.ref fa) ⟨[.ref a],[]⟩) (λr s'=>r=.ok (.ret (.bool true))/\OldK s₁.heap s'.heap/\s'.os=s₁.os/\AllBare s'.gens) s₁:=by
 have rv:=Ww hi;have lenV:=hi.length
 have core:∀H:Hp,Only H->SqL K H a (ns.map V.int)->HOk P w H s₁.heap->(∀b,H b≠none->b=a)->(H a≠none->K.lookup a=none) ->
   codeAny (model P w) callerA (.call (.ref fa) ⟨[.ref a],[]⟩) (λr s'=>r=.ok (.ret (.bool true))/\OldK s₁.heap s'.heap/\s'.os=s₁.os/\AllBare s'.gens) s₁:=by
  intro H hO hS hok hA hK;have base_of:∀{b:Ul}{o:Obj},s₁.heap.get? b=some o->H b=none->(YB s₁.heap H).get? b=some o:=λe n=>AI e n
  have noA:∀{b:Ul}{o:Obj}{es:Array DictEntry}{ep:Nat},s₁.heap.get? b=some o->o.data=.dict es ep->H b=none:=λ{b o es ep} e d=>by
   cases q:H b with
   |none=>rfl
   |some u=>have e':b=a:=hA b (by rw[q];simp);subst e';rw[ha]at e;cases e;have d':Data.seq vs.toArray _=Data.dict es ep:=d;cases d'
  have nsK:∀{b:Ul}{m:Str->Option Ui},s₁.heap.Ns b m->(YB s₁.heap H).Ns b m:=λ{b m} ⟨o,es,ep,e,d,r⟩=>⟨o,es,ep,base_of e (noA e d),d,r⟩
  have hKb:K.In (YB s₁.heap H):=λb o e=>base_of (KX b o e) (by
   cases q:H b with
   |none=>rfl
   |some u=>have e':b=a:=hA b (by rw[q];simp);subst e';rw[hK (by rw[q];simp)]at e;cases e)
  have hM:Mod K mg (YB s₁.heap H):=⟨hKb,nsK hns,⟨mb,nsK hb,hbb⟩,let ⟨mc,h1,h2⟩:=hlim;⟨mc,nsK h1,h2⟩⟩
  have e0:Env0 P w K mg (YB s₁.heap H) callerA [] s₁ H:=⟨rfl,hM,λb o e=>Bj e,Nat.le_of_eq (jU _ _),trivial,λb hb=>absurd (show b∈([]:List Ul)from hb) (by simp),hok,.of_eq hg⟩
  refine codeAny_mono ((F _ hKb (nsK hns)).run callerA [] s₁ H ⟨[.ref a],[]⟩ [.ref a] [.ref a] _ _ hr e0 (hbind s₁ (.ref a)) (.cons rfl .nil) (hsp H hO hS)) λr s' h=>?_
  cases r with
  |error e=>exact(hCX H e s' h).elim
  |ok fl=>
   cases fl with
   |next=>exact False.elim h
   |brk=>exact False.elim h
   |cont=>exact False.elim h
   |ret u=>
    obtain⟨v,H',os,bare,un,hok',r',q⟩:=h;have q':v=.bl true:=q;subst q';obtain rfl:u=Value.bool true:=r';refine⟨rfl,OldK.of_keep λb o e=>?_,os,bare⟩;cases q:H b with
    |none=>exact un.keep b o e q (by intro z;exact absurd (show b∈([]:List Ul)from z) (by simp)) (by simp)
    |some u=>
     rcases hO b with z|⟨ob,xs,z⟩
     ·rw[q]at z;cases z
     ·have z2:=un.frzs b ob _ z;obtain⟨e1,_⟩:=hok b _ z;obtain⟨e2,_⟩:=hok' b _ z2;rw[e]at e1;cases e1;exact e2
 cases hk:K.lookup a with
 |some o=>have e:=KX a o hk;rw[ha]at e;cases e;refine core (λ_=>none) (λ_=>.inl rfl) (.inr ⟨_,vs.toArray,_,hk,rfl,rfl,rfl,by rw[List.size_toArray,lenV];exact hl,by simpa using rv⟩) (λb u z=>by have z':(none:Option HO)=some u:=z;cases z') (λb z=>absurd rfl z) λz=>absurd rfl z
 |none=>
  refine core (λb=>if b=a then some (.frz {cls:=.type "list", data:=.seq vs.toArray} (.lst (ns.map V.int)))else none) (λb=>?_) (.inl (.inr ⟨{cls:=.type "list", data:=.seq vs.toArray},Qm rfl⟩)) (λb u z=>?_) (λb z=>?_) λ_=>hk
  ·by_cases hb:b=a
   ·exact .inr ⟨_,_,Qm hb⟩
   ·exact .inl (QB hb)
  ·by_cases hb:b=a
   ·have z':=(Qm hb).symm.trans z;cases z';subst hb;exact⟨ha,by rw[Qb];exact hl,vs,_,rv,ha⟩
   ·have z':=(QB hb).symm.trans z;cases z'
  ·by_cases hb:b=a
   ·exact hb
   ·exact absurd (QB hb) z
def SU(s:Stmt):Arguments:=match s with
 |.FunctionDef _ a _ _ _ _ _ _ _ _=>a
 |_=>{posonlyargs:=[],args:=[],vararg:=none,kwonlyargs:=[],kw_defaults:=[],kwarg:=none,defaults:=[]}
def Wu(s:Stmt):List Stmt:=match s with
 |.FunctionDef _ _ b _ _ _ _ _ _ _=>b
 |_=>[]
def Z8(s:Stmt):Scope:=match s with
 |.FunctionDef _ _ _ _ _ _ sc _ _ _=>sc
 |_=>{kind:=.function,names:=[],isGenerator:=false,isCoroutine:=false}
abbrev CX0:CXT:=λ_ _ _ _ _ _=>False
abbrev E0:XK:=λ_ _ _=>False
theorem Fg{X:Cx}:Oo CX0 X E0:=λ_ _ _ _ _ _ _ h=>h.elim
structure Fun(K:Frag)(x qual:Str)(st:Stmt)(f:Ul)(fd:Um):Prop where
 ex:∃(oc:Ui)(od:Option Ul)(kV doc pm:Ui)(an:Option Ul)(cdv ct:Ui)(osl:Array (Option Ui)),
  fd=PySem.W.fnOf x qual (SU st) (Wu st) (Z8 st) .none kV doc pm an cdv ct/\K.lookup f=some ⟨oc,od,.func fd,osl⟩/\PySem.W.codeIn K cdv qual=true
 kp:PySem.W.keepIn K (.ref f)=true
section
variable{P:Uk}{w:World}{K:Frag}{mg:Str->Option Ui}{base:Heap}
theorem Fun.ok{x qual:Str}{st:Stmt}{f:Ul}{fd:Um}{N ps:List Str}{k:Nat}{sp:Sp}(F:Fun K x qual st f fd)(S:RE N ps (Z8 st))(len:∀vs H Q E,sp vs H Q E->vs.length=ps.length)
  (hbody:∀(cdv:Ui)(A:Around)(outer:List Env)(s:Uj)(H:Hp)(vs:List V)(Q:VK)(E:XK),Room k (A.deeper (envOfC qual (Z8 st) s.heap.objs.size f cdv))->sp vs H Q E ->
   ∃t,PSs (Y5 CX0 P w K mg base N qual (Z8 st) f cdv A outer s H E).nox (Wu st) t/\t {nx:=λ_ H'=>Q .non H',rt:=Q} (XU N vs) H):FnOk P w K mg base CX0 (k+1) f fd ps sp:=by
 obtain⟨oc,od,kV,doc,pm,an,cdv,ct,osl,rfl,lk,hcd⟩:=F.ex;refine Fi lk hcd S len λA outer s H vs Q E hr hsp=>?_
 obtain⟨t,h,q⟩:=hbody cdv A outer s H vs Q E hr hsp;exact⟨t,h.nox,q⟩
theorem Fun.binds{x qual:Str}{st:Stmt}{f:Ul}{fd:Um}{ps:List Str}(F:Fun K x qual st f fd)
  (h:∀(kV doc pm:Ui)(an:Option Ul)(cdv ct:Ui)(us:List Ui),us.length=ps.length->bindArgs (PySem.W.fnOf x qual (SU st) (Wu st) (Z8 st) .none kV doc pm an cdv ct) ⟨us,[]⟩=pure (ps.zip us)):VA K fd ps []:=by
 obtain⟨oc,od,kV,doc,pm,an,cdv,ct,osl,rfl,lk,hcd⟩:=F.ex;exact .all (h kV doc pm an cdv ct)
end
def Same(H H':Hp):Prop:=∀b o,H b=some o->H' b=some o
theorem Same.refl(H:Hp):Same H H:=λ_ _ h=>h
theorem Same.trans{H H1 H2:Hp}(a:Same H H1)(b:Same H1 H2):Same H H2:=λc o h=>b c o (a c o h)
theorem Same.free{H H':Hp}(e:Same H H'){l:Ul}(h:H' l=Option.none):H l=Option.none:=by
 cases q:H l with
 |none=>rfl
 |some o=>rw[e l o q]at h;cases h
theorem Same.seq{K:Frag}{H H':Hp}{a:Ul}{xs:List V}(e:Same H H')(h:SqL K H a xs):SqL K H' a xs:=by
 rcases h with (h|⟨o,h⟩)|h
 ·exact .inl (.inl (e _ _ h))
 ·exact .inl (.inr ⟨o,e _ _ h⟩)
 ·exact .inr h
section
variable{X:Cx}{pins:List (Ul×Obj)}{σ:St}{H:Hp}{s:Uj}{h':Heap}
theorem Inv.turnedNew{t':Nat}{fp:List Ul}{p:Ul}{o:HO}(I:Inv X pins σ H s)(hf:∀b∈fp,ZD X pins H b)
  (k:∀b o,b∉fp->s.heap.get? b=some o->h'.get? b=some o) (hp:s.heap.objs.size<=p) (new:ZH X.prog X.w (upd H p o) h' p o) :
  Inv X pins σ (upd H p o) {s with heap:=h',toks:=t'}:=by
 have hn:H p=none:=I.hok.fresh hp;have trk:∀b u,H b=some u->b∉fp:=λb u e z=>by rw[(hf b z).1]at e;cases e
 refine I.step (g':=s.gens) (d':=s.drawn) (ch:=fp) (λb hb=>?_) (λb o _ _ hc e _=>k b o hc e) (λb o _ _ hc e _=>⟨o.slots,k b o hc e⟩)
  (λb o _ e n=>by rw[Ku (QQ (QF (Qh e) hp))];exact n) (λb o hc e=>⟨o,k b o hc e⟩)
  (λb xs e=>by rw[Ku (Yo e hn)];exact e) (λb ob u e=>by rw[Ku (Yo e hn)];exact e) (λb ps e=>⟨#[],by rw[Ku (Yo e hn),e];simp⟩)
  (λm hm=>?_) (λb u e=>?_) I.bare
 ·obtain⟨_,f1,_,f3,f4,f5⟩:=hf b hb;exact⟨f3,f1,f4,f5⟩
 ·obtain⟨ob,es,ep,ho,r⟩:=hm;exact⟨ob,es,ep,k _ ob (λz=>(hf _ z).2.1 rfl) ho,r⟩
 ·by_cases hb:b=p
  ·subst hb;rw[K9]at e;cases e;exact new
  ·rw[Ku hb]at e;refine(I.hok b u e).stay (λc v hc q=>k c v ?_ q) (λc q=>by rw[Ku (Yo q hn)];exact q) λc xs q=>by rw[Ku (Yo q hn)];exact q
   rcases hc with z|z
   ·rw[z];exact trk b u e
   ·exact trk c _ z
theorem Inv.turnedL{t':Nat}{fp:List Ul}(I:Inv X pins σ H s)(hf:∀b∈fp,ZD X pins H b)
  (k:∀b o,b∉fp->s.heap.get? b=some o->h'.get? b=some o):Inv X pins σ H {s with heap:=h',toks:=t'}:=by
 have trk:∀b u,H b=some u->b∉fp:=λb u e z=>by rw[(hf b z).1]at e;cases e
 refine I.step (g':=s.gens) (d':=s.drawn) (ch:=fp) (λb hb=>?_) (λb o _ _ hc e _=>k b o hc e) (λb o _ _ hc e _=>⟨o.slots,k b o hc e⟩)
  (λ_ _ _ _ n=>n) (λb o hc e=>⟨o,k b o hc e⟩) (λ_ _ e=>e) (λ_ _ _ e=>e) (λb ps e=>⟨#[],by rw[e];simp⟩) (λm hm=>?_) (λb u e=>?_) I.bare
 ·obtain⟨_,f1,_,f3,f4,f5⟩:=hf b hb;exact⟨f3,f1,f4,f5⟩
 ·obtain⟨ob,es,ep,ho,r⟩:=hm;exact⟨ob,es,ep,k _ ob (λz=>(hf _ z).2.1 rfl) ho,r⟩
 ·refine(I.hok b u e).stay (λc v hc q=>k c v ?_ q) (λc q=>q) λc xs q=>q
  rcases hc with z|z
  ·rw[z];exact trk b u e
  ·exact trk c _ z
end
def Ite(K:Frag)(a:Ul):It:=
 ⟨λi H=>∃xs x,SqL K H a xs/\xs[i]?=some x,
  λi H v H'=>∃p x,H p=none/\v=.ref p/\(∀xs,SqL K H a xs->xs[i]?=some x)/\H'=upd H p (.tup [.int i,x]),
  λi H=>∃xs,SqL K H a xs/\xs.length<=i⟩
theorem qA{P:Uk}{w:World}{K:Frag}{elts:List Uo}{x1}{tp:Pos}(a e it:Ul)(hne:e≠it) :
  Turn P w K (.Tuple elts x1 tp) (Ite K a) [e,it] e (λi h=>(∃old,IsEnum h e it i old)/\h.IsListIter it a i) where
 mem:=by simp
 obj:=λi h st b hb=>by
  obtain⟨⟨old,he⟩,o,ho,c,d⟩:=st;have hb':b=e∨b=it:=by simpa using hb
  rcases hb' with rfl|rfl
  ·exact⟨_,he,λv z=>by have z':Data.fields _=Data.cell v:=z;cases z'⟩
  ·exact⟨o,ho,λv z=>by rw[d]at z;cases z⟩
 keep:=λi h h' st k=>by obtain⟨⟨old,he⟩,hi⟩:=st;exact⟨⟨old,k e (by simp) _ he⟩,hi.at λo q=>k it (by simp) o q⟩
 item:=by
  intro X hP hw hK hc i pins s σ H E I hf st hg;subst hP hw hK;obtain⟨⟨old,he⟩,hi⟩:=st;obtain⟨xs,x,hq,hx⟩:=hg;obtain⟨its,rv,p,hz⟩:=I.list hq;obtain⟨u,hu,ru⟩:=rv.get hx;refine wpAny_pyNext_enum_item he hi p.isList (x:=u) (by simpa using hu) hne λh1 out hi1 ht hsz kk=>?_
  refine⟨_,rfl,wpAny_letOwnedTupleGo_enum out λh2 he2 hs2=>?_⟩;have hel:e<s.heap.objs.size:=Qh he;have hs2':Heap.SameBut e h1 h2:=hs2;have ht2:h2.get? s.heap.objs.size=some {cls:=.type "tuple", data:=.seq #[.int i s.toks,u]}:=(hs2'.2 _ (JC hel)).trans ht
  have kk2:∀b o,b∉[e,it]->s.heap.get? b=some o->h2.get? b=some o:=λb o hb q=>by
   have hbe:b≠e:=λz=>hb (by simp[z])
   have hbi:b≠it:=λz=>hb (by simp[z])
   exact(hs2'.2 b hbe).trans (kk b o hbe hbi q)
  have hn:H s.heap.objs.size=none:=I.hok.fresh (Qs _)
  have I2:Inv X pins σ (upd H s.heap.objs.size (.tup [.int i,x])) {s with heap:=h2,toks:=s.toks+1}:=
   I.turnedNew (fp:=[e,it]) hf kk2 (Qs _) ⟨by show 2<=Up;decide,[.int i s.toks,u],.cons ⟨_,rfl⟩ (.cons ru .nil),⟨_,ht2,rfl,_,rfl⟩⟩
  refine⟨.ref s.heap.objs.size,_,I2,rfl,⟨_,x,hn,rfl,λys hy=>by rw[I.list_inj hy hq];exact hx,rfl⟩,⟨⟨u,?_⟩,?_⟩,λb hb=>?_⟩
  ·have:=he2;simpa using this
  ·have hi2:h2.IsListIter it a (i+1):=hi1.at λo q=>(hs2'.2 it (Ne.symm hne)).trans q
   exact hi2
  ·have fr:=(hf b hb)
   have hlt:b<s.heap.objs.size:=by
    have hb':b=e∨b=it:=by simpa using hb
    rcases hb' with rfl|rfl
    ·exact hel
    ·obtain⟨o,ho,_⟩:=hi;exact Qh ho
   rw[Ku (QQ hlt)];exact fr.1
 done:=by intro X hP hw hK hc i pins s σ H E I hf st hg;subst hP hw hK;obtain⟨⟨old,he⟩,hi⟩:=st;obtain⟨xs,hq,hx⟩:=hg;obtain⟨its,rv,p,hz⟩:=I.list hq;have hl:=rv.length;exact wpAny_pyNext_enum_end (I.ok.hd hc) he hi p.isList (by simp;omega) λh' eb=>⟨rfl,I.turnedL (t':=s.toks) hf λb o hb q=>eb b o (λz=>hb (by simp[z])) q⟩
 self:=λ_ _ _ _ _ st h=>by obtain⟨⟨old,he⟩,_⟩:=st;exact wpAny_pyIter_enum he h
section
variable{X:Cx}
def Ff(K:Frag)(ta:TA):TI:=λσ H R=>ta σ H λvs H1=>∃a xs,vs=[.ref a]/\SqL K H1 a xs/\R (Ite K a) H1
theorem Bt{a:Uo}{ta:TA}{p pos:Pos}{elts:List Uo}{x1}{tp:Pos}(hg:Gl X "enumerate")(hm:X.mg "enumerate" = none)(ha:PA X [a] ta)
  (hs:Ur [a] X.env=[(false,eval a X.env)]:=by rfl):PI X (.Tuple elts x1 tp) (.Call (.Name "enumerate" p) [a] [] pos) (Ff X.K ta):=by
 intro pins s σ H R I h;refine Call_ (VD I hg hm boot_enumerate (Jw (thn (ha pos pins s σ H _ I h) λus s1 ⟨vs,H1,I1,r1,q1⟩=>?_) hs rfl));obtain⟨l,xs,e,hq,q⟩:=q1;subst e;cases r1 with
 |cons r rr=>
  cases rr;cases (show _=Value.ref l from r);obtain⟨its,rv,pl,hz⟩:=I1.list hq;refine call_enumerate_list pl.isList λh' he hi hsz kk=>?_;have I2:Inv X pins σ H1 {s1 with heap:=h'}:=I1.kept (t':=s1.toks) kk;refine wpAny_pyIter_enum he ?_
  refine⟨s1.heap.objs.size+1,[s1.heap.objs.size+1,s1.heap.objs.size],_,_,H1,rfl,I2,qA l _ _ (Nat.succ_ne_self _),⟨⟨_,he⟩,hi⟩,λb hb=>?_,q⟩;have hb':b=s1.heap.objs.size+1∨b=s1.heap.objs.size:=by simpa using hb
  rcases hb' with rfl|rfl
  ·exact I1.fpOk (JQ _) (I1.hok.fresh (JQ _))
  ·exact I1.fpOk (Qs _) (I1.hok.fresh (Qs _))
end
section
variable{κ:Type}[DecidableEq κ]
def ZA(kvs:List (κ×V))(k:κ):Option V:=(kvs.find? λkv=>decide (kv.1=k)).map (·.2)
def K4(kvs:List (κ×V))(k:κ)(v:V):List (κ×V):=
 if(kvs.any λkv=>decide (kv.1=k))=true then kvs.map (λkv=>if kv.1=k then(kv.1,v)else kv)else kvs++[(k,v)]
theorem OX{p:κ×V}{r:List (κ×V)}{k:κ}(e:p.1=k):ZA (p::r) k=some p.2:=by simp[ZA,List.find?_cons,e]
theorem OW{p:κ×V}{r:List (κ×V)}{k:κ}(e:¬p.1=k):ZA (p::r) k=ZA r k:=by simp[ZA,List.find?_cons,e]
theorem PB(k:κ):∀kvs:List (κ×V),(kvs.any λkv=>decide (kv.1=k))=(ZA kvs k).isSome
 |[]=>rfl
 |p::r=>by
  rw[Ud];by_cases e:p.1=k
  ·simp only[OX e,Jc e,Bool.true_or,Option.isSome_some]
  ·rw[OW e,QT e,Bool.false_or];exact PB k r
theorem Np(kvs:List (κ×V))(k:κ)(v:V):(K4 kvs k v).length<=kvs.length+1:=by
 unfold K4;split
 ·rw[Qb];omega
 ·rw[Qi,QC,QE];omega
theorem RelO.isSome_eq{o:Option V}{u:Option Ui}(r:RelO o u):o.isSome=u.isSome:=by
 cases o with
 |none=>cases u with
  |none=>rfl
  |some _=>exact(show False from r).elim
 |some _=>cases u with
  |none=>exact(show False from r).elim
  |some _=>rfl
theorem KV.val{kvs:List (κ×V)}{vs:List (κ×Ui)}(r:KV kvs vs)(k:κ):RelO (ZA kvs k) (valueAt vs k):=by
 unfold KV at r;induction r with
 |nil=>exact True.intro
 |@cons p q ps qs h t ih=>
  obtain⟨h1,h2⟩:=h;by_cases e:p.1=k
  ·have e':q.1=k:=h1.symm.trans e;have b:valueAt (q::qs) k=some q.2:=by simp[valueAt,List.find?_cons,e']
   rw[OX e,b];exact h2
  ·have e':¬q.1=k:=λz=>e (h1.trans z)
   have b:valueAt (q::qs) k=valueAt qs k:=by simp[valueAt,List.find?_cons,e']
   rw[OW e,b];exact ih
theorem KV.any{kvs:List (κ×V)}{vs:List (κ×Ui)}(r:KV kvs vs)(k:κ):(kvs.any λkv=>decide (kv.1=k))=vs.any λkv=>decide (kv.1=k):=by
 unfold KV at r;induction r with
 |nil=>rfl
 |cons h t ih=>rw[Ud,Ud,ih,h.1]
theorem KV.repl{kvs:List (κ×V)}{vs:List (κ×Ui)}(r:KV kvs vs)(k:κ){y:V}{u:Ui}(ry:RelV y u) :
  KV (kvs.map λkv=>if kv.1=k then(kv.1,y)else kv) (vs.map λkv=>if kv.1=k then(kv.1,u)else kv):=by
 unfold KV at r⊢;induction r with
 |nil=>exact .nil
 |@cons p q ps qs h t ih=>
  rw[Qt,Qt];refine .cons ?_ ih;obtain⟨h1,h2⟩:=h;by_cases e:p.1=k
  ·rw[Qm e,Qm (h1.symm.trans e)];exact⟨h1,ry⟩
  ·rw[QB e,QB (λz=>e (h1.trans z))];exact⟨h1,h2⟩
theorem KV.put{kvs:List (κ×V)}{vs:List (κ×Ui)}(r:KV kvs vs)(k:κ){y:V}{u:Ui}(ry:RelV y u):KV (K4 kvs k y) (stored vs k u):=by
 unfold K4 stored;rw[r.any k];by_cases e:(vs.any λkv=>decide (kv.1=k))=true
 ·rw[Qm e,Qm e];exact r.repl k ry
 ·rw[QB e,QB e];exact Paired.snoc r ⟨rfl,ry⟩
theorem KV.length{kvs:List (κ×V)}{vs:List (κ×Ui)}(r:KV kvs vs):kvs.length=vs.length:=Paired.length r
end
theorem Ss{P:Uk}{w:World}{k:Key}{u:Ui}(r:RelV (kV k) u):(YW P w).is k u=true:=by
 cases k with
 |inl i=>obtain⟨t,e⟩:=(show ∃t,u=Value.int i t from r);subst e;exact ka P w i t
 |inr x=>obtain⟨t,e⟩:=(show ∃t,u=Value.str x t from r);subst e;exact j9 P w x t
theorem HC{P:Uk}{w:World}:∀{ks:List Key}{us:List Ui},Vals (ks.map kV) us->ItemsAre (YW P w) ks us
 |[],_,r=>by rw[List.map_nil]at r;cases r;exact .nil
 |k::ks,_,r=>by
  rw[Qt]at r;cases r with
  |cons h t=>exact .cons (Ss h) (HC t)
abbrev KT(H:Hp):List (List Key×V)->List (List Key×Ul×Ui)->Prop:=Paired λp q=>p.1=q.1/\H q.2.1=some (.tup (p.1.map kV))/\RelV p.2 q.2.2
theorem KT.val{H:Hp}{kvs:List (List Key×V)}{xs:List (List Key×Ul×Ui)}(r:KT H kvs xs)(k:List Key):RelO (ZA kvs k) ((atKey xs k).map (·.2)):=by
 induction r with
 |nil=>exact True.intro
 |@cons p q ps qs h t ih=>
  obtain⟨h1,_,h2⟩:=h;by_cases e:p.1=k
  ·have e':q.1=k:=h1.symm.trans e;have b:atKey (q::qs) k=some q.2:=by simp[atKey,List.find?_cons,e']
   rw[OX e,b];exact h2
  ·have e':¬q.1=k:=λz=>e (h1.trans z)
   have b:atKey (q::qs) k=atKey qs k:=by simp[atKey,List.find?_cons,e']
   rw[OW e,b];exact ih
theorem KT.repl{H:Hp}{kvs:List (List Key×V)}{xs:List (List Key×Ul×Ui)}(r:KT H kvs xs)(k:List Key){y:V}{u:Ui}(ry:RelV y u) :
  KT H (kvs.map λkv=>if kv.1=k then(kv.1,y)else kv) (xs.map (putAt k u)):=by
 induction r with
 |nil=>exact .nil
 |@cons p q ps qs h t ih=>
  rw[Qt,Qt];refine .cons ?_ ih;obtain⟨h1,h2,h3⟩:=h;unfold putAt;by_cases e:p.1=k
  ·rw[Qm e,Qm (h1.symm.trans e)];exact⟨h1,h2,ry⟩
  ·rw[QB e,QB (λz=>e (h1.trans z))];exact⟨h1,h2,h3⟩
theorem KT.put{H:Hp}{kvs:List (List Key×V)}{xs:List (List Key×Ul×Ui)}(r:KT H kvs xs)(k:List Key){b:Ul}{y:V}{u:Ui}(hb:H b=some (.tup (k.map kV)))(ry:RelV y u) :
  KT H (K4 kvs k y) (storedH xs k b u):=by
 have e:(kvs.any λkv=>decide (kv.1=k))=(atKey xs k).isSome:=by rw[PB,(r.val k).isSome_eq,Option.isSome_map]
 unfold K4 storedH;rw[e];by_cases q:(atKey xs k).isSome=true
 ·rw[Qm q,Qm q];exact r.repl k ry
 ·rw[QB q,QB q];exact Paired.snoc r ⟨rfl,hb,ry⟩
theorem KT.keeps{H H':Hp}{kvs:List (List Key×V)}{xs:List (List Key×Ul×Ui)}(r:KT H kvs xs)(ht:∀b ys,H b=some (.tup ys)->H' b=some (.tup ys)):KT H' kvs xs:=
 Paired.mapP r λ_ _ z=>⟨z.1,ht _ _ z.2.1,z.2.2⟩
section
variable{P:Uk}{w:World}{H:Hp}{h:Heap}{a:Ul}
theorem NT{u:HO}(ok:HOk P w H h)(e:Rd H a u):ZH P w H h a u:=e.ok ok
theorem Ro{kvs:List (Key×V)}(ok:HOk P w H h)(e:Rd H a (.dK kvs)):kvs.length<=Up/\(a==sysModules)=false/\∃vs,KV kvs vs/\h.DictOf (YW P w) a vs:=
 show ZH P w H h a (.dK kvs)from NT ok e
theorem NS{kvs:List (Key×V)}(ok:HOk P w H h)(e:H a=some (.dK kvs)):kvs.length<=Up/\(a==sysModules)=false/\∃vs,KV kvs vs/\h.DictOf (YW P w) a vs:=Ro ok (.inl e)
theorem Rv{ks:List Key}(ok:HOk P w H h)(e:H a=some (.tup (ks.map kV))):(tupleKind (YW P w)).is h ks a:=by
 obtain⟨_,its,r,o,h1,h2,n,h3⟩:=(show ZH P w H h a (.tup (ks.map kV))from ok a _ e)
 exact⟨o,its.toArray,n,h1,h2,h3,by simpa using HC r⟩
theorem Rn{kvs:List (List Key×V)}(ok:HOk P w H h)(e:Rd H a (.dT kvs)):kvs.length<=Up/\(a==sysModules)=false /\
  ∃xs,KT H kvs xs/\h.DictOfH (tupleKind (YW P w)) a xs:=by
 obtain⟨z,y,xs,r,o,es,ep,h1,h2,h3,h4,h5⟩:=(show ZH P w H h a (.dT kvs)from NT ok e)
 refine⟨z,y,xs,r,o,es,ep,h1,h2,h3,h4,λx hx=>?_,h5⟩
 have all:∀{l:List (List Key×V)}{m:List (List Key×Ul×Ui)},KT H l m->∀x∈m,(tupleKind (YW P w)).is h x.1 x.2.1:=by
  intro l m q;induction q with
  |nil=>intro x hx;exact nomatch hx
  |@cons p q ps qs hq t ih=>
   intro x hx;rcases QS.mp hx with e|hx
   ·subst e;exact Rv ok (by rw[←hq.1];exact hq.2.1)
   ·exact ih x hx
 exact all r x hx
theorem Fe{kvs:List (List Key×V)}(ok:HOk P w H h)(e:H a=some (.dT kvs)):kvs.length<=Up/\(a==sysModules)=false /\
  ∃xs,KT H kvs xs/\h.DictOfH (tupleKind (YW P w)) a xs:=Rn ok (.inl e)
end
def YF(H:Hp)(a:Ul)(y:V)(r:Option V):Prop:=
 (∃kvs k,Rd H a (.dK kvs)/\y=kV k/\r=ZA kvs k) ∨ ∃kvs k b,Rd H a (.dT kvs)/\y=.ref b/\H b=some (.tup (k.map kV))/\r=ZA kvs k
def DPut(H:Hp)(a:Ul)(y v:V)(H':Hp):Prop:=
 (∃kvs k,H a=some (.dK kvs)/\y=kV k/\kvs.length<Up/\H'=upd H a (.dK (K4 kvs k v))) ∨
 ∃kvs k b,H a=some (.dT kvs)/\y=.ref b/\H b=some (.tup (k.map kV))/\kvs.length<Up/\H'=upd H a (.dT (K4 kvs k v))
theorem DPut.k{H:Hp}{a:Ul}{kvs:List (Key×V)}{k:Key}{v:V}(e:H a=some (.dK kvs))(hl:kvs.length<Up):DPut H a (kV k) v (upd H a (.dK (K4 kvs k v))):=.inl ⟨kvs,k,e,rfl,hl,rfl⟩
section
variable{X:Cx}{pins:List (Ul×Obj)}{σ:St}{H:Hp}{s:Uj}{a:Ul}{y v:V}{u r:Ui}{o:Option V}{A:Around}{E:Ui->Uj->Prop}
theorem Inv.big(I:Inv X pins σ H s):sysModules<s.heap.objs.size:=by have h:mainGlobals<s.heap.objs.size:=(I.mod.glob.keeps I.bk).lt;exact Nat.lt_trans (by decide) h
theorem qz{Q:Ui->Uj->Prop}(hu:A.units+1<cLine)(I:Inv X pins σ H s)(g:YF H a y (some v))(ry:RelV y u)(h:∀w' s',Inv X pins σ H s'->RelV v w'->Q w' s') :
  Uq (model X.prog X.w) A (getItem (.ref a) u) Q E s:=by
 rcases g with ⟨kvs,k,e,ey,l⟩|⟨kvs,k,b,e,ey,eb,l⟩
 ·subst ey;obtain⟨z,hd,vs,rel,dd⟩:=Ro I.hok e;obtain⟨w',hw,rw'⟩:=RelO.some_of (v:=v) (o:=valueAt vs k) (by rw[l];exact rel.val k);exact wpAny_getItem_of (Ss ry) dd.mapOf hw (h w' _ (I.tok _) rw')
 ·subst ey;cases (show u=Value.ref b from ry);obtain⟨z,hd,xs,rel,dd⟩:=Rn I.hok e;obtain⟨w',hw,rw'⟩:=RelO.some_of (v:=v) (o:=(atKey xs k).map (·.2)) (by rw[l];exact rel.val k);obtain⟨p,hp,hp2⟩:=Option.map_eq_some_iff.mp hw;refine wpAny_getItem_heap (tupleKind_room_in1 hu) (Rv I.hok eb) dd hp ?_;rw[hp2];exact h w' _ (I.tok _) rw'
theorem d_in{Q:Ui->Uj->Prop}(hu:A.units+1<cLine)(I:Inv X pins σ H s)(g:YF H a y o)(ry:RelV y u)(h:∀s',Inv X pins σ H s'->Q (.bool o.isSome) s') :
  Uq (model X.prog X.w) A (Us .In u (.ref a)) Q E s:=by
 rcases g with ⟨kvs,k,e,ey,l⟩|⟨kvs,k,b,e,ey,eb,l⟩
 ·subst ey;obtain⟨z,hd,vs,rel,dd⟩:=Ro I.hok e;refine wpAny_in_of (Ss ry) hd dd.mapOf ?_;rw[←(rel.val k).isSome_eq,←l];exact h _ (I.tok _)
 ·subst ey;cases (show u=Value.ref b from ry);obtain⟨z,hd,xs,rel,dd⟩:=Rn I.hok e;refine wpAny_in_heap (tupleKind_room_in1 hu) (Rv I.hok eb) hd dd ?_;have q:=(rel.val k).isSome_eq;rw[Option.isSome_map]at q;rw[←q,←l];exact h _ (I.tok _)
theorem Bs{Q:Ui->Uj->Prop}(hu:A.units+1<cLine)(I:Inv X pins σ H s)(g:YF H a y o)(ry:RelV y u)(h:∀s',Inv X pins σ H s'->Q (.bool (!o.isSome)) s') :
  Uq (model X.prog X.w) A (Us .NotIn u (.ref a)) Q E s:=by
 rcases g with ⟨kvs,k,e,ey,l⟩|⟨kvs,k,b,e,ey,eb,l⟩
 ·subst ey;obtain⟨z,hd,vs,rel,dd⟩:=Ro I.hok e;refine wpAny_notIn_of (Ss ry) hd dd.mapOf ?_;rw[←(rel.val k).isSome_eq,←l];exact h _ (I.tok _)
 ·subst ey;cases (show u=Value.ref b from ry);obtain⟨z,hd,xs,rel,dd⟩:=Rn I.hok e;refine wpAny_notIn_heap (tupleKind_room_in1 hu) (Rv I.hok eb) hd dd ?_;have q:=(rel.val k).isSome_eq;rw[Option.isSome_map]at q;rw[←q,←l];exact h _ (I.tok _)
theorem OD{h':Heap}{t':Nat}{ob:HO}(I:Inv X pins σ H s)(mu:Mut (H a))(hs:Heap.SameBut a s.heap h')(he:∃q,h'.get? a=some q)(new:ZH X.prog X.w (upd H a ob) h' a ob) :
  Inv X pins σ (upd H a ob) {s with heap:=h',toks:=t'}:=
 I.write (x:=a) (e:=a) mu (.inl rfl) (λb q hb z=>(hs.2 b hb).trans z) he new
theorem Mc{P:Uk}{w:World}{H':Hp}{h':Heap}{kvs:List (Key×V)}{vs:List (Key×Ui)}(z:kvs.length<=Up)(hd:(a==sysModules)=false)(rel:KV kvs vs)(dd:h'.DictOf (YW P w) a vs) :
  ZH P w H' h' a (.dK kvs):=⟨z,hd,vs,rel,dd⟩
theorem qy{H':Hp}{Q:Unit->Uj->Prop}(hu:A.units+1<cLine)(I:Inv X pins σ H s)(g:DPut H a y v H')(ry:RelV y u)(rv:RelV v r)(h:∀s',Inv X pins σ H' s'->Q () s') :
  Uq (model X.prog X.w) A (setItem (.ref a) u r) Q E s:=by
 rcases g with ⟨kvs,k,e,ey,l,eH⟩|⟨kvs,k,b,e,ey,eb,l,eH⟩
 ·subst ey eH;obtain⟨z,hd,vs,rel,dd⟩:=NS I.hok e;have hz:vs.length<=Up:=by rw[←rel.length];exact z
  have hl:(K4 kvs k v).length<=Up:=by have:=Np kvs k v;omega
  refine wpAny_setItem_pairs (hsz:=hz) (Ss ry) dd λh' dd' hs=>h _ ?_;have he:∃q,h'.get? a=some q:=let ⟨q,_,_,hq,_⟩:=dd';⟨q,hq⟩
  exact OD I (by rw[e];exact True.intro) hs he (Mc hl hd (rel.put k rv) dd')
 ·subst ey eH;cases (show u=Value.ref b from ry);obtain⟨z,hd,xs,rel,dd⟩:=Fe I.hok e;have hz:xs.length<=Up:=by rw[←Paired.length rel];exact z
  have hl:(K4 kvs k v).length<=Up:=by have:=Np kvs k v;omega
  refine wpAny_setItem_heap (hsz:=hz) (tupleKind_room_in1 hu) (Rv I.hok eb) dd λh' dd' hs=>h _ ?_
  obtain⟨q,es,ep,hq,h2,h3,h4,_,h5⟩:=dd';refine OD I (by rw[e];exact True.intro) hs ⟨q,hq⟩ ⟨hl,hd,_,(rel.put k eb rv).keeps λc ys ec=>?_,q,es,ep,hq,h2,h3,h4,h5⟩;rw[Ku (EW ec e (λz=>nomatch z))];exact ec
end
def WO(i:Uo):Prop:=∀ov iv,subscripted i false ov iv=operate [ov,iv] (getItem ov iv)
theorem Br{prog:Uk}{w:World}{A:Around}{E:Ui->Uj->Prop}{s:Uj}{env:Env}{value slice:Uo}{pos:Pos}{T id:String}{Q:Ui->Uj->Prop}
  (hl:typeLookup (.type T) "__getitem__" = pure (some (.builtin id))) (hs:WO slice)
  (h:Uq (model prog w) A (eval value env) (λo s₁=>Uq (model prog w) A (eval slice env) (λi s₂=>s₂.TypeIs o T/\Uq (model prog w) A (getItem o i) Q E s₂) E s₁) E s) :
  Uq (model prog w) A (eval (.Subscript value slice pos) env) Q E s:=by
 refine Subscript_ (QK h (λo s₁ h₁=>QK h₁ (λi s₂ h₂=>?_) λ_ _ x=>x) λ_ _ x=>x);obtain⟨hT,h₂⟩:=h₂;unfold subscriptTail;refine Qf ?_;rw[getitemInPython_of_ne hT.not_modules];refine Qf (wpAny_specialOf hT hl ?_);have fin:Uq (model prog w) A (subscripted slice false o i) (λr s₃=>Uq (model prog w) A (letTemporaryGo value o r >>= λ_=>pure r) Q E s₃) E s₂:=by rw[hs o i];exact wpAny_operating (QK h₂ (λr s₃ h₃=>Qf (wpAny_letTemporaryGo (Qk h₃))) λ_ _ x=>x)
 first
  |exact Qk (Qf fin)
  |exact Qf (Qk (Qf fin))
  |exact Qf fin
theorem j7{X:Cx}{pins:List (Ul×Obj)}{σ:St}{H:Hp}{s:Uj}{a:Ul}{y:V}{o:Option V}(I:Inv X pins σ H s)(g:YF H a y o):s.TypeIs (.ref a) "dict" :=by
 rcases g with ⟨kvs,k,e,_,_⟩|⟨kvs,k,b,e,_,_,_⟩
 ·obtain⟨_,_,vs,_,dd⟩:=Ro I.hok e;exact dd.typeIs
 ·obtain⟨_,_,xs,_,dd⟩:=Rn I.hok e;exact dd.typeIs
def Fd(td ty:TE):TE:=λσ H Q=>td σ H λx H1=>ty σ H1 λy H2=>∃a v,x=.ref a/\YF H2 a y (some v)/\Q v H2
def tDIn(ty td:TE):TE:=λσ H Q=>ty σ H λy H1=>td σ H1 λx H2=>∃a o,x=.ref a/\YF H2 a y o/\Q (.bl o.isSome) H2
def Bq(ty td:TE):TE:=λσ H Q=>ty σ H λy H1=>td σ H1 λx H2=>∃a o,x=.ref a/\YF H2 a y o/\Q (.bl (!o.isSome)) H2
def Fc(td ty tv:TE):TS:=λD σ H=>tv σ H λv H1=>td σ H1 λx H2=>ty σ H2 λy H3=>∃a H4,x=.ref a/\DPut H3 a y v H4/\D.nx σ H4
section
variable{X:Cx}{o i e value:Uo}{pos pos' tpos:Pos}{td ty tv:TE}
theorem Lk(hu:X.A.units+1<cLine)(ho:PE X o td)(hi:PE X i ty)(hs:WO i):PE X (.Subscript o i pos) (Fd td ty):=by intro pins s σ H Q I h;refine Br PySem.F.slot_dict_getitem.lookup hs (thn (ho pins s σ H _ I h) λu s1 ⟨x,H1,I1,rx,q1⟩=>thn (hi pins s1 σ H1 _ I1 q1) λiv s2 ⟨y,H2,I2,ry,a,v,ex,g,q2⟩=>?_);subst ex;obtain rfl:u=Value.ref a:=rx;exact⟨j7 I2 g,qz hu I2 g ry λw' s3 I3 rw'=>⟨v,H2,I3,rw',q2⟩⟩
theorem Dy(hu:X.A.units+1<cLine)(hi:PE X i ty)(ho:PE X o td):PC X .In i o (tDIn ty td):=by intro pins s σ H Q I h;refine thn (hi pins s σ H _ I h) λiv s1 ⟨y,H1,I1,ry,q1⟩=>thn (ho pins s1 σ H1 _ I1 q1) λu s2 ⟨x,H2,I2,rx,a,ov,ex,g,q2⟩=>?_;subst ex;obtain rfl:u=Value.ref a:=rx;exact d_in hu I2 g ry λs3 I3=>⟨.bl ov.isSome,H2,I3,rfl,q2⟩
theorem qx(hu:X.A.units+1<cLine)(hi:PE X i ty)(ho:PE X o td):PC X .NotIn i o (Bq ty td):=by intro pins s σ H Q I h;refine thn (hi pins s σ H _ I h) λiv s1 ⟨y,H1,I1,ry,q1⟩=>thn (ho pins s1 σ H1 _ I1 q1) λu s2 ⟨x,H2,I2,rx,a,ov,ex,g,q2⟩=>?_;subst ex;obtain rfl:u=Value.ref a:=rx;exact Bs hu I2 g ry λs3 I3=>⟨.bl (!ov.isSome),H2,I3,rfl,q2⟩
theorem Bp(hu:X.A.units+1<cLine)(ho:PE X o td)(hi:PE X i ty)(hv:PE X value tv)(hs:swapsWith value (some (.Subscript o i pos')) pos.line X.env=pure false) :
  PS X (.Assign [.Subscript o i pos'] value pos) (Fc td ty tv):=by
 intro pins s σ H D I h;refine wpAny_Assign_Subscript (thn (hv pins s σ H _ I h) λr s1 ⟨v,H1,I1,rv,q1⟩=>thn (ho pins s1 σ H1 _ I1 q1) λu s2 ⟨x,H2,I2,rx,q2⟩=>thn (hi pins s2 σ H2 _ I2 q2) λiv s3 ⟨y,H3,I3,ry,a,H4,ex,g,q3⟩=>?_) hs;subst ex;obtain rfl:u=Value.ref a:=rx;exact qy hu I3 g ry rv λs4 I4=>⟨σ,H4,I4,q3⟩
end
theorem AY{P:Uk}{w:World}{H:Hp}(h:Heap)(hb:sysModules<h.objs.size):ZH P w H (h.push {cls:=.type "dict", data:=.dict #[]}) h.objs.size (.dK []):=
 ⟨JR _,beq_eq_false_iff_ne.mpr (Ne.symm (QQ hb)),[],.nil,Heap.DictOf.new h⟩
def Pb:List (TE×TE)->St->Hp->(List (V×V)->Hp->Prop)->Prop
 |[],_,H,Q=>Q [] H
 |(tk,tv)::r,σ,H,Q=>tk σ H λx H1=>tv σ H1 λy H2=>Pb r σ H2 λps H3=>Q ((x,y)::ps) H3
abbrev VV:List (V×V)->List (Ui×Ui)->Prop:=Paired λp q=>RelV p.1 q.1/\RelV p.2 q.2
def PPs(X:Cx)(pos:Pos)(keys:List (Option Uo))(values:List Uo)(trs:List (TE×TE)):Prop:=
 ∀(pins:List (Ul×Obj))(s:Uj)(σ:St)(H:Hp)(Q:List (V×V)->Hp->Prop),Inv X pins σ H s->Pb trs σ H Q ->
  Uq (model X.prog X.w) X.A (evalPairs (pairTrees keys values X.env pos)) (λvs s'=>∃ps H',Inv X pins σ H' s'/\VV ps vs/\Q ps H') X.xe s
theorem Bo{X:Cx}{pos:Pos}:PPs X pos [] [] []:=λpins s σ H Q I h=>pairTrees_nil_walk ⟨[],H,I,.nil,h⟩
theorem AX{X:Cx}{pos:Pos}{k v:Uo}{ks:List (Option Uo)}{vs:List Uo}{tk tv:TE}{trs:List (TE×TE)}(hk:PE X k tk)(hv:PE X v tv)(hr:PPs X pos ks vs trs) :
  PPs X pos (some k::ks) (v::vs) ((tk,tv)::trs):=λpins s σ H Q I h=>
 pairTrees_cons_walk (thn (hk pins s σ H _ I h) λu s1 ⟨x,H1,I1,rx,q1⟩=>thn (hv pins s1 σ H1 _ I1 q1) λw2 s2 ⟨y,H2,I2,ry,q2⟩=>
  thn (hr pins s2 σ H2 _ I2 q2) λws s3 ⟨ps,H3,I3,rel,q3⟩=>⟨(x,y)::ps,H3,I3,.cons ⟨rx,ry⟩ rel,q3⟩)
def VC(kvs more:List (Key×V)):List (Key×V):=more.foldl (λacc kv=>K4 acc kv.1 kv.2) kvs
theorem KV.merge:∀{more:List (Key×V)}{rs:List (Key×Ui)}{kvs:List (Key×V)}{vs:List (Key×Ui)},KV more rs->KV kvs vs->KV (VC kvs more) (merged vs rs):=by
 intro more rs kvs vs r;unfold KV at r;induction r generalizing kvs vs with
 |nil=>intro q;exact q
 |@cons p q ps qs h t ih=>
  intro r0;have e:KV (K4 kvs p.1 p.2) (stored vs q.1 q.2):=by have:=r0.put p.1 h.2;rw[←h.1];exact this
  exact ih e
theorem GT:∀(more kvs:List (Key×V)),(VC kvs more).length<=kvs.length+more.length
 |[],kvs=>by show kvs.length<=kvs.length+0;omega
 |p::r,kvs=>by
  have h1:=GT r (K4 kvs p.1 p.2);have h2:=Np kvs p.1 p.2
  show(VC (K4 kvs p.1 p.2) r).length<=_
  rw[QC];omega
theorem GQ{P:Uk}{w:World}:∀{kvs:List (Key×V)}{ws:List (Ui×Ui)},VV (kvs.map λkv=>(kV kv.1,kv.2)) ws->∃rs,Carries (YW P w) ws rs/\KV kvs rs
 |[],_,r=>by rw[List.map_nil]at r;cases r;exact⟨[],True.intro,.nil⟩
 |p::kvs,_,r=>by
  rw[Qt]at r;cases r with
  |@cons a b as bs h t=>obtain⟨rs,c,q⟩:=GQ (P:=P) (w:=w) t;obtain⟨b1,b2⟩:=b;exact⟨(p.1,b2)::rs,⟨Ss h.1,rfl,c⟩,.cons ⟨rfl,h.2⟩ q⟩
end L2
namespace L2
open PySem PySem.Spec
def Y6(bmB bm:List Ui):Prop:=∀(X:String)(b:Bool),bmB.contains (.type X)=b->bm.contains (.type X)=b
def Ym(M:Model)(C:Ul)(name:Str)(r:Option Ui)(h:Heap):Prop:=∀(A:Around)(E:Ui->Uj->Prop)(Q:Option Ui->Uj->Prop)(h':Heap)(g:Array GenState)(d:Drawn)(t:Nat)(os:OsState),
 (∀b o,h.get? b=some o->h'.get? b=some o)->Q r ⟨h',g,d,t,os⟩->Uq M A (typeLookup (.ref C) name) Q E ⟨h',g,d,t,os⟩
theorem Ym.keeps{M:Model}{C:Ul}{name:Str}{r:Option Ui}{h h':Heap}(x:Ym M C name r h)(k:∀b o,h.get? b=some o->h'.get? b=some o):Ym M C name r h':=
 λA E Q h2 g d t os k2 q=>x A E Q h2 g d t os (λb o e=>k2 b o (k b o e)) q
theorem Ym.at{M:Model}{A:Around}{E:Ui->Uj->Prop}{Q:Option Ui->Uj->Prop}{C:Ul}{name:Str}{r:Option Ui}{h:Heap}{g:Array GenState}{d:Drawn}{t:Nat}{os:OsState}(x:Ym M C name r h)(q:Q r ⟨h,g,d,t,os⟩):Uq M A (typeLookup (.ref C) name) Q E ⟨h,g,d,t,os⟩:=
 x A E Q h g d t os (λ_ _ e=>e) q
section
variable{prog:Uk}{w:World}{A:Around}{E:Ui->Uj->Prop}{h:Heap}{g:Array GenState}{d:Drawn}{t:Nat}{os:OsState}{R:Result->Uj->Prop}
variable{nm q:Str}{C N x:Ul}{bs bm bmB:List Ui}{hdct:Bool}{sn:List Str}{sub:List Ui}{ab:Bool}{col:Option Bool}{dd:Option Ul}{k0 k1 k2 k3 k5:Option Ui}{B newId sa owner:String}{mN mA:Str->Option Ui}{name:Str}{v:Ui}
theorem qw{M:Model}{o:Obj}{nameV:Ui}{Q:Unit->Uj->Prop}(T:Y6 bmB bm)(hb:bmB.contains (.type "BaseException")=true)(hC:h.get? C=some (excClassObj nm q C N bs bm hdct sn sub ab col dd k0 k1 k2 k3 k5 newId))
  (hx:h.get? x=some o) (hc:o.cls=.ref C) (hq:Q () ⟨h,g,d,t,os⟩):Uq M A (checkBuiltinCall "BaseException.__getattribute__" ⟨[.ref x,nameV],[]⟩) Q E ⟨h,g,d,t,os⟩:=by
 have hk:builtinKind "BaseException.__getattribute__" = some .slot:=by decide +kernel
 have hsplit:splitId "BaseException.__getattribute__" = some ("BaseException", "__getattribute__"):=by decide +kernel
 have hcB:(Value.ref C::bm).contains (.type "BaseException")=true:=by rw[List.contains_cons,T _ _ hb];rfl
 have ha:=PySem.F.args_bexc_ga (.ref x) nameV;simp only[checkBuiltinCall,hk,hsplit];refine Qf ?_
 ·unfold isInstance
  repeat (first|(with_reducible refine QM hx ?_;rw[hc])|(with_reducible refine Jn hC ?_;rw[hcB])|wp_step)
  exact hq
end
end L2
namespace L2
open PySem PySem.Spec PyProof.Rows PySem.Calls PyProof.V
def XO(fr:Bool)(e C:Ul)(dd:Option Ul):Heap->Prop:=λh=>∃vs sl,h.get? e=some {cls:=.ref C,dict:=dd,data:=.fields vs,slots:=sl}/\(fr=true->vs[1]?=some .none/\∃t0,vs[0]?=some (.ref t0))
abbrev VB:List Ui:=[.type "ValueError", .type "Exception", .type "BaseException", .type "object"]
structure XCls(M:Model)(base:Heap)(C:Ul)(bm:List Ui)(fI:Ul):Prop where
 obj:∃nm q N bs sn sub ab col dd k0 k1 k2 k3 k5,base.get? C=some (excClassObj nm q C N bs bm true sn sub ab col dd k0 k1 k2 k3 k5 "ValueError.__new__")
 tail:Y6 VB bm
 init:Ym M C "__init__" (some (.ref fI)) base
 fn:∃o,base.get? fI=some o/\o.cls=.type "function"
 sa:Ym M C "__setattr__" (some (.builtin "object.__setattr__")) base
 ga:Ym M C "__getattribute__" (some (.builtin "BaseException.__getattribute__")) base
 gh:Ym M C "__getattr__" none base
 cl:Ym M C "__class__" (some (.builtin "object.__class__")) base
 pass:∀v,refuseLoop v "__setattr__" bm=pure ()
def XD(dx:Ul)(fs:List (Str×V)):Heap->Prop:=λh=>∃mA,h.Ns1 dx mA/\h.ExactDictFk dx/\(∀f,RelO (fs.lookup f) (mA f))/\PySem.Within mA (fs.map (·.1))
end L2
namespace L2
open PySem PySem.Spec
section
variable{prog:Uk}{w:World}{A:Around}{E:Ui->Uj->Prop}{h:Heap}{g:Array GenState}{d:Drawn}{t:Nat}{os:OsState}{R:Result->Uj->Prop}
variable{nm q:Str}{C N a:Ul}{bs bm bmB:List Ui}{hdct:Bool}{sn:List Str}{sub:List Ui}{ab:Bool}{col:Option Bool}{dd:Option Ul}{k0 k1 k2 k3 k5:Option Ui}{newId:String}{o:Obj}
theorem jq(T:Y6 bmB bm)(ho:bmB.contains (.type "object")=true)(hC:h.get? C=some (excClassObj nm q C N bs bm hdct sn sub ab col dd k0 k1 k2 k3 k5 newId))(hx:h.get? a=some o)(hc:o.cls=.ref C)(hq:R (.ok (.ret (.ref C))) ⟨h,g,d,t,os⟩) :
  codeAny (model prog w) A (.call (.builtin "getset_descriptor.__get__") ⟨[.builtin "object.__class__", .ref a,.ref C],[]⟩) R ⟨h,g,d,t,os⟩:=by
 have hT5:(⟨h,g,d,t,os⟩:Uj).TypeIs (.builtin "object.__class__") "getset_descriptor" :=PySem.F.typeOf_object_class;have hcB:(Value.ref C::bm).contains (.type (".".intercalate ("object.__class__".cutAt '.').dropLast))=true:=by rw[PySem.F.owner_object_class,List.contains_cons,T _ _ ho];rfl
 refine codeAny_call_builtin PySem.F.slot_gs_get.plain PySem.F.entry_gs_get (PySem.F.slot_gs_get.check _ _ _ _ _ _ _ _ hT5 (PySem.F.args_gs_get _ _ _) ?_)
 repeat (any_goals (first|assumption|(with_reducible refine QM hx ?_;rw[hc])|(with_reducible refine Jn hC ?_;rw[hcB])|wp_step))
 refine⟨Code.quiet_builtin _ (by decide +kernel),codeAny_builtin PySem.F.entry_object_class ?_⟩;unfold Builtin.«object.__class__»
 repeat (any_goals (first|assumption|(with_reducible refine QM hx ?_;rw[hc])|wp_step))
theorem kH{tk:Tok}{Q:PySem.Fin->Uj->Prop}(T:Y6 bmB bm)(ho:bmB.contains (.type "object")=true)(hC:h.get? C=some (excClassObj nm q C N bs bm hdct sn sub ab col dd k0 k1 k2 k3 k5 newId))(fc:Ym (model prog w) C "__class__" (some (.builtin "object.__class__")) h)(hx:h.get? a=some o)(hc:o.cls=.ref C)(hq:Q (.done (.ret (.ref C))) ⟨h,g,d,t,os⟩) :
  Uq (model prog w) A (Builtin.«object.__getattribute__» ⟨[.ref a,.str "__class__" tk],[]⟩) Q E ⟨h,g,d,t,os⟩:=by
 have hT5:(⟨h,g,d,t,os⟩:Uj).TypeIs (.builtin "object.__class__") "getset_descriptor" :=PySem.F.typeOf_object_class;have f5:=PySem.F.typeOf_object_class;have f6:=PySem.F.slot_gs_get.lookup;have f7:=PySem.F.slot_gs_set.lookup
 repeat (any_goals (first|assumption|(with_reducible refine QM hx ?_;rw[hc])|with_reducible refine fc.at ?_|wp_step))
 refine jq T ho hC hx hc ?_
 repeat (any_goals (first|assumption|wp_step))
theorem GH{Q:Option Ui->Uj->Prop}(FB:ExcAttrFacts "ValueError")(T:Y6 VB bm)(hC:h.get? C=some (excClassObj nm q C N bs bm hdct sn sub ab col dd k0 k1 k2 k3 k5 newId))(fc:Ym (model prog w) C "__class__" (some (.builtin "object.__class__")) h)
  (fg:Ym (model prog w) C "__getattribute__" (some (.builtin "BaseException.__getattribute__")) h) (fa:Ym (model prog w) C "__getattr__" none h) (hx:h.get? a=some o) (hc:o.cls=.ref C) (hq:Q (some (.ref C)) ⟨h,g,d,t+1,os⟩) :
  Uq (model prog w) A (getAttr? (.ref a) "__class__") Q E ⟨h,g,d,t,os⟩:=by
 have f3:=FB.ga.bind (.ref a);have hx0:(false&&onTheHeap (Value.builtin "BaseException.__getattribute__"))=false:=rfl;have hx2:(Value.builtin "BaseException.__getattribute__" == Value.builtin "object.__getattribute__")=false:=by decide +kernel
 have hx1:(onTheHeap (Value.ref C)&&Value.builtin "BaseException.__getattribute__" == Value.builtin "object.__getattribute__")=false:=by rw[hx2];rfl
 unfold getAttr? getAttrBy?;refine Qf (wpAny_mkText (Qf (wpAny_attempt ?_)))
 repeat (any_goals (first|assumption|(with_reducible refine QM hx ?_;rw[hc])|with_reducible refine fg.at ?_|with_reducible refine fa.at ?_|wp_step))
 refine codeAny_call_builtin FB.ga.plain PySem.F.entry_bexc_ga (qw T rfl hC hx hc (kH T rfl hC fc hx hc ?_))
 repeat (any_goals (first|assumption|wp_step))
end
end L2
namespace L2
open PySem PySem.Spec PyProof.Rows
section
variable{prog:Uk}{w:World}{A:Around}{E:Ui->Uj->Prop}{h:Heap}{g:Array GenState}{d:Drawn}{t:Nat}{os:OsState}
variable{nm q nm' q':Str}{C N D N' a:Ul}{bs bm bs' bm':List Ui}{hdct hdct':Bool}{sn sn':List Str}{sub sub':List Ui}{ab ab':Bool}{col col':Option Bool}{dd dd':Option Ul}{k0 k1 k2 k3 k5 j0 j1 j2 j3 j5:Option Ui}{newId newId':String}{o:Obj}{b:Bool}
theorem Bm{Q:Ui->Uj->Prop}(T:Y6 VB bm)(hC:h.get? C=some (excClassObj nm q C N bs bm hdct sn sub ab col dd k0 k1 k2 k3 k5 newId))(hD:h.get? D=some (excClassObj nm' q' D N' bs' bm' hdct' sn' sub' ab' col' dd' j0 j1 j2 j3 j5 newId'))
  (fc:Ym (model prog w) C "__class__" (some (.builtin "object.__class__")) h) (fg:Ym (model prog w) C "__getattribute__" (some (.builtin "BaseException.__getattribute__")) h) (fa:Ym (model prog w) C "__getattr__" none h)
  (hx:h.get? a=some o) (hc:o.cls=.ref C) (hb:(Value.ref C::bm).contains (.ref D)=b) (hq:∀tk,Q (.bool b) ⟨h,g,d,tk,os⟩):Uq (model prog w) A (call (.builtin "isinstance") [.ref a,.ref D]) Q E ⟨h,g,d,t,os⟩:=by
 have hT:(⟨h,g,d,t,os⟩:Uj).TypeIs (.ref D) "type" :=⟨_,hD,rfl⟩
 have f2:=tc_sub;refine call_isinstance_of ?_ (λz=>nomatch z);unfold Builtin.«isinstance.nested»;refine Qf ?_;unfold typeOf;refine Qf (QM hx (Qk ?_));rw[hc];by_cases e:C=D
 ·subst e;have hb1:b=true:=by rw[←hb];simp
  subst hb1;rw[if_pos (by simp)];exact Qf (wpAny_rule (Qk (hq t)))
 ·rw[if_neg (by simp[e])];refine Qf (Qf (QM hD (Qk ?_)));rw[Qm (show(Value.type "type" == Value.type "type")=true by decide)]
  k_delta "plainIsInstance"
  unfold isType isInstance
  repeat (first|(with_reducible refine QM hx ?_;rw[hc])|with_reducible refine QM hD ?_|with_reducible refine QM hC ?_|(with_reducible refine Jn hC ?_;rw[hb])|wp_step)
  cases b with
  |true=>wp_walk;exact hq t
  |false=>
   rw[QB (by decide)];refine Qf (GH PySem.F.excAttr_ValueError T hC fc fg fa hx hc ?_)
   repeat (first|with_reducible refine QM hC ?_|(with_reducible refine Jn hC ?_;rw[hb])|wp_step)
   exact hq _
theorem Dx{Q:Ui->Uj->Prop}{X:String}(T:Y6 VB bm)(hC:h.get? C=some (excClassObj nm q C N bs bm hdct sn sub ab col dd k0 k1 k2 k3 k5 newId))(hX:typeOf (.type X)=pure (.type "type"))
  (fc:Ym (model prog w) C "__class__" (some (.builtin "object.__class__")) h) (fg:Ym (model prog w) C "__getattribute__" (some (.builtin "BaseException.__getattribute__")) h) (fa:Ym (model prog w) C "__getattr__" none h)
  (hx:h.get? a=some o) (hc:o.cls=.ref C) (hb:(Value.ref C::bm).contains (.type X)=b) (hq:∀tk,Q (.bool b) ⟨h,g,d,tk,os⟩):Uq (model prog w) A (call (.builtin "isinstance") [.ref a,.type X]) Q E ⟨h,g,d,t,os⟩:=by
 refine call_isinstance_of ?_ (λz=>nomatch z);unfold Builtin.«isinstance.nested»;refine Qf ?_;have ty:∀{M:Model}{A:Around}{Q:Ui->Uj->Prop}{E:Ui->Uj->Prop},Q (.ref C) ⟨h,g,d,t,os⟩->Uq M A (typeOf (.ref a)) Q E ⟨h,g,d,t,os⟩:=λq=>by unfold typeOf;refine Qf (QM hx (Qk ?_));rw[hc];exact q
 refine ty ?_;rw[if_neg (by simp)];refine Qf (wpAny_of_eq hX ?_);rw[Qm (show(Value.type "type" == Value.type "type")=true by decide)]
 k_delta "plainIsInstance"
 unfold isType isInstance
 repeat (first|(with_reducible refine QM hx ?_;rw[hc])|with_reducible refine QM hC ?_|(with_reducible refine Jn hC ?_;rw[hb])|wp_step)
 cases b with
 |true=>wp_walk;exact hq t
 |false=>
  rw[QB (by decide)];refine Qf (GH PySem.F.excAttr_ValueError T hC fc fg fa hx hc ?_)
  repeat (first|with_reducible refine QM hC ?_|(with_reducible refine Jn hC ?_;rw[hb])|wp_step)
  exact hq _
end
def rIsX(KC:Ul->List Ui->Prop):List V->Hp->VK->Prop:=λxs H Q=>∃a C dd bm fr c b,xs=[.ref a,c]/\KC C bm/\H a=some (.ext (XO fr a C dd)) /\
 ((∃D bm',c=.ref D/\KC D bm'/\(Value.ref C::bm).contains (.ref D)=b) ∨ ∃T,c=.ty T/\typeOf (.type T)=pure (.type "type")/\(Value.ref C::bm).contains (.type T)=b)/\Q (.bl b) H
theorem BQ{X:Cx}{KC:Ul->List Ui->Prop}(hcls:∀C bm,KC C bm->∃fI,XCls (model X.prog X.w) X.base C bm fI):YL X (.builtin "isinstance") (rIsX KC):=by
 rintro pins s σ H xs us Q I r ⟨a,C,dd,bm,fr,c,b,rfl,kc,hx,hD,q⟩;cases r with
 |cons ra r=>
 cases r with
 |cons rc r=>
 cases r;have ra':_=Value.ref a:=ra;subst ra';obtain⟨fI,XC⟩:=hcls C bm kc;obtain⟨nm,qn,N,bs,sn,sub,ab,col,dd1,k0,k1,k2,k3,k5,hC⟩:=XC.obj;obtain⟨⟨vs,sl,ga,_⟩,_,_⟩:=I.hok a _ hx;obtain⟨hp,g,d,tk,os⟩:=s;rcases hD with ⟨D,bm',rfl,kd,hb⟩|⟨T,rfl,hT,hb⟩
 ·have rc':_=Value.ref D:=rc;subst rc';obtain⟨fI',XD'⟩:=hcls D bm' kd;obtain⟨nm',qn',N',bs',sn',sub',ab',col',dd2,j0,j1,j2,j3,j5,hD'⟩:=XD'.obj;exact Bm XC.tail (I.bk _ _ hC) (I.bk _ _ hD') (XC.cl.keeps I.bk) (XC.ga.keeps I.bk) (XC.gh.keeps I.bk) ga rfl hb λtk'=>⟨.bl b,H,I.tok tk',rfl,q⟩
 ·have rc':_=Value.type T:=rc;subst rc';exact Dx XC.tail (I.bk _ _ hC) hT (XC.cl.keeps I.bk) (XC.ga.keeps I.bk) (XC.gh.keeps I.bk) ga rfl hb λtk'=>⟨.bl b,H,I.tok tk',rfl,q⟩
def F5(nm:Str):List Str:=if nm = "NoWishes" then ["part", "number"]else if nm = "NoAim" then ["part"]else if nm = "NoText" then ["row"]else []
def NR(K:Frag)(nm:Str):Option Ul:=match PySem.W.nsIn K mainGlobals nm with|some (some (.ref C))=>some C|_=>none
def NmAt(K:Frag)(nm:Str)(C:Ul):Prop:=∃o cd,K.lookup C=some o/\o.data=.cls cd/\cd.name=nm
structure ClsK(K:Frag)(nm:Str)(C:Ul)(bm:List Ui):Prop where
 ad:NR K nm=some C
 nmd:NmAt K nm C
 up:nm = "DealError" /\ bm=VB∨nm ≠ "DealError" /\ ∃D,NR K "DealError" = some D/\bm=.ref D::VB/\NmAt K "DealError" D
 cls:∀(M:Model)(h:Heap),K.In h->∃fI,XCls M h C bm fI
 fld:∀(M:Model)(h:Heap),K.In h->∀f∈(["part", "number", "row"]:List Str),Ym M C f none h
def KC(K:Frag):Ul->List Ui->Prop:=λC bm=>∃nm,ClsK K nm C bm
section
variable{K:Frag}{nm x:Str}{C D:Ul}{bm bm':List Ui}
theorem ClsK.ty(c:ClsK K nm C bm)(T:String):(Value.ref C::bm).contains (.type T)=VB.contains (.type T):=by
 rcases c.up with ⟨_,rfl⟩|⟨_,D',g,rfl,n⟩
 ·rfl
 ·rfl
end
section
variable{X:Cx}{e:Uo}{st:Stmt}{sts:List Stmt}{t:TE}{ts:TS}
theorem F4(k:X.K.In X.base):∀C bm,KC X.K C bm->∃fI,XCls (model X.prog X.w) X.base C bm fI:=λ_ _ ⟨_,c⟩=>c.cls _ _ k
end
end L2
namespace DL
open PySem PySem.Spec L2
open PyProof.Rows hiding St
abbrev D:=PyData
abbrev XW:=V->St->Hp->Prop
abbrev KX0:XW:=λ_ _ _=>False
def XFs(G:Hp)(dd:Option Ul)(fs:List Str)(vs:List V):Prop:=match dd with
 |none=>fs=[]/\vs=[]
 |some dx=>fs.length=vs.length/\G dx=some (.ext (XD dx (fs.zip vs)))
theorem XFs.mono{G G1:Hp}{dd:Option Ul}{fs:List Str}{vs:List V}(e:Same G G1)(h:XFs G dd fs vs):XFs G1 dd fs vs:=by
 cases dd with
 |none=>exact h
 |some dx=>exact⟨h.1,e _ _ h.2⟩
def kD:Key->D
 |.inl i=>.int i
 |.inr x=>.str x
def tkD(k:List Key):D:=.tuple (k.map kD)
def pdD(ks:List (List Key))(ds:List D):List (D×D):=(.bool true,.none)::(ks.map tkD).zip ds
mutual
inductive Rep(K:Frag)(G:Hp):V->D->Prop where
 |non:Rep K G .non .none
 |bl (b:Bool):Rep K G (.bl b) (.bool b)
 |int (i:Int):Rep K G (.int i) (.int i)
 |str (x:Str):Rep K G (.str x) (.str x)
 |lst {a:Ul} {vs:List V} {ds:List D} (h:SqL K G a vs) (r:Reps K G vs ds):Rep K G (.ref a) (.list ds)
 |tup {a:Ul} {vs:List V} {ds:List D} (h:SqT K G a vs) (r:Reps K G vs ds):Rep K G (.ref a) (.tuple ds)
 |dic {a:Ul} (h:G a=some (.dK [])):Rep K G (.ref a) (.dict [])
 |exc {a C:Ul} {dd:Option Ul} {bm:List Ui} {nm:Str} {vs:List V} {ds:List D} (c:ClsK K nm C bm) (h:G a=some (.ext (XO false a C dd))) (hd:XFs G dd (F5 nm) vs) (r:Reps K G vs ds):Rep K G (.ref a) (.dict [(.none,.tuple [.str nm,.list ds])])
 |dct {a:Ul} {ks:List Key} {vs:List V} {ds:List D} {kvs:List (D×D)} (e:kvs=(ks.map kD).zip ds) (hne:ks≠[]) (hl:ks.length=ds.length) (h:G a=some (.dK (ks.zip vs))) (r:Reps K G vs ds):Rep K G (.ref a) (.dict kvs)
 |dtt {a:Ul} {o:Obj} {ks:List (List Key)} {vs:List V} {ds:List D} {kvs:List (D×D)} (e:kvs=pdD ks ds) (hl:ks.length=ds.length) (h:G a=some (.frz o (.dT (ks.zip vs)))) (r:Reps K G vs ds):Rep K G (.ref a) (.dict kvs)
inductive Reps(K:Frag)(G:Hp):List V->List D->Prop where
 |nil:Reps K G [] []
 |cons {v:V} {d:D} {vs:List V} {ds:List D} (h:Rep K G v d) (t:Reps K G vs ds):Reps K G (v::vs) (d::ds)
end
variable{K:Frag}{B G0 G G1 G2 H H1 H2:Hp}
theorem YZ{a:Ul}{xs:List V}(e:Same G G1)(h:SqT K G a xs):SqT K G1 a xs:=by
 rcases h with (h|⟨o,h⟩)|h
 ·exact .inl (.inl (e _ _ h))
 ·exact .inl (.inr ⟨o,e _ _ h⟩)
 ·exact .inr h
theorem Rep.mono(e:Same G G1){v:V}{d:D}(r:Rep K G v d):Rep K G1 v d:=Rep.rec (motive_1:=λv d _=>Rep K G1 v d) (motive_2:=λvs ds _=>Reps K G1 vs ds) .non .bl .int .str (λh _ r=>.lst (e.seq h) r) (λh _ r=>.tup (YZ e h) r) (λh=>.dic (e _ _ h)) (λc h hd _ r=>.exc c (e _ _ h) (hd.mono e) r) (λz n l h _ r=>.dct z n l (e _ _ h) r) (λz l h _ r=>.dtt z l (e _ _ h) r) .nil (λ_ _=>.cons) r
theorem Reps.mono(e:Same G G1){vs:List V}{ds:List D}(r:Reps K G vs ds):Reps K G1 vs ds:=Reps.rec (motive_1:=λv d _=>Rep K G1 v d) (motive_2:=λvs ds _=>Reps K G1 vs ds) .non .bl .int .str (λh _ r=>.lst (e.seq h) r) (λh _ r=>.tup (YZ e h) r) (λh=>.dic (e _ _ h)) (λc h hd _ r=>.exc c (e _ _ h) (hd.mono e) r) (λz n l h _ r=>.dct z n l (e _ _ h) r) (λz l h _ r=>.dtt z l (e _ _ h) r) .nil (λ_ _=>.cons) r
section
variable{v:V}{vs ws:List V}{ds es:List D}
theorem Rep.bl_inv{b:Bool}(h:Rep K G v (.bool b)):v=.bl b:=by cases h;rfl
theorem Rep.int_inv{i:Int}(h:Rep K G v (.int i)):v=.int i:=by cases h;rfl
theorem Rep.str_inv{x:Str}(h:Rep K G v (.str x)):v=.str x:=by cases h;rfl
theorem Rep.lst_inv(h:Rep K G v (.list ds)):∃a vs,v=.ref a/\SqL K G a vs/\Reps K G vs ds:=by
 cases h with
 |lst h r=>exact⟨_,_,rfl,h,r⟩
theorem Rep.tup_inv(h:Rep K G v (.tuple ds)):∃a vs,v=.ref a/\SqT K G a vs/\Reps K G vs ds:=by
 cases h with
 |tup h r=>exact⟨_,_,rfl,h,r⟩
theorem Reps.length:∀{vs:List V}{ds:List D},Reps K G vs ds->vs.length=ds.length
 |_,_,.nil=>rfl
 |_,_,.cons _ t=>by rw[QC,QC,Reps.length t]
theorem Reps.get:∀{vs:List V}{ds:List D}{i:Nat}{d:D},Reps K G vs ds->ds[i]?=some d->∃v,vs[i]?=some v/\Rep K G v d
 |_,_,_,_,.nil,e=>by simp at e
 |_,_,0,_,.cons h _,e=>by simp at e;subst e;exact⟨_,rfl,h⟩
 |_,_,i+1,d,.cons _ t,e=>by obtain⟨u,h1,h2⟩:=Reps.get (i:=i) (d:=d) t (by simpa using e);exact⟨u,by simpa using h1,h2⟩
theorem Reps.append:∀{vs ws:List V}{ds es:List D},Reps K G vs ds->Reps K G ws es->Reps K G (vs++ws) (ds++es)
 |_,_,_,_,.nil,s=>s
 |_,_,_,_,.cons r t,s=>.cons r (Reps.append t s)
theorem Reps.take:∀{vs:List V}{ds:List D}(n:Nat),Reps K G vs ds->Reps K G (vs.take n) (ds.take n)
 |_,_,0,_=>by rw[JY,JY];exact .nil
 |_,_,_+1,.nil=>.nil
 |_,_,n+1,.cons r t=>.cons r (Reps.take n t)
theorem Reps.drop:∀{vs:List V}{ds:List D}(n:Nat),Reps K G vs ds->Reps K G (vs.drop n) (ds.drop n)
 |_,_,0,r=>r
 |_,_,_+1,.nil=>.nil
 |_,_,n+1,.cons _ t=>Reps.drop n t
theorem Reps.reverse:∀{vs:List V}{ds:List D},Reps K G vs ds->Reps K G vs.reverse ds.reverse
 |_,_,.nil=>.nil
 |_,_,.cons r t=>by rw[List.reverse_cons,List.reverse_cons];exact Reps.append (Reps.reverse t) (.cons r .nil)
theorem Reps.set{v:V}{d:D}(r:Rep K G v d):∀{vs:List V}{ds:List D}(i:Nat),Reps K G vs ds->Reps K G (vs.set i v) (ds.set i d)
 |_,_,_,.nil=>.nil
 |_,_,0,.cons _ t=>.cons r t
 |_,_,i+1,.cons q t=>.cons q (Reps.set r i t)
theorem Reps.ints:∀(ns:List Int),Reps K G (ns.map V.int) (ns.map int)
 |[]=>.nil
 |n::ns=>.cons (.int n) (Reps.ints ns)
end
inductive MO where
 |l (vs:List V)|k (kvs:List (Key×V))|t (kvs:List (List Key×V))|s (S:Int->Bool) (n:Nat)
def MO.ho:MO->HO
 |.l vs=>.lst vs
 |.k kvs=>.dK kvs
 |.t kvs=>.dT kvs
 |.s S n=>.set S n
structure Ext(G H G' H':Hp):Prop where
 h:Same H H'
 g:Same G G'
 gh:Same G' H'
 np:∀a(u:MO),H a=some u.ho->G a=none->G' a=none
theorem Ext.refl(e:Same G H):Ext G H G H:=⟨.refl _,.refl _,e,λ_ _ _ q=>q⟩
theorem Zx{p:Ul}{o:HO}(h:H p=none):Same H (upd H p o):=λb u e=>by rw[Ku (Yo e h)];exact e
theorem Ext.new{p:Ul}{o:HO}(e:Same G H)(h:H p=none):Ext G H (upd G p o) (upd H p o):=by
 have hg:G p=none:=e.free h;refine⟨Zx h,Zx hg,λb u q=>?_,λa u q n=>?_⟩
 ·by_cases z:b=p
  ·subst z;rw[K9]at q⊢;exact q
  ·rw[Ku z]at q⊢;exact e b u q
 ·rw[Ku (Yo q h)];exact n
theorem Ext.hid{p:Ul}{o:HO}(e:Same G H)(h:H p=none):Ext G H G (upd H p o):=
 ⟨Zx h,.refl _,e.trans (Zx h),λ_ _ _ n=>n⟩
inductive Pat where
 |leaf|lst (p:Pat)|tup (ps:List Pat)|dic
mutual
inductive RepO(K:Frag)(G H:Hp):Pat->V->D->List Ul->Prop where
 |leaf {v:V} {d:D} (r:Rep K G v d):RepO K G H .leaf v d []
 |lst {p:Pat} {a:Ul} {vs:List V} {ds:List D} {fp:List Ul} (h:H a=some (.lst vs)) (r:RepOl K G H p vs ds fp):RepO K G H (.lst p) (.ref a) (.list ds) (a::fp)
 |tup {ps:List Pat} {a:Ul} {vs:List V} {ds:List D} {fp:List Ul} (h:H a=some (.tup vs)) (r:RepOs K G H ps vs ds fp):RepO K G H (.tup ps) (.ref a) (.tuple ds) fp
 |dic {a:Ul} {ks:List Key} {vs:List V} {ds:List D} {kvs:List (D×D)} (e:kvs=(ks.map kD).zip ds) (hl:ks.length=ds.length) (h:H a=some (.dK (ks.zip vs))) (r:Reps K G vs ds):RepO K G H .dic (.ref a) (.dict kvs) [a]
inductive RepOl(K:Frag)(G H:Hp):Pat->List V->List D->List Ul->Prop where
 |nil {p:Pat}:RepOl K G H p [] [] []
 |cons {p:Pat} {v:V} {d:D} {vs:List V} {ds:List D} {f1 f2:List Ul} (h:RepO K G H p v d f1) (t:RepOl K G H p vs ds f2):RepOl K G H p (v::vs) (d::ds) (f1++f2)
inductive RepOs(K:Frag)(G H:Hp):List Pat->List V->List D->List Ul->Prop where
 |nil:RepOs K G H [] [] [] []
 |cons {p:Pat} {ps:List Pat} {v:V} {d:D} {vs:List V} {ds:List D} {f1 f2:List Ul} (h:RepO K G H p v d f1) (t:RepOs K G H ps vs ds f2):RepOs K G H (p::ps) (v::vs) (d::ds) (f1++f2)
end
def XG(K:Frag)(G H:Hp)(M1:Pat->V->D->List Ul->Prop)(M2:Pat->List V->List D->List Ul->Prop)(M3:List Pat->List V->List D->List Ul->Prop):Prop:=
 (∀{p v d fp},RepO K G H p v d fp->M1 p v d fp)/\(∀{p vs ds fp},RepOl K G H p vs ds fp->M2 p vs ds fp)/\∀{ps vs ds fp},RepOs K G H ps vs ds fp->M3 ps vs ds fp
theorem RepO.ind3{M1:Pat->V->D->List Ul->Prop}{M2:Pat->List V->List D->List Ul->Prop}{M3:List Pat->List V->List D->List Ul->Prop}
  (c1:∀{v d},Rep K G v d->M1 .leaf v d []) (c2:∀{p a vs ds fp},H a=some (.lst vs)->M2 p vs ds fp->M1 (.lst p) (.ref a) (.list ds) (a::fp)) (c3:∀{ps a vs ds fp},H a=some (.tup vs)->M3 ps vs ds fp->M1 (.tup ps) (.ref a) (.tuple ds) fp)
  (c4:∀{a:Ul}{ks:List Key}{vs:List V}{ds:List D}{kvs:List (D×D)},kvs=(ks.map kD).zip ds->ks.length=ds.length->H a=some (.dK (ks.zip vs))->Reps K G vs ds->M1 .dic (.ref a) (.dict kvs) [a])
  (c5:∀{p},M2 p [] [] []) (c6:∀{p v d vs ds f1 f2},M1 p v d f1->M2 p vs ds f2->M2 p (v::vs) (d::ds) (f1++f2)) (c7:M3 [] [] [] []) (c8:∀{p ps v d vs ds f1 f2},M1 p v d f1->M3 ps vs ds f2->M3 (p::ps) (v::vs) (d::ds) (f1++f2)) :
  XG K G H M1 M2 M3:=
 ⟨λh=>RepO.rec (motive_1:=λp v d fp _=>M1 p v d fp) (motive_2:=λp v d fp _=>M2 p v d fp) (motive_3:=λp v d fp _=>M3 p v d fp) c1 (λh _=>c2 h) (λh _=>c3 h) c4 c5 (λ_ _=>c6) c7 (λ_ _=>c8) h,
  λh=>RepOl.rec (motive_1:=λp v d fp _=>M1 p v d fp) (motive_2:=λp v d fp _=>M2 p v d fp) (motive_3:=λp v d fp _=>M3 p v d fp) c1 (λh _=>c2 h) (λh _=>c3 h) c4 c5 (λ_ _=>c6) c7 (λ_ _=>c8) h,
  λh=>RepOs.rec (motive_1:=λp v d fp _=>M1 p v d fp) (motive_2:=λp v d fp _=>M2 p v d fp) (motive_3:=λp v d fp _=>M3 p v d fp) c1 (λh _=>c2 h) (λh _=>c3 h) c4 c5 (λ_ _=>c6) c7 (λ_ _=>c8) h⟩
theorem RepO.mono3(sg:Same G G1)(sh:Same H H1):XG K G H (RepO K G1 H1) (RepOl K G1 H1) (RepOs K G1 H1):=
 RepO.ind3 (λr=>.leaf (r.mono sg)) (λh r=>.lst (sh _ _ h) r) (λh r=>.tup (sh _ _ h) r) (λe hl h r=>.dic e hl (sh _ _ h) (r.mono sg)) .nil .cons .nil .cons
theorem RepO.mono(sg:Same G G1)(sh:Same H H1){p:Pat}{v:V}{d:D}{fp:List Ul}(r:RepO K G H p v d fp):RepO K G1 H1 p v d fp:=(RepO.mono3 sg sh).1 r
theorem RepO.upd3{a:Ul}{o:HO}(nt:∀vs,H a≠some (.tup vs)):XG K G H (λp v d fp=>a∉fp->RepO K G (upd H a o) p v d fp) (λp v d fp=>a∉fp->RepOl K G (upd H a o) p v d fp) (λp v d fp=>a∉fp->RepOs K G (upd H a o) p v d fp):=
 RepO.ind3
 (λr _=>.leaf r) (λh r n=>.lst (by rw[Ku (λz=>n (by rw[z];exact Qn))];exact h) (r λz=>n (Ql _ z))) (λh r n=>.tup (by rw[Ku (λz=>by subst z;exact nt _ h)];exact h) (r n))
 (λe hl h r n=>.dic e hl (by rw[Ku (λz=>n (by rw[z];exact Qn))];exact h) r) (λ_=>.nil) (λh t n=>.cons (h λz=>n (Q0 _ z)) (t λz=>n (QL _ z))) (λ_=>.nil) (λh t n=>.cons (h λz=>n (Q0 _ z)) (t λz=>n (QL _ z)))
theorem RepO.upd{a:Ul}{o:HO}(nt:∀vs,H a≠some (.tup vs)){p:Pat}{v:V}{d:D}{fp:List Ul}(r:RepO K G H p v d fp)(n:a∉fp):RepO K G (upd H a o) p v d fp:=(RepO.upd3 nt).1 r n
theorem RepO.rep3(gh:Same G H):XG K G H (λ_ v d _=>Rep K H v d) (λ_ v d _=>Reps K H v d) (λ_ v d _=>Reps K H v d):=
 RepO.ind3 (λr=>r.mono gh) (λh r=>.lst (SqL.of h) r) (λh r=>.tup (SqT.of h) r)
 (λ{a ks vs ds kvs} e hl h r=>by
  cases ks with
  |nil=>subst e;exact .dic h
  |cons k ks=>exact .dct e (λz=>by cases z) hl h (r.mono gh)) .nil .cons .nil .cons
theorem RepO.rep(gh:Same G H){p:Pat}{v:V}{d:D}{fp:List Ul}(r:RepO K G H p v d fp):Rep K H v d:=(RepO.rep3 gh).1 r
theorem RepO.isl3:XG K G H (λ_ _ _ fp=>∀a∈fp,∃u:MO,H a=some u.ho) (λ_ _ _ fp=>∀a∈fp,∃u:MO,H a=some u.ho) (λ_ _ _ fp=>∀a∈fp,∃u:MO,H a=some u.ho):=
 RepO.ind3 (λ_ a m=>by cases m)
 (λh r b m=>(QS.mp m).elim (λe=>⟨.l _,e ▸ h⟩) (r b)) (λ_ r=>r) (λ_ _ h _ b m=>⟨.k _,Qv.mp m ▸ h⟩) (λa m=>by cases m) (λh t b m=>(QJ.mp m).elim (h b) (t b)) (λa m=>by cases m) (λh t b m=>(QJ.mp m).elim (h b) (t b))
theorem RepO.isl{p:Pat}{v:V}{d:D}{fp:List Ul}(r:RepO K G H p v d fp):∀a∈fp,∃u:MO,H a=some u.ho:=RepO.isl3.1 r
theorem RepO.uniq3(sh:Same H H1):XG K G H (λp v _ fp=>∀d' fp',RepO K G1 H1 p v d' fp'->fp=fp') (λp v _ fp=>∀d' fp',RepOl K G1 H1 p v d' fp'->fp=fp') (λp v _ fp=>∀d' fp',RepOs K G1 H1 p v d' fp'->fp=fp'):=
 RepO.ind3
 (λ_ d' fp' h=>by cases h;rfl)
 (λh r d' fp' h'=>by
  cases h' with
  |lst h2 r2=>have e:=sh _ _ h;rw[h2]at e;cases e;rw[r _ _ r2])
 (λh r d' fp' h'=>by
  cases h' with
  |tup h2 r2=>have e:=sh _ _ h;rw[h2]at e;cases e;exact r _ _ r2)
 (λ_ _ _ _ d' fp' h=>by cases h;rfl) (λd' fp' h=>by cases h;rfl)
 (λh t d' fp' h'=>by
  cases h' with
  |cons h2 t2=>rw[h _ _ h2,t _ _ t2])
 (λd' fp' h=>by cases h;rfl)
 (λh t d' fp' h'=>by
  cases h' with
  |cons h2 t2=>rw[h _ _ h2,t _ _ t2])
theorem RepO.uniq(sh:Same H H1){p:Pat}{v:V}{d d':D}{fp fp':List Ul}(r:RepO K G H p v d fp)(r':RepO K G1 H1 p v d' fp'):fp=fp':=(RepO.uniq3 sh).1 r _ _ r'
inductive Sl where
 |pub (d:D)|own (ds:List D)|deep (p:Pat) (d:D)
abbrev UJ:=List (Option Sl)
def DpOk(K:Frag)(B G H:Hp)(σ:St)(Z:UJ):Prop:=∃ω:Ul->Nat,
 (∀(i:Nat) p d,Z[i]?=some (some (.deep p d))->∃v fp,σ[i]?=some (some v)/\RepO K G H p v d fp/\fp.Nodup/\∀a∈fp,B a=none/\G a=none/\ω a=i) /\
 (∀(i:Nat) ds a,Z[i]?=some (some (.own ds))->σ[i]?=some (some (.ref a))->ω a=i)
theorem DpOk.of{σ:St}{Z:UJ}(h1:∀(i:Nat) p d,Z[i]?=some (some (.deep p d))->False)(h2:∀(i:Nat) ds,Z[i]?=some (some (.own ds))->False):DpOk K B G H σ Z:=
 ⟨λ_=>0,λi p d q=>(h1 i p d q).elim,λi ds a q=>(h2 i ds q).elim⟩
theorem DpOk.map{B1:Hp}{σ σ1:St}{Z Z1:UJ}(k:DpOk K B G H σ Z)
  (h1:∀(i:Nat) p d,Z1[i]?=some (some (.deep p d))->Z[i]?=some (some (.deep p d))/\σ1[i]?=σ[i]?)
  (h2:∀(i:Nat) ds,Z1[i]?=some (some (.own ds))->∃es,Z[i]?=some (some (.own es))/\σ1[i]?=σ[i]?)
  (h3:∀(i:Nat) p d v fp,Z[i]?=some (some (.deep p d))->σ[i]?=some (some v)->RepO K G H p v d fp->(∀a∈fp,B a=none/\G a=none)->(∀(j:Nat) ds a,Z[j]?=some (some (.own ds))->σ[j]?=some (some (.ref a))->a∉fp)->RepO K G1 H1 p v d fp/\∀a∈fp,B1 a=none/\G1 a=none):DpOk K B1 G1 H1 σ1 Z1:=by
 obtain⟨ω,k1,k2⟩:=k;refine⟨ω,λi p d q=>?_,λi ds a q s=>?_⟩
 ·obtain⟨q1,e1⟩:=h1 i p d q;obtain⟨v,fp,s,r,n,w⟩:=k1 i p d q1;obtain⟨r1,w1⟩:=h3 i p d v fp q1 s r (λa m=>⟨(w a m).1,(w a m).2.1⟩) λj ds a qj sj m=>by have z1:=k2 j ds a qj sj;have z2:=(w a m).2.2;rw[z1]at z2;subst z2;rw[q1]at qj;cases qj
  exact⟨v,fp,by rw[e1];exact s,r1,n,λa m=>⟨(w1 a m).1,(w1 a m).2,(w a m).2.2⟩⟩
 ·obtain⟨es,q1,e1⟩:=h2 i ds q;rw[e1]at s;exact k2 i es a q1 s
structure EOk(K:Frag)(B G0 G H:Hp)(σ:St)(Z:UJ):Prop where
 bh:Same B H
 gh:Same G H
 g0:Same G0 G
 np:∀a(u:MO),B a=some u.ho->G0 a=none->G a=none
 len:Z.length=σ.length
 pub:∀(i:Nat) d,Z[i]?=some (some (.pub d))->∃v,σ[i]?=some (some v)/\Rep K G v d
 own:∀(i:Nat) ds,Z[i]?=some (some (.own ds))->∃a vs,σ[i]?=some (some (.ref a))/\B a=none/\G a=none/\H a=some (.lst vs)/\Reps K G vs ds
 sep:∀(i j:Nat) a ds es,Z[i]?=some (some (.own ds))->Z[j]?=some (some (.own es))->σ[i]?=some (some (.ref a))->σ[j]?=some (some (.ref a))->i=j
 dp:DpOk K B G H σ Z
theorem EOk.ext{G' H':Hp}{σ:St}{Z:UJ}(k:EOk K B G0 G H σ Z)(e:Ext G H G' H'):EOk K B G0 G' H' σ Z where
 bh:=k.bh.trans e.h
 gh:=e.gh
 g0:=k.g0.trans e.g
 np:=λa o q n=>e.np a o (k.bh a _ q) (k.np a o q n)
 len:=k.len
 pub:=λi d q=>let ⟨v,h1,h2⟩:=k.pub i d q;⟨v,h1,h2.mono e.g⟩
 own:=λi ds q=>let ⟨a,vs,h1,h2,h3,h4,h5⟩:=k.own i ds q;⟨a,vs,h1,h2,e.np a (.l _) h4 h3,e.h a _ h4,h5.mono e.g⟩
 sep:=k.sep
 dp:=k.dp.map (λ_ _ _ q=>⟨q,rfl⟩) (λ_ ds q=>⟨ds,q,rfl⟩) λi p d v fp q s r w n=>⟨r.mono e.g e.h,λa m=>let ⟨_,hl⟩:=r.isl a m;⟨(w a m).1,e.np a _ hl (w a m).2⟩⟩
theorem EOk.publish{σ:St}{Z:UJ}{i:Nat}{ds:List D}(k:EOk K B G0 G H σ Z)(h:Z[i]?=some (some (.own ds))) :
  ∃a G',σ[i]?=some (some (.ref a))/\Same G G'/\Rep K G' (.ref a) (.list ds)/\EOk K B G0 G' H σ (Z.set i (some (.pub (.list ds)))):=by
 obtain⟨a,vs,h1,h2,h3,h4,h5⟩:=k.own i ds h;have sg:Same G (upd G a (.lst vs)):=Zx h3;have hr:Rep K (upd G a (.lst vs)) (.ref a) (.list ds):=.lst (SqL.of K9) (h5.mono sg);refine⟨a,upd G a (.lst vs),h1,sg,hr,⟨k.bh,λb u q=>?_,k.g0.trans sg,λb o q n=>?_,by rw[Q6];exact k.len,λj d q=>?_,λj es q=>?_,λj l c es fs q1 q2 s1 s2=>?_,?_⟩⟩
 ·by_cases z:b=a
  ·subst z;rw[K9]at q;cases q;exact h4
  ·rw[Ku z]at q;exact k.gh b u q
 ·have z:b≠a:=λz=>by subst z;rw[h2]at q;cases q
  rw[Ku z];exact k.np b o q n
 ·by_cases z:i=j
  ·subst z;have hl:i<Z.length:=(Qg.mp h).1;rw[QI hl]at q;cases q;exact⟨.ref a,h1,hr⟩
  ·rw[Qp z]at q;obtain⟨v,g1,g2⟩:=k.pub j d q;exact⟨v,g1,g2.mono sg⟩
 ·by_cases z:i=j
  ·subst z;have hl:i<Z.length:=(Qg.mp h).1;rw[QI hl]at q;cases q
  ·rw[Qp z]at q;obtain⟨b,ws,g1,g2,g3,g4,g5⟩:=k.own j es q;have zb:b≠a:=λe=>z (k.sep i j a ds es h q h1 (by rw[←e];exact g1))
   exact⟨b,ws,g1,g2,by rw[Ku zb];exact g3,g4,g5.mono sg⟩
 ·have nz:∀{m:Nat}{ts:List D},(Z.set i (some (Sl.pub (.list ds))))[m]?=some (some (.own ts))->Z[m]?=some (some (.own ts)):=λ{m ts} q=>by
   by_cases z:i=m
   ·subst z;have hl:i<Z.length:=(Qg.mp h).1;rw[QI hl]at q;cases q
   ·rw[Qp z]at q;exact q
  exact k.sep j l c es fs (nz q1) (nz q2) s1 s2
 ·have hl:i<Z.length:=(Qg.mp h).1
  have nz:∀{m:Nat}{s:Sl},(Z.set i (some (Sl.pub (.list ds))))[m]?=some (some s)->(∃d,s=.pub d)∨Z[m]?=some (some s):=λ{m s} q=>by
   by_cases z:i=m
   ·subst z;rw[QI hl]at q;cases q;exact .inl ⟨_,rfl⟩
   ·rw[Qp z]at q;exact .inr q
  refine k.dp.map (λm p d q=>?_) (λm es q=>?_) λm p d v fp q s r w n=>⟨r.mono sg (.refl _),λb mb=>⟨(w b mb).1,?_⟩⟩
  ·rcases nz q with ⟨_,e⟩|q
   ·cases e
   ·exact⟨q,rfl⟩
  ·rcases nz q with ⟨_,e⟩|q
   ·cases e
   ·exact⟨es,q,rfl⟩
  ·rw[Ku (λz=>by subst z;exact n i ds b h h1 mb)];exact(w b mb).2
inductive Res(α:Type) where
 |ok (a:α) (Z:UJ)|bad
abbrev M(α:Type):=UJ->Res α
def UQ{α:Type}(a:α):M α:=λZ=>.ok a Z
def U8{α:Type}(o:Option α):M α:=λZ=>match o with|some a=>.ok a Z|none=>.bad
def U6{α β:Type}(f:M α)(k:α->M β):M β:=λZ=>match f Z with | .ok a Z'=>k a Z' | .bad=>.bad
section
variable(K:Frag)(B G0:Hp)
def aft{α γ:Type}(R:Hp->γ->α->Prop)(r:Res α)(G:Hp)(σ:St)(Q:γ->Hp->Prop):Prop:=
 match r with
 |.ok d Z'=>∀v G' H',EOk K B G0 G' H' σ Z'->Same G G'->R G' v d->Q v H'
 |.bad=>False
def tM{α γ:Type}(R:Hp->γ->α->Prop)(f:M α):St->Hp->(γ->Hp->Prop)->Prop:=λσ H Q=>
 ∃G Z,EOk K B G0 G H σ Z/\aft K B G0 R (f Z) G σ Q
abbrev tD(f:M D):TE:=tM K B G0 (Rep K) f
abbrev tDs(f:M (List D)):TA:=tM K B G0 (Reps K) f
abbrev tBo(f:M Bool):TT:=tM K B G0 (λ_ b c=>b=c) f
abbrev tOi(f:M (Option Int)):TO:=tM K B G0 (λ_ b c=>b=c) f
end
section
variable{K:Frag}{B G0:Hp}{α β γ δ ε:Type}{R:Hp->γ->α->Prop}{S:Hp->δ->β->Prop}{T:Hp->ε->α->Prop}{σ:St}{H:Hp}
theorem aft.mono{r:Res α}{G G':Hp}{Q:γ->Hp->Prop}(e:Same G G')(h:aft K B G0 R r G σ Q):aft K B G0 R r G' σ Q:=by
 cases r with
 |ok d Z=>exact λv G2 H2 k s q=>h v G2 H2 k (e.trans s) q
 |bad=>exact h
theorem aft.done{d:α}{Z:UJ}{G G' H H':Hp}{v:γ}{Q:γ->Hp->Prop}(h:aft K B G0 R (.ok d Z) G σ Q)(k:EOk K B G0 G H σ Z)(e:Ext G H G' H')(r:R G' v d):Q v H':=
 h v G' H' (k.ext e) e.g r
theorem aft.now{d:α}{Z:UJ}{G H:Hp}{v:γ}{Q:γ->Hp->Prop}(h:aft K B G0 R (.ok d Z) G σ Q)(k:EOk K B G0 G H σ Z)(r:R G v d):Q v H:=
 h v G H k (.refl _) r
theorem aft.opt{o:Option α}{Z:UJ}{G:Hp}{Q:γ->Hp->Prop}(h:aft K B G0 R (U8 o Z) G σ Q):∃d,o=some d/\aft K B G0 R (.ok d Z) G σ Q:=by
 cases o with
 |none=>exact h.elim
 |some d=>exact⟨d,rfl,h⟩
theorem tM.bind{f:M α}{k:α->M β}{Q:δ->Hp->Prop}(h:tM K B G0 S (U6 f k) σ H Q) :
  tM K B G0 R f σ H (λv H1=>∃G Z d,EOk K B G0 G H1 σ Z/\R G v d/\aft K B G0 S (k d Z) G σ Q):=by
 obtain⟨G,Z,e,a⟩:=h;refine⟨G,Z,e,?_⟩;unfold U6 at a;cases q:f Z with
 |bad=>rw[q]at a;exact a.elim
 |ok d Z1=>rw[q]at a;exact λv G' H' e' s r=>⟨G',Z1,d,e',r,aft.mono s a⟩
theorem tM.bind2{α' γ':Type}{R':Hp->γ'->α'->Prop}{f:M α}{g:α->M α'}{k:α->α'->M β}{Q:δ->Hp->Prop}(mo:∀G G' v d,Same G G'->R G v d->R G' v d)
  (h:tM K B G0 S (U6 f λx=>U6 (g x) λy=>k x y) σ H Q) :
  tM K B G0 R f σ H (λv H1=>∃x,tM K B G0 R' (g x) σ H1 λu H2=>∃G Z y,EOk K B G0 G H2 σ Z/\R G v x/\R' G u y/\aft K B G0 S (k x y Z) G σ Q):=by
 obtain⟨G,Z,e,a⟩:=tM.bind (R:=R) h;refine⟨G,Z,e,?_⟩;cases q:f Z with
 |bad=>rw[q]at a;exact a.elim
 |ok d Z1=>
  rw[q]at a;intro v G' H' e' s r;obtain⟨G2,Z2,d2,e2,r2,a2⟩:=a v G' H' e' s r;refine⟨d2,G2,Z2,e2,?_⟩;unfold U6 at a2;cases q2:g d2 Z2 with
  |bad=>rw[q2]at a2;exact a2.elim
  |ok d3 Z3=>rw[q2]at a2;exact λu G3 H3 e3 s3 r3=>⟨G3,Z3,d3,e3,mo _ _ _ _ s3 r2,r3,aft.mono s3 a2⟩
end
theorem Lj{K:Frag}(G G':Hp)(v:V)(d:D)(e:Same G G')(r:Rep K G v d):Rep K G' v d:=r.mono e
theorem tM.two{K:Frag}{B G0:Hp}{β δ:Type}{S:Hp->δ->β->Prop}{σ:St}{H:Hp}{f g:M D}{k:D->D->M β}{Q:δ->Hp->Prop}{P:V->V->Hp->Prop}
  (h:tM K B G0 S (U6 f λx=>U6 g λy=>k x y) σ H Q)
  (i:∀v u H2 G Z x y,EOk K B G0 G H2 σ Z->Rep K G v x->Rep K G u y->aft K B G0 S (k x y Z) G σ Q->P v u H2) :
  tD K B G0 f σ H (λv H1=>tD K B G0 g σ H1 λu H2=>P v u H2):=by
 obtain⟨G,Z,e,a⟩:=tM.bind2 (R:=Rep K) (R':=Rep K) Lj h;refine⟨G,Z,e,?_⟩;cases q:f Z with
 |bad=>rw[q]at a;exact a.elim
 |ok d Z1=>
  rw[q]at a;intro v G' H' e' s r;obtain⟨x,G2,Z2,e2,a2⟩:=a v G' H' e' s r;refine⟨G2,Z2,e2,?_⟩;cases q2:g Z2 with
  |bad=>rw[q2]at a2;exact a2.elim
  |ok d3 Z3=>rw[q2]at a2;intro u G3 H3 e3 s3 r3;obtain⟨G4,Z4,y,e4,r4,r5,a5⟩:=a2 u G3 H3 e3 s3 r3;exact i v u H3 G4 Z4 x y e4 r4 r5 a5
theorem tM.one{K:Frag}{B G0:Hp}{α β γ δ:Type}{R:Hp->γ->α->Prop}{S:Hp->δ->β->Prop}{σ:St}{H:Hp}{f:M α}{k:α->M β}{Q:δ->Hp->Prop}{P:γ->Hp->Prop}
  (h:tM K B G0 S (U6 f k) σ H Q) (i:∀v H2 G Z x,EOk K B G0 G H2 σ Z->R G v x->aft K B G0 S (k x Z) G σ Q->P v H2):tM K B G0 R f σ H P:=by
 obtain⟨G,Z,e,a⟩:=tM.bind (R:=R) h;refine⟨G,Z,e,?_⟩;cases q:f Z with
 |bad=>rw[q]at a;exact a.elim
 |ok d Z1=>rw[q]at a;intro v G' H' e' s r;obtain⟨G2,Z2,d2,e2,r2,a2⟩:=a v G' H' e' s r;exact i v H' G2 Z2 d2 e2 r2 a2
section
variable{X:Cx}{B G0:Hp}{e a b:Uo}{pos:Pos}
theorem Kn{t t':TE}(h:PE X e t)(i:∀σ H Q,t' σ H Q->t σ H Q):PE X e t':=λpins s σ H Q I q=>h pins s σ H Q I (i σ H Q q)
theorem Yh{t t':TT}(h:PT X e t)(i:∀σ H Q,t' σ H Q->t σ H Q):PT X e t':=λpins s σ H Q I q=>h pins s σ H Q I (i σ H Q q)
theorem paof{es:List Uo}{t t':TA}(h:PA X es t)(i:∀σ H Q,t' σ H Q->t σ H Q):PA X es t':=λps pins s σ H Q I q=>h ps pins s σ H Q I (i σ H Q q)
theorem poof{eo:Option Uo}{t t':TO}(h:PO X eo t)(i:∀σ H Q,t' σ H Q->t σ H Q):PO X eo t':=λpins s σ H Q I q=>h pins s σ H Q I (i σ H Q q)
theorem Zr{st:Stmt}{t t':TS}(h:PS X st t)(i:∀D σ H,t' D σ H->t D σ H):PS X st t':=λpins s σ H D I q=>h pins s σ H D I (i D σ H q)
theorem NQ{st:List Stmt}{t t':TS}(h:PSs X st t)(i:∀D σ H,t' D σ H->t D σ H):PSs X st t':=λpins s σ H D I q=>h pins s σ H D I (i D σ H q)
def UI(i:Nat):M D:=λZ=>match Z[i]? with
 |some (some (.pub d))=>.ok d Z
 |some (some (.own ds))=>.ok (.list ds) (Z.set i (some (.pub (.list ds))))
 |_=>.bad
theorem Yb{i:Nat}(h:PE X e (K2 i)):PE X e (tD X.K B G0 (UI i)):=Kn h λσ H Q ⟨G,Z,k,a⟩=>by
 unfold UI at a;cases q:Z[i]? with
 |none=>rw[q]at a;exact a.elim
 |some o=>
  cases o with
  |none=>rw[q]at a;exact a.elim
  |some sl=>
   cases sl with
   |deep _ _=>rw[q]at a;exact a.elim
   |pub d=>rw[q]at a;obtain⟨v,h1,h2⟩:=k.pub i d q;exact⟨v,h1,a.now k h2⟩
   |own ds=>rw[q]at a;obtain⟨ad,G',h1,h2,h3,h4⟩:=k.publish q;exact⟨.ref ad,h1,a (.ref ad) G' H h4 h2 h3⟩
theorem Pa{v:V}{d:D}(h:PE X e (tC v))(r:∀G,Rep X.K G v d):PE X e (tD X.K B G0 (UQ d)):=Kn h λσ H Q ⟨G,Z,k,a⟩=>a.now k (r G)
theorem Mb{i:Int}{j}:PE X (.Constant (.int i) j pos) (tD X.K B G0 (UQ (.int i))):=Pa Dh λ_=>.int i
theorem Bl{i:Bool}{j}:PE X (.Constant (.bool i) j pos) (tD X.K B G0 (UQ (.bool i))):=Pa FD λ_=>.bl i
theorem Cm{j}:PE X (.Constant .none j pos) (tD X.K B G0 (UQ .none)):=Pa Dg λ_=>.non
theorem Dw{x:Str}{j}:PE X (.Constant (.str x) j pos) (tD X.K B G0 (UQ (.str x))):=Pa Df λ_=>.str x
def UN{β:Type}(op:D->D->Option β)(f g:M D):M β:=U6 f λx=>U6 g λy=>U8 (op x y)
def OpD(X:Cx)(f:Ui->Ui->Sem Ui)(op:D->D->Option D):Prop:=
 ∃r:R2,OpR X f r/\∀v u G H x y d Q,Same G H->Rep X.K G v x->Rep X.K G u y->op x y=some d->(∀w G' H',Ext G H G' H'->Rep X.K G' w d->Q w H')->r v u H Q
theorem Vw{op:Operator}{p:D->D->Option D}{f g:M D}(o:OpD X (binaryOp op) p)(ha:PE X a (tD X.K B G0 f))(hb:PE X b (tD X.K B G0 g)):PE X (.BinOp a op b pos) (tD X.K B G0 (UN p f g)):=by
 obtain⟨r,h,i⟩:=o;refine Kn (NW h ha hb) λσ H Q q=>?_;refine tM.two q λv u H2 G Z x y k rx ry a=>?_
 obtain⟨d,e,a⟩:=a.opt;exact i v u G H2 x y d Q k.gh rx ry e λw G' H' ex rw=>a.done k ex rw
theorem OpD.or{f:Ui->Ui->Sem Ui}{p q:D->D->Option D}(h:OpD X f p)(h':OpD X f q):OpD X f (λx y=>(p x y).orElse λ_=>q x y):=by
 obtain⟨r,h1,i1⟩:=h;obtain⟨r',h2,i2⟩:=h';refine⟨_,h1.or h2,λv u G H x y d Q s rx ry e k=>?_⟩;dsimp only at e;cases z:p x y with
 |some d'=>rw[z]at e;have e':d'=d:=Q5 e;subst e';exact .inl (i1 v u G H x y d' Q s rx ry z k)
 |none=>rw[z]at e;exact .inr (i2 v u G H x y d Q s rx ry e k)
def oII(g:Int->Int->Option D):D->D->Option D
 |.int i,.int j=>g i j
 |_,_=>none
theorem Li{g:Int->Int->Option D}{x y d:D}(e:oII g x y=some d):∃i j,x=.int i/\y=.int j/\g i j=some d:=by
 unfold oII at e;split at e
 ·exact⟨_,_,rfl,rfl,e⟩
 ·cases e
theorem OpD.int{f:Ui->Ui->Sem Ui}{C:Int->Int->Prop}{g:Int->Int->V}{p:Int->Int->Option D}(h:OpR X f (rI C g))(i:∀i j d,p i j=some d->C i j/\∀G,Rep X.K G (g i j) d):OpD X f (oII p):=by refine⟨_,h,λv u G H x y d Q s rx ry e k=>?_⟩;obtain⟨a,b,rfl,rfl,e⟩:=Li e;obtain⟨c,r⟩:=i a b d e;exact⟨a,b,rx.int_inv,ry.int_inv,c,k _ G H (.refl s) (r G)⟩
theorem OpD.int0{f:Ui->Ui->Sem Ui}{g:Int->Int->V}{p:Int->Int->D}(h:OpR X f (rI0 g))(i:∀i j G,Rep X.K G (g i j) (p i j)):OpD X f (oII λi j=>some (p i j)):=by refine⟨_,h,λv u G H x y d Q s rx ry e k=>?_⟩;obtain⟨a,b,rfl,rfl,e⟩:=Li e;cases e;exact⟨a,b,rx.int_inv,ry.int_inv,k _ G H (.refl s) (i a b G)⟩
end
section
variable{X:Cx}{B G0:Hp}{e a b c:Uo}{pos:Pos}
theorem DX:OpD X (binaryOp .Add) (oII λi j=>some (.int (i+j))):=.int0 DM λ_ _ _=>.int _
theorem DW:OpD X (binaryOp .Sub) (oII λi j=>some (.int (i-j))):=.int0 DK λ_ _ _=>.int _
def Yq(i j:Int):Option D:=if(-(2 ^ 64)<i/\i<2 ^ 64)∨(-(2 ^ 64)<j/\j<2 ^ 64)then some (.int (i*j))else none
theorem Ck:OpD X (binaryOp .Mult) (oII Yq):=.int DJ λi j d h=>by
 unfold Yq at h;split at h
 ·rename_i c;cases h;exact⟨c,λ_=>.int _⟩
 ·cases h
def WJ(i j:Int):Option D:=if 0<j then some (.int (i % j))else none
theorem DV:OpD X (binaryOp .Mod) (oII WJ):=.int DI λi j d h=>by
 unfold WJ at h;split at h
 ·rename_i c;cases h;exact⟨c,λ_=>.int _⟩
 ·cases h
theorem BP:OpR X (binaryOp .FloorDiv) (rI (λi j=>0<j/\j<2 ^ 64) λi j=>.int (i / j)):=opI λi j _ _ _ _ _ hc q=>by
 have h1:(0:Int)<j:=hc.1;have h2:j<2 ^ 64:=hc.2;refine floordiv_int (by omega) (by rw[Int.fdiv_eq_ediv_of_nonneg i (by omega)];exact q) (.inl (PyProof.noPylong_of_log2 ?_));have h0:j.natAbs≠0:=by omega
 have:j.natAbs.log2<64:=(Nat.log2_lt h0).mpr (by omega);omega
def WK(i j:Int):Option D:=if 0<j/\j<2 ^ 64 then some (.int (i / j))else none
theorem DU:OpD X (binaryOp .FloorDiv) (oII WK):=.int BP λi j d h=>by
 unfold WK at h;split at h
 ·rename_i c;cases h;exact⟨c,λ_=>.int _⟩
 ·cases h
def WI(i j:Int):Option D:=if 0<=j/\j<=1000000/\i.natAbs<2 ^ 64 then some (.int (i ^ j.toNat))else none
theorem DT:OpD X (binaryOp .Pow) (oII WI):=.int DH λi j d h=>by
 unfold WI at h;split at h
 ·rename_i c;cases h;exact⟨c,λ_=>.int _⟩
 ·cases h
theorem lim:(1000000:Nat)<=Up:=by decide
def R1:D->D->Option D
 |.str x,.str y=>if x.length+y.length<=1000000 then some (.str (x++y))else none
 |_,_=>none
theorem Cj:OpD X (binaryOp .Add) R1:=by
 refine⟨_,jr,λv u G H x y d Q s rx ry e k=>?_⟩;unfold R1 at e;split at e
 ·split at e
  ·rename_i c;cases e;exact⟨_,_,rx.str_inv,ry.str_inv,QR c lim,k _ G H (.refl s) (.str _)⟩
  ·cases e
 ·cases e
def F3(K:Frag):R2:=λx y H Q=>∃l b xs zs,x=.ref l/\y=.ref b/\SqL K H l xs/\SqL K H b zs/\xs.length+zs.length<=Up/\∀p,H p=none->Q (.ref p) (upd H p (.lst (xs++zs)))
theorem Ci:OpR X (binaryOp .Add) (F3 X.K):=by
 intro pins s σ H x y v u Q I rx ry h;obtain⟨l,b,xs,zs,rfl,rfl,hH,hB,hz,q⟩:=h;cases rx;cases ry;obtain⟨its,r,⟨⟨c1,d1,t1,s1⟩,n1,e1,ec1,ed1,et1⟩,z1⟩:=I.list hH;obtain⟨its2,r2,⟨⟨c2,d2,t2,s2⟩,n2,e2,ec2,ed2,et2⟩,z2⟩:=I.list hB;simp only at ec1 ed1 et1 ec2 ed2 et2;subst ec1 ed1 et1 ec2 ed2 et2;have hl:=r.length;have hl2:=r2.length;refine concat_meets ⟨_,e1,rfl⟩ ⟨_,e2,rfl⟩ noFill_list_add seq_list_add PySem.F.slot_list_add PySem.F.entry_list_add (PySem.F.args_list_add_2 _ _) (list_addW l b its.toArray its2.toArray n1 n2 none none s1 s2 (by rw[QU,QU];omega)) ⟨e1,e2,?_⟩;have ea:its.toArray++its2.toArray=(its++its2).toArray:=by simp
 rw[ea];exact⟨.ref _,_,I.lnew (t':=s.toks) (r.append r2) (by rw[Qi];omega),rfl,q _ I.fresh⟩
theorem F2(a:Int)(t:Tok)(l:Ul)(items:Array Ui)(n:Nat)(sl:Array (Option Ui)) :
  Meets (Builtin.«int.__rmul__» ⟨[.int a t,.ref l],[]⟩) (λ_ R s=>s.heap.get? l=some {cls:=.type "list", dict:=none,data:=.seq items n,slots:=sl}/\R (.ok (.ret Value.notImplemented)) s):=
 .of_wp λprog w A R s h=>by obtain⟨hp,g,d,tk,os⟩:=s;obtain⟨hl,h⟩:=h;wp_walk;exact⟨_,rfl,h⟩
theorem mulW(l:Ul)(items:Array Ui)(n:Nat)(x:Int)(u:Tok)(sl:Array (Option Ui))(hc0:¬(!Builtin.List.listFitsIndex x)=true)(hc1:¬items.size*x.toNat > (2 ^ 63-1) / 8)(hc2:¬Builtin.List.listTooLong (items.size*x.toNat)=true) :
  Meets (Builtin.«list.__mul__» ⟨[.ref l,.int x u],[]⟩) (λ_ R s=>s.heap.get? l=some {cls:=.type "list", dict:=none,data:=.seq items n,slots:=sl}/\R (.ok (.ret (Value.ref s.heap.objs.size))) {s with heap:=s.heap.push {cls:=Value.type "list", data:=Data.seq (List.foldl (λx1 x2=>x1++x2) #[] (Uu (if items.isEmpty=true then 0 else x.toNat) items))},toks:=s.toks}):=
 .of_wp λprog w A R s h=>by
  obtain⟨hp,g,d,tk,os⟩:=s;obtain⟨hl,h⟩:=h;have hsz:=AutoListH.joined_fits hc2
  wp_walk;refine wpAny_ite_false (QT (Nat.not_lt.mpr hsz)) ?_;wp_walk;exact⟨_,rfl,h⟩
def F1(K:Frag):R2:=λx y H Q=>∃l k xs,x=.ref l/\y=.int k/\SqL K H l xs /\ -(2 ^ 63)<=k/\k<2 ^ 63/\xs.length*k.toNat<=Up /\
 ∀p,H p=none->Q (.ref p) (upd H p (.lst (Uu k.toNat xs).flatten))
theorem Lh:OpR X (binaryOp .Mult) (F1 X.K):=by
 intro pins s σ H x y v u Q I rx ry h;obtain⟨l,k,xs,rfl,rfl,hH,h1,h2,hz,q⟩:=h;cases rx;obtain⟨t,rfl⟩:=ry;obtain⟨its,r,⟨⟨c1,d1,t1,sl⟩,n,e,ec1,ed1,et1⟩,z⟩:=I.list hH;simp only at ec1 ed1 et1;subst ec1 ed1 et1;have hl:=r.length;have hlen:its.toArray.size*k.toNat<=Up:=by rw[QU,←hl];exact hz
 have hcap:¬its.toArray.size*k.toNat > (2 ^ 63-1) / 8:=by
  have:(Up:Nat)<=(2 ^ 63-1) / 8:=by decide
  omega
 have hfit:¬(!Builtin.List.listFitsIndex k)=true:=by rw[fitsIndex_both h1 h2];exact JH
 have hlong:¬Builtin.List.listTooLong (its.toArray.size*k.toNat)=true:=by rw[A0 hlen];exact JH
 have hnew:List.foldl (λx1 x2=>x1++x2) #[] (Uu (if its.toArray.isEmpty=true then 0 else k.toNat) its.toArray)=(Uu k.toNat its).flatten.toArray:=by
  have f0:∀m:Nat,List.foldl (λx1 x2=>x1++x2) #[] (Uu m its.toArray)=(Uu m its).flatten.toArray:=λm=>by have:=HE its m [];rw[Q7]at this;exact this
  rw[f0];cases its with
  |nil=>simp
  |cons a r'=>rw[if_neg (by simp)]
 refine wpAny_binaryOp_repeat_ref (T:= "list") (U:= "int") (by decide) ⟨_,e,rfl⟩ (λs'=>typeIs_int s' k t) noFill_list_mul F.fills_int_mul F.slot_int_rmul repeat_list F.slot_int_index.lookup
  (call_meets F.slot_int_rmul (typeIs_int s k t) F.entry_int_rmul (F.args_int_rmul_2 _ _) (F2 k t l its.toArray n sl)
   ⟨e,rfl,⟨_,e,rfl⟩,call_meets F.slot_list_mul ⟨_,e,rfl⟩ F.entry_list_mul (F.args_list_mul_2 _ _) (mulW l its.toArray n k t sl hfit hcap hlong) ⟨e,?_⟩⟩)
 rw[hnew];exact⟨.ref _,_,I.lnew (t':=s.toks) (r.rep k.toNat) (by rw[Bu,Nat.mul_comm];exact hz),rfl,q _ I.fresh⟩
def RZ:D->D->Option D
 |.list x,.list y=>if x.length+y.length<=1000000 then some (.list (x++y))else none
 |_,_=>none
theorem Ch:OpD X (binaryOp .Add) RZ:=by
 refine⟨_,Ci,λv u G H x y d Q s rx ry e k=>?_⟩;unfold RZ at e;split at e
 ·split at e
  ·rename_i c;cases e;obtain⟨l,vs,rfl,h1,r1⟩:=rx.lst_inv;obtain⟨b,ws,rfl,h2,r2⟩:=ry.lst_inv;refine⟨l,b,vs,ws,rfl,rfl,s.seq h1,s.seq h2,by rw[r1.length,r2.length];exact QR c lim,λp hp=>k _ _ _ (Ext.new s hp) ?_⟩;exact .lst (SqL.of K9) ((r1.append r2).mono (Zx (s.free hp)))
  ·cases e
 ·cases e
theorem Reps.rep{K:Frag}{G:Hp}{vs:List V}{ds:List D}(r:Reps K G vs ds):∀n:Nat,Reps K G (Uu n vs).flatten (Uu n ds).flatten
 |0=>.nil
 |n+1=>by rw[QW,QW,QN,QN];exact r.append (r.rep n)
def RY:D->D->Option D
 |.list x,.int k=>if -1000000<=k/\k<=1000000/\x.length*k.toNat<=1000000 then some (.list (Uu k.toNat x).flatten)else none
 |_,_=>none
theorem Cg:OpD X (binaryOp .Mult) RY:=by
 refine⟨_,Lh,λv u G H x y d Q s rx ry e k=>?_⟩;unfold RY at e;split at e
 ·split at e
  ·rename_i c;cases e;obtain⟨l,vs,rfl,h1,r1⟩:=rx.lst_inv;refine⟨l,_,vs,rfl,ry.int_inv,s.seq h1,by omega,by omega,by rw[r1.length];exact QR c.2.2 lim,λp hp=>k _ _ _ (Ext.new s hp) ?_⟩;exact .lst (SqL.of K9) ((r1.rep _).mono (Zx (s.free hp)))
  ·cases e
 ·cases e
def UW:D->D->Option D
 |.int i,.int j=>some (.int (i+j))
 |.str x,.str y=>if x.length+y.length<=1000000 then some (.str (x++y))else none
 |.list x,.list y=>if x.length+y.length<=1000000 then some (.list (x++y))else none
 |_,_=>none
def KD:D->D->Option D
 |.int i,.int j=>some (.int (i-j))
 |_,_=>none
def Ke:D->D->Option D
 |.int i,.int j=>Yq i j
 |.list x,.int k=>if -1000000<=k/\k<=1000000/\x.length*k.toNat<=1000000 then some (.list (Uu k.toNat x).flatten)else none
 |_,_=>none
def ZS:D->D->Option D
 |.int i,.int j=>WJ i j
 |_,_=>none
def X5:D->D->Option D
 |.int i,.int j=>WK i j
 |_,_=>none
def X4:D->D->Option D
 |.int i,.int j=>WI i j
 |_,_=>none
theorem OpD.congr{f:Ui->Ui->Sem Ui}{p q:D->D->Option D}(h:OpD X f p)(e:∀x y,q x y=p x y):OpD X f q:=by
 have:q=p:=by funext x y;exact e x y
 rw[this];exact h
theorem NZ:OpD X (binaryOp .Add) UW:=(DX.or (Cj.or Ch)).congr λx y=>by cases x<;>cases y<;>first|rfl|(simp only[UW,oII,R1,RZ,Option.orElse];done)|(simp only[UW,oII,R1,RZ,Option.orElse];split<;>rfl)
theorem NY:OpD X (binaryOp .Sub) KD:=DW.congr λx y=>by cases x<;>cases y<;>rfl
theorem NX:OpD X (binaryOp .Mult) Ke:=(Ck.or Cg).congr λx y=>by cases x<;>cases y<;>first|rfl|(simp only[Ke,oII,RY,Option.orElse];done)|(simp only[Ke,oII,RY,Option.orElse];split<;>first|rfl|assumption)
theorem F0:OpD X (binaryOp .Mod) ZS:=DV.congr λx y=>by cases x<;>cases y<;>rfl
theorem FZ:OpD X (binaryOp .FloorDiv) X5:=DU.congr λx y=>by cases x<;>cases y<;>rfl
theorem FY:OpD X (binaryOp .Pow) X4:=DT.congr λx y=>by cases x<;>cases y<;>rfl
end
section
variable{X:Cx}{B G0:Hp}{e a b c:Uo}{pos:Pos}
def OpB(X:Cx)(f:Ui->Ui->Sem Ui)(op:D->D->Option Bool):Prop:=
 ∃r:R2,OpR X f r/\∀v u G H x y d Q,Same G H->Rep X.K G v x->Rep X.K G u y->op x y=some d->Q (.bl d) H->r v u H Q
theorem OpB.or{f:Ui->Ui->Sem Ui}{p q:D->D->Option Bool}(h:OpB X f p)(h':OpB X f q):OpB X f (λx y=>(p x y).orElse λ_=>q x y):=by
 obtain⟨r,h1,i1⟩:=h;obtain⟨r',h2,i2⟩:=h';refine⟨_,h1.or h2,λv u G H x y d Q s rx ry e k=>?_⟩;dsimp only at e;cases z:p x y with
 |some d'=>rw[z]at e;have e':d'=d:=Q5 e;subst e';exact .inl (i1 v u G H x y d' Q s rx ry z k)
 |none=>rw[z]at e;exact .inr (i2 v u G H x y d Q s rx ry e k)
theorem OpB.congr{f:Ui->Ui->Sem Ui}{p q:D->D->Option Bool}(h:OpB X f p)(e:∀x y,q x y=p x y):OpB X f q:=by
 have:q=p:=by funext x y;exact e x y
 rw[this];exact h
theorem OC{op:CmpOp}{p:D->D->Option Bool}{f g:M D}(o:OpB X (Us op) p)(ha:PE X a (tD X.K B G0 f))(hb:PE X b (tD X.K B G0 g))(hm:behindInMarks op b=false) :
  PT X (.Compare a [op] [b] pos) (tBo X.K B G0 (UN p f g)):=by
 obtain⟨r,h,i⟩:=o;refine Yh (OG h ha hb hm) λσ H Q q=>?_;refine tM.two q λv u H2 G Z x y k rx ry a=>?_
 obtain⟨d,e,a⟩:=a.opt;exact i v u G H2 x y d _ k.gh rx ry e ⟨d,rfl,a.now k rfl⟩
def UZ{α β:Type}(h:α->β)(f:M α):M β:=U6 f λx=>UQ (h x)
theorem tM.map{K:Frag}{α β γ δ:Type}{R:Hp->γ->α->Prop}{S:Hp->δ->β->Prop}{σ:St}{H:Hp}{h:α->β}{f:M α}{Q:δ->Hp->Prop}(j:γ->δ)(q:tM K B G0 S (UZ h f) σ H Q)
  (i:∀G v x,R G v x->S G (j v) (h x)):tM K B G0 R f σ H (λv H'=>Q (j v) H'):=
 tM.one (R:=R) (f:=f) q λv H2 G Z x k r a=>aft.now (show aft K B G0 S (.ok (h x) Z) G σ Q from a) k (i G v x r)
theorem tBo.val{K:Frag}{σ:St}{H:Hp}{f:M Bool}{Q:VK}(q:tD K B G0 (UZ Uw f) σ H Q):tBo K B G0 f σ H (λb H'=>Q (.bl b) H'):=
 tM.map (R:=λ_ b c=>b=c) V.bl q λG v x e=>by rw[e];exact .bl x
theorem Cf{op:CmpOp}{p:D->D->Option Bool}{f g:M D}(o:OpB X (Us op) p)(ha:PE X a (tD X.K B G0 f))(hb:PE X b (tD X.K B G0 g))(hm:behindInMarks op b=false) :
  PE X (.Compare a [op] [b] pos) (tD X.K B G0 (UZ Uw (UN p f g))):=by
 obtain⟨r,h,i⟩:=o;refine Kn (Ll h ha hb hm) λσ H Q q=>?_;refine tM.two (tBo.val q) λv u H2 G Z x y k rx ry a=>?_
 obtain⟨d,e,a⟩:=a.opt;exact i v u G H2 x y d _ k.gh rx ry e (a.now k rfl)
def V1(p q:D->D->Option Bool)(f g h:M D):M Bool:=U6 f λx=>U6 g λy=>U6 (U8 (p x y)) λt=>if t=true then U6 h λz=>U8 (q y z)else UQ false
theorem qv{op op':CmpOp}{p q:D->D->Option Bool}{f g h:M D}(o:OpB X (Us op) p)(o':OpB X (Us op') q)(ha:PE X a (tD X.K B G0 f))(hb:PE X b (tD X.K B G0 g))(hc:PE X c (tD X.K B G0 h))
  (hm:lastMarks [op,op'] [b,c]=false:=by with_unfolding_all rfl):PT X (.Compare a [op,op'] [b,c] pos) (tBo X.K B G0 (V1 p q f g h)):=by
 obtain⟨r,h1,i⟩:=o;obtain⟨r',h2,i'⟩:=o';refine Yh (A3 h1 h2 ha hb hc hm) λσ H Q w=>?_;refine tM.two w λv u H2 G Z x y k rx ry a=>?_
 cases z:p x y with
 |none=>rw[z]at a;exact a.elim
 |some t=>
  rw[z]at a;refine i v u G H2 x y t _ k.gh rx ry z ⟨t,rfl,?_⟩;cases t with
  |false=>rw[QB JH];exact⟨false,rfl,aft.now a k rfl⟩
  |true=>
   rw[Qm rfl];refine⟨G,Z,k,?_⟩;have a4:aft X.K B G0 (λ_ (b:Bool) c=>b=c) ((U6 h λz=>U8 (q y z)) Z) G σ Q:=a;unfold U6 at a4;cases z2:h Z with
   |bad=>rw[z2]at a4;exact a4.elim
   |ok d Z1=>rw[z2]at a4;intro w G5 H5 k5 s5 r5;obtain⟨t2,e2,a6⟩:=a4.opt;exact i' u w G5 H5 y d t2 _ k5.gh (ry.mono s5) r5 e2 ⟨t2,rfl,a6 t2 G5 H5 k5 s5 rfl⟩
theorem qu{op op':CmpOp}{p q:D->D->Option Bool}{f g h:M D}(o:OpB X (Us op) p)(o':OpB X (Us op') q)(ha:PE X a (tD X.K B G0 f))(hb:PE X b (tD X.K B G0 g))(hc:PE X c (tD X.K B G0 h))
  (hm:lastMarks [op,op'] [b,c]=false:=by with_unfolding_all rfl):PE X (.Compare a [op,op'] [b,c] pos) (tD X.K B G0 (UZ Uw (V1 p q f g h))):=by
 obtain⟨r,h1,i⟩:=o;obtain⟨r',h2,i'⟩:=o';refine Kn (A4 h1 h2 ha hb hc hm) λσ H Q w=>?_;refine tM.two (tBo.val w) λv u H2 G Z x y k rx ry a=>?_
 cases z:p x y with
 |none=>rw[z]at a;exact a.elim
 |some t=>
  rw[z]at a;refine i v u G H2 x y t _ k.gh rx ry z ⟨t,rfl,?_⟩;cases t with
  |false=>rw[QB JH];exact aft.now (v:=false) a k rfl
  |true=>
   rw[Qm rfl];refine⟨G,Z,k,?_⟩;have a4:aft X.K B G0 (λ_ (b:Bool) c=>b=c) ((U6 h λz=>U8 (q y z)) Z) G σ (λb H'=>Q (.bl b) H'):=a;unfold U6 at a4;cases z2:h Z with
   |bad=>rw[z2]at a4;exact a4.elim
   |ok d Z1=>rw[z2]at a4;intro w G5 H5 k5 s5 r5;obtain⟨t2,e2,a6⟩:=a4.opt;exact i' u w G5 H5 y d t2 _ k5.gh (ry.mono s5) r5 e2 (a6 t2 G5 H5 k5 s5 rfl)
def oIB(g:Int->Int->Bool):D->D->Option Bool
 |.int i,.int j=>some (g i j)
 |_,_=>none
theorem OpB.int{f:Ui->Ui->Sem Ui}{g:Int->Int->Bool}(h:OpR X f (rI0 λi j=>.bl (g i j))):OpB X f (oIB g):=by
 refine⟨_,h,λv u G H x y d Q s rx ry e k=>?_⟩;unfold oIB at e;split at e
 ·cases e;exact⟨_,_,rx.int_inv,ry.int_inv,k⟩
 ·cases e
theorem B_lt:OpB X (Us .Lt) (oIB λi j=>decide (i<j)):=.int Fo
theorem B_le:OpB X (Us .LtE) (oIB λi j=>decide (i<=j)):=.int Fn
theorem B_gt:OpB X (Us .Gt) (oIB λi j=>decide (j<i)):=.int Fm
theorem B_ge:OpB X (Us .GtE) (oIB λi j=>decide (j<=i)):=.int Fl
mutual
theorem Y3{pins:List (Ul×Obj)}{s:Uj}{σ:St}{G H:Hp}(I:Inv X pins σ H s)(sg:Same G H):∀{v:V}{d:D}{u:Ui},Rep X.K G v d->RelV v u->d.canLay0=true->∃as,Reads s.heap u d as
 |_,_,_,.non,r,_=>by cases r;exact⟨_,.none⟩
 |_,_,_,.bl b,r,_=>by cases r;exact⟨_,.bool b⟩
 |_,_,_,.int i,r,_=>by obtain⟨t,rfl⟩:=r;exact⟨_,.int i t⟩
 |_,_,_,.str x,r,_=>by obtain⟨t,rfl⟩:=r;exact⟨_,.str x t⟩
 |_,_,_,.lst h q,r,c=>by cases r;obtain⟨its,rv,⟨o,n,e,hc,_,hd⟩,hz⟩:=I.list (sg.seq h);obtain⟨as,ra⟩:=readsAll_of I sg q rv (show Uz _=true by simpa[PyData.canLay0]using c);exact⟨_,.list e hc hd (by simpa using ra)⟩
 |_,_,_,.tup h q,r,c=>by cases r;obtain⟨its,rv,p,hz⟩:=I.tuple (YZ sg h);obtain⟨o,e,hc,n,hd⟩:=p;obtain⟨as,ra⟩:=readsAll_of I sg q rv (show Uz _=true by simpa[PyData.canLay0]using c);exact⟨_,.tuple e hc hd (by simpa using ra)⟩
 |_,_,_,.dic h,r,c=>by simp[PyData.canLay0]at c
 |_,_,_,.exc _ _ _ _,r,c=>by simp[PyData.canLay0]at c
 |_,_,_,.dct _ _ _ _ _,r,c=>by simp[PyData.canLay0]at c
 |_,_,_,.dtt _ _ _ _,r,c=>by simp[PyData.canLay0]at c
theorem readsAll_of{pins:List (Ul×Obj)}{s:Uj}{σ:St}{G H:Hp}(I:Inv X pins σ H s)(sg:Same G H):∀{vs:List V}{ds:List D}{us:List Ui},Reps X.K G vs ds->Vals vs us->Uz ds=true->∃as,ReadsAll s.heap us ds as
 |_,_,_,.nil,r,_=>by cases r;exact⟨_,.nil⟩
 |_,_,_,.cons h t,r,c=>by
  cases r with
  |cons r1 r2=>have c':=c;rw[Uz,Ji]at c';obtain⟨as,ra⟩:=Y3 I sg h r1 c'.1;obtain⟨bs,rb⟩:=readsAll_of I sg t r2 c'.2;exact⟨_,.cons ra rb⟩
end
def oEq(x y:D):Option Bool:=if x.canLay0=true/\y.canLay0=true/\x.depth<=60 then some (UB x y)else none
def oNe(x y:D):Option Bool:=if x.canLay0=true/\y.canLay0=true/\x.depth<=60 then some (!UB x y)else none
theorem B_eq(hu:X.A.units+64<cLine):OpB X (Us .Eq) oEq:=by
 refine⟨λv u H Q=>∃G x y d,Same G H/\Rep X.K G v x/\Rep X.K G u y/\oEq x y=some d/\Q (.bl d) H,?_,λv u G H x y d Q s rx ry e k=>⟨G,x,y,d,s,rx,ry,e,k⟩⟩;intro pins s σ H x y v u Q I rx ry ⟨G,dx,dy,d,sg,px,py,e,q⟩;unfold oEq at e;split at e
 ·rename_i c;cases e;obtain⟨as,ra⟩:=Y3 I sg px rx c.1;obtain⟨bs,rb⟩:=Y3 I sg py ry c.2.1;exact SeqAt.compareEq_reads ra rb c.1 c.2.1 (by have:=c.2.2;omega) ⟨.bl _,H,I,rfl,q⟩
 ·cases e
theorem B_ne(hu:X.A.units+64<cLine):OpB X (Us .NotEq) oNe:=by
 refine⟨λv u H Q=>∃G x y d,Same G H/\Rep X.K G v x/\Rep X.K G u y/\oNe x y=some d/\Q (.bl d) H,?_,λv u G H x y d Q s rx ry e k=>⟨G,x,y,d,s,rx,ry,e,k⟩⟩;intro pins s σ H x y v u Q I rx ry ⟨G,dx,dy,d,sg,px,py,e,q⟩;unfold oNe at e;split at e
 ·rename_i c;cases e;obtain⟨as,ra⟩:=Y3 I sg px rx c.1;obtain⟨bs,rb⟩:=Y3 I sg py ry c.2.1;exact SeqAt.compareNe_reads ra rb c.1 c.2.1 (by have:=c.2.2;omega) ⟨.bl _,H,I,rfl,q⟩
 ·cases e
def isNon:D->Bool
 |.none=>true
 |_=>false
theorem Rep.isNon{K:Frag}{G:Hp}{v:V}{d:D}(r:Rep K G v d):DL.isNon d=decide (v=.non):=by cases r<;>simp[DL.isNon]
end
section
variable{X:Cx}{B G0:Hp}{e a b c:Uo}{pos:Pos}{es rest:List Uo}
theorem tM.nx{K:Frag}{α β γ δ:Type}{R:Hp->γ->α->Prop}{S:Hp->δ->β->Prop}{σ:St}{G H:Hp}{Z:UJ}{f:M α}{g:α->M β}{Q:δ->Hp->Prop}{P:γ->Hp->Prop}
  (k:EOk K B G0 G H σ Z) (a:aft K B G0 S (U6 f g Z) G σ Q) (i:∀v H' G' Z' x,EOk K B G0 G' H' σ Z'->Same G G'->R G' v x->aft K B G0 S (g x Z') G' σ Q->P v H'):tM K B G0 R f σ H P:=by
 refine⟨G,Z,k,?_⟩;unfold U6 at a;cases q:f Z with
 |bad=>rw[q]at a;exact a.elim
 |ok d Z1=>rw[q]at a;exact λv G' H' e s r=>i v H' G' Z1 d e s r (aft.mono s a)
def KW(f g:M Bool):M Bool:=U6 f λt=>if t=true then g else UQ false
def mOr(f g:M Bool):M Bool:=U6 f λt=>if t=true then UQ true else g
def KN(f:M Bool):M Bool:=UZ (λt=>!t) f
theorem Ce{K:Frag}{f g:M Bool}{σ:St}{H:Hp}{Q:Bool->Hp->Prop}(q:tBo K B G0 (KW f g) σ H Q):tAnd (tBo K B G0 f) (tBo K B G0 g) σ H Q:=
 tM.one (R:=λ_ b c=>b=c) q λv H2 G Z x k r a=>by
  have r:v=x:=r;subst r;cases v with
  |true=>exact⟨G,Z,k,a⟩
  |false=>exact aft.now (v:=false) a k rfl
theorem DS{K:Frag}{f g:M Bool}{σ:St}{H:Hp}{Q:Bool->Hp->Prop}(q:tBo K B G0 (mOr f g) σ H Q):tOr (tBo K B G0 f) (tBo K B G0 g) σ H Q:=
 tM.one (R:=λ_ b c=>b=c) q λv H2 G Z x k r a=>by
  have r:v=x:=r;subst r;cases v with
  |false=>exact⟨G,Z,k,a⟩
  |true=>exact aft.now (v:=true) a k rfl
theorem pwof{t t':TT}(h:PW X e t)(i:∀σ H Q,t' σ H Q->t σ H Q):PW X e t':=λwh pins s σ H Q I q=>h wh pins s σ H Q I (i σ H Q q)
theorem BO{f:M Bool}(ha:PT X a (tBo X.K B G0 f)):PW X (.BoolOp .And [a] pos) (tBo X.K B G0 f):=Bf ha
theorem Cd{f:M Bool}(ha:PT X a (tBo X.K B G0 f)):PW X (.BoolOp .Or [a] pos) (tBo X.K B G0 f):=Dc ha
theorem Cc{f g:M Bool}(ha:PT X a (tBo X.K B G0 f))(hb:PW X (.BoolOp .And (b::rest) pos) (tBo X.K B G0 g)):PW X (.BoolOp .And (a::b::rest) pos) (tBo X.K B G0 (KW f g)):=pwof (Db ha hb) λ_ _ _ q=>Ce q
theorem DR{f g:M Bool}(ha:PT X a (tBo X.K B G0 f))(hb:PW X (.BoolOp .Or (b::rest) pos) (tBo X.K B G0 g)):PW X (.BoolOp .Or (a::b::rest) pos) (tBo X.K B G0 (mOr f g)):=pwof (FA ha hb) λ_ _ _ q=>DS q
theorem Cb{f:M Bool}(ha:PT X a (tBo X.K B G0 f)):PT X (.UnaryOp .Not a pos) (tBo X.K B G0 (KN f)):=Yh (Da ha) λσ H Q q=>tM.map (R:=λ_ b c=>b=c) (λt=>!t) q λ_ v x e=>by rw[e]
def Z9(f:M D):M Bool:=U6 f λx=>match x with | .bool t=>UQ t|_=>λ_=>.bad
theorem Ca{f:M D}(h:PE X e (tD X.K B G0 f))(he:∀whole,isTrue e X.env whole=(do let v ←whole;standAt e.pos;holding [v] (truthy v)):=by intro _;rfl):PT X e (tBo X.K B G0 (Z9 f)):=
 Yh (Dd h he) λσ H Q q=>tM.one (R:=Rep X.K) q λv H2 G Z x k r a=>by
  cases x with
  |bool t=>exact⟨t,r.bl_inv,aft.now (v:=t) a k rfl⟩
  |_=>exact a.elim
def VR(f g:M D):M D:=U6 f λx=>match x with | .bool true=>g | .bool false=>UQ (.bool false)|_=>λ_=>.bad
def YR(f g:M D):M D:=U6 f λx=>match x with | .bool true=>UQ (.bool true) | .bool false=>g|_=>λ_=>.bad
def RX(f:M D):M D:=U6 f λx=>match x with | .bool t=>UQ (.bool (!t))|_=>λ_=>.bad
theorem D9{f g:M D}(ha:PE X a (tD X.K B G0 f))(hb:PE X (.BoolOp .And (b::rest) pos) (tD X.K B G0 g)):PE X (.BoolOp .And (a::b::rest) pos) (tD X.K B G0 (VR f g)):=
 Kn (E8 ha hb) λσ H Q q=>tM.one (R:=Rep X.K) q λv H2 G Z x k r a=>by
  cases x with
  |bool t=>
   refine⟨t,r.bl_inv,?_⟩;cases t with
   |true=>exact⟨G,Z,k,a⟩
   |false=>exact aft.now a k (.bl false)
  |_=>exact a.elim
theorem Ey{f g:M D}(ha:PE X a (tD X.K B G0 f))(hb:PE X (.BoolOp .Or (b::rest) pos) (tD X.K B G0 g)):PE X (.BoolOp .Or (a::b::rest) pos) (tD X.K B G0 (YR f g)):=
 Kn (Fx ha hb) λσ H Q q=>tM.one (R:=Rep X.K) q λv H2 G Z x k r a=>by
  cases x with
  |bool t=>
   refine⟨t,r.bl_inv,?_⟩;cases t with
   |false=>exact⟨G,Z,k,a⟩
   |true=>exact aft.now a k (.bl true)
  |_=>exact a.elim
theorem D8{op}{f:M D}(h:PE X a (tD X.K B G0 f)):PE X (.BoolOp op [a] pos) (tD X.K B G0 f):=E9 h
theorem D7{f:M D}(ha:PE X a (tD X.K B G0 f)):PE X (.UnaryOp .Not a pos) (tD X.K B G0 (RX f)):=
 Kn (E7 ha) λσ H Q q=>tM.one (R:=Rep X.K) q λv H2 G Z x k r a=>by
  cases x with
  |bool t=>exact⟨t,r.bl_inv,aft.now a k (.bl _)⟩
  |_=>exact a.elim
def mIf{α:Type}(f:M Bool)(g h:M α):M α:=U6 f λt=>if t=true then g else h
theorem qt{f:M Bool}{g h:M D}(hc:PT X c (tBo X.K B G0 f))(ha:PE X a (tD X.K B G0 g))(hb:PE X b (tD X.K B G0 h)):PE X (.IfExp c a b pos) (tD X.K B G0 (mIf f g h)):=
 Kn (AH hc ha hb) λσ H Q q=>tM.one (R:=λ_ b c=>b=c) q λv H2 G Z x k r a=>by
  have r:v=x:=r;subst r;cases v with
  |true=>exact⟨G,Z,k,a⟩
  |false=>exact⟨G,Z,k,a⟩
theorem D6{f:M D}{j p2}(ha:PE X a (tD X.K B G0 f)):PT X (.Compare a [.Is] [.Constant .none j p2] pos) (tBo X.K B G0 (UZ isNon f)):=
 Yh (Pc (Mh ha)) λσ H Q q=>tM.one (R:=Rep X.K) q λv H2 G Z x k r a=>⟨_,rfl,aft.now a k (by rw[r.isNon])⟩
theorem LG{f:M D}{j p2}(ha:PE X a (tD X.K B G0 f)):PT X (.Compare a [.IsNot] [.Constant .none j p2] pos) (tBo X.K B G0 (UZ (λd=>!isNon d) f)):=
 Yh (Pc (Bg ha)) λσ H Q q=>tM.one (R:=Rep X.K) q λv H2 G Z x k r a=>⟨_,rfl,aft.now a k (by dsimp only;rw[r.isNon])⟩
theorem D5{f:M D}{j p2}(ha:PE X a (tD X.K B G0 f)):PE X (.Compare a [.Is] [.Constant .none j p2] pos) (tD X.K B G0 (UZ (λd=>.bool (isNon d)) f)):=
 Kn (De (Mh ha)) λσ H Q q=>tM.one (R:=Rep X.K) q λv H2 G Z x k r a=>aft.now a k (by dsimp only;rw[r.isNon];exact .bl _)
def UK:M (List D):=UQ []
def UM(f:M D)(g:M (List D)):M (List D):=U6 f λx=>U6 g λxs=>UQ (x::xs)
theorem SS:PA X [] (tDs X.K B G0 UK):=paof SK λσ H Q ⟨G,Z,k,a⟩=>aft.now a k .nil
theorem tM.twoA{K:Frag}{σ:St}{H:Hp}{f:M D}{g:M (List D)}{β δ:Type}{S:Hp->δ->β->Prop}{k:D->List D->M β}{Q:δ->Hp->Prop}{P:V->List V->Hp->Prop}
  (h:tM K B G0 S (U6 f λx=>U6 g λy=>k x y) σ H Q)
  (i:∀v u H2 G Z x y,EOk K B G0 G H2 σ Z->Rep K G v x->Reps K G u y->aft K B G0 S (k x y Z) G σ Q->P v u H2) :
  tD K B G0 f σ H (λv H1=>tDs K B G0 g σ H1 λu H2=>P v u H2):=by
 obtain⟨G,Z,e,a⟩:=tM.bind2 (R:=Rep K) (R':=Reps K) Lj h;refine⟨G,Z,e,?_⟩;cases q:f Z with
 |bad=>rw[q]at a;exact a.elim
 |ok d Z1=>
  rw[q]at a;intro v G' H' e' s r;obtain⟨x,G2,Z2,e2,a2⟩:=a v G' H' e' s r;refine⟨G2,Z2,e2,?_⟩;cases q2:g Z2 with
  |bad=>rw[q2]at a2;exact a2.elim
  |ok d3 Z3=>rw[q2]at a2;intro u G3 H3 e3 s3 r3;obtain⟨G4,Z4,y,e4,r4,r5,a5⟩:=a2 u G3 H3 e3 s3 r3;exact i v u H3 G4 Z4 x y e4 r4 r5 a5
theorem Xh{f:M D}{g:M (List D)}(ha:PE X e (tD X.K B G0 f))(hr:PA X es (tDs X.K B G0 g))(hs:Ur (e::es) X.env=(false,eval e X.env)::Ur es X.env:=by rfl) :
  PA X (e::es) (tDs X.K B G0 (UM f g)):=paof (V4 ha hr hs) λσ H Q q=>tM.twoA q λv u H2 G Z x y k r1 r2 a=>aft.now a k (.cons r1 r2)
def Kt(f:M (List D)):M D:=U6 f λxs=>if xs.length<=1000000 then UQ (.tuple xs)else λ_=>.bad
def Kj(f:M (List D)):M D:=U6 f λxs=>if xs.length<=1000000 then UQ (.list xs)else λ_=>.bad
theorem Pk{x1}{f:M (List D)}(h:PA X es (tDs X.K B G0 f)):PE X (.Tuple es x1 pos) (tD X.K B G0 (Kt f)):=
 Kn (DE h) λσ H Q q=>tM.one (R:=Reps X.K) q λv H2 G Z x k r a=>by
  split at a
  ·rename_i c;refine⟨by rw[r.length];exact QR c lim,λp hp=>?_⟩;exact aft.done a k (Ext.new k.gh hp) (.tup (SqT.of K9) (r.mono (Zx (k.gh.free hp))))
  ·exact a.elim
theorem OB{f:M (List D)}(h:PA X es (tDs X.K B G0 f)):PE X (.List es pos) (tD X.K B G0 (Kj f)):=
 Kn (Me h) λσ H Q q=>tM.one (R:=Reps X.K) q λv H2 G Z x k r a=>by
  split at a
  ·rename_i c;refine⟨by rw[r.length];exact QR c lim,λp hp=>?_⟩;exact aft.done a k (Ext.new k.gh hp) (.lst (SqL.of K9) (r.mono (Zx (k.gh.free hp))))
  ·exact a.elim
def oIx:D->D->Option D
 |.list xs,.int i=>atI xs i
 |.tuple xs,.int i=>atI xs i
 |.str z,.int i=>if z.length<=1000000 then(atI z.cps.toList i).map λc=>.str ⟨#[c]⟩else none
 |_,_=>none
theorem Reps.atI{K:Frag}{G:Hp}{vs:List V}{ds:List D}{i:Int}{d:D}(r:Reps K G vs ds)(h:L2.atI ds i=some d):∃v,L2.atI vs i=some v/\Rep K G v d:=by
 unfold L2.atI at h⊢;rw[r.length];cases z:ixN ds.length i with
 |none=>rw[z]at h;cases h
 |some j=>rw[z]at h;exact r.get (i:=j) h
theorem Ma{K:Frag}{v u:V}{G H:Hp}{x y d:D}{Q:VK}(s:Same G H)(rx:Rep K G v x)(ry:Rep K G u y)(e:oIx x y=some d)(k:∀w,Rep K G w d->Q w H):rIx K v u H Q:=by
 unfold oIx at e;split at e
 ·obtain⟨l,vs,rfl,h1,r1⟩:=rx.lst_inv;obtain⟨w,e1,r2⟩:=r1.atI e;exact .inl ⟨l,vs,_,w,rfl,ry.int_inv,s.seq h1,e1,k w r2⟩
 ·obtain⟨l,vs,rfl,h1,r1⟩:=rx.tup_inv;obtain⟨w,e1,r2⟩:=r1.atI e;exact .inr (.inl ⟨l,vs,_,w,rfl,ry.int_inv,YZ s h1,e1,k w r2⟩)
 ·split at e
  ·rename_i z i hz;cases q:L2.atI z.cps.toList i with
   |none=>rw[q]at e;cases e
   |some ch=>rw[q]at e;cases e;exact .inr (.inr ⟨z,i,ch,rx.str_inv,ry.int_inv,QR hz lim,q,k _ (.str _)⟩)
  ·cases e
 ·cases e
theorem Ex{f g:M D}(ha:PE X a (tD X.K B G0 f))(hb:PE X b (tD X.K B G0 g))(hs:OE b):PE X (.Subscript a b pos) (tD X.K B G0 (UN oIx f g)):=
 Kn (NU Md ha hb hs) λσ H Q q=>tM.two q λv u H2 G Z x y k rx ry a=>by obtain⟨d,e,a⟩:=a.opt;exact Ma k.gh rx ry e λw r=>a.now k r
def US(i:Nat)(g:M D):M D:=λZ=>match Z[i]? with
 |some (some (.pub d))=>(U6 g λy=>U8 (oIx d y)) Z
 |some (some (.own _))=>(U6 g λy=>λZ'=>match Z'[i]? with|some (some (.own ds))=>U8 (oIx (.list ds) y) Z'|_=>.bad) Z
 |_=>.bad
theorem SR{i:Nat}{g:M D}(ha:PE X a (K2 i))(hb:PE X b (tD X.K B G0 g))(hs:OE b):PE X (.Subscript a b pos) (tD X.K B G0 (US i g)):=
 Kn (NU Md ha hb hs) λσ H Q ⟨G,Z,k,a⟩=>by
  unfold US at a;cases q:Z[i]? with
  |none=>rw[q]at a;exact a.elim
  |some o=>
   cases o with
   |none=>rw[q]at a;exact a.elim
   |some sl=>
    cases sl with
    |deep _ _=>rw[q]at a;exact a.elim
    |pub d=>
     rw[q]at a;obtain⟨v,h1,h2⟩:=k.pub i d q;refine⟨v,h1,G,Z,k,?_⟩;dsimp only[U6]at a;cases z:g Z with
     |bad=>rw[z]at a;exact a.elim
     |ok y Z1=>rw[z]at a;intro u G' H' k' s' r';obtain⟨d',e',a'⟩:=aft.opt a;exact Ma k'.gh (h2.mono s') r' e' λw r=>a' w G' H' k' s' r
    |own ds=>
     rw[q]at a;obtain⟨ad,vs,h1,h2,h3,h4,h5⟩:=k.own i ds q;refine⟨.ref ad,h1,G,Z,k,?_⟩;dsimp only[U6]at a;cases z:g Z with
     |bad=>rw[z]at a;exact a.elim
     |ok y Z1=>
      rw[z]at a;dsimp only at a;intro u G' H' k' s' r';cases z2:Z1[i]? with
      |none=>rw[z2]at a;exact a.elim
      |some o2=>
       cases o2 with
       |none=>rw[z2]at a;exact a.elim
       |some sl2=>
        cases sl2 with
        |deep _ _=>rw[z2]at a;exact a.elim
        |pub d2=>rw[z2]at a;exact a.elim
        |own es2=>
         rw[z2]at a;obtain⟨d',e',a'⟩:=aft.opt a;obtain⟨ad',vs',g1,g2,g3,g4,g5⟩:=k'.own i es2 z2;rw[h1]at g1;cases g1;unfold oIx at e';cases y with
         |int j=>obtain⟨w,e1,r2⟩:=g5.atI e';exact .inl ⟨ad,vs',j,w,rfl,r'.int_inv,SqL.of g4,e1,a' w G' H' k' s' r2⟩
         |_=>cases e'
def cutD(xs:List D)(lo hi:Option Int):List D:=(xs.drop (HT.sIx xs.length 0 lo)).take (HT.sIx xs.length xs.length hi-HT.sIx xs.length 0 lo)
theorem Reps.cut{K:Frag}{G:Hp}{vs:List V}{ds:List D}(r:Reps K G vs ds)(lo hi:Option Int):Reps K G (Xx vs lo hi) (cutD ds lo hi):=by unfold Xx cutD;rw[r.length];exact(r.drop _).take _
def YG:D->Option (Option Int)
 |.int i=>some (some i)
 |_=>none
theorem BN:PO X none (tOi X.K B G0 (UQ none)):=poof C8 λσ H Q ⟨G,Z,k,a⟩=>aft.now a k rfl
theorem BM{f:M D}(h:PE X e (tD X.K B G0 f)):PO X (some e) (tOi X.K B G0 (U6 f λx=>U8 (YG x))):=poof (C7 h) λσ H Q q=>tM.one (R:=Rep X.K) q λv H2 G Z x k r a=>by
 cases x with
 |int i=>exact⟨i,r.int_inv,aft.now (v:=some i) a k rfl⟩
 |_=>exact a.elim
end
def WL:List (D×D)->Bool
 |(.none,_)::_=>true
 |_=>false
def Xq:D->String
 |.none=> "NoneType"
 |.bool _=> "bool"
 |.int _=> "int"
 |.str _=> "str"
 |.list _=> "list"
 |.tuple _=> "tuple"
 |.dict kvs=>if WL kvs=true then "" else "dict"
def K5(d:D)(c:String):Bool:=Xq d==c || (Xq d == "bool" && c == "int")
def Rm:D->Bool
 |.dict kvs=>WL kvs
 |_=>false
theorem N9{ks:List Key}{ds:List D}:Xq (.dict ((ks.map kD).zip ds)) = "dict" /\ Rm (.dict ((ks.map kD).zip ds))=false:=by
 cases ks with
 |nil=>exact⟨rfl,rfl⟩
 |cons k ks=>
  cases ds with
  |nil=>exact⟨rfl,rfl⟩
  |cons d ds=>cases k<;>exact⟨rfl,rfl⟩
theorem D4(K:Frag)(d:D)(c:String)(nx:Rm d=false)(hc:c = "int" ∨ c = "bool" ∨ c = "str" ∨ c = "list" ∨ c = "tuple" ∨ c = "dict"):PySem.W.kitOne K (.type (Xq d)) (.type c)=some (K5 d c):=by
 cases d with
 |dict kvs=>
  have e:Xq (.dict kvs) = "dict" :=by
   have nx:WL kvs=false:=nx
   show(if WL kvs=true then "" else "dict")=_
   rw[nx];rfl
  unfold K5;rw[e];rcases hc with rfl|rfl|rfl|rfl|rfl|rfl<;>rfl
 |_=>rcases hc with rfl|rfl|rfl|rfl|rfl|rfl<;>rfl
section
variable{X:Cx}{B G0:Hp}{e a b c:Uo}{pos:Pos}{es rest:List Uo}
def YV(X:Cx)(f:Ui)(p:List D->Option D):Prop:=
 ∃r,YL X f r/\∀vs G H ds d Q,Same G H->Reps X.K G vs ds->p ds=some d->(∀w G' H',Ext G H G' H'->Rep X.K G' w d->Q w H')->r vs H Q
def K8(p:List D->Option D)(f:M (List D)):M D:=U6 f λxs=>U8 (p xs)
theorem Tb{x:Str}{p2:Pos}{id:String}{p:List D->Option D}{f:M (List D)}(hc:YV X (.builtin id) p)(hg:Gl X x)(hm:X.mg x=none)(hv:bootBuiltins x=some (.builtin id))(ha:PA X (e::es) (tDs X.K B G0 f))(hn:x ≠ "__name__" :=by decide)(hdb:(x==("__debug__" : Str))=false:=by decide)
  (he:Ur (e::es) X.env=(false,eval e X.env)::Ur es X.env:=by rfl) (hpl:(backTo pos (Ur es X.env)).any (·.1)=false:=by rfl):PE X (.Call (.Name x p2) (e::es) [] pos) (tD X.K B G0 (K8 p f)):=by
 obtain⟨r,h,i⟩:=hc;refine Kn (PD h hg hm hv ha hn hdb he hpl) λσ H Q q=>tM.one (R:=Reps X.K) q λv H2 G Z x k rr a=>?_
 obtain⟨d,e,a⟩:=a.opt;exact i v G H2 x d Q k.gh rr e λw G' H' ex rw=>a.done k ex rw
theorem jp{x:Str}{p2:Pos}{T:String}{p:List D->Option D}{f:M (List D)}(hc:YV X (.type T) p)(hg:Gl X x)(hm:X.mg x=none)(hv:bootBuiltins x=some (.type T))(ha:PA X (e::es) (tDs X.K B G0 f))(hn:x ≠ "__name__" :=by decide)(hdb:(x==("__debug__" : Str))=false:=by decide)
  (he:Ur (e::es) X.env=(false,eval e X.env)::Ur es X.env:=by rfl) (hpl:(backTo pos (Ur es X.env)).any (·.1)=false:=by rfl):PE X (.Call (.Name x p2) (e::es) [] pos) (tD X.K B G0 (K8 p f)):=by
 obtain⟨r,h,i⟩:=hc;refine Kn (PR h hg hm hv ha hn hdb he hpl) λσ H Q q=>tM.one (R:=Reps X.K) q λv H2 G Z x k rr a=>?_
 obtain⟨d,e,a⟩:=a.opt;exact i v G H2 x d Q k.gh rr e λw G' H' ex rw=>a.done k ex rw
theorem Reps.nil_inv{K:Frag}{G:Hp}{vs:List V}(r:Reps K G vs []):vs=[]:=by cases r;rfl
theorem Reps.one_inv{K:Frag}{G:Hp}{vs:List V}{d:D}(r:Reps K G vs [d]):∃v,vs=[v]/\Rep K G v d:=by
 cases r with
 |cons h t=>cases t;exact⟨_,rfl,h⟩
theorem Reps.two_inv{K:Frag}{G:Hp}{vs:List V}{d d':D}(r:Reps K G vs [d,d']):∃v v',vs=[v,v']/\Rep K G v d/\Rep K G v' d':=by
 cases r with
 |cons h t=>obtain⟨v',rfl,r'⟩:=t.one_inv;exact⟨_,v',rfl,h,r'⟩
def Ka:List D->Option D
 |[.list xs]=>some (.int xs.length)
 |[.tuple xs]=>some (.int xs.length)
 |[.str z]=>if z.length<=1000000 then some (.int z.length)else none
 |_=>none
theorem NJ:YV X (.builtin "len") Ka:=by
 refine⟨_,LH,λvs G H ds d Q s r e k=>?_⟩;unfold Ka at e;split at e
 ·cases e;obtain⟨v,rfl,q⟩:=r.one_inv;obtain⟨l,ws,rfl,h1,r1⟩:=q.lst_inv;exact⟨.ref l,ws.length,rfl,.inl ⟨ws,s.seq h1,rfl⟩,by rw[r1.length];exact k _ G H (.refl s) (.int _)⟩
 ·cases e;obtain⟨v,rfl,q⟩:=r.one_inv;obtain⟨l,ws,rfl,h1,r1⟩:=q.tup_inv;exact⟨.ref l,ws.length,rfl,.inr ⟨ws,YZ s h1,rfl⟩,by rw[r1.length];exact k _ G H (.refl s) (.int _)⟩
 ·split at e
  ·rename_i z hz;cases e;obtain⟨v,rfl,q⟩:=r.one_inv;exact⟨.str z,z.length,by rw[q.str_inv],⟨QR hz lim,rfl⟩,k _ G H (.refl s) (.int _)⟩
  ·cases e
 ·cases e
def Rl:List D->Option D
 |[.int i,.int j]=>some (.int (if j > i then j else i))
 |_=>none
theorem Ew(hc:X.calm=true):YV X (.builtin "max") Rl:=by
 refine⟨_,qF hc,λvs G H ds d Q s r e k=>?_⟩;unfold Rl at e;split at e
 ·cases e;obtain⟨v,v',rfl,r1,r2⟩:=r.two_inv;exact⟨_,_,by rw[r1.int_inv,r2.int_inv],k _ G H (.refl s) (.int _)⟩
 ·cases e
def Zb(i:Nat):M D:=λZ=>match Z[i]? with
 |some (some (.pub d))=>U8 (Ka [d]) Z
 |some (some (.own ds))=>.ok (.int ds.length) Z
 |_=>.bad
theorem LF{i:Nat}{p2:Pos}(hg:Gl X "len")(hm:X.mg "len" = none)(ha:PE X e (K2 i))(he:Ur [e] X.env=[(false,eval e X.env)]:=by rfl):PE X (.Call (.Name "len" p2) [e] [] pos) (tD X.K B G0 (Zb i)):=by
 refine Kn (PD LH hg hm PySem.boot_len (V4 ha SK (by rw[he];rfl)) (by decide) (by decide) (by rw[he];rfl) rfl) λσ H Q ⟨G,Z,k,a⟩=>?_
 unfold Zb at a;cases q:Z[i]? with
 |none=>rw[q]at a;exact a.elim
 |some o=>
  cases o with
  |none=>rw[q]at a;exact a.elim
  |some sl=>
   cases sl with
   |deep _ _=>rw[q]at a;exact a.elim
   |pub d=>
    rw[q]at a;obtain⟨v,h1,h2⟩:=k.pub i d q;refine⟨v,h1,?_⟩;obtain⟨d',e',a'⟩:=aft.opt a;obtain⟨r,hr,ir⟩:=@NJ X;show ∃x n,[v]=[x]/\LenV X.K x H n/\Q (.int n) H;unfold Ka at e';split at e'
    ·rename_i xs he';injection he' with he1 he2;subst he1;cases e'
     obtain⟨l,ws,rfl,g1,r1⟩:=h2.lst_inv;exact⟨.ref l,ws.length,rfl,.inl ⟨ws,k.gh.seq g1,rfl⟩,by rw[r1.length];exact a'.now k (.int _)⟩
    ·rename_i xs he';injection he' with he1 he2;subst he1;cases e'
     obtain⟨l,ws,rfl,g1,r1⟩:=h2.tup_inv;exact⟨.ref l,ws.length,rfl,.inr ⟨ws,YZ k.gh g1,rfl⟩,by rw[r1.length];exact a'.now k (.int _)⟩
    ·rename_i z he';injection he' with he1 he2;subst he1
     split at e'
     ·rename_i hz;cases e';exact⟨.str z,z.length,by rw[h2.str_inv],⟨QR hz lim,rfl⟩,a'.now k (.int _)⟩
     ·cases e'
    ·cases e'
   |own ds=>rw[q]at a;obtain⟨ad,vs,h1,g2,g3,h4,h5⟩:=k.own i ds q;exact⟨.ref ad,h1,.ref ad,vs.length,rfl,.inl ⟨vs,SqL.of h4,rfl⟩,by rw[h5.length];exact aft.now a k (.int _)⟩
theorem D3{pins:List (Ul×Obj)}{s:Uj}{σ:St}{G H:Hp}{v:V}{u:Ui}{d:D}{cv:Ui}{t:Bool}{A:Around}{E:Ui->Uj->Prop}{Q:Ui->Uj->Prop}(I:Inv X pins σ H s)(sg:Same G H)(r:Rep X.K G v d)(rv:RelV v u)(nx:Rm d=false)
  (ek:PySem.W.kitOne X.K (.type (Xq d)) cv=some t) (h:∀tk,Q (.bool t) {s with toks:=tk}):Uq (model X.prog X.w) A (call (.builtin "isinstance") [u,cv]) Q E s:=by
 cases r with
 |non=>cases rv;exact JA PySem.W.kitx_none I.kIn True.intro ek (λz=>nomatch z) h
 |bl y=>cases rv;exact JA PySem.W.kitx_bool I.kIn True.intro ek (λz=>nomatch z) h
 |int i=>obtain⟨t',rfl⟩:=rv;exact JA PySem.W.kitx_int I.kIn True.intro ek (λz=>nomatch z) h
 |str y=>obtain⟨t',rfl⟩:=rv;exact JA PySem.W.kitx_str I.kIn True.intro ek (λz=>nomatch z) h
 |lst hl _=>cases rv;obtain⟨its,r,⟨o,n,e,hc,_,hd⟩,hz⟩:=I.list (sg.seq hl);exact JA PySem.W.kitx_list I.kIn ⟨o,e,hc⟩ ek (λz=>nomatch z) h
 |tup hl _=>cases rv;obtain⟨its,r,p,hz⟩:=I.tuple (YZ sg hl);obtain⟨o,e,hc,_⟩:=p;exact JA PySem.W.kitx_tuple I.kIn ⟨o,e,hc⟩ ek (λz=>nomatch z) h
 |@dic ad hd=>
  cases rv;obtain⟨_,_,vs,_,p⟩:=(show ZH X.prog X.w H s.heap ad (.dK [])from I.hok ad _ (sg _ _ hd))
  obtain⟨o,es,ep,h1,h2,_⟩:=p;exact JA PySem.W.kitx_dict I.kIn ⟨o,h1,h2.1⟩ ek (λz=>nomatch z) h
 |exc _ _ _ _=>cases nx
 |@dct ad ks vs ds kvs e0 _ _ hd _=>
  cases rv;subst e0;rw[N9.1]at ek;obtain⟨_,_,vs,_,p⟩:=(show ZH X.prog X.w H s.heap ad (.dK (ks.zip _))from I.hok ad _ (sg _ _ hd))
  obtain⟨o,es,ep,h1,h2,_⟩:=p;exact JA PySem.W.kitx_dict I.kIn ⟨o,h1,h2.1⟩ ek (λz=>nomatch z) h
 |@dtt ad ob ks vs ds kvs e0 _ hd _=>
  cases rv;subst e0;obtain⟨_,_,_,xs,_,o,es,ep,h1,h2,_⟩:=(show ZH X.prog X.w H s.heap ad (.frz ob (.dT (ks.zip _)))from I.hok ad _ (sg _ _ hd))
  exact JA PySem.W.kitx_dict I.kIn ⟨o,h1,h2.1⟩ ek (λz=>nomatch z) h
theorem D2(c:String)(hc:c = "int" ∨ c = "bool" ∨ c = "str" ∨ c = "list" ∨ c = "tuple" ∨ c = "dict"):typeOf (.type c)=pure (.type "type"):=by rcases hc with rfl|rfl|rfl|rfl|rfl|rfl<;>kernel_rfl
theorem BL:YL X (.builtin "isinstance") (λxs H Q=>∃v c G d,xs=[v,.ty c]/\Same G H/\Rep X.K G v d/\(c = "int" ∨ c = "bool" ∨ c = "str" ∨ c = "list" ∨ c = "tuple" ∨ c = "dict")/\Q (.bl (K5 d c)) H):=by
 intro pins s σ H xs us Q I r h;obtain⟨v,c,G,d,rfl,sg,rp,hc,q⟩:=h;obtain⟨u,w',rfl,r1,r2⟩:=Ob r;cases (show w'=Value.type c from r2);by_cases nx:Rm d=true
 ·cases rp with
  |@exc a C dd bm nm vs ds ck hx hd rr=>
   refine BQ (F4 I.ok.mod.kin) pins s σ H [.ref a,.ty c] [u,.type c] Q I r ⟨a,C,dd,bm,false,.ty c,false,rfl,⟨nm,ck⟩,sg _ _ hx,.inr ⟨c,rfl,D2 c hc,?_⟩,?_⟩
   ·rw[ck.ty];rcases hc with rfl|rfl|rfl|rfl|rfl|rfl<;>rfl
   ·have e:K5 (.dict [(.none,.tuple [.str nm,.list ds])]) c=false:=by rcases hc with rfl|rfl|rfl|rfl|rfl|rfl<;>rfl
    rw[e]at q;exact q
  |dct e _ _ _ _=>subst e;rw[N9.2]at nx;cases nx
  |dtt e _ _ _=>subst e;cases nx
  |_=>cases nx
 ·have nx:Rm d=false:=by simpa using nx
  exact D3 I sg rp r1 nx (D4 X.K d c nx hc) λtk=>⟨.bl _,H,I.tok tk,rfl,q⟩
theorem xm:bootBuiltins "isinstance" = some (.builtin "isinstance"):=by decide +kernel
theorem RP{f:M D}{p2 p3:Pos}{c:String}(hc:c = "int" ∨ c = "bool" ∨ c = "str" ∨ c = "list" ∨ c = "tuple" ∨ c = "dict")(hg:Gl X "isinstance")(hm:X.mg "isinstance" = none)(hg2:Gl X (UD c))(hm2:X.mg (UD c)=none)
  (hv2:bootBuiltins (UD c)=some (.type c)) (ha:PE X e (tD X.K B G0 f)) (hn2:(UD c) ≠ "__name__") (hd2:((UD c)==("__debug__" : Str))=false)
  (hs:Ur [e,.Name (UD c) p3] X.env=(false,eval e X.env)::Ur [.Name (UD c) p3] X.env:=by rfl)
  (hs2:Ur [.Name (UD c) p3] X.env=[(false,eval (.Name (UD c) p3) X.env)]:=by rfl) :
  PE X (.Call (.Name "isinstance" p2) [e,.Name (UD c) p3] [] pos) (tD X.K B G0 (UZ (λd=>.bool (K5 d c)) f)):=by
 refine Kn (PD BL hg hm xm (V4 ha (V4 (Bh (v:=.ty c) hg2 hm2 hv2 rfl hn2 hd2) SK (by rw[hs2];rfl)) hs) (by decide) (by decide) hs (by rw[hs2];rfl)) λσ H Q q=>?_
 refine tM.one (R:=Rep X.K) q λv H2 G Z x k r a=>?_
 exact⟨v,c,G,x,rfl,k.gh,r,hc,aft.now a k (.bl _)⟩
end
def spD(K:Frag)(n:Nat)(F:List D->Option D):Sp:=λvs H Q _=>∃G ds d,vs.length=n/\Same G H/\Reps K G vs ds/\F ds=some d/\∀v G' H',Ext G H G' H'->Rep K G' v d->Q v H'
section
variable{K:Frag}{B G0 G H:Hp}{σ:St}{Z:UJ}
theorem EOk.exit(k:EOk K B G0 G H σ Z):Ext G0 B G H:=⟨k.bh,k.g0,k.gh,k.np⟩
theorem Yd{α:Type}{l:List α}{i:Nat}{x y:α}(h:(l.set i x)[i]?=some y):y=x:=by
 by_cases hl:i<l.length
 ·rw[QI hl]at h;cases h;rfl
 ·rw[Jd (by rw[Q6];omega)]at h;cases h
theorem DpOk.setOther{i:Nat}{x:Option V}{y:Option Sl}(k:DpOk K B G H σ Z)(hy:∀s,y=some s->∃d,s=.pub d):DpOk K B G H (σ.set i x) (Z.set i y):=by
 have nz:∀{m:Nat}{s:Sl},(Z.set i y)[m]?=some (some s)->(∃d,s=.pub d)∨(Z[m]?=some (some s)/\(σ.set i x)[m]?=σ[m]?):=λ{m s} q=>by
  by_cases z:i=m
  ·subst z;exact .inl (hy s (Yd q).symm)
  ·rw[Qp z]at q⊢;exact .inr ⟨q,rfl⟩
 refine k.map (λm p d q=>?_) (λm es q=>?_) λm p d v fp q s r w n=>⟨r,w⟩
 ·rcases nz q with ⟨_,e⟩|q
  ·cases e
  ·exact q
 ·rcases nz q with ⟨_,e⟩|q
  ·cases e
  ·exact⟨es,q⟩
theorem EOk.setPub{i:Nat}{v:V}{d:D}(k:EOk K B G0 G H σ Z)(r:Rep K G v d)(hi:i<Z.length):EOk K B G0 G H (σ.set i (some v)) (Z.set i (some (.pub d))) where
 bh:=k.bh
 gh:=k.gh
 g0:=k.g0
 np:=k.np
 len:=by rw[Q6,Q6];exact k.len
 pub:=λj d' q=>by
  by_cases z:i=j
  ·subst z;have:=Yd q;cases this;exact⟨v,QI (by rw[←k.len];exact hi),r⟩
  ·rw[Qp z]at q⊢;exact k.pub j d' q
 own:=λj ds q=>by
  by_cases z:i=j
  ·subst z;have:=Yd q;cases this
  ·rw[Qp z]at q⊢;exact k.own j ds q
 sep:=λj l c es fs q1 q2 s1 s2=>by
  have z1:i≠j:=λz=>by subst z;have:=Yd q1;cases this
  have z2:i≠l:=λz=>by subst z;have:=Yd q2;cases this
  rw[Qp z1]at q1 s1;rw[Qp z2]at q2 s2;exact k.sep j l c es fs q1 q2 s1 s2
 dp:=k.dp.setOther (λs e=>by cases e;exact⟨_,rfl⟩)
structure NewL(K:Frag)(B G H:Hp)(σ:St)(Z:UJ)(a:Ul)(vs:List V)(ds:List D):Prop where
 b:B a=none
 g:G a=none
 h:H a=some (.lst vs)
 r:Reps K G vs ds
 f:∀(j:Nat) es,Z[j]?=some (some (.own es))->σ[j]?≠some (some (.ref a))
 dp:∀(j:Nat) p d v fp,Z[j]?=some (some (.deep p d))->σ[j]?=some (some v)->RepO K G H p v d fp->a∉fp
theorem EOk.freshD{H':Hp}{a:Ul}(k:EOk K B G0 G H σ Z)(e:Same H H')(ha:H a=none){G':Hp}{j:Nat}{p:Pat}{d:D}{v:V}{fp:List Ul}(q:Z[j]?=some (some (.deep p d)))(s:σ[j]?=some (some v))(r:RepO K G' H' p v d fp):a∉fp:=λm=>by obtain⟨ω,k1,k2⟩:=k.dp;obtain⟨v',fp',s',r',n,w⟩:=k1 j p d q;rw[s]at s';cases s';have u:=r'.uniq e r;subst u;obtain⟨ws,hl⟩:=r'.isl a m;rw[ha]at hl;cases hl
theorem EOk.setOwn{i:Nat}{a:Ul}{vs:List V}{ds:List D}(k:EOk K B G0 G H σ Z)(n:NewL K B G H σ Z a vs ds)(hi:i<Z.length):EOk K B G0 G H (σ.set i (some (.ref a))) (Z.set i (some (.own ds))) where
 bh:=k.bh
 gh:=k.gh
 g0:=k.g0
 np:=k.np
 len:=by rw[Q6,Q6];exact k.len
 pub:=λj d' q=>by
  by_cases z:i=j
  ·subst z;have:=Yd q;cases this
  ·rw[Qp z]at q⊢;exact k.pub j d' q
 own:=λj es q=>by
  by_cases z:i=j
  ·subst z;have:=Yd q;cases this;exact⟨a,vs,QI (by rw[←k.len];exact hi),n.b,n.g,n.h,n.r⟩
  ·rw[Qp z]at q⊢;exact k.own j es q
 sep:=λj l c es fs q1 q2 s1 s2=>by
  have hs:i<σ.length:=by rw[←k.len];exact hi
  by_cases z1:i=j
  ·subst z1;rw[QI hs]at s1;cases s1;by_cases z2:i=l
   ·exact z2
   ·rw[Qp z2]at q2 s2;exact absurd s2 (n.f l fs q2)
  ·by_cases z2:i=l
   ·subst z2;rw[QI hs]at s2;cases s2;rw[Qp z1]at q1 s1;exact absurd s1 (n.f j es q1)
   ·rw[Qp z1]at q1 s1;rw[Qp z2]at q2 s2;exact k.sep j l c es fs q1 q2 s1 s2
 dp:=by
  obtain⟨ω,k1,k2⟩:=k.dp;have hs:i<σ.length:=by rw[←k.len];exact hi
  refine⟨λb=>if b=a then i else ω b,λj p d q=>?_,λj es b q s=>?_⟩
  ·by_cases z:i=j
   ·subst z;have:=Yd q;cases this
   ·rw[Qp z]at q⊢;obtain⟨v,fp,s,r,nn,w⟩:=k1 j p d q;refine⟨v,fp,s,r,nn,λb m=>⟨(w b m).1,(w b m).2.1,?_⟩⟩;dsimp only;rw[QB (λz=>n.dp j p d v fp q s r (by rw[←z];exact m))];exact(w b m).2.2
  ·by_cases z:i=j
   ·subst z;rw[QI hs]at s;cases s;dsimp only;rw[Qm rfl]
   ·rw[Qp z]at q s;dsimp only;rw[QB (λe=>n.f j es q (by rw[←e];exact s))];exact k2 j es b q s
theorem EOk.change{i:Nat}{a:Ul}{vs:List V}{ds es:List D}(k:EOk K B G0 G H σ Z)(q:Z[i]?=some (some (.own ds)))(ha:σ[i]?=some (some (.ref a)))(r:Reps K G vs es) :
  EOk K B G0 G (upd H a (.lst vs)) σ (Z.set i (some (.own es))):=by
 obtain⟨a',ws,h1,h2,h3,h4,h5⟩:=k.own i ds q;rw[ha]at h1;cases h1;have hi:i<Z.length:=(Qg.mp q).1;refine⟨λb o e=>?_,λb o e=>?_,k.g0,k.np,by rw[Q6];exact k.len,λj d' e=>?_,λj fs e=>?_,λj l c fs gs q1 q2 s1 s2=>?_,?_⟩
 ·rw[Ku (Yo e h2)];exact k.bh b o e
 ·rw[Ku (Yo e h3)];exact k.gh b o e
 ·by_cases z:i=j
  ·subst z;have:=Yd e;cases this
  ·rw[Qp z]at e;exact k.pub j d' e
 ·by_cases z:i=j
  ·subst z;have:=Yd e;cases this;exact⟨a,vs,ha,h2,h3,K9,r⟩
  ·rw[Qp z]at e;obtain⟨c,us,g1,g2,g3,g4,g5⟩:=k.own j fs e;have zc:c≠a:=λw=>z (k.sep i j a ds fs q e ha (by rw[←w];exact g1))
   exact⟨c,us,g1,g2,g3,by rw[Ku zc];exact g4,g5⟩
 ·have f:∀{m:Nat}{ts:List D},(Z.set i (some (Sl.own es)))[m]?=some (some (.own ts))->∃ts',Z[m]?=some (some (.own ts')):=λ{m ts} e=>by
   by_cases z:i=m
   ·subst z;exact⟨ds,q⟩
   ·rw[Qp z]at e;exact⟨ts,e⟩
  obtain⟨f1,w1⟩:=f q1;obtain⟨f2,w2⟩:=f q2;exact k.sep j l c f1 f2 w1 w2 s1 s2
 ·refine k.dp.map (λj p d e=>?_) (λj fs e=>?_) λj p d v fp qj s rj w n=>⟨rj.upd (λ_ z=>by rw[h4]at z;cases z) (n i ds a q ha),w⟩
  ·by_cases z:i=j
   ·subst z;have:=Yd e;cases this
   ·rw[Qp z]at e;exact⟨e,rfl⟩
  ·by_cases z:i=j
   ·subst z;exact⟨ds,q,rfl⟩
   ·rw[Qp z]at e;exact⟨fs,e,rfl⟩
end
inductive Out where
 |nx (Z:UJ)|rt (d:D)|bk (Z:UJ)|ct (Z:UJ)|ex (Z:UJ) (d:D)|ro (ds:List D)|bad
abbrev SM:=UJ->Out
section
variable(K:Frag)(B G0:Hp)(KX:XW)
def aftS(o:Out)(G1:Hp)(Dn:Ends):Prop:=
 match o with
 |.nx Z=>∀σ G H,EOk K B G0 G H σ Z->Same G1 G->Dn.nx σ H
 |.bk Z=>∀σ G H,EOk K B G0 G H σ Z->Same G1 G->Dn.bk σ H
 |.ct Z=>∀σ G H,EOk K B G0 G H σ Z->Same G1 G->Dn.ct σ H
 |.rt d=>∀v G H,Ext G0 B G H->Rep K G v d->Dn.rt v H
 |.ro ds=>∀a vs G H,Ext G0 B G H->B a=none->G a=none->H a=some (.lst vs)->Reps K G vs ds->Dn.rt (.ref a) H
 |.ex Z d=>∀v σ G H,EOk K B G0 G H σ Z->Same G1 G->Rep K G v d->KX v σ H
 |.bad=>False
def tS(g:SM):TS:=λDn σ H=>∃G Z,EOk K B G0 G H σ Z/\aftS K B G0 KX (g Z) G Dn
def sB{α:Type}(f:M α)(g:α->SM):SM:=λZ=>match f Z with | .ok a Z'=>g a Z' | .bad=>.bad
end
section
variable{X:Cx}{B G0:Hp}{KX:XW}{e a b c:Uo}{pos:Pos}{es rest:List Uo}{st:Stmt}{sts sts2:List Stmt}
theorem aftS.mono{K:Frag}{o:Out}{G G':Hp}{Dn:Ends}(e:Same G G')(h:aftS K B G0 KX o G Dn):aftS K B G0 KX o G' Dn:=by
 cases o with
 |nx Z=>exact λσ G2 H2 k s=>h σ G2 H2 k (e.trans s)
 |bk Z=>exact λσ G2 H2 k s=>h σ G2 H2 k (e.trans s)
 |ct Z=>exact λσ G2 H2 k s=>h σ G2 H2 k (e.trans s)
 |rt d=>exact h
 |ro ds=>exact h
 |ex Z d=>exact λv σ G2 H2 k s r=>h v σ G2 H2 k (e.trans s) r
 |bad=>exact h
theorem tS.bnd{K:Frag}{α γ:Type}{R:Hp->γ->α->Prop}{f:M α}{g:α->SM}{Dn:Ends}{σ:St}{H:Hp}{P:γ->Hp->Prop}(q:tS K B G0 KX (sB f g) Dn σ H)
  (i:∀v H' G' Z' x,EOk K B G0 G' H' σ Z'->R G' v x->aftS K B G0 KX (g x Z') G' Dn->P v H'):tM K B G0 R f σ H P:=by
 obtain⟨G,Z,k,a⟩:=q;refine⟨G,Z,k,?_⟩;unfold sB at a;cases z:f Z with
 |bad=>rw[z]at a;exact a.elim
 |ok d Z1=>rw[z]at a;exact λv G' H' e s r=>i v H' G' Z1 d e r (aftS.mono s a)
def sNx:SM:=λZ=>.nx Z
def UP(g h:SM):SM:=λZ=>match g Z with | .nx Z'=>h Z'|o=>o
theorem On:PSs X [] (tS X.K B G0 KX sNx):=NQ Be λD σ H ⟨G,Z,k,a⟩=>a σ G H k (.refl _)
theorem SQ{g h:SM}(h1:PS X st (tS X.K B G0 KX g))(h2:PSs X sts (tS X.K B G0 KX h)):PSs X (st::sts) (tS X.K B G0 KX (UP g h)):=NQ (AG h1 h2) λD σ H ⟨G,Z,k,a⟩=>by
 refine⟨G,Z,k,?_⟩;unfold UP at a;cases z:g Z with
 |nx Z1=>rw[z]at a;exact λσ' G' H' k' s'=>⟨G',Z1,k',aftS.mono s' a⟩
 |rt d=>rw[z]at a;exact a
 |ro ds=>rw[z]at a;exact a
 |bk Z1=>rw[z]at a;exact a
 |ct Z1=>rw[z]at a;exact a
 |ex Z1 d=>rw[z]at a;exact a
 |bad=>rw[z]at a;exact a.elim
theorem SJ{g:SM}(h1:PS X st (tS X.K B G0 KX g)):PSs X [st] (tS X.K B G0 KX g):=Bd h1
def Wk:SM:=λ_=>.bad
theorem BK:PS X st (tS X.K B G0 KX Wk):=λ_ _ _ _ _ _ ⟨_,_,_,a⟩=>a.elim
def U4(f:M D):SM:=sB f λd _=>.rt d
theorem N8{f:M D}(h:PE X e (tD X.K B G0 f)):PS X (.Return (some e) pos) (tS X.K B G0 KX (U4 f)):=Zr (E6 h) λD σ H q=>tS.bnd (R:=Rep X.K) q λv H' G' Z' x k r a=>a v G' H' k.exit r
def XJ(f:M D):SM:=sB f λ_ Z=>.nx Z
theorem D1{f:M D}(h:PE X e (tD X.K B G0 f))(hs:swapsWith e none pos.line X.env=pure false:=by rfl):PS X (.Expr e pos) (tS X.K B G0 KX (XJ f)):=Zr (Lz h hs) λD σ H q=>tS.bnd (R:=Rep X.K) q λv H' G' Z' x k r a=>a σ G' H' k (.refl _)
def sIf(f:M Bool)(g h:SM):SM:=sB f λt=>if t=true then g else h
theorem P4{f:M Bool}{g h:SM}(hc:PT X c (tBo X.K B G0 f))(ha:PSs X sts (tS X.K B G0 KX g))(hb:PSs X sts2 (tS X.K B G0 KX h)):PS X (.If c sts sts2 pos) (tS X.K B G0 KX (sIf f g h)):=
 Zr (Fu hc ha hb) λD σ H q=>tS.bnd (R:=λ_ b c=>b=c) q λv H' G' Z' x k r a=>by
  have r:v=x:=r;subst r;cases v with
  |true=>exact⟨G',Z',k,a⟩
  |false=>exact⟨G',Z',k,a⟩
def tG(K:Frag)(B G0:Hp)(s:D->UJ->Option UJ):TG:=λv σ H Q=>∃G Z d Z',EOk K B G0 G H σ Z/\Rep K G v d/\s d Z=some Z'/\∀σ' G' H',EOk K B G0 G' H' σ' Z'->Same G G'->Q σ' H'
def tGs(K:Frag)(B G0:Hp)(s:List D->UJ->Option UJ):TGs:=λv σ H Q=>∃G Z d Z',EOk K B G0 G H σ Z/\Reps K G v d/\s d Z=some Z'/\∀σ' G' H',EOk K B G0 G' H' σ' Z'->Same G G'->Q σ' H'
theorem pgof{t t':TG}(h:PG X e t)(i:∀v σ H Q,t' v σ H Q->t v σ H Q):PG X e t':=λpins s σ H v u Q I r q=>h pins s σ H v u Q I r (i v σ H Q q)
theorem NI{t t':TGs}(h:PGs X es t)(i:∀v σ H Q,t' v σ H Q->t v σ H Q):PGs X es t':=λpins s σ H v u Q I r q=>h pins s σ H v u Q I r (i v σ H Q q)
def gN(i:Nat):D->UJ->Option UJ:=λd Z=>if i<Z.length then some (Z.set i (some (.pub d)))else none
theorem Wf{i:Nat}(h:PG X e (Oc i)):PG X e (tG X.K B G0 (gN i)):=pgof h λv σ H Q ⟨G,Z,d,Z',k,r,e,q⟩=>by
 unfold gN at e;split at e
 ·rename_i hi;cases e;exact q _ G H (k.setPub r hi) (.refl _)
 ·cases e
def gN0:List D->UJ->Option UJ:=λd Z=>match d with | []=>some Z|_=>none
def gNC(s:D->UJ->Option UJ)(t:List D->UJ->Option UJ):List D->UJ->Option UJ:=λds Z=>match ds with|d::r=>(s d Z).bind (t r) | []=>none
theorem R9:PGs X [] (tGs X.K B G0 gN0):=NI Bc λv σ H Q ⟨G,Z,d,Z',k,r,e,q⟩=>by
 cases r with
 |nil=>cases e;exact⟨rfl,q σ G H k (.refl _)⟩
 |cons _ _=>cases e
theorem Wt{s:D->UJ->Option UJ}{t:List D->UJ->Option UJ}(h1:PG X e (tG X.K B G0 s))(h2:PGs X es (tGs X.K B G0 t))
  (hs:(UG (e::es) X.env).map (·.2)=assign e X.env::(UG es X.env).map (·.2):=by rfl):PGs X (e::es) (tGs X.K B G0 (gNC s t)):=NI (AF h1 h2 hs) λv σ H Q ⟨G,Z,d,Z',k,r,e,q⟩=>by
 cases r with
 |nil=>cases e
 |@cons w dw ws dws rw rt=>
  unfold gNC at e;dsimp only at e;cases z:s dw Z with
  |none=>rw[z]at e;cases e
  |some Z1=>rw[z]at e;refine⟨w,ws,rfl,G,Z,dw,Z1,k,rw,z,λσ' G' H' k' s'=>?_⟩;exact⟨G',Z1,dws,Z',k',rt.mono s',e,λσ2 G2 H2 k2 s2=>q σ2 G2 H2 k2 (s'.trans s2)⟩
def gT(n:Nat)(t:List D->UJ->Option UJ):D->UJ->Option UJ:=λd Z=>match d with | .tuple ds=>if ds.length=n then t ds Z else none|_=>none
theorem R8{k1:Nat}{t:List D->UJ->Option UJ}{n:Nat}(hc:X.calm=true)(h:PGs X es (tGs X.K B G0 t))
  (hn:(UG es X.env).length=n:=by rfl) (hst:(UG es X.env).findIdx? (·.1)=none:=by rfl):PG X (.Tuple es k1 pos) (tG X.K B G0 (gT n t)):=pgof (E5 hc h hn hst) λv σ H Q ⟨G,Z,d,Z',k,r,e,q⟩=>by
 unfold gT at e;split at e
 ·split at e
  ·rename_i hl;obtain⟨ad,vs,rfl,h1,r1⟩:=r.tup_inv;exact⟨ad,vs,rfl,YZ k.gh h1,by rw[r1.length];exact hl,G,Z,_,Z',k,r1,e,q⟩
  ·cases e
 ·cases e
def Zp(f:M D)(s:D->UJ->Option UJ):SM:=sB f λd Z=>match s d Z with|some Z'=>.nx Z'|none=>.bad
theorem Ev{tg:Uo}{f:M D}{s:D->UJ->Option UJ}(he:PE X e (tD X.K B G0 f))(hg:PG X tg (tG X.K B G0 s))(hs:swapsWithSole [tg] e pos.line X.env=pure false:=by rfl)(hw:swappedStores [tg] e X.env=pure none:=by rfl)
  (h1:(UG [tg] X.env).map (·.2)=[assign tg X.env]:=by rfl):PS X (.Assign [tg] e pos) (tS X.K B G0 KX (Zp f s)):=
 Zr (DQ he hg hs hw h1) λD σ H q=>tS.bnd (R:=Rep X.K) q λv H' G' Z' x k r a=>by
  cases z:s x Z' with
  |none=>rw[z]at a;exact a.elim
  |some Z2=>rw[z]at a;exact⟨G',Z',x,Z2,k,r,z,λσ2 G2 H2 k2 s2=>a σ2 G2 H2 k2 s2⟩
def U0(i:Nat)(f:M D):SM:=Zp f (gN i)
theorem Eu{i:Nat}{x:Str}{f:M D}{p2:Pos}(hN:X.N.Nodup)(hi:X.N[i]?=some x)(hx:Loc X.env.scope x)(he:PE X e (tD X.K B G0 f))(hs:swapsWith e (some (.Name x p2)) pos.line X.env=pure false:=by rfl)
  (hf:X.fn x=true∨X.env.scope.names.lookup x=some .local:=by first|exact .inl rfl|exact .inr rfl|assumption):PS X (.Assign [.Name x p2] e pos) (tS X.K B G0 KX (U0 i f)):=
 Zr (Ot hN hi hx he hs hf) λD σ H q=>tS.bnd (R:=Rep X.K) q λv H' G' Z' x k r a=>by
  unfold gN at a;split at a
  ·rename_i Z2 hz;split at hz
   ·rename_i hi2;cases hz;exact a _ G' H' (k.setPub r hi2) (.refl _)
   ·cases hz
  ·exact a.elim
def tL(K:Frag)(B G0:Hp)(f:M (List D)):TE:=λσ H Q=>∃G Z,EOk K B G0 G H σ Z/\match f Z with
 |.ok ds Z'=>∀a vs G' H',EOk K B G0 G' H' σ Z'->Same G G'->NewL K B G' H' σ Z' a vs ds->Q (.ref a) H'
 |.bad=>False
def K0(i:Nat)(f:M (List D)):SM:=sB f λds Z=>if i<Z.length then .nx (Z.set i (some (.own ds)))else .bad
theorem Lr{i:Nat}{x:Str}{f:M (List D)}{p2:Pos}(hN:X.N.Nodup)(hi:X.N[i]?=some x)(hx:Loc X.env.scope x)(he:PE X e (tL X.K B G0 f))(hs:swapsWith e (some (.Name x p2)) pos.line X.env=pure false:=by rfl)
  (hf:X.fn x=true∨X.env.scope.names.lookup x=some .local:=by first|exact .inl rfl|exact .inr rfl|assumption):PS X (.Assign [.Name x p2] e pos) (tS X.K B G0 KX (K0 i f)):=
 Zr (Ot hN hi hx he hs hf) λD σ H ⟨G,Z,k,a⟩=>by
  refine⟨G,Z,k,?_⟩;unfold K0 sB at a;cases z:f Z with
  |bad=>rw[z]at a;exact a.elim
  |ok ds Z1=>
   rw[z]at a;intro ad vs G' H' k' s' n;dsimp only at a;split at a
   ·rename_i hl;exact a _ G' H' (k'.setOwn n hl) s'
   ·exact a.elim
theorem NewL.of{K:Frag}{G H:Hp}{σ:St}{Z:UJ}{p:Ul}{vs:List V}{ds:List D}(k:EOk K B G0 G H σ Z)(hp:H p=none)(r:Reps K G vs ds):NewL K B G (upd H p (.lst vs)) σ Z p vs ds where
 b:=k.bh.free hp
 g:=k.gh.free hp
 h:=K9
 r:=r
 f:=λj es q z=>by obtain⟨a,ws,h1,h2,h3,h4,h5⟩:=k.own j es q;rw[z]at h1;cases h1;rw[hp]at h4;cases h4
 dp:=λj pt d v fp q s rr=>k.freshD (Zx hp) hp q s rr
theorem Lq{f:M (List D)}(h:PA X es (tDs X.K B G0 f)):PE X (.List es pos) (tL X.K B G0 (U6 f λxs=>if xs.length<=1000000 then UQ xs else λ_=>.bad)):=
 Kn (Me h) λσ H Q ⟨G,Z,k,a⟩=>by
  refine⟨G,Z,k,?_⟩;unfold U6 at a;cases z:f Z with
  |bad=>rw[z]at a;exact a.elim
  |ok ds Z1=>
   rw[z]at a;dsimp only at a;intro v G' H' k' s' r;by_cases c:ds.length<=1000000
   ·rw[Qm c]at a;refine⟨by rw[r.length];exact QR c lim,λp hp=>?_⟩;exact a p v G' _ (k'.ext (Ext.hid k'.gh hp)) s' (NewL.of k' hp r)
   ·rw[QB c]at a;exact a.elim
def Zk(i:Nat)(f:M D):SM:=λZ0=>match Z0[i]? with
 |some (some (.own _))=>sB f (λd Z=>match Z[i]? with
  |some (some (.own ds))=>if ds.length<1000000 then .nx (Z.set i (some (.own (ds++[d]))))else .bad
  |_=>.bad) Z0
 |_=>.bad
theorem N7{i:Nat}{f:M D}{o:Uo}{apos cpos:Pos}(ho:PE X o (K2 i))(he:PE X e (tD X.K B G0 f))
  (hbase:attributeBase o "append" X.env (eval o X.env)=eval o X.env:=by rfl)
  (hfew:((backTo cpos (Ur [e] X.env)).all (λx=>!x.1)&&(backToKw cpos (keywordEach [] X.env)).all (λx=>x.1.isSome)
   && decide ([e].length+([]:List Keyword).length+(if([]:List Keyword).isEmpty then 0 else 1)<30))=true:=by rfl)
  (hline:(apos.endLine==cpos.line)=true:=by rfl) (hs:Ur [e] X.env=[(false,eval e X.env)]:=by rfl)
  (hsw:swapsWith (.Call (.Attribute o "append" apos) [e] [] cpos) none pos.line X.env=pure false:=by rfl) :
  PS X (.Expr (.Call (.Attribute o "append" apos) [e] [] cpos) pos) (tS X.K B G0 KX (Zk i f)):=
 Zr (Lz (Oa PySem.F.plainAttrs_list PySem.F.slot_list_append PySem.F.type_list_append HD ho (V4 he SK (by rw[hs];rfl)) hbase hfew hline (by rw[hs];rfl) rfl) hsw) λD σ H ⟨G,Z,k,a⟩=>by
  unfold Zk at a;cases q0:Z[i]? with
  |none=>rw[q0]at a;exact a.elim
  |some o0=>
   cases o0 with
   |none=>rw[q0]at a;exact a.elim
   |some sl0=>
    cases sl0 with
    |deep _ _=>rw[q0]at a;exact a.elim
    |pub d=>rw[q0]at a;exact a.elim
    |own ds0=>
     rw[q0]at a;obtain⟨ad,vs0,h1,h2,h3,h4,h5⟩:=k.own i ds0 q0;refine⟨.ref ad,h1,.inl ⟨rfl,_,SqL.of h4⟩,G,Z,k,?_⟩;unfold sB at a;cases z:f Z with
     |bad=>rw[z]at a;exact a.elim
     |ok d Z1=>
      rw[z]at a;dsimp only at a;intro v G' H' k' s' r';cases q:Z1[i]? with
      |none=>rw[q]at a;exact a.elim
      |some o=>
       cases o with
       |none=>rw[q]at a;exact a.elim
       |some sl=>
        cases sl with
        |deep _ _=>rw[q]at a;exact a.elim
        |pub d=>rw[q]at a;exact a.elim
        |own ds=>
         rw[q]at a;dsimp only at a;split at a
         ·rename_i hl;obtain⟨ad',vs,g1,g2,g3,g4,g5⟩:=k'.own i ds q;rw[h1]at g1;cases g1;refine⟨ad,vs,v,rfl,rfl,g4,by rw[g5.length];exact QF hl lim,?_⟩;exact a σ G' _ (k'.change q h1 (g5.append (.cons r' .nil))) s'
         ·exact a.elim
end
structure XI(K:Frag)(J:It)(ds:List D)(G1:Hp):Prop where
 go:∀i G H,Same G1 G->Same G H->i<ds.length->J.go i H
 stop:∀i G H,Same G1 G->Same G H->ds.length<=i->J.stop i H
 yld:∀i G H x H' d,Same G1 G->Same G H->ds[i]?=some d->J.yld i H x H'->∃G',Ext G H G' H'/\Rep K G' x d
def iD(K:Frag)(B G0:Hp)(f:M (List D)):TI:=λσ H R=>∃G Z,EOk K B G0 G H σ Z/\match f Z with
 |.ok ds Z'=>∀J G' H',EOk K B G0 G' H' σ Z'->Same G G'->XI K J ds G'->R J H'
 |.bad=>False
section
variable{X:Cx}{B G0:Hp}{KX:XW}{e a b c tg:Uo}{pos:Pos}{es rest:List Uo}{st:Stmt}{sts sts2:List Stmt}
theorem Xu{t t':TI}(h:PI X tg e t)(i:∀σ H R,t' σ H R->t σ H R):PI X tg e t':=λpins s σ H R I q=>h pins s σ H R I (i σ H R q)
theorem tM.toI{K:Frag}{α γ:Type}{R0:Hp->γ->α->Prop}{f:M α}{g:α->M (List D)}{σ:St}{H:Hp}{R:It->Hp->Prop}{P:γ->Hp->Prop}(q:iD K B G0 (U6 f g) σ H R)
  (i:∀v H' G' Z' x,EOk K B G0 G' H' σ Z'->R0 G' v x->(match g x Z' with
   |.ok ds Z2=>∀J G2 H2,EOk K B G0 G2 H2 σ Z2->Same G' G2->XI K J ds G2->R J H2
   |.bad=>False)->P v H'):tM K B G0 R0 f σ H P:=by
 obtain⟨G,Z,k,a⟩:=q;refine⟨G,Z,k,?_⟩;unfold U6 at a;cases z:f Z with
 |bad=>rw[z]at a;exact a.elim
 |ok d Z1=>
  rw[z]at a;intro v G' H' e s r;refine i v H' G' Z1 d e r ?_;dsimp only at a;cases z2:g d Z1 with
  |bad=>rw[z2]at a;exact a.elim
  |ok ds Z2=>rw[z2]at a;exact λJ G2 H2 k2 s2 it=>a J G2 H2 k2 (s.trans s2) it
theorem jo{K:Frag}{G1:Hp}{ad:Ul}{vs:List V}{ds:List D}(h:SqL K G1 ad vs)(r:Reps K G1 vs ds):XI K (Itl K ad) ds G1 where
 go:=λi G H s1 s2 hi=>by
  have hi':i<vs.length:=by rw[r.length];exact hi
  exact⟨vs,vs[i],(s1.trans s2).seq h,Qe hi'⟩
 stop:=λi G H s1 s2 hi=>⟨vs,(s1.trans s2).seq h,by rw[r.length];exact hi⟩
 yld:=λi G H x H' d s1 s2 e y=>by obtain⟨rfl,y⟩:=y;obtain⟨v,e1,r1⟩:=r.get e;have:=y vs ((s1.trans s2).seq h);rw[e1]at this;cases this;exact⟨G,.refl s2,r1.mono s1⟩
def ZY(lo hi:Int):List D:=(Ut (hi-lo).toNat).map λ(k:Nat)=>.int (lo+k)
theorem Yx(lo hi:Int):(ZY lo hi).length=(hi-lo).toNat:=by unfold ZY;rw[Qb,Qq]
theorem GF{K:Frag}{G1:Hp}(lo hi:Int):XI K (Itr lo (hi-lo).toNat) (ZY lo hi) G1 where
 go:=λi G H s1 s2 h=>by rw[Yx]at h;exact h
 stop:=λi G H s1 s2 h=>by rw[Yx]at h;exact h
 yld:=λi G H x H' d s1 s2 e y=>by
  obtain⟨rfl,rfl⟩:=y;unfold ZY at e;rw[Qd]at e;have hi:i<(Ut (hi-lo).toNat).length:=by refine Nat.lt_of_not_le λz=>?_;rw[Jd z]at e;cases e
  rw[Qe hi,List.getElem_range]at e;cases e;exact⟨G,.refl s2,.int _⟩
def Sr:List D->Option (List D)
 |[.int j]=>if j<=1000000 /\ -1000000<=j then some (ZY 0 j)else none
 |_=>none
def Sq:List D->Option (List D)
 |[.int i,.int j]=>if j<=1000000 /\ -1000000<=j/\i<=1000000 /\ -1000000<=i then some (ZY i j)else none
 |_=>none
def YK(f:M (List D)):M (List D):=U6 f λx=>U8 (Sr x)
def RW(f:M (List D)):M (List D):=U6 f λx=>U8 (Sq x)
theorem qV{f:M (List D)}{p2:Pos}(hg:Gl X "range")(hm:X.mg "range" = none)(ha:PA X [a] (tDs X.K B G0 f))(hs:Ur [a] X.env=[(false,eval a X.env)]:=by rfl) :
  PI X tg (.Call (.Name "range" p2) [a] [] pos) (iD X.K B G0 (YK f)):=Xu (jS hg hm ha hs) λσ H R q=>tM.toI (R0:=Reps X.K) q λv H' G' Z' x k r a=>by
 cases z:Sr x with
 |none=>rw[z]at a;exact a.elim
 |some ds=>
  rw[z]at a;unfold Sr at z;split at z
  ·split at z
   ·rename_i j c;cases z;obtain⟨w,rfl,r'⟩:=r.one_inv;refine⟨j,by rw[r'.int_inv],by omega,by omega,?_⟩;have it:=GF (K:=X.K) (G1:=G') 0 j;rw[Int.sub_zero]at it;exact a _ G' H' k (.refl _) it
   ·cases z
  ·cases z
theorem qU{f:M (List D)}{p2:Pos}(hg:Gl X "range")(hm:X.mg "range" = none)(ha:PA X [a,b] (tDs X.K B G0 f))(hs:Ur [a,b] X.env=[(false,eval a X.env),(false,eval b X.env)]:=by rfl)(hs2:Ur [b] X.env=[(false,eval b X.env)]:=by rfl) :
  PI X tg (.Call (.Name "range" p2) [a,b] [] pos) (iD X.K B G0 (RW f)):=Xu (jR hg hm ha hs hs2) λσ H R q=>tM.toI (R0:=Reps X.K) q λv H' G' Z' x k r a=>by
 cases z:Sq x with
 |none=>rw[z]at a;exact a.elim
 |some ds=>
  rw[z]at a;unfold Sq at z;split at z
  ·split at z
   ·rename_i i j c;cases z;obtain⟨w,w',rfl,r1,r2⟩:=r.two_inv;refine⟨i,j,by rw[r1.int_inv,r2.int_inv],⟨by omega,by omega,by omega,by omega⟩,?_⟩;exact a _ G' H' k (.refl _) (GF i j)
   ·cases z
  ·cases z
def Yl(n:Nat):List D->List D
 |[]=>[]
 |d::r=>.tuple [.int n,d]::Yl (n+1) r
theorem Ys:∀(n:Nat)(ds:List D),(Yl n ds).length=ds.length
 |_,[]=>rfl
 |n,d::r=>by rw[Yl,QC,QC,Ys]
theorem Nh:∀(n:Nat)(ds:List D)(i:Nat),(Yl n ds)[i]?=ds[i]?.map λd=>.tuple [.int ((n+i:Nat):Int),d]
 |_,[],i=>by simp[Yl]
 |n,d::r,0=>by simp[Yl]
 |n,d::r,i+1=>by
  rw[Yl,JZ,JZ,Nh (n+1) r i];have:n+1+i=n+(i+1):=by omega
  rw[this]
theorem jn{K:Frag}{G1:Hp}{ad:Ul}{vs:List V}{ds:List D}(h:SqL K G1 ad vs)(r:Reps K G1 vs ds):XI K (Ite K ad) (Yl 0 ds) G1 where
 go:=λi G H s1 s2 hi=>by
  rw[Ys]at hi;have hi':i<vs.length:=by rw[r.length];exact hi
  exact⟨vs,vs[i],(s1.trans s2).seq h,Qe hi'⟩
 stop:=λi G H s1 s2 hi=>by rw[Ys]at hi;exact⟨vs,(s1.trans s2).seq h,by rw[r.length];exact hi⟩
 yld:=λi G H x H' d s1 s2 e y=>by
  obtain⟨p,v,hp,rfl,y,rfl⟩:=y;rw[Nh]at e;cases z:ds[i]? with
  |none=>rw[z]at e;cases e
  |some d0=>rw[z]at e;cases e;obtain⟨w,e1,r1⟩:=r.get z;have:=y vs ((s1.trans s2).seq h);rw[e1]at this;cases this;refine⟨upd G p (.tup [.int i,v]),Ext.new s2 hp,.tup (SqT.of K9) (.cons ?_ (.cons ((r1.mono s1).mono (Zx (s2.free hp))) .nil))⟩;rw[QX];exact .int _
def Rr:List D->Option (List D)
 |[.list ds]=>some (Yl 0 ds)
 |_=>none
def YJ(f:M (List D)):M (List D):=U6 f λx=>U8 (Rr x)
theorem Lp{f:M (List D)}{p2:Pos}{elts:List Uo}{x1}{tp:Pos}(hg:Gl X "enumerate")(hm:X.mg "enumerate" = none)(ha:PA X [a] (tDs X.K B G0 f))(hs:Ur [a] X.env=[(false,eval a X.env)]:=by rfl) :
  PI X (.Tuple elts x1 tp) (.Call (.Name "enumerate" p2) [a] [] pos) (iD X.K B G0 (YJ f)):=Xu (Bt hg hm ha hs) λσ H R q=>tM.toI (R0:=Reps X.K) q λv H' G' Z' x k r a=>by
 cases z:Rr x with
 |none=>rw[z]at a;exact a.elim
 |some ds=>
  rw[z]at a;unfold Rr at z;split at z
  ·cases z;obtain⟨w,rfl,r'⟩:=r.one_inv;obtain⟨ad,vs,rfl,h1,r1⟩:=r'.lst_inv;exact⟨ad,vs,rfl,k.gh.seq h1,a _ G' H' k (.refl _) (jn h1 r1)⟩
  ·cases z
def Vv(s:D->UJ->Option UJ)(g:SM):List D->SM
 |[],Z=>.nx Z
 |d::r,Z=>match s d Z with
  |none=>.bad
  |some Z1=>match g Z1 with
   |.nx Z2=>Vv s g r Z2
   |.ct Z2=>Vv s g r Z2
   |.bk Z2=>.nx Z2
   |.rt d=>.rt d
   |.ro ds=>.ro ds
   |.ex Z2 d=>.ex Z2 d
   |.bad=>.bad
def Ko(f:M (List D))(s:D->UJ->Option UJ)(g:SM):SM:=sB f λds=>Vv s g ds
theorem Os{iter:Uo}{body:List Stmt}{f:M (List D)}{s:D->UJ->Option UJ}{g:SM}(hp:PassesOwn (model X.prog X.w) X.A X.env X.xe)(hc:X.calm=true)(hi:PI X tg iter (iD X.K B G0 f))(hg:PG X tg (tG X.K B G0 s))(hb:PSs X body (tS X.K B G0 KX g))
  (hs:∀x,UH iter X.env x=pure x:=by intro _;rfl):PS X (.For tg iter body [] pos) (tS X.K B G0 KX (Ko f s g)):=
 Zr (DN hp hc hi hg hb hs) λDn σ H ⟨G,Z,k,a⟩=>by
  refine⟨G,Z,k,?_⟩;unfold Ko sB at a;cases z:f Z with
  |bad=>rw[z]at a;exact a.elim
  |ok ds Z1=>
   rw[z]at a;dsimp only at a⊢;intro J G1 H1 k1 s1 it;refine⟨λi m σ' H'=>m=ds.length-i/\∃G' Z',EOk X.K B G0 G' H' σ' Z'/\Same G1 G'/\aftS X.K B G0 KX (Vv s g (ds.drop i) Z') G' Dn,⟨ds.length,by omega,G1,Z1,k1,.refl _,by rw[List.drop_zero];exact aftS.mono s1 a⟩,?_⟩;rintro i m σ' H' ⟨rfl,G',Z',k',s',a'⟩;by_cases hi:i<ds.length
   ·right;refine⟨it.go i G' H' s' k'.gh hi,λσ2 H2=>∃G2 Z2,EOk X.K B G0 G2 H2 σ2 Z2/\Same G1 G2/\aftS X.K B G0 KX (Vv s g (ds.drop (i+1)) Z2) G2 Dn,λσ2 H2 h2=>⟨ds.length-(i+1),by omega,rfl,h2⟩,λx H2 y=>?_⟩
    obtain⟨G2,ex,rx⟩:=it.yld i G' H' x H2 ds[i] s' k'.gh (Qe hi) y;rw[Jo hi,Vv]at a';cases z2:s ds[i] Z' with
    |none=>rw[z2]at a';exact a'.elim
    |some Z2=>
     rw[z2]at a';dsimp only at a';refine⟨G2,Z',ds[i],Z2,k'.ext ex,rx,z2,λσ3 G3 H3 k3 s3=>⟨G3,Z2,k3,?_⟩⟩;have s13:Same G1 G3:=(s'.trans ex.g).trans s3;cases z3:g Z2 with
     |nx Z3=>rw[z3]at a';exact λσ4 G4 H4 k4 s4=>⟨G4,Z3,k4,s13.trans s4,aftS.mono ((ex.g.trans s3).trans s4) a'⟩
     |ct Z3=>rw[z3]at a';exact λσ4 G4 H4 k4 s4=>⟨G4,Z3,k4,s13.trans s4,aftS.mono ((ex.g.trans s3).trans s4) a'⟩
     |bk Z3=>rw[z3]at a';exact λσ4 G4 H4 k4 s4=>a' σ4 G4 H4 k4 ((ex.g.trans s3).trans s4)
     |rt d=>rw[z3]at a';exact a'
     |ro ds=>rw[z3]at a';exact a'
     |ex Z3 d=>rw[z3]at a';exact λv σ4 G4 H4 k4 s4 r4=>a' v σ4 G4 H4 k4 ((ex.g.trans s3).trans s4) r4
     |bad=>rw[z3]at a';exact a'.elim
   ·left;rw[List.drop_eq_nil_of_le (by omega)]at a'
    exact⟨it.stop i G' H' s' k'.gh (by omega),a' σ' G' H' k' (.refl _)⟩
theorem BJ{k:Nat}{f:Ul}{fd:Um}{ps:List Str}{F:List D->Option D}{g:M (List D)}{x:Str}{p2:Pos}{n:Nat}(FK:FnOk X.prog X.w X.K X.mg X.base CX0 k f fd ps (spD X.K n F))(hr:Room k X.A)(hg:Gl X x)(hm:X.mg x=some (.ref f))(hk:PySem.W.keepIn X.K (.ref f)=true)
  (hb:VA X.K fd ps []) (ha:PA X (e::es) (tDs X.K B G0 g)) (hn:(e::es).length=n) (hdb:(x==("__debug__" : Str))=false:=by decide) (he:Ur (e::es) X.env=(false,eval e X.env)::Ur es X.env:=by rfl) (hpl:(backTo pos (Ur es X.env)).any (·.1)=false:=by rfl) :
  PE X (.Call (.Name x p2) (e::es) [] pos) (tD X.K B G0 (U6 g λxs=>if xs.length=n then U8 (F xs)else λ_=>.bad)):=
 Kn (Ba FK hr hg hm hk hb .nil Fg ha hdb he hpl) λσ H Q q=>tM.one (R:=Reps X.K) q λv H2 G Z ds k r a=>by
  split at a
  ·rename_i hl;obtain⟨d,e,a⟩:=a.opt;exact⟨G,ds,d,by rw[Jb,r.length];exact hl,k.gh,by rw[Jb];exact r,e,λw G' H' ex rw=>a.done k ex rw⟩
  ·exact a.elim
end
def Xn(N:List Str)(ds:List D):UJ:=(ds.map λd=>some (Sl.pub d))++Uu (N.length-ds.length) none
theorem BI{K:Frag}{N:List Str}{G H:Hp}{vs:List V}{ds:List D}(s:Same G H)(r:Reps K G vs ds):EOk K H G G H (L2.XU N vs) (Xn N ds) where
 bh:=.refl _
 gh:=s
 g0:=.refl _
 np:=λ_ _ _ n=>n
 len:=by unfold L2.XU Xn;rw[Qi,Qi,Qb,Qb,Qy,Qy,r.length]
 pub:=λi d q=>by
  unfold Xn at q;unfold L2.XU;by_cases hi:i<ds.length
  ·rw[Qw (by rw[Qb];exact hi),Qd]at q;cases z:ds[i]? with
   |none=>rw[z]at q;cases q
   |some d'=>rw[z]at q;cases q;obtain⟨v,e1,r1⟩:=r.get z;refine⟨v,?_,r1⟩;rw[Qw (by rw[Qb,r.length];exact hi),Qd,e1];rfl
  ·rw[Qx (by rw[Qb];omega),QA]at q;split at q<;>cases q
 own:=λi es q=>by
  unfold Xn at q;by_cases hi:i<ds.length
  ·rw[Qw (by rw[Qb];exact hi),Qd]at q;cases z:ds[i]? with
   |none=>rw[z]at q;cases q
   |some d'=>rw[z]at q;cases q
  ·rw[Qx (by rw[Qb];omega),QA]at q;split at q<;>cases q
 sep:=λi j a es fs q _ _ _=>by
  unfold Xn at q;by_cases hi:i<ds.length
  ·rw[Qw (by rw[Qb];exact hi),Qd]at q;cases z:ds[i]? with
   |none=>rw[z]at q;cases q
   |some d'=>rw[z]at q;cases q
  ·rw[Qx (by rw[Qb];omega),QA]at q;split at q<;>cases q
 dp:=by
  have key:∀{i:Nat}{s:Sl},(Xn N ds)[i]?=some (some s)->∃d,s=.pub d:=λ{i s} q=>by
   unfold Xn at q;by_cases hi:i<ds.length
   ·rw[Qw (by rw[Qb];exact hi),Qd]at q;cases z:ds[i]? with
    |none=>rw[z]at q;cases q
    |some d'=>rw[z]at q;cases q;exact⟨_,rfl⟩
   ·rw[Qx (by rw[Qb];omega),QA]at q;split at q<;>cases q
  exact .of (λi p d q=>by obtain⟨_,e⟩:=key q;cases e) λi ds q=>by obtain⟨_,e⟩:=key q;cases e
def U5(N:List Str)(g:SM)(ds:List D):Option D:=match g (Xn N ds)with
 |.rt d=>some d
 |.nx _=>some .none
 |_=>none
theorem okD{P:Uk}{w:World}{K:Frag}{mg:Str->Option Ui}{base:Heap}{x qual:Str}{st:Stmt}{f:Ul}{fd:Um}{N ps:List Str}{k n:Nat}{g:SM}(F:Fun K x qual st f fd)(S:RE N ps (Z8 st))(hn:ps.length=n)
  (der:∀(cdv:Ui)(A:Around)(outer:List Env)(s:Uj)(H:Hp)(E:XK)(B G0:Hp),Room k (A.deeper (envOfC qual (Z8 st) s.heap.objs.size f cdv)) ->
   PSs (Y5 CX0 P w K mg base N qual (Z8 st) f cdv A outer s H E).nox (Wu st) (tS K B G0 KX0 g)):FnOk P w K mg base CX0 (k+1) f fd ps (spD K n (U5 N g)):=by
 refine F.ok S (λvs H Q E h=>?_) (λcdv A outer s H vs Q E hr h=>?_)
 ·obtain⟨_,_,_,hl,_⟩:=h;rw[hl,hn]
 ·obtain⟨G,ds,d,hl,sg,r,hF,q⟩:=h;refine⟨_,der cdv A outer s H E H G hr,G,Xn N ds,BI sg r,?_⟩;unfold U5 at hF;cases z:g (Xn N ds)with
  |rt d'=>rw[z]at hF;cases hF;exact λv G' H' ex rr=>q v G' H' ex rr
  |nx Z=>rw[z]at hF;cases hF;exact λσ' G' H' k' _=>q .non G' H' k'.exit .non
  |ro ds=>rw[z]at hF;cases hF
  |bk Z=>rw[z]at hF;cases hF
  |ct Z=>rw[z]at hF;cases hF
  |ex Z d=>rw[z]at hF;cases hF
  |bad=>rw[z]at hF;cases hF
section
variable{X:Cx}{B G0:Hp}{e a b c tg:Uo}{pos:Pos}{es rest:List Uo}
def oNeg:D->Option D
 |.int i=>some (.int (-i))
 |_=>none
def ZU(f:M D):M D:=U6 f λx=>U8 (oNeg x)
theorem Lo{f:M D}(h:PE X a (tD X.K B G0 f)):PE X (.UnaryOp .USub a pos) (tD X.K B G0 (ZU f)):=
 Kn (Fp DG h) λσ H Q q=>tM.one (R:=Rep X.K) q λv H2 G Z x k r a=>by
  cases x with
  |int i=>exact⟨i,r.int_inv,aft.now a k (.int _)⟩
  |_=>exact a.elim
end
def Def(P:Uk)(w:World)(K:Frag)(mg:Str->Option Ui)(base:Heap)(x:Str)(k n:Nat)(F:List D->Option D):Prop:=
 ∃(f:Ul)(fd:Um)(ps:List Str),mg x=some (.ref f)/\PySem.W.keepIn K (.ref f)=true/\VA K fd ps []/\FnOk P w K mg base CX0 k f fd ps (spD K n F)
def UX(n:Nat)(F:List D->Option D)(g:M (List D)):M D:=U6 g λxs=>if xs.length=n then U8 (F xs)else λ_=>.bad
section
variable{X:Cx}{B G0:Hp}{e:Uo}{pos:Pos}{es:List Uo}
theorem D0{k n:Nat}{F:List D->Option D}{g:M (List D)}{x:Str}{p2:Pos}(d:Def X.prog X.w X.K X.mg X.base x k n F)(hr:Room k X.A)(hg:Gl X x)(ha:PA X (e::es) (tDs X.K B G0 g))(hn:(e::es).length=n:=by rfl)
  (hdb:(x==("__debug__" : Str))=false:=by decide) (he:Ur (e::es) X.env=(false,eval e X.env)::Ur es X.env:=by rfl) (hpl:(backTo pos (Ur es X.env)).any (·.1)=false:=by rfl) :
  PE X (.Call (.Name x p2) (e::es) [] pos) (tD X.K B G0 (UX n F g)):=by
 obtain⟨f,fd,ps,h1,h2,h3,h4⟩:=d;exact BJ h4 hr hg h1 h2 h3 ha hn hdb he hpl
end
theorem Def.mk{P:Uk}{w:World}{K:Frag}{mg:Str->Option Ui}{base:Heap}{x:Str}{k n:Nat}{F:List D->Option D}{st:Stmt}{f:Ul}{fd:Um}{ps:List Str}(hm:mg x=some (.ref f))(FU:Fun K x x st f fd)(hb:VA K fd ps [])(ok:FnOk P w K mg base CX0 k f fd ps (spD K n F)) :
  Def P w K mg base x k n F:=⟨f,fd,ps,hm,FU.kp,hb,ok⟩
theorem Et{K:Frag}{H:Hp}{a:Ul}{ns:List Int}{F:List D->Option D}{E:XK}(hS:SqL K H a (ns.map V.int))(h:F [.list (ns.map int)]=some (.bool true)):spD K 1 F [.ref a] H (λv _=>v=.bl true) E:=
 ⟨H,[.list (ns.map int)],.bool true,rfl,.refl _,.cons (.lst hS (Reps.ints ns)) .nil,h,λ_ _ _ _ r=>r.bl_inv⟩
end DL
namespace L2
open PySem PySem.Spec PyProof.Rows
theorem mem_of_lookup{x:Str}{k:NameKind}:∀{l:List (Str×NameKind)},l.lookup x=some k->(x,k)∈l
 |[],h=>by cases h
 |(y,j)::r,h=>by
  rw[QZ]at h;split at h
  ·rename_i e;cases h;have:x=y:=by simpa using e
   rw[this];exact Qn
  ·exact Ql _ (mem_of_lookup h)
theorem Nz{env:Env}:∀(l:List (Str×NameKind))(acc:List (Str×Ul)),(∀y∈l,y.2=.free->∃c,env.cells.lookup y.1=some c) ->
  ∃cl,(forIn l acc (λx r=>if(x.2==NameKind.free)=true then(do let a ←cellOf env x.1;pure (ForInStep.yield ((x.1,a)::r)))else pure (ForInStep.yield r)):Sem (List (Str×Ul)))=pure cl /\
   (∀x c,cl.lookup x=some c->acc.lookup x=some c∨env.cells.lookup x=some c)/\(∀y∈l,y.2=.free->∃c,cl.lookup y.1=some c)/\(∀x c,acc.lookup x=some c->∃c',cl.lookup x=some c')
 |[],acc,_=>⟨acc,rfl,λ_ _ h=>.inl h,λ_ h=>absurd h (by simp),λx c h=>⟨c,h⟩⟩
 |(n,k)::r,acc,h=>by
  by_cases hk:k=.free
  ·subst hk;obtain⟨c,hc⟩:=h (n,.free) Qn rfl;obtain⟨cl,e,p1,p2,p3⟩:=Nz r ((n,c)::acc) λy hy=>h y (Ql _ hy)
   have hco:cellOf env n=pure c:=by unfold cellOf;rw[hc]
   have key:∀x c',((n,c)::acc).lookup x=some c'->acc.lookup x=some c'∨env.cells.lookup x=some c':=λx c' q=>by
    rw[QZ]at q;split at q
    ·rename_i e1;cases q;have:x=n:=by simpa using e1
     subst this;exact .inr hc
    ·exact .inl q
   have own:((n,c)::acc).lookup n=some c:=by rw[List.lookup_cons];simp
   refine⟨cl,?_,λx c' q=>?_,λy hy hf=>?_,λx c' q=>?_⟩
   ·rw[List.forIn_cons];have:(if(((n,NameKind.free):Str×NameKind).2==NameKind.free)=true then(do let a ←cellOf env n;pure (ForInStep.yield ((n,a)::acc)))else pure (ForInStep.yield acc):Sem _)=pure (ForInStep.yield ((n,c)::acc)):=by rw[Qm (show((n,NameKind.free).snd==NameKind.free)=true from rfl),hco];rfl
    refine Eq.trans ?_ e;dsimp only at this⊢;rw[this];rfl
   ·rcases p1 x c' q with z|z
    ·exact key x c' z
    ·exact .inr z
   ·rcases QS.mp hy with z|z
    ·subst z;exact p3 n c own
    ·exact p2 y z hf
   ·by_cases hx:x=n
    ·subst hx;exact p3 x c own
    ·refine p3 x c' ?_;have hb:(x==n)=false:=by simpa using hx
     rw[QZ,hb];exact q
  ·obtain⟨cl,e,p1,p2,p3⟩:=Nz r acc λy hy=>h y (Ql _ hy)
   refine⟨cl,?_,p1,λy hy hf=>?_,p3⟩
   ·rw[List.forIn_cons];have hb:(k==NameKind.free)=false:=by cases k<;>first|rfl|exact absurd rfl hk
    refine Eq.trans ?_ e;dsimp only;rw[hb,QB (by decide)];rfl
   ·rcases QS.mp hy with z|z
    ·subst z;exact absurd hf hk
    ·exact p2 y z hf
theorem jm{scope:Scope}{env:Env}(h:∀y∈scope.names,y.2=.free->∃c,env.cells.lookup y.1=some c) :
  ∃cl,closureFor scope env=pure cl/\(∀x c,cl.lookup x=some c->env.cells.lookup x=some c)/\∀y∈scope.names,y.2=.free->∃c,cl.lookup y.1=some c:=by
 obtain⟨cl,e,p1,p2,_⟩:=Nz scope.names [] h;refine⟨cl,?_,λx c q=>(p1 x c q).elim (λz=>by cases z) id,p2⟩;have e2:((forIn scope.names [] (λx r=>if(x.2==NameKind.free)=true then(do let a ←cellOf env x.1;pure (ForInStep.yield ((x.1,a)::r)))else pure (ForInStep.yield r)):Sem (List (Str×Ul))) >>= λs=>pure s)=pure cl:=by rw[e];rfl
 exact e2
theorem GE{env:Env}{x:Str}{k:NameKind}:∀{names:List (Str×NameKind)},(names.map λ(n,k)=>if(k==NameKind.free&&env.scope.kind==.function&&env.kindOf n==some .cell)then(n,NameKind.cell)else(n,k)).lookup x=some k ->
  names.lookup x=some k∨(names.lookup x=some .free/\k=.cell)
 |[],h=>by cases h
 |(n,j)::r,h=>by
  have ih:=@GE env x k r;have h:List.lookup x ((if(j==NameKind.free&&env.scope.kind==.function&&env.kindOf n==some .cell)=true then(n,NameKind.cell)else(n,j))::_)=some k:=h;cases hx:x==n with
  |true=>
   by_cases hc:(j==NameKind.free&&env.scope.kind==.function&&env.kindOf n==some .cell)=true
   ·rw[Qm hc]at h;simp only[QZ,hx]at h⊢;cases h;simp only[Ji]at hc;have:j=.free:=by have:=hc.1.1;cases j<;>first|rfl|cases this
    subst this;exact .inr ⟨rfl,rfl⟩
   ·rw[QB hc]at h;simp only[QZ,hx]at h⊢;exact .inl h
  |false=>
   by_cases hc:(j==NameKind.free&&env.scope.kind==.function&&env.kindOf n==some .cell)=true
   ·rw[Qm hc]at h;simp only[QZ,hx]at h⊢;exact ih h
   ·rw[QB hc]at h;simp only[QZ,hx]at h⊢;exact ih h
theorem NC{env:Env}{x:Str}:∀{names:List (Str×NameKind)},names.lookup x=some .free ->
  (names.map λ(n,k)=>if(k==NameKind.free&&env.scope.kind==.function&&env.kindOf n==some .cell)then(n,NameKind.cell)else(n,k)).lookup x=some .free ∨
  (names.map λ(n,k)=>if(k==NameKind.free&&env.scope.kind==.function&&env.kindOf n==some .cell)then(n,NameKind.cell)else(n,k)).lookup x=some .cell
 |[],h=>by cases h
 |(n,j)::r,h=>by
  have ih:=@NC env x r;show List.lookup x ((if(j==NameKind.free&&env.scope.kind==.function&&env.kindOf n==some .cell)=true then(n,NameKind.cell)else(n,j))::_)=_∨List.lookup x ((if(j==NameKind.free&&env.scope.kind==.function&&env.kindOf n==some .cell)=true then(n,NameKind.cell)else(n,j))::_)=_;cases hx:x==n with
  |true=>
   simp only[QZ,hx]at h;cases h;by_cases hc:(NameKind.free==NameKind.free&&env.scope.kind==.function&&env.kindOf n==some .cell)=true
   ·rw[if_pos hc];simp[List.lookup_cons,hx]
   ·rw[if_neg hc];simp[List.lookup_cons,hx]
  |false=>
   simp only[QZ,hx]at h;by_cases hc:(j==NameKind.free&&env.scope.kind==.function&&env.kindOf n==some .cell)=true
   ·rw[Qm hc];simp only[QZ,hx];exact ih h
   ·rw[QB hc];simp only[QZ,hx];exact ih h
theorem VP{env:Env}{x:Str}{k:NameKind}(hk:k≠.free):∀{names:List (Str×NameKind)},names.lookup x=some k ->
  (names.map λ(n,k)=>if(k==NameKind.free&&env.scope.kind==.function&&env.kindOf n==some .cell)then(n,NameKind.cell)else(n,k)).lookup x=some k
 |[],h=>by cases h
 |(n,j)::r,h=>by
  have ih:=@VP env x k hk r;show List.lookup x ((if(j==NameKind.free&&env.scope.kind==.function&&env.kindOf n==some .cell)=true then(n,NameKind.cell)else(n,j))::_)=_;cases hx:x==n with
  |true=>
   simp only[QZ,hx]at h;cases h;have:(k==NameKind.free)=false:=by cases k<;>first|rfl|exact absurd rfl hk
   rw[if_neg (by rw[this];simp)];simp[List.lookup_cons,hx]
  |false=>
   simp only[QZ,hx]at h;by_cases hc:(j==NameKind.free&&env.scope.kind==.function&&env.kindOf n==some .cell)=true
   ·rw[Qm hc];simp only[QZ,hx];exact ih h
   ·rw[QB hc];simp only[QZ,hx];exact ih h
structure ClOk(env:Env)(scope:Scope)(cl:List (Str×Ul))(L:Ul)(h':Heap):Prop where
 old:∀x c,cl.lookup x=some c->env.cells.lookup x=some c∨(L<c/\h'.IsCell c none)
 fre:∀x,scope.names.lookup x=some .free->∃c,cl.lookup x=some c/\env.cells.lookup x=some c
 cel:∀x,scope.names.lookup x=some .cell->∃c,cl.lookup x=some c/\L<c
 inj:∀x y c,cl.lookup x=some c->cl.lookup y=some c->L<c->x=y
theorem RT:∀(names:List (Str×NameKind))(n:Nat)(acc:List (Str×Ul)),cellsFrom n names acc=cellsFrom n names []++acc
 |[],_,_=>rfl
 |(x,k)::r,n,acc=>by
  unfold cellsFrom;split
  ·rw[RT r (n+1) ((x,n)::acc),RT r (n+1) [(x,n)],QY];rfl
  ·exact RT r n acc
theorem NA:∀(names:List (Str×NameKind))(n:Nat)(x:Str)(c:Ul),(x,c)∈cellsFrom n names []->(x,NameKind.cell)∈names
 |[],_,_,_,h=>by cases h
 |(y,k)::r,n,x,c,h=>by
  unfold cellsFrom at h;split at h
  ·rename_i hk;rw[RT]at h;rcases QJ.mp h with h|h
   ·exact Ql _ (NA r _ x c h)
   ·cases Qv.mp h;have:k=.cell:=by simpa using hk
    rw[this];exact Qn
  ·exact Ql _ (NA r _ x c h)
theorem Es{M:Model}{A:Around}{E:Ui->Uj->Prop}{scope:Scope}{env:Env}{cl0:List (Str×Ul)}{s:Uj}{Q:Env->Uj->Prop}(cl1:∀x c,cl0.lookup x=some c->env.cells.lookup x=some c)(cl2:∀y∈scope.names,y.2=.free->∃c,cl0.lookup y.1=some c)(hn:∀y∈scope.names,scope.names.lookup y.1=some y.2)
  (hlt:∀x c,env.cells.lookup x=some c->c<s.heap.objs.size)
  (h:∀h' cl,h'.Ns s.heap.objs.size (λ_=>none)->(∀b o,s.heap.get? b=some o->h'.get? b=some o)->ClOk env scope cl s.heap.objs.size h'->Q (newEnv scope s.heap.objs.size env.globals cl env.qual none .none (some env) builtinsNs) {s with heap:=h'}) :
  Uq M A (newFunctionEnv scope env.globals cl0 [] env.qual none .none (some env)) Q E s:=by
 simp only[newFunctionEnv,Option.isSome_some,if_true];refine Qf (wpAny_alloc ?_);refine wpAny_bind (wpAny_layCells _ (λname kind cells=>by cases hkc:kind==NameKind.cell<;>simp[hkc]) _ _ _ _ ?_);have ok:=cellsFrom_ok scope.names (s.heap.push {cls:=.type "dict", data:=.dict #[]}) (s.heap.objs.size+1) [] ⟨λ_ _ hm=>(nomatch hm),List.Pairwise.nil⟩ (by rw[JD];exact Qs _);rw[JD]at ok;rw[show({s with heap:=s.heap.push {cls:=.type "dict", data:=.dict #[]}}:Uj).heap.objs.size=s.heap.objs.size+1 from JD ..];rw[List.forIn_nil];refine Qf (Qk (Qk (h _ _ ((Heap.Ns.new s.heap (.type "dict")).keeps (pushCells_keeps _ _)) (λb o e=>pushCells_keeps _ _ b o (Qj _ e)) ?_)));have look:∀x,(cellsFrom (s.heap.objs.size+1) scope.names cl0).lookup x=((cellsFrom (s.heap.objs.size+1) scope.names []).lookup x).or (cl0.lookup x):=λx=>by rw[RT,List.lookup_append]
 have own:∀x c,(cellsFrom (s.heap.objs.size+1) scope.names []).lookup x=some c->scope.names.lookup x=some .cell:=λx c e=>hn _ (NA _ _ _ _ (Jg e))
 refine⟨λx c e=>?_,λx e=>?_,λx e=>?_,λx y c e1 e2 hc=>?_⟩
 ·rw[look]at e;cases z:(cellsFrom (s.heap.objs.size+1) scope.names []).lookup x with
  |none=>rw[z]at e;exact .inl (cl1 x c e)
  |some c'=>rw[z]at e;cases e;obtain⟨h1,h2⟩:=ok.empty x c (Jg z);exact .inr ⟨h2,h1⟩
 ·obtain⟨c,hc⟩:=cl2 (x,.free) (mem_of_lookup e) rfl;refine⟨c,?_,cl1 x c hc⟩;rw[look];cases z:(cellsFrom (s.heap.objs.size+1) scope.names []).lookup x with
  |none=>exact hc
  |some c'=>have:=own x c' z;rw[e]at this;cases this
 ·obtain⟨c,hc⟩:=OY (n:=s.heap.objs.size+1) e;refine⟨c,by rw[look,hc];rfl,(ok.empty x c (Jg hc)).2⟩
 ·rw[look]at e1 e2;cases z1:(cellsFrom (s.heap.objs.size+1) scope.names []).lookup x with
  |none=>rw[z1]at e1;exact absurd (hlt x c (cl1 x c e1)) (Nat.lt_asymm hc)
  |some c1=>
  cases z2:(cellsFrom (s.heap.objs.size+1) scope.names []).lookup y with
  |none=>rw[z2]at e2;exact absurd (hlt y c (cl1 y c e2)) (Nat.lt_asymm hc)
  |some c2=>rw[z1]at e1;rw[z2]at e2;cases e1;cases e2;exact name_of_addr ok.apart (Jg z1) (Jg z2)
def Cx.blk(X:Cx)(N':List Str)(scope:Scope)(cl:List (Str×Ul))(C:Ul)(s₀:Uj)(H₀:Hp)(ex:List Ul):Cx:=
 {X with N:=N',s₀:=s₀,H₀:=H₀,env:=compEnvC scope cl C X.env,outer:=X.stack,ex:=ex,fn:=λx=>scope.names.lookup x==some .cell,xe:=λ_ _=>False}
section
variable{X:Cx}{N':List Str}{scope:Scope}{cl:List (Str×Ul)}{C:Ul}{s₀:Uj}{H₀:Hp}{ex:List Ul}{x:Str}
def visK:Option NameKind->Bool
 |some .local=>true|some .free=>true|some .cell=>true|_=>false
theorem DZ(h:visK (scope.names.lookup x)=true):Vis (X.blk N' scope cl C s₀ H₀ ex).env.scope x:=by
 cases z:scope.names.lookup x with
 |none=>rw[z]at h;cases h
 |some y=>
  rw[z]at h;cases y with
  | «local»=>exact .inl (VP (by decide) z)
  |cell=>exact .inr (.inl (VP (by decide) z))
  |free=>
   rcases NC (env:=X.env) z with z|z
   ·exact .inr (.inr z)
   ·exact .inr (.inl z)
  |_=>cases h
def locK:Option NameKind->Bool
 |some .local=>true|some .cell=>true|_=>false
theorem SO(h:locK (scope.names.lookup x)=true):Loc (X.blk N' scope cl C s₀ H₀ ex).env.scope x/\((X.blk N' scope cl C s₀ H₀ ex).fn x=true∨(X.blk N' scope cl C s₀ H₀ ex).env.scope.names.lookup x=some .local):=by
 cases z:scope.names.lookup x with
 |none=>rw[z]at h;cases h
 |some y=>
  rw[z]at h;cases y with
  | «local»=>exact⟨.inl (VP (by decide) z),.inr (VP (by decide) z)⟩
  |cell=>exact⟨.inr (VP (by decide) z),.inl (by show(scope.names.lookup x==some .cell)=true;rw[z];rfl)⟩
  |_=>cases h
theorem Er(h:scope.names.lookup x=some .globalImplicit):Gl (X.blk N' scope cl C s₀ H₀ ex) x:=VP (by decide) h
end
def RM(names:List (Str×NameKind))(N N2:List Str)(k:Nat):Bool:=
 N2.length==N.length+k&&(Ut N2.length).all λi=>match N2[i]? with
  |none=>true
  |some x=>match names.lookup x with
   |some .free=>N[i]?==some x
   |some .local=>decide (N.length<=i)&&decide (i<N.length+k)
   |some .cell=>decide (N.length<=i)&&decide (i<N.length+k)
   |_=>true
theorem kG{names:List (Str×NameKind)}{N N2:List Str}{k:Nat}(h:RM names N N2 k=true) :
  N2.length=N.length+k/\∀(i:Nat) x,N2[i]?=some x->(names.lookup x=some .free->N[i]?=some x)/\(names.lookup x=some .local∨names.lookup x=some .cell->N.length<=i/\i<N.length+k):=by
 unfold RM at h;simp only[Ji,beq_iff_eq,Jj,Q9]at h;refine⟨h.1,λi x e=>?_⟩;have hi:=(Qg.mp e).1;have:=h.2 i hi;rw[e]at this;refine⟨λq=>?_,λq=>?_⟩
 ·simp only[q]at this;simpa using this
 ·rcases q with q|q<;>(simp only[q]at this;simpa using this)
theorem Inv.enter{X:Cx}{pins:List (Ul×Obj)}{σ:St}{H:Hp}{s3:Uj}(I:Inv X pins σ H s3){scope:Scope}{cl:List (Str×Ul)}{N2:List Str}{k:Nat}{h':Heap}{fp:List Ul}{t':Nat}{m0:Str->Option Ui}
  (hb:RM scope.names X.N N2 k=true) (hkind:scope.kind=.function)
  (hfree:∀y∈scope.names,y.2=.free->X.env.scope.names.lookup y.1=some .cell∨X.env.scope.names.lookup y.1=some .free)
  (hc:ClOk X.env scope cl s3.heap.objs.size h')
  (hn:h'.Ns s3.heap.objs.size m0) (hk:∀b o,s3.heap.get? b=some o->h'.get? b=some o) (hf:∀b∈fp,ZD X pins H b) (hfo:∀b∈fp,∃o,s3.heap.get? b=some o) :
  Inv (X.blk N2 scope cl s3.heap.objs.size s3 H fp) pins (σ++Uu k none) H {s3 with heap:=h',toks:=t'}:=by
 obtain⟨hl,hN⟩:=kG hb;have lt:∀b o,s3.heap.get? b=some o->b≠s3.heap.objs.size:=λb o e=>QQ (Qh e);have ofl:∀x,scope.names.lookup x=some .free->(x,NameKind.free)∈scope.names:=λx h=>mem_of_lookup h;have kinv:∀x kk,(X.blk N2 scope cl s3.heap.objs.size s3 H fp).env.scope.names.lookup x=some kk->scope.names.lookup x=some kk∨(scope.names.lookup x=some .free/\kk=.cell):=λx kk h=>GE (env:=X.env) h
 have isfc:∀x,(X.blk N2 scope cl s3.heap.objs.size s3 H fp).env.scope.names.lookup x=some .cell∨(X.blk N2 scope cl s3.heap.objs.size s3 H fp).env.scope.names.lookup x=some .free->scope.names.lookup x=some .free∨scope.names.lookup x=some .cell:=λx h=>by
  rcases h with h|h
  ·rcases kinv x _ h with z|z
   ·exact .inr z
   ·exact .inl z.1
  ·rcases kinv x _ h with z|z
   ·exact .inl z
   ·exact .inl z.1
 have lto:∀x c,X.env.cells.lookup x=some c->c<s3.heap.objs.size:=λx c e=>let ⟨_,q⟩:=I.cell x c e;q.lt
 have ok:(X.blk N2 scope cl s3.heap.objs.size s3 H fp).Ok:=
  {
   mod:=I.ok.mod
   kind:=hkind
   glob:=I.ok.glob
   blt:=I.ok.blt
   above:=Qs _
   inj:=λx y c a b=>by
    rcases hc.old x c a with q|⟨q,_⟩
    ·rcases hc.old y c b with q'|⟨q',_⟩
     ·exact I.ok.inj x y c q q'
     ·exact absurd (lto x c q) (Nat.lt_asymm q')
    ·exact hc.inj x y c a b q
   has:=λx h=>by
    rcases isfc x h with z|z
    ·exact let ⟨c,e,_⟩:=hc.fre x z;⟨c,e⟩
    ·exact let ⟨c,e,_⟩:=hc.cel x z;⟨c,e⟩
   cab:=λx c h e=>by
    have z:scope.names.lookup x=some .cell:=by have h:(scope.names.lookup x==some .cell)=true:=h;simpa using h
    obtain⟨c',e',l⟩:=hc.cel x z;have e:cl.lookup x=some c:=e;rw[e]at e';cases e';exact Uf l
   hd:=I.ok.hd
   frames:=I.ok.frames
   stk:=.inl rfl
   exf:=λb hb=>⟨let ⟨o,e⟩:=hfo b hb;lt b o e,λx c e=>by
    rcases hc.old x c e with q|⟨q,_⟩
    ·exact(hf b hb).2.2.2.2.1 x c q
    ·obtain⟨o,e'⟩:=hfo b hb;exact JC (Nat.lt_trans (Qh e') q)⟩
   bs:=I.bs
   bsz:=QR I.ok.bsz I.sz
   noex:=λb o e hb=>by
    rcases(hf b hb).2.2.2.1 with z|z
    ·exact I.ok.noex b o e z
    ·exact absurd (QF (Qh e) (QR I.ok.bsz z)) (Jr _)
   exfs:=λb hb hx=>by
    rcases QS.mp (I.stkSub b hx)with z|z
    ·exact(hf b hb).2.1 z
    ·exact(hf b hb).2.2.1 z
   funs:=I.stack
   frf:=I.stkFree}
 refine⟨ok,rfl,I.bare,Un.kept hk,⟨m0,hn,λi x v e1 e2 e3=>?_⟩,λx c e=>?_,I.hok.fresh (Qs _),λx c e=>(hc.old x c e).elim (I.freeC x c) λq=>I.hok.fresh (Uf q.1),λp hp=>?_,I.hok.kept hk,?_⟩
 ·have nl:¬(scope.names.lookup x=some .local∨scope.names.lookup x=some .cell):=λz=>by
   obtain⟨g1,g2⟩:=(hN i x e1).2 z;rw[←I.len]at g1 g2;rw[Qx g1,QA]at e2;split at e2<;>cases e2
  have fr:scope.names.lookup x=some .free:=by
   rcases e3 with z|z
   ·rcases kinv x _ z with q|q
    ·exact absurd (.inl q) nl
    ·cases q.2
   ·rcases isfc x z with q|q
    ·exact q
    ·exact absurd (.inr q) nl
  have eN:=(hN i x e1).1 fr;have hi:i<σ.length:=by rw[I.len];exact(Qg.mp eN).1
  rw[Qw hi]at e2;obtain⟨m,hm,hlk⟩:=I.loc;have hkd:=hfree _ (ofl x fr) rfl;obtain⟨u,r,l⟩:=hlk i x v eN e2 (.inr hkd);refine⟨u,r,.inr ⟨?_,?_⟩⟩
  ·rcases e3 with z|z|z
   ·rcases kinv x _ z with q|q
    ·exact absurd (.inl q) nl
    ·cases q.2
   ·exact .inl z
   ·exact .inr z
  ·rcases l with l|⟨_,c,ec,z⟩
   ·have:X.env.scope.names.lookup x=some .local:=l.1;rcases hkd with q|q<;>(dsimp only at q;rw[this]at q;cases q)
   ·obtain⟨c',ec',this⟩:=hc.fre x fr;rw[ec]at this;cases this;obtain⟨o,ho,hd⟩:=z;exact⟨c,ec',o,hk c o ho,hd⟩
 ·rcases hc.old x c e with q|⟨_,q⟩
  ·obtain⟨v,o,ho,hd⟩:=I.cell x c q;exact⟨v,o,hk c o ho,hd⟩
  ·exact⟨_,q⟩
 ·obtain⟨e,n,ne,nf,d⟩:=I.pin p hp;refine⟨hk _ _ e,n,lt _ _ e,λz=>?_,d⟩;rcases QS.mp (I.stkSub _ z)with q|q
  ·exact ne q
  ·exact nf q
 ·rw[Qi,Qy,I.len];exact hl.symm
abbrev nox:Ui->Uj->Prop:=λ_ _=>False
def RL(prog:Uk)(w:World)(A:Around)(tg:Uo)(ifs:List Uo)(env:Env)(it:Ui)(code:Code)(W:(Uj->Prop)->Uj->Prop):Prop:=
 ∀(R:Result->Uj->Prop)(I:Nat->Uj->Prop)(n:Nat)(s:Uj),I n s ->
  (∀n s,I n s->Uq (model prog w) A (pyNext it) (λr s₁=>match r with
   |none=>R (.ok .next) s₁
   |some v=>Uq (model prog w) A (letOwnedTupleGo tg it v) (λ_ s₁'=>Uq (model prog w) A (assign tg env v) (λ_ s₂=>
     Uq (model prog w) A (forIn ifs true λc r=>if r=true then do let ok ←isTrue c env (eval c env);pure (ForInStep.yield ok)else pure (ForInStep.yield r)) (λok s₃=>
      if ok=true then W (λs₅=>∃m,m<n/\I m s₅) s₃ else ∃m,m<n/\I m s₃) nox s₂) nox s₁') nox s₁) nox s)->codeAny (model prog w) A code R s
section
variable{prog:Uk}{w:World}{A:Around}{elt tg i:Uo}{ifs:List Uo}{gens:List Comprehension}{scope:Scope}{pos:Pos}{it acc:Ui}{env:Env}{j:Nat}
theorem qT(hg:gens[j]?=some ⟨tg,i,ifs,0⟩)(hn:gens[j+1]?=none):RL prog w A tg ifs env it (.compLoop (.ListComp elt gens scope pos) j it acc env)
  (λQ s=>Uq (model prog w) A (eval elt env) (λx s₄=>Uq (model prog w) A (call (.builtin "list.append") [acc,x]) (λ_ s₅=>Q s₅) nox s₄) nox s):=by
 intro R I n s h turn;refine codeAny_loop rfl I (λn s hI=>?_) n h;show Uq _ A ((compTurn (.ListComp elt gens scope pos) j it acc env).onRaise (λx=>do noteFrame x env;theTreesLotGoes x)) _ _ s;refine wpAny_noted ?_;unfold compTurn;dsimp only;simp only[hg,hn];refine Qf (Jp (Qf (QK (turn n s hI) (λr s₁ h₁=>?_) λ_ _ h'=>h'.elim)));cases r with
 |none=>exact Qk h₁
 |some v=>
  refine Qf (QK h₁ (λ_ s₁' h₁'=>?_) λ_ _ h'=>h'.elim);refine Qf (QK h₁' (λ_ s₂ h₂=>Qf (QK h₂ (λok s₃ h₃=>?_) λ_ _ h'=>h'.elim)) λ_ _ h'=>h'.elim);cases ok with
  |false=>exact Qk ⟨rfl,h₃⟩
  |true=>exact Qf (Qf (QK h₃ (λx s₄ h₄=>Qf (QK h₄ (λ_ s₅ h₅=>Qk (Qk ⟨rfl,h₅⟩)) λ_ _ h'=>h'.elim)) λ_ _ h'=>h'.elim))
theorem qS{tg1 i1:Uo}{ifs1:List Uo}(hg:gens[j]?=some ⟨tg,i,ifs,0⟩)(hn:gens[j+1]?=some ⟨tg1,i1,ifs1,0⟩)(hs:∀x,UH i1 env x=pure x):RL prog w A tg ifs env it (.compLoop (.ListComp elt gens scope pos) j it acc env)
  (λQ s=>Uq (model prog w) A (eval i1 env) (λx s₄=>Uq (model prog w) A (pyIter x) (λit1 s₅=>codeAny (model prog w) A (.compStart (.ListComp elt gens scope pos) (j+1) it1 acc env)
   (λr s₆=>match r with | .ok _=>Q s₆ | .error _=>False) s₅) nox s₄) nox s):=by
 intro R I n s h turn;refine codeAny_loop rfl I (λn s hI=>?_) n h;show Uq _ A ((compTurn (.ListComp elt gens scope pos) j it acc env).onRaise (λx=>do noteFrame x env;theTreesLotGoes x)) _ _ s;refine wpAny_noted ?_;unfold compTurn;dsimp only;simp only[hg,hn];refine Qf (Jp (Qf (QK (turn n s hI) (λr s₁ h₁=>?_) λ_ _ h'=>h'.elim)));cases r with
 |none=>exact Qk h₁
 |some v=>
  refine Qf (QK h₁ (λ_ s₁' h₁'=>?_) λ_ _ h'=>h'.elim);refine Qf (QK h₁' (λ_ s₂ h₂=>Qf (QK h₂ (λok s₃ h₃=>?_) λ_ _ h'=>h'.elim)) λ_ _ h'=>h'.elim);cases ok with
  |false=>exact Qk ⟨rfl,h₃⟩
  |true=>
   refine Qf (QK h₃ (λx s₄ h₄=>Qf (Jp (Qf (wpAny_of_eq (hs x) (Qf (wpAny_holding (QK h₄ (λit1 s₅ h₅=>?_) λ_ _ h'=>h'.elim))))))) λ_ _ h'=>h'.elim);refine Qf (wpAny_runOwn (codeAny_mono h₅ λr s₆ h₆=>?_));cases r with
   |ok f=>exact Qk ⟨rfl,h₆⟩
   |error x=>exact h₆.elim
theorem kF{R:Result->Uj->Prop}{s:Uj}(hg:gens[j]?=some ⟨tg,i,ifs,0⟩)
  (h0:codeAny (model prog w) A (.compLoop (.ListComp elt gens scope pos) j it acc env) R s)
  (h:Uq (model prog w) A (pyIter it) (λit' s'=>codeAny (model prog w) A (.compLoop (.ListComp elt gens scope pos) j it' acc env) R s') nox s) :
  codeAny (model prog w) A (.compStart (.ListComp elt gens scope pos) j it acc env) R s:=by
 refine codeAny_of_tree ?_;show Uq _ _ ((compStart (.ListComp elt gens scope pos) j it acc env).onRaise (λx=>do noteFrame x env;standAt theWindowsPlace)) _ _ s;refine wpAny_notedAt ?_;unfold compStart;have hc:(clausesOf (.ListComp elt gens scope pos))[j]?=some ⟨tg,i,ifs,0⟩:=hg;simp only[hc];show Uq _ _ (ask >>= _) _ _ s;refine Qf (wpAny_askSetting (wpAny_ite ?_));split
 ·first
   |exact Qf (Qk (Qk (And.intro rfl h0)))
   |exact Qk (And.intro rfl h0)
 ·first
   |exact Qf (wpAny_rule (Qf (Jp (Qf (QK h (λit' s' h'=>Qk (And.intro rfl h')) λ_ _ x=>x.elim)))))
   |(refine Qf (wpAny_rule ?_);show Uq _ _ (standAt _ >>= _) _ _ s;exact Qf (Jp (Qf (QK h (λit' s' h'=>Qk (And.intro rfl h')) λ_ _ x=>x.elim))))
end
end L2
namespace DL
open PySem PySem.Spec L2
open PyProof.Rows hiding St
def YU:Option Sl->Option Sl
 |some (.own _)=>none
 |some (.deep _ _)=>none
 |x=>x
def Kl(Z:UJ):UJ:=Z.map YU
theorem qR{Z:UJ}{i:Nat}{d:D}(h:(Kl Z)[i]?=some (some (.pub d))):Z[i]?=some (some (.pub d)):=by
 unfold Kl at h;rw[Qd]at h;cases e:Z[i]? with
 |none=>rw[e]at h;cases h
 |some o=>
  rw[e]at h;cases o with
  |none=>cases h
  |some sl=>cases sl with
   |pub d'=>cases h;rfl
   |own ds=>cases h
   |deep p d'=>cases h
theorem WC{Z:UJ}{i:Nat}{ds:List D}(h:(Kl Z)[i]?=some (some (.own ds))):False:=by
 unfold Kl at h;rw[Qd]at h;cases e:Z[i]? with
 |none=>rw[e]at h;cases h
 |some o=>
  rw[e]at h;cases o with
  |none=>cases h
  |some sl=>cases sl with
   |pub d'=>cases h
   |own ds=>cases h
   |deep p d'=>cases h
theorem Ny{Z:UJ}{i:Nat}{p:Pat}{d:D}(h:(Kl Z)[i]?=some (some (.deep p d))):False:=by
 unfold Kl at h;rw[Qd]at h;cases e:Z[i]? with
 |none=>rw[e]at h;cases h
 |some o=>
  rw[e]at h;cases o with
  |none=>cases h
  |some sl=>cases sl<;>cases h
def KQ(s:D->UJ->Option UJ)(t:M Bool)(g:M D):List D->UJ->List D->Option (List D)
 |[],_,es=>some es
 |d::r,Z,es=>match s d Z with
  |none=>none
  |some Z1=>match t Z1 with
   |.bad=>none
   |.ok b Z2=>if b=true then(match g Z2 with
     |.bad=>none
     |.ok e Z3=>if es.length<1000000 then KQ s t g r (Kl Z3) (es++[e])else none)
    else KQ s t g r (Kl Z2) es
def Zu(f:M (List D))(k:Nat)(s:D->UJ->Option UJ)(t:M Bool)(g:M D):M (List D):=λZ=>match f Z with
 |.bad=>.bad
 |.ok ds Z1=>match KQ s t g ds (Kl Z1++Uu k none) []with
  |none=>.bad
  |some es=>.ok es Z1
def Y7(X:Cx)(ifs:List Uo)(t:TT):Prop:=
 ∀(pins:List (Ul×Obj))(s:Uj)(σ:St)(H:Hp)(Q:Bool->Hp->Prop),Inv X pins σ H s->t σ H Q ->
  Uq (model X.prog X.w) X.A (forIn ifs true λc r=>if r=true then do let ok ←isTrue c X.env (eval c X.env);pure (ForInStep.yield ok)else pure (ForInStep.yield r)) (TP X pins σ Q) X.xe s
section
variable{X:Cx}{B G0:Hp}
theorem DY:Y7 X [] (tBo X.K B G0 (UQ true)):=λpins s σ H Q I ⟨G,Z,k,a⟩=>wpAny_tests_nil ⟨H,I,a true G H k (.refl _) rfl⟩
theorem Ln{c:Uo}{t:M Bool}(h:PT X c (tBo X.K B G0 t)):Y7 X [c] (tBo X.K B G0 t):=λpins s σ H Q I q=>wpAny_tests_one (h pins s σ H Q I q)
theorem EOk.rebase{K:Frag}{G H:Hp}{σ:St}{Z:UJ}(k:EOk K B G0 G H σ Z):EOk K H G G H σ (Kl Z) where
 bh:=.refl _
 gh:=k.gh
 g0:=.refl _
 np:=λ_ _ _ n=>n
 len:=by unfold Kl;rw[Qb];exact k.len
 pub:=λi d q=>k.pub i d (qR q)
 own:=λi ds q=>(WC q).elim
 sep:=λi j a ds es q=>(WC q).elim
 dp:=.of (λ_ _ _ q=>Ny q) λ_ _ q=>WC q
theorem EOk.more{K:Frag}{G H:Hp}{σ:St}{Z:UJ}(k:EOk K H G G H σ (Kl Z))(n:Nat):EOk K H G G H (σ++Uu n none) (Kl Z++Uu n none) where
 bh:=.refl _
 gh:=k.gh
 g0:=.refl _
 np:=λ_ _ _ n=>n
 len:=by rw[Qi,Qi,k.len,Qy,Qy]
 pub:=λi d q=>by
  by_cases hi:i<(Kl Z).length
  ·rw[Qw hi]at q;rw[Qw (by rw[←k.len];exact hi)];exact k.pub i d q
  ·rw[Qx (Je hi),QA]at q;split at q<;>cases q
 own:=λi ds q=>by
  by_cases hi:i<(Kl Z).length
  ·rw[Qw hi]at q;exact(WC q).elim
  ·rw[Qx (Je hi),QA]at q;split at q<;>cases q
 sep:=λi j a ds es q=>by
  by_cases hi:i<(Kl Z).length
  ·rw[Qw hi]at q;exact(WC q).elim
  ·rw[Qx (Je hi),QA]at q;split at q<;>cases q
 dp:=by
  refine .of (λi p d q=>?_) λi ds q=>?_
  ·by_cases hi:i<(Kl Z).length
   ·rw[Qw hi]at q;exact Ny q
   ·rw[Qx (Je hi),QA]at q;split at q<;>cases q
  ·by_cases hi:i<(Kl Z).length
   ·rw[Qw hi]at q;exact WC q
   ·rw[Qx (Je hi),QA]at q;split at q<;>cases q
theorem EOk.beside{K:Frag}{G H:Hp}{σ:St}{Z:UJ}{a:Ul}{o:HO}(k:EOk K B G0 G H σ Z)(hg:G a=none):EOk K (upd H a o) G G (upd H a o) σ (Kl Z) where
 bh:=.refl _
 gh:=λb u e=>by rw[Ku (λz=>by subst z;rw[hg]at e;cases e)];exact k.gh b u e
 g0:=.refl _
 np:=λ_ _ _ n=>n
 len:=k.rebase.len
 pub:=k.rebase.pub
 own:=λi ds q=>(WC q).elim
 sep:=λi j a ds es q=>(WC q).elim
 dp:=.of (λ_ _ _ q=>Ny q) λ_ _ q=>WC q
theorem lim1:1000000<=Up:=lim
def P3:Option Sl->Option Sl
 |some (.own ds)=>some (.pub (.list ds))
 |some (.deep _ d)=>some (.pub d)
 |x=>x
def ZG(Z:UJ):UJ:=Z.map P3
theorem HB{Z:UJ}{i:Nat}{d:D}(h:(ZG Z)[i]?=some (some (.pub d))):Z[i]?=some (some (.pub d))∨(∃ds,d=.list ds/\Z[i]?=some (some (.own ds))) ∨ ∃p,Z[i]?=some (some (.deep p d)):=by
 unfold ZG at h;rw[Qd]at h;cases e:Z[i]? with
 |none=>rw[e]at h;cases h
 |some o=>
  rw[e]at h;cases o with
  |none=>cases h
  |some sl=>cases sl with
   |pub d'=>cases h;exact .inl rfl
   |own ds=>cases h;exact .inr (.inl ⟨ds,rfl,rfl⟩)
   |deep p d'=>cases h;exact .inr (.inr ⟨p,rfl⟩)
theorem SY{Z:UJ}{i:Nat}{ds:List D}(h:(ZG Z)[i]?=some (some (.own ds))):False:=by
 unfold ZG at h;rw[Qd]at h;cases e:Z[i]? with
 |none=>rw[e]at h;cases h
 |some o=>
  rw[e]at h;cases o with
  |none=>cases h
  |some sl=>cases sl with
   |pub d'=>cases h
   |own ds=>cases h
   |deep p d'=>cases h
theorem GP{Z:UJ}{i:Nat}{p:Pat}{d:D}(h:(ZG Z)[i]?=some (some (.deep p d))):False:=by
 unfold ZG at h;rw[Qd]at h;cases e:Z[i]? with
 |none=>rw[e]at h;cases h
 |some o=>
  rw[e]at h;cases o with
  |none=>cases h
  |some sl=>cases sl<;>cases h
def flat:D->Bool
 |.none=>true | .bool _=>true | .int _=>true | .str _=>true|_=>false
theorem Rep.flat{K:Frag}{G G':Hp}{v:V}{d:D}(r:Rep K G v d)(h:DL.flat d=true):Rep K G' v d:=by
 cases r with
 |non=>exact .non
 |bl b=>exact .bl b
 |int i=>exact .int i
 |str x=>exact .str x
 |lst _ _=>cases h
 |tup _ _=>cases h
 |dic _=>cases h
 |exc _ _ _ _=>cases h
 |dct _ _ _ _ _=>cases h
 |dtt _ _ _ _=>cases h
theorem Reps.flat{K:Frag}{G G':Hp}:∀{vs:List V}{ds:List D},Reps K G vs ds->ds.all DL.flat=true->Reps K G' vs ds
 |_,_,.nil,_=>.nil
 |_,_,.cons r t,h=>by rw[List.all_cons,Ji]at h;exact .cons (r.flat h.1) (Reps.flat t h.2)
theorem EOk.lend{K:Frag}{B G0 G H:Hp}{σ:St}{Z:UJ}{D:Ul}{o:HO}(k:EOk K B G0 G H σ Z)(hD:H D=none)(n:Nat):EOk K (upd H D o) H H (upd H D o) (σ++Uu n none) (ZG Z++Uu n none) where
 bh:=.refl _
 gh:=Zx hD
 g0:=.refl _
 np:=λ_ _ _ n=>n
 len:=by unfold ZG;rw[Qi,Qi,Qb,k.len,Qy,Qy]
 pub:=λi d q=>by
  have hl:(ZG Z).length=Z.length:=by unfold ZG;rw[Qb]
  by_cases hi:i<(ZG Z).length
  ·rw[Qw hi]at q;rw[Qw (by rw[←k.len,←hl];exact hi)];rcases HB q with e|⟨ds,rfl,e⟩|⟨p,e⟩
   ·obtain⟨v,h1,h2⟩:=k.pub i d e;exact⟨v,h1,h2.mono k.gh⟩
   ·obtain⟨a,vs,h1,h2,h3,h4,h5⟩:=k.own i ds e;exact⟨.ref a,h1,.lst (SqL.of h4) (h5.mono k.gh)⟩
   ·obtain⟨ω,k1,k2⟩:=k.dp;obtain⟨v,fp,s,r,_⟩:=k1 i p d e;exact⟨v,s,r.rep k.gh⟩
  ·rw[Qx (Je hi),QA]at q;split at q<;>cases q
 own:=λi ds q=>by
  by_cases hi:i<(ZG Z).length
  ·rw[Qw hi]at q;exact(SY q).elim
  ·rw[Qx (Je hi),QA]at q;split at q<;>cases q
 sep:=λi j a ds es q=>by
  by_cases hi:i<(ZG Z).length
  ·rw[Qw hi]at q;exact(SY q).elim
  ·rw[Qx (Je hi),QA]at q;split at q<;>cases q
 dp:=by
  refine .of (λi p d q=>?_) λi ds q=>?_
  ·by_cases hi:i<(ZG Z).length
   ·rw[Qw hi]at q;exact GP q
   ·rw[Qx (Je hi),QA]at q;split at q<;>cases q
  ·by_cases hi:i<(ZG Z).length
   ·rw[Qw hi]at q;exact SY q
   ·rw[Qx (Je hi),QA]at q;split at q<;>cases q
def SI(f:M (List D))(k:Nat)(s:D->UJ->Option UJ)(t:M Bool)(g:M D):M (List D):=λZ=>match f Z with
 |.bad=>.bad
 |.ok ds Z1=>match KQ s t g ds (ZG Z1++Uu k none) []with
  |none=>.bad
  |some es=>if es.all flat=true then .ok es Z1 else .bad
end
def YO(s:D->UJ->Option UJ)(t:M Bool)(g:M D):List D->UJ->List D->Option (List D×UJ)
 |[],Z,es=>some (es,Z)
 |d::r,Z,es=>match s d Z with
  |none=>none
  |some Z1=>match t Z1 with
   |.bad=>none
   |.ok b Z2=>if b=true then(match g Z2 with
     |.bad=>none
     |.ok e Z3=>if es.length<1000000 then YO s t g r (Kl Z3) (es++[e])else none)
    else YO s t g r (Kl Z2) es
def X0(s0:D->UJ->Option UJ)(t0:M Bool)(f1:M (List D))(s1:D->UJ->Option UJ)(t1:M Bool)(g:M D):List D->UJ->List D->Option (List D)
 |[],_,es=>some es
 |d::r,Z,es=>match s0 d Z with
  |none=>none
  |some Z1=>match t0 Z1 with
   |.bad=>none
   |.ok b Z2=>if b=true then(match f1 Z2 with
     |.bad=>none
     |.ok ds Z3=>match YO s1 t1 g ds (Kl Z3) es with
      |none=>none
      |some (es',Z4)=>X0 s0 t0 f1 s1 t1 g r Z4 es')
    else X0 s0 t0 f1 s1 t1 g r (Kl Z2) es
def Ru(f:M (List D))(k:Nat)(s:D->UJ->Option UJ)(t:M Bool)(f1:M (List D))(s1':D->UJ->Option UJ)(t1':M Bool)(g:M D):M (List D):=λZ=>match f Z with
 |.bad=>.bad
 |.ok ds Z1=>match X0 s t f1 s1' t1' g ds (Kl Z1++Uu k none) []with
  |none=>.bad
  |some es=>.ok es Z1
def Xk(s0:D->UJ->Option UJ)(t0:M Bool)(f1:M (List D))(Rd:List D->UJ->List D->Option (List D×UJ)):List D->UJ->List D->Option (List D×UJ)
 |[],Z,es=>some (es,Z)
 |d::r,Z,es=>match s0 d Z with
  |none=>none
  |some Z1=>match t0 Z1 with
   |.bad=>none
   |.ok b Z2=>if b=true then(match f1 Z2 with
     |.bad=>none
     |.ok ds Z3=>match Rd ds (Kl Z3) es with
      |none=>none
      |some (es',Z4)=>Xk s0 t0 f1 Rd r Z4 es')
    else Xk s0 t0 f1 Rd r (Kl Z2) es
def Tc(Rd:List D->UJ->List D->Option (List D×UJ))(ds:List D)(Z:UJ)(es:List D):Option (List D):=(Rd ds Z es).map (·.1)
def Rt(f:M (List D))(k:Nat)(s:D->UJ->Option UJ)(t:M Bool)(f1:M (List D))(s1':D->UJ->Option UJ)(t1':M Bool)(fx2:M (List D))(s2':D->UJ->Option UJ)(t2':M Bool)(g:M D):M (List D):=λZ=>match f Z with
 |.bad=>.bad
 |.ok ds Z1=>match Tc (Xk s t f1 (Xk s1' t1' fx2 (YO s2' t2' g))) ds (Kl Z1++Uu k none) []with
  |none=>.bad
  |some es=>.ok es Z1
abbrev RdB:=UJ->List D->Option (List D×UJ)
def rL(g:M D):RdB:=λZ es=>match g Z with
 |.bad=>none
 |.ok e Z3=>if es.length<1000000 then some (es++[e],Kl Z3)else none
def cT(s:D->UJ->Option UJ)(t:M Bool)(rd:RdB):List D->UJ->List D->Option (List D×UJ)
 |[],Z,es=>some (es,Z)
 |d::r,Z,es=>match s d Z with
  |none=>none
  |some Z1=>match t Z1 with
   |.bad=>none
   |.ok b Z2=>if b=true then(match rd Z2 es with
     |none=>none
     |some (es',Z')=>cT s t rd r Z' es')
    else cT s t rd r (Kl Z2) es
def rN(f:M (List D))(s:D->UJ->Option UJ)(t:M Bool)(rd:RdB):RdB:=λZ es=>match f Z with
 |.bad=>none
 |.ok ds Z3=>cT s t rd ds (Kl Z3) es
structure Left(Y:Cx)(D':Ul)(pins:List (Ul×Obj))(H G:Hp)(es':List D)(Z':UJ)(σ':St)(H' G':Hp)(vs':List V)(s':Uj):Prop where
 inv:Inv Y pins σ' H' s'
 eok:EOk Y.K H' G' G' H' σ' Z'
 hh:∀a o,a≠D'->H a=some o->H' a=some o
 gg:Same G G'
 np:∀a(u:MO),a≠D'->H a=some u.ho->G a=none->G' a=none
 hd:H' D'=some (.lst vs')
 gd:G' D'=none
 rp:Reps Y.K G' vs' es'
def Rq(Y:Cx)(D':Ul)(W:(Uj->Prop)->Uj->Prop)(rd:RdB):Prop:=
 ∀(pins:List (Ul×Obj))(sh:Uj)(σ:St)(B1 G1 H G:Hp)(Z Z':UJ)(vs:List V)(es es':List D)(Q:Uj->Prop),
  Inv Y pins σ H sh->EOk Y.K B1 G1 G H σ Z->B1 D'=some (.lst vs)->G1 D'=none->Reps Y.K G1 vs es->rd Z es=some (es',Z') ->
  (∀σ' H' G' vs' s',Left Y D' pins B1 G1 es' Z' σ' H' G' vs' s'->Q s')->W Q sh
section
variable{Y:Cx}{D':Ul}
theorem qQ{elt:Uo}{g:M D}(hx:Y.xe=nox)(he:∀B1 G1,PE Y elt (tD Y.K B1 G1 g)) :
  Rq Y D' (λQ s=>Uq (model Y.prog Y.w) Y.A (eval elt Y.env) (λx s₄=>Uq (model Y.prog Y.w) Y.A (call (.builtin "list.append") [.ref D',x]) (λ_ s₅=>Q s₅) nox s₄) nox s) (rL g):=by
 intro pins sh σ B1 G1 H G Z Z' vs es es' Q I k hD gD r z fin;unfold rL at z;cases zg:g Z with
 |bad=>rw[zg]at z;cases z
 |ok e Z4=>
 rw[zg]at z;dsimp only at z;split at z
 ·rename_i hle;cases z;have h:=he B1 G1 pins sh σ H (λv H8=>∃G8,EOk Y.K B1 G1 G8 H8 σ Z4/\Rep Y.K G8 v e) I ⟨G,Z,k,by unfold aft;rw[zg];exact λv G8 H8 k8 _ q=>⟨G8,k8,q⟩⟩;rw[hx]at h;refine thn h λev s8 ⟨v,H8,I8,rv,G8,k8,r8⟩=>?_;have h2:=HD pins s8 σ H8 (.ref D') [v] (.ref D') [ev] (λ_ H9=>H9=upd H8 D' (.lst (vs++[v]))) I8 rfl (.cons rv .nil) ⟨D',vs,v,rfl,rfl,k8.bh _ _ hD,by have:=lim1;rw[r.length];omega,rfl⟩
  rw[hx]at h2;refine thn h2 λ_ s9 ⟨_,H9,I9,_,e9⟩=>?_;subst e9;have g8:=k8.np _ (.l _) hD gD;exact fin σ _ G8 _ s9 ⟨I9,k8.beside g8,λa o z q=>by rw[Ku z];exact k8.bh a o q,k8.g0,λa o _ q w=>k8.np a o q w,K9,g8,(r.mono k8.g0).append (.cons r8 .nil)⟩
 ·cases z
theorem LD{tg:Uo}{ifs:List Uo}{code:Code}{W:(Uj->Prop)->Uj->Prop}{s:D->UJ->Option UJ}{t:M Bool}{rd:RdB}{it:Ul}(hx:Y.xe=nox)(hc:Y.calm=true)(rule:RL Y.prog Y.w Y.A tg ifs Y.env (.ref it) code W)
  (hg:∀B1 G1,PG Y tg (tG Y.K B1 G1 s)) (ht:∀B1 G1,Y7 Y ifs (tBo Y.K B1 G1 t)) (hb:Rq Y D' W rd)
  {pins:List (Ul×Obj)} {sh:Uj} {σ:St} {H G:Hp} {Z ZF:UJ} {fp:List Ul} {tn:Nat->Heap->Prop} {J:It} {ds es esF:List D} {vs:List V} {R:Result->Uj->Prop}
  (I:Inv Y pins σ H sh) (T:Turn Y.prog Y.w Y.K tg J fp it tn) (st:tn 0 sh.heap) (hf:∀b∈fp,ZD Y pins H b)
  (k:EOk Y.K H G G H σ Z) (its:XI Y.K J ds G) (hD:H D'=some (.lst vs)) (gD:G D'=none) (r:Reps Y.K G vs es) (zl:cT s t rd ds Z es=some (esF,ZF))
  (hfin:∀σ' H' G' vs' s',Left Y D' pins H G esF ZF σ' H' G' vs' s'->R (.ok .next) s'):codeAny (model Y.prog Y.w) Y.A code R sh:=by
 have stat:∀{H':Hp},(∀b∈fp,H' b=none)->∀b∈fp,ZD Y pins H' b:=λhn b hb=>⟨hn b hb,(hf b hb).2⟩
 refine rule R (λn s'=>∃i σ' H' G' Z' vs' es',n=ds.length-i/\tn i s'.heap/\(∀b∈fp,H' b=none)/\Left Y D' pins H G es' Z' σ' H' G' vs' s'/\cT s t rd (ds.drop i) Z' es'=some (esF,ZF)) ds.length sh
  ⟨0,σ,H,G,Z,vs,es,rfl,st,λb hb=>(hf b hb).1,⟨I,k,λ_ _ _ q=>q,.refl _,λ_ _ _ _ n=>n,hD,gD,r⟩,by rw[List.drop_zero];exact zl⟩ ?_
 rintro n s' ⟨i,σ',H',G',Z',vs',es',rfl,tn',fr',⟨I',k',sh',sg',np',hD',gD',r'⟩,zc⟩;by_cases hlt:i<ds.length
 ·rw[Jo hlt,cT]at zc;cases zs:s ds[i] Z' with
  |none=>rw[zs]at zc;cases zc
  |some Z2=>
  rw[zs]at zc;dsimp only at zc;cases zt:t Z2 with
  |bad=>rw[zt]at zc;cases zc
  |ok b Z3=>
  rw[zt]at zc;dsimp only at zc;refine thn (T.item Y rfl rfl rfl hc i pins s' σ' H' nox I' (stat fr') tn' (its.go i G' H' sg' k'.gh hlt)) λrr s4 ⟨u,hr,h4⟩=>?_;subst hr;refine thn h4 λ_ s5 ⟨x,H5,I5,r5,y5,st5,fr5⟩=>?_
  obtain⟨G5,e5,rx⟩:=its.yld i G' H' x H5 ds[i] sg' k'.gh (Qe hlt) y5;have h6:=hg H' G' _ s5 σ' H5 x u (λσ6 H6=>∃G6,EOk Y.K H' G' G6 H6 σ6 Z2) (I5.pinned (stat fr5) (T.obj _ _ st5)) r5 ⟨G5,Z',ds[i],Z2,k'.ext e5,rx,zs,λσ6 G6 H6 k6 _=>⟨G6,k6⟩⟩;rw[hx]at h6;refine thn h6 λ_ s6 ⟨σ6,H6,I6,G6,k6⟩=>?_;have h7:=ht H' G' _ s6 σ6 H6 (λc H7=>c=b/\∃G7,EOk Y.K H' G' G7 H7 σ6 Z3) I6 ⟨G6,Z2,k6,by unfold aft;rw[zt];exact λc G7 H7 k7 _ q=>⟨q,G7,k7⟩⟩
  rw[hx]at h7;refine thn h7 λok s7 ⟨H7,I7,hb7,G7,k7⟩=>?_;subst hb7
  have again:∀{H9:Hp}{σ9:St}{s9:Uj},Inv Y (pins++RC fp s5.heap) σ9 H9 s9->Inv Y pins σ9 H9 s9/\tn (i+1) s9.heap/\∀b∈fp,H9 b=none:=λ{H9 σ9 s9} I9=>by refine⟨I9.unpinned,T.keep _ _ _ st5 λb hb o e=>(I9.pin (b,o) (QL _ (QL _ (PZ hb e)))).1,λb hb=>?_⟩;obtain⟨o,e,d⟩:=T.obj _ _ st5 b hb;exact(I9.pin (b,o) (QL _ (QL _ (PZ hb e)))).2.1
  have lt:ds.length-(i+1)<ds.length-i:=Nat.sub_lt_sub_left hlt (JG i);cases ok with
  |false=>rw[QB (by decide)]at zc⊢;obtain⟨J1,J2,J3⟩:=again I7;exact⟨_,lt,i+1,σ6,H7,G7,Kl Z3,vs',es',rfl,J2,J3,⟨J1,k7.rebase,λa o z q=>k7.bh a o (sh' a o z q),sg'.trans k7.g0,λa o z q w=>k7.np a o (sh' a _ z q) (np' a o z q w),k7.bh _ _ hD',k7.np _ (.l _) hD' gD',r'.mono k7.g0⟩,zc⟩
  |true=>
   rw[Qm rfl]at zc⊢;cases ze:rd Z3 es' with
   |none=>rw[ze]at zc;cases zc
   |some pr=>
   obtain⟨es1,Z5⟩:=pr;rw[ze]at zc;refine hb _ s7 σ6 H' G' H7 G7 Z3 Z5 vs' es' es1 _ I7 k7 hD' gD' r' ze λσ9 H9 G9 vs9 s9 L=>?_
   obtain⟨J1,J2,J3⟩:=again L.inv;exact⟨_,lt,i+1,σ9,H9,G9,Z5,vs9,es1,rfl,J2,J3,⟨J1,L.eok,λa o z q=>L.hh a o z (sh' a o z q),sg'.trans L.gg,λa o z q w=>L.np a o z (sh' a _ z q) (np' a o z q w),L.hd,L.gd,L.rp⟩,zc⟩
 ·rw[List.drop_eq_nil_of_le (Je hlt),cT]at zc;cases zc;refine thn (T.done Y rfl rfl rfl hc i pins s' σ' H' nox I' (stat fr') tn' (its.stop i G' H' sg' k'.gh (Je hlt))) λrr s4 ⟨hr,I6⟩=>?_
  subst hr;exact hfin σ' H' G' vs' s4 ⟨I6,k',sh',sg',np',hD',gD',r'⟩
theorem qP{elt tg1 i1:Uo}{ifs1:List Uo}{gens:List Comprehension}{scope:Scope}{pos:Pos}{j:Nat}{W:Ui->(Uj->Prop)->Uj->Prop}{f:M (List D)}{s:D->UJ->Option UJ}{t:M Bool}{rd:RdB}(hx:Y.xe=nox)(hc:Y.calm=true)
  (hn:gens[j+1]?=some ⟨tg1,i1,ifs1,0⟩) (rule:∀it1,RL Y.prog Y.w Y.A tg1 ifs1 Y.env it1 (.compLoop (.ListComp elt gens scope pos) (j+1) it1 (.ref D') Y.env) (W it1))
  (hi:∀B1 G1,PI Y tg1 i1 (iD Y.K B1 G1 f)) (hg:∀B1 G1,PG Y tg1 (tG Y.K B1 G1 s)) (ht:∀B1 G1,Y7 Y ifs1 (tBo Y.K B1 G1 t)) (hb:∀it1,Rq Y D' (W it1) rd) :
  Rq Y D' (λQ s=>Uq (model Y.prog Y.w) Y.A (eval i1 Y.env) (λx s₄=>Uq (model Y.prog Y.w) Y.A (pyIter x) (λit1 s₅=>codeAny (model Y.prog Y.w) Y.A (.compStart (.ListComp elt gens scope pos) (j+1) it1 (.ref D') Y.env)
   (λr s₆=>match r with | .ok _=>Q s₆ | .error _=>False) s₅) nox s₄) nox s) (rN f s t rd):=by
 intro pins sh σ B1 G1 H G Z Z' vs es es' Q I k hD gD r z fin;unfold rN at z;cases zf:f Z with
 |bad=>rw[zf]at z;cases z
 |ok ds Z3=>
 rw[zf]at z;have h:=hi B1 G1 pins sh σ H (λJ1 H8=>∃G8,EOk Y.K B1 G1 G8 H8 σ Z3/\XI Y.K J1 ds G8) I ⟨G,Z,k,by rw[zf];exact λJ1 G8 H8 k8 _ q=>⟨G8,k8,q⟩⟩;rw[hx]at h;refine thn h λxv s8 h8=>thn h8 λitv s9 h9=>?_
 obtain⟨it1,fp1,tn1,J1,H9,rfl,I9,T1,st9,f9,G9,k9,its9⟩:=h9
 have loop:codeAny (model Y.prog Y.w) Y.A (.compLoop (.ListComp elt gens scope pos) (j+1) (.ref it1) (.ref D') Y.env) (λr s₆=>match r with | .ok _=>Q s₆ | .error _=>False) s9:=
  LD hx hc (rule (.ref it1)) hg ht (hb _) I9 T1 st9 f9 k9.rebase its9 (k9.bh _ _ hD) (k9.np _ (.l _) hD gD) (r.mono k9.g0) z λσ' H' G' vs' s' L=>
   fin σ' H' G' vs' s' ⟨L.inv,L.eok,λa o z q=>L.hh a o z (k9.bh a o q),k9.g0.trans L.gg,λa o z q w=>L.np a o z (k9.bh a _ q) (k9.np a o q w),L.hd,L.gd,L.rp⟩
 exact kF hn loop (T1.self Y.A 0 _ _ _ st9 loop)
end
def Rp(Y:Cx)(e:Uo)(j:Nat)(tg:Uo)(ifs:List Uo)(rd:RdB):Prop:=
 ∀(D':Ul)(it:Ui),∃W,RL Y.prog Y.w Y.A tg ifs Y.env it (.compLoop e j it (.ref D') Y.env) W/\Rq Y D' W rd
section
variable{Y:Cx}{elt tg i:Uo}{ifs:List Uo}{gens:List Comprehension}{scope:Scope}{pos:Pos}{j:Nat}
theorem HA{g:M D}(hx:Y.xe=nox)(hg:gens[j]?=some ⟨tg,i,ifs,0⟩)(hn:gens[j+1]?=none)(he:∀B1 G1,PE Y elt (tD Y.K B1 G1 g)):Rp Y (.ListComp elt gens scope pos) j tg ifs (rL g):=
 λ_ _=>⟨_,qT hg hn,qQ hx he⟩
theorem qO{tg1 i1:Uo}{ifs1:List Uo}{f:M (List D)}{s:D->UJ->Option UJ}{t:M Bool}{rd:RdB}(hx:Y.xe=nox)(hc:Y.calm=true)(hg:gens[j]?=some ⟨tg,i,ifs,0⟩)(hn:gens[j+1]?=some ⟨tg1,i1,ifs1,0⟩)(hs:∀x,UH i1 Y.env x=pure x)
  (hi:∀B1 G1,PI Y tg1 i1 (iD Y.K B1 G1 f)) (hgt:∀B1 G1,PG Y tg1 (tG Y.K B1 G1 s)) (ht:∀B1 G1,Y7 Y ifs1 (tBo Y.K B1 G1 t)) (hb:Rp Y (.ListComp elt gens scope pos) (j+1) tg1 ifs1 rd):Rp Y (.ListComp elt gens scope pos) j tg ifs (rN f s t rd):=
 λD' _=>⟨_,qS hg hn hs,qP hx hc hn (λit1=>(Classical.choose_spec (hb D' it1)).1) hi hgt ht (λit1=>(Classical.choose_spec (hb D' it1)).2)⟩
end
def YC(l:Bool)(Z:UJ):UJ:=match l with|true=>ZG Z|false=>Kl Z
theorem FX{K:Frag}{B G0 G1 H2:Hp}{σ:St}{Z1:UJ}{D:Ul}(l:Bool)(k1:EOk K B G0 G1 H2 σ Z1)(hfr:H2 D=none)(n:Nat) :
  ∃Gb,EOk K (upd H2 D (.lst [])) Gb Gb (upd H2 D (.lst [])) (σ++Uu n none) (YC l Z1++Uu n none)/\Same G1 Gb/\Gb D=none /\
   ∀(G' H':Hp) vs es,(l=true->es.all flat=true)->Same Gb G'->Same H2 H'->Same G' H'->(∀a(u:MO),H2 a=some u.ho->Gb a=none->G' a=none)->G' D=none->Reps K G' vs es->∃Gf,Ext G1 H2 Gf H'/\Gf D=none/\Reps K Gf vs es:=by
 have gD:G1 D=none:=k1.gh.free hfr;cases l with
 |false=>exact⟨G1,(k1.beside gD).more n,.refl _,gD,λG' H' vs es _ g h gh np d r=>⟨G',⟨h,g,gh,np⟩,d,r⟩⟩
 |true=>exact⟨H2,k1.lend hfr n,k1.gh,hfr,λG' H' vs es fl _ h _ _ _ r=>⟨G1,⟨h,.refl _,k1.gh.trans h,λ_ _ _ n=>n⟩,gD,r.flat (fl rfl)⟩⟩
def dCG(l:Bool)(f:M (List D))(k:Nat)(s:D->UJ->Option UJ)(t:M Bool)(rd:RdB):M (List D):=λZ=>match f Z with
 |.bad=>.bad
 |.ok ds Z1=>match cT s t rd ds (YC l Z1++Uu k none) []with
  |none=>.bad
  |some (es,_)=>if l=true->es.all flat=true then .ok es Z1 else .bad
theorem OA{l:Bool}{f:M (List D)}{k:Nat}{s:D->UJ->Option UJ}{t:M Bool}{rd:RdB}{Z Z':UJ}{es:List D}(h:dCG l f k s t rd Z=.ok es Z'):∃ds ZF,f Z=.ok ds Z'/\cT s t rd ds (YC l Z'++Uu k none) []=some (es,ZF)/\(l=true->es.all flat=true):=by
 unfold dCG at h;cases zf:f Z with
 |bad=>rw[zf]at h;cases h
 |ok ds Z1=>
 rw[zf]at h;dsimp only at h;cases zl:cT s t rd ds (YC l Z1++Uu k none) []with
 |none=>rw[zl]at h;cases h
 |some pr=>
 obtain⟨esF,ZF⟩:=pr;rw[zl]at h;dsimp only at h;split at h
 ·rename_i hf;cases h;exact⟨ds,ZF,rfl,zl,hf⟩
 ·cases h
section
variable{X:Cx}{B G0:Hp}{KX:XW}
def ZV(X:Cx)(N2:List Str)(scope:Scope)(e tg:Uo)(ifs:List Uo)(s:D->UJ->Option UJ)(t:M Bool)(rd:RdB):Prop:=
 ∀(cl:List (Str×Ul))(C:Ul)(s₀:Uj)(H₀:Hp)(ex:List Ul),(∀B' G',PG (X.blk N2 scope cl C s₀ H₀ ex) tg (tG X.K B' G' s))/\(∀B' G',Y7 (X.blk N2 scope cl C s₀ H₀ ex) ifs (tBo X.K B' G' t))/\Rp (X.blk N2 scope cl C s₀ H₀ ex) e 0 tg ifs rd
structure So(SC scope:Scope)(N1 N2:List Str)(k:Nat):Prop where
 b:RM scope.names N1 N2 k=true
 kind:scope.kind=.function
 names:∀y∈scope.names,scope.names.lookup y.1=some y.2
 free:∀y∈scope.names,y.2=.free->SC.names.lookup y.1=some .cell∨SC.names.lookup y.1=some .free
theorem Nb{l:Bool}{tg elt iter:Uo}{ifs:List Uo}{gs:List Comprehension}{scope:Scope}{pos pos':Pos}{N2:List Str}{k:Nat}{f:M (List D)}{s:D->UJ->Option UJ}{t:M Bool}{rd:RdB}{use:Option (Ui->Sem Unit)}{Qc:Ui->Uj->Prop}(hc:X.calm=true)
  (hi:PI X tg iter (iD X.K B G0 f)) (hblk:ZV X N2 scope (.ListComp elt (⟨tg,iter,ifs,0⟩::gs) scope pos) tg ifs s t rd) (hb:So X.env.scope scope X.N N2 k) (hs:∀x,UH iter X.env x=pure x)
  {pins:List (Ul×Obj)} {s0:Uj} {σ:St} {G H:Hp} {Z Z1 ZF:UJ} {ds esF:List D} (I:Inv X pins σ H s0) (k0:EOk X.K B G0 G H σ Z) (zf:f Z=.ok ds Z1) (zl:cT s t rd ds (YC l Z1++Uu k none) []=some (esF,ZF)) (hfl:l=true->esF.all flat=true)
  (hfin:∀(C D:Ul)(vs:List V)(G' H':Hp)(s4:Uj)(m:Str->Option Ui),Inv X pins σ H' s4->s4.heap.Ns C m->H' C=none->C≠X.env.locals->X.s₀.heap.objs.size<=C->(∀x c,X.env.cells.lookup x=some c->c≠C)->(∀p∈X.pn++pins,p.1≠C) ->
   EOk X.K B G0 G' H' σ Z1->Same G G'->NewL X.K B G' H' σ Z1 D vs esF->compPost (model X.prog X.w) X.A X.xe use Qc (.ref D) C (.ok .next) s4) :
  Uq (model X.prog X.w) X.A (comprehension (.ListComp elt (⟨tg,iter,ifs,0⟩::gs) scope pos) scope X.env pos' (newList []) false (eval iter X.env) use) Qc X.xe s0:=by
 obtain⟨cl0,hcl,cl1,cl2⟩:=jm (scope:=scope) (env:=X.env) λy hy hf=>I.ok.has y.1 (hb.free y hy hf)
 refine wpAny_comprehension_free (use:=use) rfl hs hcl hb.kind (λy hy hl=>(hb.names y hy).trans (by rw[hl])) (thn (hi pins s0 σ H (λJ H1=>∃G1,EOk X.K B G0 G1 H1 σ Z1/\Same G G1/\XI X.K J ds G1) I ⟨G,Z,k0,by rw[zf];exact λJ G1 H1 k1 s1 it=>⟨G1,k1,s1,it⟩⟩) λv s1 h1=>thn h1 λitv s2 h2=>?_);obtain⟨it,fp,tn,J,H2,rfl,I2,T,st2,f2,G1,k1,sg1,its⟩:=h2;refine wpAny_newObj_type (Es cl1 cl2 hb.names (λx c e=>let ⟨_,q⟩:=I2.cell x c e;QF q.lt (by first|exact Qs _|(rw[JD];exact JQ _))) λh₁ cl hns₁ kept hco=>?_);dsimp only at hns₁ kept hco⊢;have hfr:H2 s2.heap.objs.size=none:=I2.hok.fresh (Qs _)
 have I3:Inv X pins σ (upd H2 s2.heap.objs.size (.lst [])) {s2 with heap:=s2.heap.push {cls:=.type "list", dict:=none,data:=.seq ([]:List Ui).toArray}}:=
  I2.laid (t':=s2.toks) (λb u e=>Qj _ e) (Qs _) ⟨JR _,[],0,.nil,QG _ rfl⟩
 generalize hP:s2.heap.push {cls:=.type "list", dict:=none,data:=.seq ([]:List Ui).toArray}=P at I3 hns₁ kept hco⊢;have old:∀b o,s2.heap.get? b=some o->P.get? b=some o:=λb o e=>hP ▸ Qj _ e;have fpo:∀b∈fp,∃o,s2.heap.get? b=some o:=λb hb=>let ⟨o,e,_⟩:=T.obj _ _ st2 b hb;⟨o,e⟩
 have fpD:∀b∈fp,b≠s2.heap.objs.size:=λb hb=>let ⟨o,e⟩:=fpo b hb;QQ (Qh e)
 have f3:∀b∈fp,ZD X pins (upd H2 s2.heap.objs.size (.lst [])) b:=λb hb=>⟨by rw[Ku (fpD b hb)];exact(f2 b hb).1,(f2 b hb).2⟩
 have I4:=I3.enter (scope:=scope) (cl:=cl) (N2:=N2) (k:=k) (fp:=fp) (t':=s2.toks) hb.b hb.kind hb.free hco hns₁ kept f3 (λb hb=>let ⟨o,e⟩:=fpo b hb;⟨o,old b o e⟩);dsimp only at I4;obtain⟨Gb,kb,sgb,gbD,ex⟩:=FX l k1 hfr k;have sH:Same H2 (upd H2 s2.heap.objs.size (.lst [])):=Zx hfr;have hD3:upd H2 s2.heap.objs.size (.lst []) s2.heap.objs.size=some (.lst []):=K9;generalize upd H2 s2.heap.objs.size (.lst [])=H3 at I3 I4 f3 kb sH hD3;generalize s2.heap.objs.size=D at *;have tn0:tn 0 h₁:=T.keep 0 _ _ st2 λb hb o e=>kept b o (old b o e)
 have stat:∀b∈fp,ZD (X.blk N2 scope cl P.objs.size {s2 with heap:=P} H3 fp) pins H3 b:=λb hb=>by
  obtain⟨z0,z1,z2,z3,z4,z5⟩:=f3 b hb;obtain⟨o,e⟩:=fpo b hb;refine⟨z0,QQ (Qh (old b o e)),λz=>?_,.inl hb,λx c q=>(hco.old x c q).elim (z4 x c) λw=>JC (Nat.lt_trans (Qh (old b o e)) w.1),z5⟩;rcases QS.mp (I3.stkSub b z)with q|q
  ·exact z1 q
  ·exact z2 q
 have neD:∀a o,H2 a=some o->a≠D:=λa o q z=>by subst z;rw[hfr]at q;cases q
 obtain⟨hg,ht,hcl'⟩:=hblk cl P.objs.size {s2 with heap:=P} H3 fp;obtain⟨W,rule,body⟩:=hcl' D (.ref it)
 have loop:=LD (Y:=X.blk N2 scope cl P.objs.size {s2 with heap:=P} H3 fp) (D':=D) (R:=compPost (model X.prog X.w) X.A X.xe use Qc (.ref D) P.objs.size) rfl hc rule hg ht body I4 T tn0 stat kb
  ⟨λi G H s1 s2 hi=>its.go i G H (sgb.trans s1) s2 hi,λi G H s1 s2 hi=>its.stop i G H (sgb.trans s1) s2 hi,λi G H x H' d s1 s2 e y=>its.yld i G H x H' d (sgb.trans s1) s2 e y⟩ hD3 gbD .nil zl λσ' H' G' vs' s4 L=>by
   obtain⟨m,hm,_⟩:=id L.inv.loc;have I7:Inv X pins σ H' s4:=I3.call' (ch:=fp) L.inv.os L.inv.base L.inv.hok L.inv.bare λb hb=>⟨(f3 b hb).2.2.2.1,(f3 b hb).2.1,(f3 b hb).2.2.2.2.1,(f3 b hb).2.2.2.2.2⟩
   obtain⟨Gf,eF,dF,rF⟩:=ex G' H' vs' esF hfl L.gg (λa o q=>L.hh a o (neD a o q) (sH a o q)) L.eok.gh (λa o q z=>L.np a o (neD a _ q) (sH a _ q) z) L.gd L.rp
   refine hfin P.objs.size D vs' Gf H' s4 m I7 hm L.inv.free (JC I3.lt) I3.sz (λx c e z=>by obtain⟨_,q⟩:=I3.cell x c e;exact absurd q.lt (by rw[z];exact Jr _)) (λp hp z=>by have:=Qh (I3.pin p hp).1;exact absurd this (by rw[z];exact Jr _))
    (k1.ext eF) (sg1.trans eF.g) ⟨k1.bh.free hfr,dF,L.hd,rF,λj es' q z=>?_,λj pt d v fp q s r=>k1.freshD eF.h hfr q s r⟩
   obtain⟨a',ws,h1',h2',h3',h4',h5'⟩:=k1.own j es' q;rw[z]at h1';cases h1';rw[hfr]at h4';cases h4'
 exact codeAny_compStart_list loop (T.self X.A 0 _ _ _ tn0 loop)
theorem NH{l:Bool}{tg elt iter:Uo}{ifs:List Uo}{gs:List Comprehension}{scope:Scope}{pos:Pos}{N2:List Str}{k:Nat}{f:M (List D)}{s:D->UJ->Option UJ}{t:M Bool}{rd:RdB}(hc:X.calm=true)
  (hi:PI X tg iter (iD X.K B G0 f)) (hblk:ZV X N2 scope (.ListComp elt (⟨tg,iter,ifs,0⟩::gs) scope pos) tg ifs s t rd) (hb:So X.env.scope scope X.N N2 k) (hs:∀x,UH iter X.env x=pure x:=by intro _;rfl) :
  PE X (.ListComp elt (⟨tg,iter,ifs,0⟩::gs) scope pos) (tL X.K B G0 (dCG l f k s t rd)):=by
 intro pins s0 σ H Q I ⟨G,Z,k0,a⟩;cases z:dCG l f k s t rd Z with
 |bad=>rw[z]at a;exact a.elim
 |ok es Z1=>
 rw[z]at a;obtain⟨ds,ZF,zf,zl,hfl⟩:=OA z;rw[eval_ListComp];refine Nb hc hi hblk hb hs I k0 zf zl hfl λC D vs G' H' s4 m I7 hm hC hL hz hcl hp k' s' n=>?_
 exact⟨m,hm,λh' sb=>⟨.ref D,H',I7.turned (t':=s4.toks) (it:=C) (λb o hb e=>(sb.2 b hb).trans e) hC hL (.inr hz) hcl hp,rfl,a D vs G' H' k' s' n⟩⟩
theorem sD_g{l:Bool}{y:Str}{j:Nat}{py:Pos}{spos:Pos}{tg elt iter:Uo}{ifs:List Uo}{gs:List Comprehension}{scope:Scope}{pos:Pos}{N2:List Str}{k:Nat}{f:M (List D)}{s:D->UJ->Option UJ}{t:M Bool}{rd:RdB}(hN:X.N.Nodup)(hj:X.N[j]?=some y)(hy:X.env.scope.names.lookup y=some .local)(hc:X.calm=true)
  (hi:PI X tg iter (iD X.K B G0 f)) (hblk:ZV X N2 scope (.ListComp elt (⟨tg,iter,ifs,0⟩::gs) scope pos) tg ifs s t rd) (hb:So X.env.scope scope X.N N2 k) (hs:∀x,UH iter X.env x=pure x:=by intro _;rfl)
  (hsw:swapsWith (.ListComp elt (⟨tg,iter,ifs,0⟩::gs) scope pos) (some (.Name y py)) spos.line X.env=pure true:=by rfl) :
  PS X (.Assign [.Name y py] (.ListComp elt (⟨tg,iter,ifs,0⟩::gs) scope pos) spos) (tS X.K B G0 KX (K0 j (dCG l f k s t rd))):=by
 intro pins s0 σ H Dn I ⟨G,Z,k0,a⟩;unfold K0 sB at a;cases z:dCG l f k s t rd Z with
 |bad=>rw[z]at a;exact a.elim
 |ok es Z1=>
 rw[z]at a;dsimp only at a;by_cases hl:j<Z1.length
 ·rw[Qm hl]at a;obtain⟨ds,ZF,zf,zl,hfl⟩:=OA z;rw[exec_Assign_Name_used _ _ _ _ hsw];refine Qf (Jp (Qf ?_));show Uq _ X.A (do let _ ←comprehension (.ListComp elt (⟨tg,iter,ifs,0⟩::gs) scope pos) scope X.env _ (newList []) false (eval iter X.env) (some (assign (.Name y py) X.env))) _ _ s0;refine Qf (QK (Nb (use:=some (assign (.Name y py) X.env)) (Qc:=λ_ s'=>SP X pins Dn .next s') hc hi hblk hb hs I k0 zf zl hfl λC D vs G' H' s4 m I7 hm hC hL hz hcl hp k' s' n=>?_) (λ_ s' hq=>Qk (Qk hq)) λ_ _ e=>e);show Uq _ X.A (assign (.Name y py) X.env (.ref D)) _ _ s4;refine wpAny_assign_Name (Ni I7 hN hj (.inl hy) (v:=.ref D) rfl (λs5 I8 ⟨ad,sb,hx⟩=>?_) (.inr hy))
  have hCa:C≠ad:=by
   rcases hx with e|e
   ·rw[e];exact hL
   ·exact Ne.symm (hcl y ad e)
  refine⟨m,hm.sameBut sb hCa,λh' sb'=>⟨_,H',I8.turned (t':=s5.toks) (it:=C) (λb o hb e=>(sb'.2 b hb).trans e) hC hL (.inr hz) hcl hp,?_⟩⟩;exact a _ G' H' (k'.setOwn n hl) s'
 ·rw[QB hl]at a;exact a.elim
theorem NG{K:Frag}{f f':M (List D)}(h:∀Z es Z',f Z=.ok es Z'->f' Z=.ok es Z'){σ:St}{H:Hp}{Q:VK}(q:tL K B G0 f σ H Q):tL K B G0 f' σ H Q:=by
 obtain⟨G,Z,k,a⟩:=q;refine⟨G,Z,k,?_⟩;cases z:f Z with
 |bad=>rw[z]at a;exact a.elim
 |ok es Z'=>rw[z]at a;rw[h Z es Z' z];exact a
theorem N6{K:Frag}{f f':M (List D)}{j:Nat}(h:∀Z es Z',f Z=.ok es Z'->f' Z=.ok es Z'){Dn:_}{σ:St}{H:Hp}(q:tS K B G0 KX (K0 j f) Dn σ H):tS K B G0 KX (K0 j f') Dn σ H:=by
 obtain⟨G,Z,k,a⟩:=q;refine⟨G,Z,k,?_⟩;unfold K0 sB at a⊢;cases z:f Z with
 |bad=>rw[z]at a;exact a.elim
 |ok es Z'=>rw[z]at a;rw[h Z es Z' z];exact a
end
theorem Pz{s:D->UJ->Option UJ}{t:M Bool}{g:M D}:∀{ds:List D}{Z:UJ}{es esF:List D},KQ s t g ds Z es=some esF->∃ZF,cT s t (rL g) ds Z es=some (esF,ZF)
 |[],Z,es,esF,h=>by rw[KQ]at h;cases h;exact⟨Z,rfl⟩
 |d::r,Z,es,esF,h=>by
  rw[KQ]at h;rw[cT];cases zs:s d Z with
  |none=>rw[zs]at h;cases h
  |some Z1=>
  rw[zs]at h;dsimp only at h⊢;cases zt:t Z1 with
  |bad=>rw[zt]at h;cases h
  |ok b Z2=>
  rw[zt]at h;dsimp only at h⊢;cases b with
  |false=>exact Pz (ds:=r) h
  |true=>
   rw[Qm rfl]at h⊢;unfold rL;cases zg:g Z2 with
   |bad=>rw[zg]at h;cases h
   |ok e Z3=>
   rw[zg]at h;dsimp only at h⊢;split at h
   ·rename_i hl;rw[Qm hl];exact Pz (ds:=r) h
   ·cases h
theorem PQ{s:D->UJ->Option UJ}{t:M Bool}{g:M D}:∀{ds:List D}{Z:UJ}{es:List D},YO s t g ds Z es=cT s t (rL g) ds Z es
 |[],Z,es=>rfl
 |d::r,Z,es=>by
  rw[YO,cT];cases s d Z with
  |none=>rfl
  |some Z1=>
  dsimp only;cases t Z1 with
  |bad=>rfl
  |ok b Z2=>
  dsimp only;cases b with
  |false=>exact PQ (ds:=r)
  |true=>
   rw[Qm rfl,Qm rfl];unfold rL;cases g Z2 with
   |bad=>rfl
   |ok e Z3=>
   dsimp only;split
   ·exact PQ (ds:=r)
   ·rfl
theorem PP{s s1:D->UJ->Option UJ}{t t1:M Bool}{f:M (List D)}{Rd:List D->UJ->List D->Option (List D×UJ)}{rd:RdB}(hR:∀ds Z es,Rd ds Z es=cT s1 t1 rd ds Z es) :
  ∀{ds:List D}{Z:UJ}{es:List D},Xk s t f Rd ds Z es=cT s t (rN f s1 t1 rd) ds Z es
 |[],Z,es=>rfl
 |d::r,Z,es=>by
  rw[Xk,cT];cases s d Z with
  |none=>rfl
  |some Z1=>
  dsimp only;cases t Z1 with
  |bad=>rfl
  |ok b Z2=>
  dsimp only;cases b with
  |false=>exact PP hR (ds:=r)
  |true=>
   rw[Qm rfl,Qm rfl];unfold rN;cases f Z2 with
   |bad=>rfl
   |ok ds Z3=>
   dsimp only;rw[hR];cases cT s1 t1 rd ds (Kl Z3) es with
   |none=>rfl
   |some pr=>exact PP hR (ds:=r)
theorem Ng{s s1:D->UJ->Option UJ}{t t1:M Bool}{f:M (List D)}{g:M D}:∀{ds:List D}{Z:UJ}{es esF:List D},X0 s t f s1 t1 g ds Z es=some esF->∃ZF,cT s t (rN f s1 t1 (rL g)) ds Z es=some (esF,ZF)
 |[],Z,es,esF,h=>by rw[X0]at h;cases h;exact⟨Z,rfl⟩
 |d::r,Z,es,esF,h=>by
  rw[X0]at h;rw[cT];cases zs:s d Z with
  |none=>rw[zs]at h;cases h
  |some Z1=>
  rw[zs]at h;dsimp only at h⊢;cases zt:t Z1 with
  |bad=>rw[zt]at h;cases h
  |ok b Z2=>
  rw[zt]at h;dsimp only at h⊢;cases b with
  |false=>exact Ng (ds:=r) h
  |true=>
   rw[Qm rfl]at h⊢;unfold rN;cases zg:f Z2 with
   |bad=>rw[zg]at h;cases h
   |ok ds Z3=>
   rw[zg]at h;dsimp only at h⊢;rw[←PQ];cases zl:YO s1 t1 g ds (Kl Z3) es with
   |none=>rw[zl]at h;cases h
   |some pr=>rw[zl]at h;exact Ng (ds:=r) h
theorem LC{f:M (List D)}{k:Nat}{s:D->UJ->Option UJ}{t:M Bool}{g:M D}(Z:UJ)(es:List D)(Z':UJ)(h:Zu f k s t g Z=.ok es Z'):dCG false f k s t (rL g) Z=.ok es Z':=by
 unfold Zu at h;unfold dCG;cases zf:f Z with
 |bad=>rw[zf]at h;cases h
 |ok ds Z1=>
 rw[zf]at h;dsimp only[YC]at h⊢;cases zl:KQ s t g ds (Kl Z1++Uu k none) []with
 |none=>rw[zl]at h;cases h
 |some esF=>
 rw[zl]at h;cases h;obtain⟨ZF,e⟩:=Pz zl;rw[e];exact Qm λz=>by cases z
theorem qN{f:M (List D)}{k:Nat}{s:D->UJ->Option UJ}{t:M Bool}{g:M D}(Z:UJ)(es:List D)(Z':UJ)(h:SI f k s t g Z=.ok es Z'):dCG true f k s t (rL g) Z=.ok es Z':=by
 unfold SI at h;unfold dCG;cases zf:f Z with
 |bad=>rw[zf]at h;cases h
 |ok ds Z1=>
 rw[zf]at h;dsimp only[YC]at h⊢;cases zl:KQ s t g ds (ZG Z1++Uu k none) []with
 |none=>rw[zl]at h;cases h
 |some esF=>
 rw[zl]at h;dsimp only at h;split at h
 ·rename_i hf;cases h;obtain⟨ZF,e⟩:=Pz zl;rw[e];exact Qm λ_=>hf
 ·cases h
theorem qM{f f1:M (List D)}{k:Nat}{s s1:D->UJ->Option UJ}{t t1:M Bool}{g:M D}(Z:UJ)(es:List D)(Z':UJ)(h:Ru f k s t f1 s1 t1 g Z=.ok es Z'):dCG false f k s t (rN f1 s1 t1 (rL g)) Z=.ok es Z':=by
 unfold Ru at h;unfold dCG;cases zf:f Z with
 |bad=>rw[zf]at h;cases h
 |ok ds Z1=>
 rw[zf]at h;dsimp only[YC]at h⊢;cases zl:X0 s t f1 s1 t1 g ds (Kl Z1++Uu k none) []with
 |none=>rw[zl]at h;cases h
 |some esF=>
 rw[zl]at h;cases h;obtain⟨ZF,e⟩:=Ng zl;rw[e];exact Qm λz=>by cases z
theorem qL{f f1 f2:M (List D)}{k:Nat}{s s1 s2:D->UJ->Option UJ}{t t1 t2:M Bool}{g:M D}(Z:UJ)(es:List D)(Z':UJ)(h:Rt f k s t f1 s1 t1 f2 s2 t2 g Z=.ok es Z'):dCG false f k s t (rN f1 s1 t1 (rN f2 s2 t2 (rL g))) Z=.ok es Z':=by
 unfold Rt at h;unfold dCG;cases zf:f Z with
 |bad=>rw[zf]at h;cases h
 |ok ds Z1=>
 rw[zf]at h;dsimp only[YC,Tc]at h⊢;rw[PP λ_ _ _=>PP λ_ _ _=>PQ]at h;cases zl:cT s t (rN f1 s1 t1 (rN f2 s2 t2 (rL g))) ds (Kl Z1++Uu k none) []with
 |none=>rw[zl]at h;cases h
 |some pr=>
 rw[zl]at h;cases h;exact Qm λz=>by cases z
def Wj(q:Option NameKind->Bool)(SC scope:Scope)(N1 N2:List Str)(k:Nat):Bool:=
 RM scope.names N1 N2 k&&decide (scope.kind=.function)&&(scope.names.all λy=>decide (scope.names.lookup y.1=some y.2))&&scope.names.all λy=>match y.2 with
  |.free=>q (SC.names.lookup y.1)
  |_=>true
def Vu:Option NameKind->Bool
 |some .cell=>true|some .free=>true|_=>false
theorem GO{q:Option NameKind->Bool}{SC SC' scope:Scope}{N1 N2:List Str}{k:Nat}(h:Wj q SC scope N1 N2 k=true)(f:∀x,q (SC.names.lookup x)=true->SC'.names.lookup x=some .cell∨SC'.names.lookup x=some .free):So SC' scope N1 N2 k:=by unfold Wj at h;rw[Ji,Ji,Ji,Jj,Jj]at h;obtain⟨⟨⟨h1,h2⟩,h0⟩,h3⟩:=h;refine⟨h1,Qa h2,λy hy=>Qa (h0 y hy),λy hy e=>?_⟩;have:=h3 y hy;rw[e]at this;exact f _ this
theorem OP{SC scope:Scope}{N1 N2:List Str}{k:Nat}(h:Wj Vu SC scope N1 N2 k=true):So SC scope N1 N2 k:=GO h λx e=>by
 cases z:SC.names.lookup x with
 |none=>rw[z]at e;cases e
 |some y=>rw[z]at e;cases y<;>first|exact .inl rfl|exact .inr rfl|cases e
section
variable{X:Cx}{B G0:Hp}{KX:XW}
theorem FW{l:Bool}{tg elt iter:Uo}{ifs:List Uo}{gs:List Comprehension}{scope:Scope}{pos:Pos}{f:M (List D)}{s:D->UJ->Option UJ}{t:M Bool}{rd:RdB}{F:M (List D)}(SC:Scope)(N1 N2:List Str)(k:Nat)(le:∀Z es Z',F Z=.ok es Z'->dCG l f k s t rd Z=.ok es Z')(hc:X.calm=true)
  (hi:PI X tg iter (iD X.K B G0 f)) (hblk:ZV X N2 scope (.ListComp elt (⟨tg,iter,ifs,0⟩::gs) scope pos) tg ifs s t rd) (h1:X.env.scope=SC) (h2:X.N=N1) (hb:Wj Vu SC scope N1 N2 k=true) (hs:∀x,UH iter X.env x=pure x:=by intro _;rfl) :
  PE X (.ListComp elt (⟨tg,iter,ifs,0⟩::gs) scope pos) (tL X.K B G0 F):=
 Kn (NH hc hi hblk (by rw[h1,h2];exact OP hb) hs) λ_ _ _ q=>NG le q
theorem sD_1{l:Bool}{y:Str}{j:Nat}{py:Pos}{spos:Pos}{tg elt iter:Uo}{ifs:List Uo}{gs:List Comprehension}{scope:Scope}{pos:Pos}{f:M (List D)}{s:D->UJ->Option UJ}{t:M Bool}{rd:RdB}{F:M (List D)}(SC:Scope)(N1 N2:List Str)(k:Nat)(le:∀Z es Z',F Z=.ok es Z'->dCG l f k s t rd Z=.ok es Z')(hN:X.N.Nodup)(hj:X.N[j]?=some y)(hy:X.env.scope.names.lookup y=some .local)(hc:X.calm=true)
  (hi:PI X tg iter (iD X.K B G0 f)) (hblk:ZV X N2 scope (.ListComp elt (⟨tg,iter,ifs,0⟩::gs) scope pos) tg ifs s t rd) (h1:X.env.scope=SC) (h2:X.N=N1) (hb:Wj Vu SC scope N1 N2 k=true) (hs:∀x,UH iter X.env x=pure x:=by intro _;rfl)
  (hsw:swapsWith (.ListComp elt (⟨tg,iter,ifs,0⟩::gs) scope pos) (some (.Name y py)) spos.line X.env=pure true:=by rfl) :
  PS X (.Assign [.Name y py] (.ListComp elt (⟨tg,iter,ifs,0⟩::gs) scope pos) spos) (tS X.K B G0 KX (K0 j F)):=
 Zr (sD_g hN hj hy hc hi hblk (by rw[h1,h2];exact OP hb) hs hsw) λ_ _ _ q=>N6 le q
theorem Ep{l:Bool}{scope0:Scope}{cl:List (Str×Ul)}{C:Ul}{s₀:Uj}{H₀:Hp}{ex:List Ul}{N2:List Str}{tg elt iter:Uo}{ifs:List Uo}{gs:List Comprehension}{scope:Scope}{pos:Pos}{f:M (List D)}{s:D->UJ->Option UJ}{t:M Bool}{rd:RdB}{F:M (List D)}(N3:List Str)(k:Nat)(le:∀Z es Z',F Z=.ok es Z'->dCG l f k s t rd Z=.ok es Z')(hc:X.calm=true)
  (hi:PI (X.blk N2 scope0 cl C s₀ H₀ ex) tg iter (iD X.K B G0 f)) (hblk:ZV (X.blk N2 scope0 cl C s₀ H₀ ex) N3 scope (.ListComp elt (⟨tg,iter,ifs,0⟩::gs) scope pos) tg ifs s t rd) (hb:Wj Vu scope0 scope N2 N3 k=true) (hs:∀x,UH iter (X.blk N2 scope0 cl C s₀ H₀ ex).env x=pure x:=by intro _;rfl) :
  PE (X.blk N2 scope0 cl C s₀ H₀ ex) (.ListComp elt (⟨tg,iter,ifs,0⟩::gs) scope pos) (tL X.K B G0 F):=by
 refine Kn (NH (X:=X.blk N2 scope0 cl C s₀ H₀ ex) hc hi hblk (GO hb λx e=>?_) hs) λ_ _ _ q=>NG le q
 cases z:scope0.names.lookup x with
 |none=>rw[z]at e;cases e
 |some y=>
  rw[z]at e;cases y with
  |free=>exact(NC (env:=X.env) z).symm
  |cell=>exact .inl (VP (by decide) z)
  |_=>cases e
end
theorem BH{f:M (List D)}{k:Nat}{s s1' s2':D->UJ->Option UJ}{t t1' t2':M Bool}{f1 f2:M (List D)}{g:M D}{Z Z1 Z2:UJ}{ds es:List D}(h1:f Z=.ok ds Z1)(h2:Xk s t f1 (Xk s1' t1' f2 (YO s2' t2' g)) ds (Kl Z1++Uu k none) []=some (es,Z2)) :
  Rt f k s t f1 s1' t1' f2 s2' t2' g Z=.ok es Z1:=by
 unfold Rt;rw[h1];dsimp only[Tc];rw[h2];rfl
section
variable{X:Cx}{B G0:Hp}{e a b c tg:Uo}{pos:Pos}{es rest:List Uo}
theorem EOk.given{K:Frag}{G H:Hp}{σ:St}{Z:UJ}{a:Ul}{vs:List V}{ds:List D}(k:EOk K B G0 G H σ Z)(n:NewL K B G H σ Z a vs ds):EOk K B G0 (upd G a (.lst vs)) H σ Z where
 bh:=k.bh
 gh:=λb u q=>by
  by_cases z:b=a
  ·subst z;rw[K9]at q;cases q;exact n.h
  ·rw[Ku z]at q;exact k.gh b u q
 g0:=k.g0.trans (Zx n.g)
 np:=λb o q z=>by
  have zb:b≠a:=λz=>by subst z;rw[n.b]at q;cases q
  rw[Ku zb];exact k.np b o q z
 len:=k.len
 pub:=λi d q=>let ⟨v,h1,h2⟩:=k.pub i d q;⟨v,h1,h2.mono (Zx n.g)⟩
 own:=λi ds q=>by
  obtain⟨b,ws,h1,h2,h3,h4,h5⟩:=k.own i ds q;have zb:b≠a:=λz=>by subst z;exact n.f i ds q h1
  exact⟨b,ws,h1,h2,by rw[Ku zb];exact h3,h4,h5.mono (Zx n.g)⟩
 sep:=k.sep
 dp:=k.dp.map (λ_ _ _ q=>⟨q,rfl⟩) (λ_ ds q=>⟨ds,q,rfl⟩) λi p d v fp q s r w nn=>⟨r.mono (Zx n.g) (.refl _),λb m=>⟨(w b m).1,by rw[Ku (λz=>n.dp i p d v fp q s r (by rw[←z];exact m))];exact(w b m).2⟩⟩
theorem CL{f:M (List D)}(h:PE X e (tL X.K B G0 f)):PE X e (tD X.K B G0 (UZ Uv f)):=
 Kn h λσ H Q ⟨G,Z,k,a⟩=>by
  refine⟨G,Z,k,?_⟩;unfold UZ U6 at a;cases z:f Z with
  |bad=>rw[z]at a;exact a.elim
  |ok ds Z1=>rw[z]at a;intro ad vs G' H' k' s' n;exact a (.ref ad) _ H' (k'.given n) (s'.trans (Zx n.g)) (.lst (SqL.of K9) (n.r.mono (Zx n.g)))
theorem BG(hc:X.calm=true):YL X (.builtin "all") (λxs H Q=>∃l,∃bs:List Bool,xs=[.ref l]/\SqL X.K H l (bs.map V.bl)/\Q (.bl (bs.all id)) H):=by
 intro pins s σ H xs us Q I rx h;obtain⟨l,bs,rfl,hq,q⟩:=h;obtain⟨u,rfl,ru⟩:=rx.one;cases ru;obtain⟨its,rv,p,hz⟩:=I.list hq;have hl:=p.isList;have hlt:l<s.heap.objs.size:=by obtain⟨_,e,_⟩:=id hl;exact Qh e
 have key:∀(i:Nat) v,its.toArray[i]?=some v->∃t,bs[i]?=some t/\v=.bool t:=λi v e=>by
  have e:its[i]?=some v:=by simpa using e
  have hi:i<bs.length:=by have:=(Qg.mp e).1;have h2:=rv.length;rw[Qb]at h2;omega
  obtain⟨u,e2,r2⟩:=rv.get (i:=i) (x:=.bl bs[i]) (by rw[Qd,Qe hi];rfl);rw[e]at e2;cases e2;exact⟨bs[i],Qe hi,r2⟩
 refine call_all_walk (JE hl ?_)
 refine⟨s.heap.objs.size,[s.heap.objs.size,l],[s.heap.objs.size],its.toArray.size,_,_,λi=>(bs[i]?).getD true,rfl,Walks.list (A:=X.A.in1) (I.ok.hd hc) _ l (QQ hlt) its.toArray,
  ⟨⟨_,QG _ rfl,rfl,rfl⟩,hl.push _⟩,λi v s' Q' E' hP hQ=>?_,λh' tk hk=>?_⟩
 ·obtain⟨b,e,rfl⟩:=key i v hP;simp only[e,J0]at hQ;exact Q2 hQ
 ·have hn:its.toArray.size=bs.length:=by have:=rv.length;rw[List.length_map]at this;simp;omega
  have e:((Ut its.toArray.size).all λi=>(bs[i]?).getD true)=bs.all id:=by
   rw[hn,JN,Jj,Jj];constructor
   ·intro h b hb;obtain⟨i,hi,e⟩:=List.getElem_of_mem hb;have:=h i (Q9.mpr hi);simp only[Qe hi,J0,e]at this;exact this
   ·intro h i hi;have hi':=Q9.mp hi;simp only[Qe hi',J0];exact h _ (JB hi')
  rw[e];exact⟨.bl (bs.all id),H,I.kept (t':=tk) λb x e=>hk b x (λhm=>by rw[Qv.mp hm]at e;exact Jr _ (Qh e)) (Qj _ e),rfl,q⟩
def VM:List D->Option (List Bool)
 |[]=>some []
 |.bool b::r=>(VM r).map (b :: ·)
 |_=>none
theorem GU{K:Frag}{G:Hp}:∀{vs:List V}{ds:List D}{bs:List Bool},Reps K G vs ds->VM ds=some bs->vs=bs.map V.bl
 |_,_,bs,.nil,e=>by cases e;rfl
 |_,_,bs,.cons (d:=d) r t,e=>by
  cases d with
  |bool b=>
   unfold VM at e;cases z:VM _ with
   |none=>rw[z]at e;cases e
   |some cs=>rw[z]at e;cases e;rw[r.bl_inv,GU t z];rfl
  |_=>cases e
def YA:List D->Option D
 |[.list ds]=>(VM ds).map λbs=>.bool (bs.all id)
 |_=>none
theorem FV(hc:X.calm=true):YV X (.builtin "all") YA:=by
 refine⟨_,BG hc,λvs G H ds d Q s r e k=>?_⟩;unfold YA at e;split at e
 ·rename_i ds;cases z:VM ds with
  |none=>rw[z]at e;cases e
  |some bs=>rw[z]at e;cases e;obtain⟨v,rfl,q⟩:=r.one_inv;obtain⟨l,ws,rfl,h1,r1⟩:=q.lst_inv;have hw:=GU r1 z;subst hw;exact⟨l,bs,rfl,s.seq h1,k _ G H (.refl s) (.bl _)⟩
 ·cases e
def Its(x:Str):It:=⟨λi _=>i<x.cps.size,λi H v H'=>H'=H/\∃c,x.cps[i]?=some c/\v=.str ⟨#[c]⟩,λi _=>x.cps.size<=i⟩
theorem BF{P:Uk}{w:World}{K:Frag}{tg:Uo}(x:Str)(t:Tok)(it:Ul):Turn P w K tg (Its x) [it] it (λi h=>h.IsStrIter it (strIterType x) x t i) where
 mem:=by simp
 obj:=λi h st b hb=>by
  have e:b=it:=by simpa using hb
  subst e;obtain⟨o,e,c,d⟩:=st;exact⟨o,e,λv z=>by rw[d]at z;cases z⟩
 keep:=λi h h' st k=>by obtain⟨o,e,c,d⟩:=st;exact⟨o,k it (by simp) o e,c,d⟩
 item:=by
  intro X hP hw hK hc i pins s σ H E I hf st hg;subst hP hw hK;obtain⟨f0,f1,f2,f3,f4,f5⟩:=hf it (by simp);have hx:x.cps[i]?=some x.cps[i]:=JM hg
  have fin:∀h' tk(T:String),strIterType x=T->h'.IsStrIter it T x t (i+1)->Heap.SameBut it s.heap h'->["enumerate", "zip", "dict_itemiterator", "dict_reverseitemiterator", "odict_iterator", "itertools.zip_longest", "itertools.pairwise"].contains T=false ->
    ∃u,some (Value.str ⟨#[x.cps[i]]⟩ s.toks)=some u/\Uq (model X.prog X.w) X.A (letOwnedTupleGo tg (.ref it) u) (λ_ s2=>∃v H',Inv X pins σ H' s2/\RelV v u/\(Its x).yld i H v H'/\s2.heap.IsStrIter it (strIterType x) x t (i+1)/\∀b∈[it],H' b=none) E {s with heap:=h',toks:=tk}:=by
   intro h' tk T eT st' sb hn;have I1:Inv X pins σ H {s with heap:=h',toks:=tk}:=I.turned (t':=tk) (λb o hb e=>(sb.2 b hb).trans e) f0 f1 f3 f4 f5;obtain⟨o,e,c,d⟩:=id st';refine⟨_,rfl,R7 (s:={s with heap:=h',toks:=tk}) e c d hn ⟨.str ⟨#[x.cps[i]]⟩,H,I1,⟨_,rfl⟩,⟨rfl,_,hx,rfl⟩,by rw[eT];exact st',λb hb=>(hf b hb).1⟩⟩
  cases ha:x.cps.all (· < 128)with
  |true=>
   have eT:strIterType x = "str_ascii_iterator" :=by simp[strIterType,ha]
   rw[eT]at st;exact wpAny_pyNext_ascii_item st hx λh' st' sb=>fin h' _ _ eT st' sb (by decide)
  |false=>
   have eT:strIterType x = "str_iterator" :=by simp[strIterType,ha]
   rw[eT]at st;exact wpAny_pyNext_wide_item st hx λh' st' sb=>fin h' _ _ eT st' sb (by decide)
 done:=by
  intro X hP hw hK hc i pins s σ H E I hf st hg;subst hP hw hK;obtain⟨f0,f1,f2,f3,f4,f5⟩:=hf it (by simp);have hx:x.cps[i]?=none:=Array.getElem?_eq_none hg;cases ha:x.cps.all (· < 128)with
  |true=>
   have eT:strIterType x = "str_ascii_iterator" :=by simp[strIterType,ha]
   rw[eT]at st;exact wpAny_pyNext_ascii_end (I.ok.hd hc) st hx λh' eb=>⟨rfl,I.turned (t':=s.toks) (λb o hb e=>eb b o hb e) f0 f1 f3 f4 f5⟩
  |false=>
   have eT:strIterType x = "str_iterator" :=by simp[strIterType,ha]
   rw[eT]at st;exact wpAny_pyNext_wide_end (I.ok.hd hc) st hx λh' eb=>⟨rfl,I.turned (t':=s.toks) (λb o hb e=>eb b o hb e) f0 f1 f3 f4 f5⟩
 self:=λA i s Q E st h=>by
  cases ha:x.cps.all (· < 128)with
  |true=>
   have eT:strIterType x = "str_ascii_iterator" :=by simp[strIterType,ha]
   rw[eT]at st;exact wpAny_pyIter_striter_ascii st h
  |false=>
   have eT:strIterType x = "str_iterator" :=by simp[strIterType,ha]
   rw[eT]at st;exact wpAny_pyIter_striter_wide st h
def iAny(K:Frag)(tl:TE):TI:=λσ H R=>tl σ H λx H1=>(∃a,x=.ref a/\(∃xs,SqL K H1 a xs)/\R (Itl K a) H1)∨(∃a,x=.ref a/\(∃xs,SqT K H1 a xs)/\R (Itt K a) H1) ∨ ∃z,x=.str z/\R (Its z) H1
theorem Eo{l:Uo}{tl:TE}(hl:PE X l tl):PI X tg l (iAny X.K tl):=by
 intro pins s σ H R I h;refine thn (hl pins s σ H _ I h) λv s1 ⟨x,H1,I1,r1,q1⟩=>?_
 have fpOk:∀b∈[s1.heap.objs.size],ZD X pins H1 b:=λb hb=>by
  have e:b=s1.heap.objs.size:=by simpa using hb
  subst e;exact I1.fpOk (Qs _) (I1.hok.fresh (Qs _))
 rcases q1 with ⟨a,e,⟨xs,hq⟩,q⟩|⟨a,e,⟨xs,hq⟩,q⟩|⟨z,e,q⟩
 ·subst e;cases r1;obtain⟨its,rv,p,hz⟩:=I1.list hq;refine JE p.isList ?_;exact⟨s1.heap.objs.size,[s1.heap.objs.size],_,_,H1,rfl,I1.kept (t':=s1.toks) λb o e=>Qj _ e,jT a _,⟨_,QG _ rfl,rfl,rfl⟩,fpOk,q⟩
 ·subst e;cases r1;obtain⟨its,rv,p,hz⟩:=I1.tuple hq;refine wpAny_pyIter_tuple p ?_;exact⟨s1.heap.objs.size,[s1.heap.objs.size],_,_,H1,rfl,I1.kept (t':=s1.toks) λb o e=>Qj _ e,ju a _,⟨_,QG _ rfl,rfl,rfl⟩,fpOk,q⟩
 ·subst e;obtain⟨t,rfl⟩:=r1;refine wpAny_pyIter_strU ?_;exact⟨s1.heap.objs.size,[s1.heap.objs.size],_,_,H1,rfl,I1.kept (t':=s1.toks) λb o e=>Qj _ e,BF z t _,⟨_,QG _ rfl,rfl,rfl⟩,fpOk,q⟩
def Rs(z:Str):List D:=z.cps.toList.map λc=>.str ⟨#[c]⟩
def OO:D->Option (List D)
 |.list ds=>some ds
 |.tuple ds=>some ds
 |.str z=>some (Rs z)
 |_=>none
theorem kz{K:Frag}{G1:Hp}{ad:Ul}{vs:List V}{ds:List D}(h:SqT K G1 ad vs)(r:Reps K G1 vs ds):XI K (Itt K ad) ds G1 where
 go:=λi G H s1 s2 hi=>by
  have hi':i<vs.length:=by rw[r.length];exact hi
  exact⟨vs,vs[i],YZ (s1.trans s2) h,Qe hi'⟩
 stop:=λi G H s1 s2 hi=>⟨vs,YZ (s1.trans s2) h,by rw[r.length];exact hi⟩
 yld:=λi G H x H' d s1 s2 e y=>by obtain⟨rfl,y⟩:=y;obtain⟨v,e1,r1⟩:=r.get e;have:=y vs (YZ (s1.trans s2) h);rw[e1]at this;cases this;exact⟨G,.refl s2,r1.mono s1⟩
theorem qK{K:Frag}{G1:Hp}{z:Str}:XI K (Its z) (Rs z) G1 where
 go:=λi G H s1 s2 hi=>by unfold Rs at hi;simpa[Its]using hi
 stop:=λi G H s1 s2 hi=>by unfold Rs at hi;simpa[Its]using hi
 yld:=λi G H x H' d s1 s2 e y=>by
  obtain⟨rfl,c,hc,rfl⟩:=y;unfold Rs at e;rw[Qd]at e;have:z.cps.toList[i]?=some c:=by simpa using hc
  rw[this]at e;cases e;exact⟨G,.refl s2,.str _⟩
def KL(f:M D):M (List D):=U6 f λx=>U8 (OO x)
theorem Oq{f:M D}(h:PE X e (tD X.K B G0 f)):PI X tg e (iD X.K B G0 (KL f)):=Xu (Eo h) λσ H R q=>tM.toI (R0:=Rep X.K) q λv H' G' Z' x k r a=>by
 cases x with
 |list ds=>obtain⟨ad,vs,rfl,h1,r1⟩:=r.lst_inv;exact .inl ⟨ad,rfl,⟨vs,k.gh.seq h1⟩,a _ G' H' k (.refl _) (jo h1 r1)⟩
 |tuple ds=>obtain⟨ad,vs,rfl,h1,r1⟩:=r.tup_inv;exact .inr (.inl ⟨ad,rfl,⟨vs,YZ k.gh h1⟩,a _ G' H' k (.refl _) (kz h1 r1)⟩)
 |str z=>have:=r.str_inv;subst this;exact .inr (.inr ⟨z,rfl,a _ G' H' k (.refl _) qK⟩)
 |_=>exact a.elim
def inS(i j:Str):Bool:=!(Builtin.Str.occurrences j i 0 j.length 1).isEmpty
def oInS:D->D->Option Bool
 |.str i,.str j=>some (inS i j)
 |_,_=>none
def NF:D->D->Option Bool
 |.str i,.str j=>some (!inS i j)
 |_,_=>none
theorem FT:OpB X (Us .In) oInS:=⟨_,qG,λv u G H x y d Q s rx ry e k=>by
 unfold oInS at e;split at e
 ·cases e;have:=rx.str_inv;subst this;have:=ry.str_inv;subst this;exact⟨_,_,rfl,rfl,k⟩
 ·cases e⟩
theorem En:OpB X (Us .NotIn) NF:=⟨_,kT,λv u G H x y d Q s rx ry e k=>by
 unfold NF at e;split at e
 ·cases e;have:=rx.str_inv;subst this;have:=ry.str_inv;subst this;exact⟨_,_,rfl,rfl,k⟩
 ·cases e⟩
theorem FS{x:Str}{i:Int}(hg:Gl X x)(hm:∃t,X.mg x=some (.int i t))(hd:(x==("__debug__" : Str))=false:=by decide):PE X (.Name x pos) (tD X.K B G0 (UQ (.int i))):=by obtain⟨t,hm⟩:=hm;exact Kn (LA (v:=.int i) hg hm ⟨t,rfl⟩ hd) λσ H Q ⟨G,Z,k,a⟩=>aft.now a k (.int _)
end
section
variable{X:Cx}{B G0:Hp}{KX:XW}{e o a b c tg i:Uo}{pos p2:Pos}{es rest:List Uo}{te to ti:TE}
def Em(te to ti:TE):TS:=λD σ H=>te σ H λv H1=>to σ H1 λx H2=>ti σ H2 λk H3=>∃l xs n,x=.ref l/\H3 l=some (.lst xs)/\k=.int n/\0<=n/\n<xs.length/\D.nx σ (upd H3 l (.lst (xs.set n.toNat v)))
theorem BE(he:PE X e te)(ho:PE X o to)(hi:PE X i ti)(hs:swapsWith e (some (.Subscript o i p2)) pos.line X.env=pure false:=by rfl):PS X (.Assign [.Subscript o i p2] e pos) (Em te to ti):=by
 intro pins s σ H D I h;refine wpAny_Assign_Subscript (thn (he pins s σ H _ I h) λv s1 ⟨x,H1,I1,r1,q1⟩=>thn (ho pins s1 σ H1 _ I1 q1) λov s2 ⟨y,H2,I2,r2,q2⟩=>thn (hi pins s2 σ H2 _ I2 q2) λiv s3 ⟨k,H3,I3,r3,q3⟩=>?_) hs;obtain⟨l,xs,n,rfl,hl,rfl,h0,h1,q⟩:=q3;cases r2;obtain⟨t,rfl⟩:=r3;obtain⟨z,its,m,r,hlen,ee⟩:=I3.lstM hl
 refine PySem.W.ki_setAt (items:=its.toArray) (n:=m) ee h0 (by
                                  have:Up<2 ^ 63:=by decide
                                  omega) (by simp;omega) ?_
 refine⟨σ,_,I3.lset (t':=s3.toks) (its:=its) (its':=its.set n.toNat v) (f:=(·.setIfInBounds n.toNat v)) hl ee (by simp) (r.set r1 n.toNat) (by rw[List.length_set];exact z),q⟩
def Wn(j:Nat)(g f:M D):SM:=sB f λd Z1=>match Z1[j]? with
 |some (some (.own _))=>sB g (λy Z2=>match y with
  |.int k=>(match Z2[j]? with
   |some (some (.own ds))=>if 0<=k/\k<ds.length then .nx (Z2.set j (some (.own (ds.set k.toNat d))))else .bad
   |_=>.bad)
  |_=>.bad) Z1
 |_=>.bad
theorem Lm{j:Nat}{f g:M D}(he:PE X e (tD X.K B G0 f))(ho:PE X o (K2 j))(hi:PE X i (tD X.K B G0 g))(hs:swapsWith e (some (.Subscript o i p2)) pos.line X.env=pure false:=by rfl) :
  PS X (.Assign [.Subscript o i p2] e pos) (tS X.K B G0 KX (Wn j g f)):=
 Zr (BE he ho hi hs) λD σ H q=>tS.bnd (R:=Rep X.K) q λv H1 G1 Z1 d k r a=>by
  cases q0:Z1[j]? with
  |none=>rw[q0]at a;exact a.elim
  |some o0=>
   cases o0 with
   |none=>rw[q0]at a;exact a.elim
   |some sl0=>
    cases sl0 with
    |deep _ _=>rw[q0]at a;exact a.elim
    |pub d=>rw[q0]at a;exact a.elim
    |own ds0=>
     rw[q0]at a;obtain⟨ad,vs0,h1,h2,h3,h4,h5⟩:=k.own j ds0 q0;refine⟨.ref ad,h1,G1,Z1,k,?_⟩;dsimp only at a;unfold sB at a;cases z:g Z1 with
     |bad=>rw[z]at a;exact a.elim
     |ok y Z2=>
      rw[z]at a;dsimp only at a;intro kv G' H' k' s' r';cases y with
      |int n=>
       dsimp only at a;cases q:Z2[j]? with
       |none=>rw[q]at a;exact a.elim
       |some oo=>
        cases oo with
        |none=>rw[q]at a;exact a.elim
        |some sl=>
         cases sl with
         |deep _ _=>rw[q]at a;exact a.elim
         |pub d=>rw[q]at a;exact a.elim
         |own ds=>
          rw[q]at a;dsimp only at a;split at a
          ·rename_i hn;obtain⟨ad',vs,g1,g2,g3,g4,g5⟩:=k'.own j ds q;rw[h1]at g1;cases g1;refine⟨ad,vs,n,rfl,g4,r'.int_inv,hn.1,by rw[g5.length];exact hn.2,?_⟩;exact a σ G' _ (k'.change q h1 (g5.set (r.mono s') n.toNat)) s'
          ·exact a.elim
      |_=>exact a.elim
def Xy(z:Str)(lo hi:Option Int):Str:=if(Builtin.Str.strSliceIndices lo hi 1 z.length).length=z.length then z else⟨((Builtin.Str.strSliceIndices lo hi 1 z.length).filterMap (z.cps[·]?)).toArray⟩
theorem El:SlR X (λx lo hi H Q=>∃z,x=.str z/\(Xy z lo hi).length<=Up/\Q (.str (Xy z lo hi)) H):=by
 intro pins s σ H x v vl vu lo hi sl Q I rx hs pl pu h;obtain⟨z,rfl,hz,q⟩:=h;obtain⟨t,rfl⟩:=rx;refine⟨"str", _,F.slot_str_getitem.lookup,typeIs_str s z t,?_⟩
 obtain⟨l,el,e1⟩:∃l:Option (Int×Tok),vl=partValue l/\l.map (·.1)=lo:=by
  cases pl with
  |none=>exact⟨none,rfl,rfl⟩
  |int k t'=>exact⟨some (k,t'),rfl,rfl⟩
 obtain⟨u,eu,e2⟩:∃u:Option (Int×Tok),vu=partValue u/\u.map (·.1)=hi:=by
  cases pu with
  |none=>exact⟨none,rfl,rfl⟩
  |int k t'=>exact⟨some (k,t'),rfl,rfl⟩
 subst el eu;refine wpAny_getItem_str_slice (l:=l) (u:=u) (st:=none) hs rfl ?_;unfold sliceMade slicePicked;rw[e1,e2];unfold Xy at hz q;by_cases hw:(Builtin.Str.strSliceIndices lo hi 1 z.length).length=z.length
 ·rw[Qm hw]at hz q;rw[if_pos (by simp[hw])];exact⟨.str z,H,I,⟨t,rfl⟩,q⟩
 ·rw[QB hw]at hz q;rw[if_neg (by simp[hw])];exact⟨hz,.str _,H,I.tok _,⟨_,rfl⟩,q⟩
end
section
variable{X:Cx}{B G0:Hp}{KX:XW}{e o a b c tg i:Uo}{pos p2:Pos}{es rest:List Uo}{te to ti:TE}
theorem pvb(i:Nat){x:Str}{pos:Pos}{N':List Str}{scope:Scope}{cl:List (Str×Ul)}{C:Ul}{s₀:Uj}{H₀:Hp}{ex:List Ul}(hN:N'[i]?=some x:=by rfl)
  (h:visK (scope.names.lookup x)=true:=by rfl) (hd:(x==("__debug__" : Str))=false:=by decide) (hcd:(x==("__classdict__" : Str))=false:=by decide) :
  PE (X.blk N' scope cl C s₀ H₀ ex) (.Name x pos) (K2 i):=Mi hN (DZ h) hd hcd
def YQ:D->Option Int->Option Int->Option D
 |.list xs,lo,hi=>some (.list (DL.cutD xs lo hi))
 |.str z,lo,hi=>if(Xy z lo hi).length<=1000000 then some (.str (Xy z lo hi))else none
 |_,_,_=>none
def ZT(f:M D)(lo hi:M (Option Int)):M D:=U6 f λx=>U6 lo λl=>U6 hi λh=>U8 (YQ x l h)
theorem jk{lo hi:Option Uo}{f:M D}{l h:M (Option Int)}(he:PE X e (tD X.K B G0 f))(hl:PO X lo (tOi X.K B G0 l))(hu:PO X hi (tOi X.K B G0 h)) :
  PE X (.Subscript e (.Slice lo hi none p2) pos) (tD X.K B G0 (ZT f l h)):=
 Kn (A1 (C4.or El) he hl hu) λσ H Q q=>by
  refine tM.one (R:=Rep X.K) q λv H2 G Z x k r a=>?_;refine tM.nx (R:=λ_ b c=>b=c) k a λl' H3 G3 Z3 xl k3 s3 r3 a3=>?_;refine tM.nx (R:=λ_ b c=>b=c) k3 a3 λh' H4 G4 Z4 xh k4 s4 r4 a4=>?_;have r3:l'=xl:=r3;have r4:h'=xh:=r4;subst r3 r4;unfold U8 YQ at a4
  cases x with
  |list xs=>obtain⟨ad,vs,rfl,h1,r1⟩:=((r.mono s3).mono s4).lst_inv;exact .inl ⟨ad,vs,rfl,k4.gh.seq h1,λp hp=>aft.done a4 k4 (Ext.new k4.gh hp) (.lst (SqL.of K9) ((r1.cut l' h').mono (Zx (k4.gh.free hp))))⟩
  |str z=>
   dsimp only at a4;have:=r.str_inv;subst this;by_cases hc:(Xy z l' h').length<=1000000
   ·rw[Qm hc]at a4;exact .inr ⟨z,rfl,QR hc lim,aft.now a4 k4 (.str _)⟩
   ·rw[QB hc]at a4;exact a4.elim
  |_=>exact a4.elim
end
section
variable{X:Cx}{B G0:Hp}{e o a b c tg:Uo}{pos p2:Pos}{es rest:List Uo}{te to ti:TE}
def K7{β:Type}(p:D->D->Option β)(i:Nat)(g:M D):M β:=λZ=>match Z[i]? with
 |some (some (.pub d))=>(U6 g λy=>U8 (p d y)) Z
 |some (some (.own _))=>(U6 g λy=>λZ'=>match Z'[i]? with|some (some (.own ds))=>U8 (p (.list ds) y) Z'|_=>.bad) Z
 |_=>.bad
theorem NE{K:Frag}{σ:St}{H:Hp}{p:D->D->Option Bool}{r:R2}{i:Nat}{g:M D}{Q:Bool->Hp->Prop}{QV:VK}(hq:∀t H3,Q t H3->QV (.bl t) H3)(hr:∀v u G H x y d Q,Same G H->Rep K G v x->Rep K G u y->p x y=some d->Q (.bl d) H->r v u H Q)
  (q:tBo K B G0 (K7 p i g) σ H Q):K2 i σ H λx H1=>tD K B G0 g σ H1 λy H2=>r x y H2 QV:=by
 obtain⟨G,Z,k,a⟩:=q;unfold K7 at a;cases q:Z[i]? with
 |none=>rw[q]at a;exact a.elim
 |some o=>
  cases o with
  |none=>rw[q]at a;exact a.elim
  |some sl=>
   cases sl with
   |deep _ _=>rw[q]at a;exact a.elim
   |pub d=>
    rw[q]at a;obtain⟨v,h1,h2⟩:=k.pub i d q;refine⟨v,h1,G,Z,k,?_⟩;dsimp only[U6]at a;cases z:g Z with
    |bad=>rw[z]at a;exact a.elim
    |ok y Z1=>rw[z]at a;intro u G' H' k' s' r';obtain⟨d',e',a'⟩:=aft.opt a;exact hr v u G' H' d y d' _ k'.gh (h2.mono s') r' e' (hq _ _ (a' d' G' H' k' s' rfl))
   |own ds=>
    rw[q]at a;obtain⟨ad,vs,h1,h2,h3,h4,h5⟩:=k.own i ds q;refine⟨.ref ad,h1,G,Z,k,?_⟩;dsimp only[U6]at a;cases z:g Z with
    |bad=>rw[z]at a;exact a.elim
    |ok y Z1=>
     rw[z]at a;dsimp only at a;intro u G' H' k' s' r';cases q1:Z1[i]? with
     |none=>rw[q1]at a;exact a.elim
     |some oo=>
      cases oo with
      |none=>rw[q1]at a;exact a.elim
      |some sl1=>
       cases sl1 with
       |deep _ _=>rw[q1]at a;exact a.elim
       |pub d1=>rw[q1]at a;exact a.elim
       |own ds1=>
        rw[q1]at a;dsimp only at a;obtain⟨ad',ws,g1,g2,g3,g4,g5⟩:=k'.own i ds1 q1;rw[h1]at g1;cases g1;obtain⟨d',e',a'⟩:=aft.opt a;have sg:Same G' (upd G' ad (.lst ws)):=Zx g3
        have sh:Same (upd G' ad (.lst ws)) H':=λb o q=>by
         by_cases z:b=ad
         ·subst z;rw[K9]at q;cases q;exact g4
         ·rw[Ku z]at q;exact k'.gh b o q
        exact hr (.ref ad) u _ H' (.list ds1) y d' _ sh (.lst (SqL.of K9) (g5.mono sg)) (r'.mono sg) e' (hq _ _ (a' d' G' H' k' s' rfl))
theorem CK{op:CmpOp}{p:D->D->Option Bool}{i:Nat}{g:M D}(o:OpB X (Us op) p)(ha:PE X a (K2 i))(hb:PE X b (tD X.K B G0 g))(hm:behindInMarks op b=false) :
  PT X (.Compare a [op] [b] pos) (tBo X.K B G0 (K7 p i g)):=by
 obtain⟨r,h,j⟩:=o;exact Yh (OG h ha hb hm) λσ H Q q=>NE (λt H3 z=>⟨t,rfl,z⟩) j q
theorem CJ{op:CmpOp}{p:D->D->Option Bool}{i:Nat}{g:M D}(o:OpB X (Us op) p)(ha:PE X a (K2 i))(hb:PE X b (tD X.K B G0 g))(hm:behindInMarks op b=false) :
  PE X (.Compare a [op] [b] pos) (tD X.K B G0 (UZ Uw (K7 p i g))):=by
 obtain⟨r,h,j⟩:=o;exact Kn (Ll h ha hb hm) λσ H Q q=>NE (λt H3 z=>z) j (tBo.val q)
end
end DL
namespace L2
open PySem PySem.Spec PyProof.Rows
def Itz(K:Frag)(a b:Ul):It:=
 ⟨λi H=>∃xs x ys y,SqL K H a xs/\xs[i]?=some x/\SqL K H b ys/\ys[i]?=some y,
  λi H v H'=>∃p x y,H p=none/\v=.ref p/\(∀xs,SqL K H a xs->xs[i]?=some x)/\(∀ys,SqL K H b ys->ys[i]?=some y)/\H'=upd H p (.tup [x,y]),
  λi H=>∃xs ys,SqL K H a xs/\SqL K H b ys/\(xs.length<=i∨ys.length<=i)⟩
theorem BD{P:Uk}{w:World}{K:Frag}{elts:List Uo}{x1}{tp:Pos}(a b z TI TO i1 i2:Ul)(Dz:ZipApart z TI TO i1 i2 a b) :
  Turn P w K (.Tuple elts x1 tp) (Itz K a b) [z,TI,TO,i1,i2] z (λi h=>IsZip h z TI TO .none/\IsPair h TI (.ref i1) (.ref i2)/\(∃c d,IsPair h TO c d)/\h.IsListIter i1 a i/\h.IsListIter i2 b i) where
 mem:=by simp
 obj:=λi h st c hc=>by
  obtain⟨h1,h2,⟨c0,d0,h3⟩,⟨o4,h4,_,d4⟩,⟨o5,h5,_,d5⟩⟩:=st;have hc':c=z∨c=TI∨c=TO∨c=i1∨c=i2:=by simpa using hc
  rcases hc' with rfl|rfl|rfl|rfl|rfl
  ·exact⟨_,h1,λv q=>by have q':Data.fields _=Data.cell v:=q;cases q'⟩
  ·exact⟨_,h2,λv q=>by have q':Data.seq _ _=Data.cell v:=q;cases q'⟩
  ·exact⟨_,h3,λv q=>by have q':Data.seq _ _=Data.cell v:=q;cases q'⟩
  ·exact⟨o4,h4,λv q=>by rw[d4]at q;cases q⟩
  ·exact⟨o5,h5,λv q=>by rw[d5]at q;cases q⟩
 keep:=λi h h' st k=>by obtain⟨h1,h2,⟨c0,d0,h3⟩,h4,h5⟩:=st;exact⟨k z (by simp) _ h1,k TI (by simp) _ h2,⟨c0,d0,k TO (by simp) _ h3⟩,h4.at λo q=>k i1 (by simp) o q,h5.at λo q=>k i2 (by simp) o q⟩
 item:=by
  intro X hP hw hK hc i pins s σ H E I hf st hg;subst hP hw hK;obtain⟨h1,h2,⟨c0,d0,h3⟩,h4,h5⟩:=st;obtain⟨xs,x,ys,y,hq,hx,hq',hy⟩:=hg;obtain⟨its,rv,p,hz⟩:=I.list hq;obtain⟨its',rv',p',hz'⟩:=I.list hq';obtain⟨u,hu,ru⟩:=rv.get hx;obtain⟨u',hu',ru'⟩:=rv'.get hy;refine wpAny_pyNext_zip_item Dz h1 h2 h3 h4 h5 p.isList p'.isList (x:=u) (y:=u') (by simpa using hu) (by simpa using hu') λh' g1 g3 g4 g5 gp gs gk=>?_
  refine⟨_,rfl,wpAny_letOwnedTupleGo_zip g1 λh2' gz sb=>?_⟩;have hzl:z<s.heap.objs.size:=Qh h1;have sb':Heap.SameBut z h' h2':=sb;have gp2:h2'.get? s.heap.objs.size=some {cls:=.type "tuple", data:=.seq #[u,u']}:=(sb'.2 _ (JC hzl)).trans gp
  have kk:∀c o,c∉[z,TI,TO,i1,i2]->s.heap.get? c=some o->h2'.get? c=some o:=λc o hc q=>by
   have n1:c≠z:=λe=>hc (by simp[e])
   have n3:c≠TO:=λe=>hc (by simp[e])
   have n4:c≠i1:=λe=>hc (by simp[e])
   have n5:c≠i2:=λe=>hc (by simp[e])
   exact(sb'.2 c n1).trans (gk c o n1 n3 n4 n5 q)
  have hn:H s.heap.objs.size=none:=I.hok.fresh (Qs _)
  have I2:Inv X pins σ (upd H s.heap.objs.size (.tup [x,y])) {s with heap:=h2'}:=
   I.turnedNew (t':=s.toks) (fp:=[z,TI,TO,i1,i2]) hf kk (Qs _) ⟨by show 2<=Up;decide,[u,u'],.cons ru (.cons ru' .nil),⟨_,gp2,rfl,_,rfl⟩⟩
  have gTI:IsPair h' TI (.ref i1) (.ref i2):=gk TI _ Dz.TIz Dz.TITO Dz.TIi1 Dz.TIi2 h2
  refine⟨.ref s.heap.objs.size,_,I2,rfl,⟨_,x,y,hn,rfl,λws hw=>by rw[I.list_inj hw hq];exact hx,λws hw=>by rw[I.list_inj hw hq'];exact hy,rfl⟩,
   ⟨gz,(sb'.2 _ Dz.TIz).trans gTI,⟨u,u',(sb'.2 _ Dz.TOz).trans g3⟩,g4.at λo q=>(sb'.2 _ Dz.i1z).trans q,g5.at λo q=>(sb'.2 _ Dz.i2z).trans q⟩,λc hc=>?_⟩
  have hlt:c<s.heap.objs.size:=by
   have hc':c=z∨c=TI∨c=TO∨c=i1∨c=i2:=by simpa using hc
   rcases hc' with rfl|rfl|rfl|rfl|rfl
   ·exact hzl
   ·exact Qh h2
   ·exact Qh h3
   ·obtain⟨o,ho,_⟩:=h4;exact Qh ho
   ·obtain⟨o,ho,_⟩:=h5;exact Qh ho
  rw[Ku (QQ hlt)];exact(hf c hc).1
 done:=by
  intro X hP hw hK hc i pins s σ H E I hf st hg;subst hP hw hK;obtain⟨h1,h2,⟨c0,d0,h3⟩,h4,h5⟩:=st;obtain⟨xs,ys,hq,hq',hx⟩:=hg;obtain⟨its,rv,p,hz⟩:=I.list hq;obtain⟨its',rv',p',hz'⟩:=I.list hq';have hl:=rv.length;have hl':=rv'.length;refine wpAny_pyNext_zip_end (I.ok.hd hc) Dz h1 h2 h3 h4 h5 p.isList p'.isList ?_ λh' eb=>⟨rfl,I.turnedL (t':=s.toks) hf λc o hb q=>eb c o (λe=>hb (by simp[e])) (λe=>hb (by simp[e])) (λe=>hb (by simp[e])) (λe=>hb (by simp[e])) q⟩
  rcases hx with hx|hx
  ·exact .inl (by simp;omega)
  ·exact .inr (by simp;omega)
 self:=λ_ _ _ _ _ st h=>wpAny_pyIter_zip st.1 h
section
variable{X:Cx}
def iZip(K:Frag)(ta:TA):TI:=λσ H R=>ta σ H λvs H1=>∃a b xs ys,vs=[.ref a,.ref b]/\SqL K H1 a xs/\SqL K H1 b ys/\R (Itz K a b) H1
theorem Ek{a b:Uo}{ta:TA}{p pos:Pos}{elts:List Uo}{x1}{tp:Pos}(hg:Gl X "zip")(hm:X.mg "zip" = none)(ha:PA X [a,b] ta)
  (hs:Ur [a,b] X.env=[(false,eval a X.env),(false,eval b X.env)]:=by rfl) (hs2:Ur [b] X.env=[(false,eval b X.env)]:=by rfl):PI X (.Tuple elts x1 tp) (.Call (.Name "zip" p) [a,b] [] pos) (iZip X.K ta):=by
 intro pins s σ H R I h;refine Call_ (VD I hg hm boot_zip (Jw (thn (ha pos pins s σ H _ I h) λus s1 ⟨vs,H1,I1,r1,q1⟩=>?_) (by rw[hs,hs2]) (by rw[hs2];rfl)));obtain⟨l1,l2,xs,ys,e,hq,hq',q⟩:=q1;subst e;cases r1 with
 |cons r rr=>
  cases rr with
  |cons r' rr=>
   cases rr;cases (show _=Value.ref l1 from r);cases (show _=Value.ref l2 from r');obtain⟨its,rv,pl,hz⟩:=I1.list hq;obtain⟨its',rv',pl',hz'⟩:=I1.list hq';have n1:l1<s1.heap.objs.size:=by obtain⟨_,e,_⟩:=id pl.isList;exact Qh e
   have n2:l2<s1.heap.objs.size:=by obtain⟨_,e,_⟩:=id pl'.isList;exact Qh e
   have ne:∀i j:Nat,i≠j->s1.heap.objs.size+i≠s1.heap.objs.size+j:=λi j h e=>h (Nat.add_left_cancel e);have m1:∀m:Nat,l1≠s1.heap.objs.size+m:=λm=>QQ (QF n1 (Nat.le_add_right _ _));have m2:∀m:Nat,l2≠s1.heap.objs.size+m:=λm=>QQ (QF n2 (Nat.le_add_right _ _));refine call_zip_2 pl.isList pl'.isList λh' g1 g2 g3 g4 g5 gs kk=>?_;have I2:Inv X pins σ H1 {s1 with heap:=h'}:=I1.kept (t':=s1.toks) kk;refine wpAny_pyIter_zip g1 ?_
   refine⟨s1.heap.objs.size+4,[s1.heap.objs.size+4,s1.heap.objs.size+2,s1.heap.objs.size+3,s1.heap.objs.size,s1.heap.objs.size+1],_,_,H1,rfl,I2,
    BD l1 l2 (s1.heap.objs.size+4) (s1.heap.objs.size+2) (s1.heap.objs.size+3) s1.heap.objs.size (s1.heap.objs.size+1) ⟨ne 2 4 (by decide),ne 3 4 (by decide),ne 0 4 (by decide),ne 1 4 (by decide),ne 2 3 (by decide),ne 2 0 (by decide),ne 2 1 (by decide),ne 3 0 (by decide),ne 3 1 (by decide),ne 0 1 (by decide),m1 4,m1 3,m1 0,m1 1,m2 4,m2 3,m2 0,m2 1⟩,⟨g1,g2,⟨_,_,g3⟩,g4,g5⟩,λc hc=>?_,q⟩
   have hc':s1.heap.objs.size<=c:=by
    have hc':c=s1.heap.objs.size+4∨c=s1.heap.objs.size+2∨c=s1.heap.objs.size+3∨c=s1.heap.objs.size∨c=s1.heap.objs.size+1:=by simpa using hc
    rcases hc' with rfl|rfl|rfl|rfl|rfl<;>first|exact Nat.le_add_right _ _|exact Qs _
   exact I1.fpOk hc' (I1.hok.fresh hc')
end
end L2
namespace DL
open PySem PySem.Spec L2
open PyProof.Rows hiding St
section
variable{X:Cx}{B G0:Hp}{e a b c tg:Uo}{pos:Pos}{es rest:List Uo}
def Yu(xs ys:List D):List D:=(xs.zip ys).map λp=>.tuple [p.1,p.2]
theorem qJ{K:Frag}{G1:Hp}{a b:Ul}{vs ws:List V}{ds es:List D}(h:SqL K G1 a vs)(h':SqL K G1 b ws)(r:Reps K G1 vs ds)(r':Reps K G1 ws es):XI K (Itz K a b) (Yu ds es) G1 where
 go:=λi G H s1 s2 hi=>by
  unfold Yu at hi;rw[Qb,JO]at hi;have hi1:i<vs.length:=by rw[r.length];omega
  have hi2:i<ws.length:=by rw[r'.length];omega
  exact⟨vs,vs[i],ws,ws[i],(s1.trans s2).seq h,Qe hi1,(s1.trans s2).seq h',Qe hi2⟩
 stop:=λi G H s1 s2 hi=>by unfold Yu at hi;rw[Qb,JO]at hi;refine⟨vs,ws,(s1.trans s2).seq h,(s1.trans s2).seq h',?_⟩;rw[r.length,r'.length];omega
 yld:=λi G H x H' d s1 s2 e y=>by
  obtain⟨p,u,v,hp,rfl,y1,y2,rfl⟩:=y;have z1:=y1 vs ((s1.trans s2).seq h);have z2:=y2 ws ((s1.trans s2).seq h');unfold Yu at e;rw[Qd]at e;cases q:(ds.zip es)[i]? with
  |none=>rw[q]at e;cases e
  |some pr=>rw[q]at e;cases e;rw[List.getElem?_zip_eq_some]at q;obtain⟨u',e1,r1⟩:=r.get q.1;obtain⟨v',e2,r2⟩:=r'.get q.2;rw[z1]at e1;rw[z2]at e2;cases e1;cases e2;exact⟨upd G p (.tup [u,v]),Ext.new s2 hp,.tup (SqT.of K9) (.cons ((r1.mono s1).mono (Zx (s2.free hp))) (.cons ((r2.mono s1).mono (Zx (s2.free hp))) .nil))⟩
def X3:List D->Option (List D)
 |[.list xs,.list ys]=>some (Yu xs ys)
 |_=>none
theorem BC{x l:List D}(h:X3 x=some l):∃xs ys,x=[.list xs,.list ys]/\l=Yu xs ys:=by
 unfold X3 at h;split at h
 ·cases h;exact⟨_,_,rfl,rfl⟩
 ·cases h
def WM(f:M (List D)):M (List D):=U6 f λx=>U8 (X3 x)
theorem Ej{f:M (List D)}{p2:Pos}{elts:List Uo}{x1}{tp:Pos}(hg:Gl X "zip")(hm:X.mg "zip" = none)(ha:PA X [a,b] (tDs X.K B G0 f))(hs:Ur [a,b] X.env=[(false,eval a X.env),(false,eval b X.env)]:=by rfl)(hs2:Ur [b] X.env=[(false,eval b X.env)]:=by rfl) :
  PI X (.Tuple elts x1 tp) (.Call (.Name "zip" p2) [a,b] [] pos) (iD X.K B G0 (WM f)):=Xu (Ek hg hm ha hs hs2) λσ H R q=>tM.toI (R0:=Reps X.K) q λv H' G' Z' x k r a=>by
 cases z:X3 x with
 |none=>rw[z]at a;exact a.elim
 |some l=>
  rw[z]at a;obtain⟨xs,ys,rfl,rfl⟩:=BC z;cases r with
  |cons r1 rr=>
   cases rr with
   |cons r2 rr=>cases rr;obtain⟨l1,vs,rfl,h1,q1⟩:=r1.lst_inv;obtain⟨l2,ws,rfl,h2,q2⟩:=r2.lst_inv;exact⟨l1,l2,vs,ws,rfl,k.gh.seq h1,k.gh.seq h2,a _ G' H' k (.refl _) (qJ h1 h2 q1 q2)⟩
end
section
variable{X:Cx}{B G0:Hp}{e o a b c tg:Uo}{pos p2 p3:Pos}{es rest:List Uo}{te to ti:TE}
def oIn:D->D->Option Bool
 |.str i,.str j=>some (inS i j)
 |x,.list xs=>if x.canLay0=true/\Uz xs=true/\x.depth<=60 then some (xs.any λy=>UB y x)else none
 |x,.tuple xs=>if x.canLay0=true/\Uz xs=true/\x.depth<=60 then some (xs.any λy=>UB y x)else none
 |_,_=>none
def Yi(x y:D):Option Bool:=(oIn x y).map λt=>!t
def Xv(x y:D):Option Bool:=match y with
 |.list xs=>if x.canLay0=true/\Uz xs=true/\x.depth<=60 then some (xs.any λy=>UB y x)else none
 |.tuple xs=>if x.canLay0=true/\Uz xs=true/\x.depth<=60 then some (xs.any λy=>UB y x)else none
 |_=>none
theorem FR(hu:X.A.units+64<cLine):OpB X (Us .In) Xv:=by
 refine⟨λv u H Q=>∃G x y d,Same G H/\Rep X.K G v x/\Rep X.K G u y/\Xv x y=some d/\Q (.bl d) H,?_,λv u G H x y d Q s rx ry e k=>⟨G,x,y,d,s,rx,ry,e,k⟩⟩;intro pins s σ H x y v u Q I rx ry ⟨G,dx,dy,d,sg,px,py,e,q⟩;unfold Xv at e;split at e
 ·split at e
  ·rename_i c;cases e;obtain⟨as,ra⟩:=Y3 I sg px rx c.1;obtain⟨bs,rb⟩:=Y3 I sg py ry (show Uz _=true from c.2.1);exact SeqAt.in_list_reads rb ra c.2.1 c.1 (by have:=c.2.2;omega) ⟨.bl _,H,I,rfl,q⟩
  ·cases e
 ·split at e
  ·rename_i c;cases e;obtain⟨as,ra⟩:=Y3 I sg px rx c.1;obtain⟨bs,rb⟩:=Y3 I sg py ry (show Uz _=true from c.2.1);exact SeqAt.in_tuple_reads rb ra c.2.1 c.1 (by have:=c.2.2;omega) ⟨.bl _,H,I,rfl,q⟩
  ·cases e
 ·cases e
theorem Ei(hu:X.A.units+64<cLine):OpB X (Us .NotIn) (λx y=>(Xv x y).map λt=>!t):=by
 refine⟨λv u H Q=>∃G x y d,Same G H/\Rep X.K G v x/\Rep X.K G u y/\(Xv x y).map (λt=>!t)=some d/\Q (.bl d) H,?_,λv u G H x y d Q s rx ry e k=>⟨G,x,y,d,s,rx,ry,e,k⟩⟩;intro pins s σ H x y v u Q I rx ry ⟨G,dx,dy,d,sg,px,py,e,q⟩;unfold Xv at e;split at e
 ·split at e
  ·rename_i c;cases e;obtain⟨as,ra⟩:=Y3 I sg px rx c.1;obtain⟨bs,rb⟩:=Y3 I sg py ry (show Uz _=true from c.2.1);exact SeqAt.notIn_list_reads rb ra c.2.1 c.1 (by have:=c.2.2;omega) ⟨.bl _,H,I,rfl,q⟩
  ·cases e
 ·split at e
  ·rename_i c;cases e;obtain⟨as,ra⟩:=Y3 I sg px rx c.1;obtain⟨bs,rb⟩:=Y3 I sg py ry (show Uz _=true from c.2.1);exact SeqAt.notIn_tuple_reads rb ra c.2.1 c.1 (by have:=c.2.2;omega) ⟨.bl _,H,I,rfl,q⟩
  ·cases e
 ·cases e
theorem B_in(hu:X.A.units+64<cLine):OpB X (Us .In) oIn:=(FT.or (FR hu)).congr λx y=>by cases x<;>cases y<;>rfl
theorem FQ(hu:X.A.units+64<cLine):OpB X (Us .NotIn) Yi:=(En.or (Ei hu)).congr λx y=>by cases x<;>cases y<;>rfl
theorem qI{tl th ts:TO}{lo hi:Option Uo}{st:Uo}(he:PE X e te)(hl:PO X lo tl)(hu:PO X hi th)(hst:PO X (some st) ts):PE X (.Subscript e (.Slice lo hi (some st) p2) pos)
  (λσ H Q=>te σ H λx H1=>tl σ H1 λl H2=>th σ H2 λu H3=>ts σ H3 λt H4=>∃a xs,x=.ref a/\SqL X.K H4 a xs/\l=none/\u=none/\t=some (-1)/\∀p,H4 p=none->Q (.ref p) (upd H4 p (.lst xs.reverse))):=by
 intro pins s σ H Q I h;refine Subscript_ (thn (he pins s σ H _ I h) λv s1 ⟨x,H1,I1,r1,q1⟩=>?_);refine wpAny_Slice (thn (hl pins s1 σ H1 _ I1 q1) λvl s2 ⟨l,H2,I2,pl,q2⟩=>thn (hu pins s2 σ H2 _ I2 q2) λvu s3 ⟨u,H3,I3,pu,q3⟩=>thn (hst pins s3 σ H3 _ I3 q3) λvt s4 ⟨t,H4,I4,pt,q4⟩=>?_);obtain⟨a,xs,rfl,hx,rfl,rfl,rfl,q⟩:=q4;cases r1;have I5:Inv X pins σ H4 {s4 with heap:=s4.heap.push {cls:=.type "slice", data:=.fields #[vl,vu,vt]}}:=I4.kept (t':=s4.toks) λb ob q=>Qj _ q
 obtain⟨its,r,ht,hz⟩:=I5.list hx;have hlen:=r.length;have hg:Uq (model X.prog X.w) X.A (getItem (.ref a) (.ref s4.heap.objs.size)) (EP X pins σ Q) X.xe {s4 with heap:=s4.heap.push {cls:=.type "slice", data:=.fields #[vl,vu,vt]}}:=by refine wpAny_getItem_list_slice ht.isList (Heap.IsSliceOf.new ..) pl pu pt (by simp) ?_ (by rw[List.size_toArray]<;>omega);rw[PySem.W.krv_pick];refine⟨.ref _,_,I5.laid (t':=s4.toks) (o:=.lst xs.reverse) (λb ob q=>Qj _ q) (Qs _) ?_,rfl,q _ (I5.hok.fresh (Qs _))⟩;exact⟨by rw[List.length_reverse];exact hz,its.reverse,0,r.reverse,QG _ rfl⟩
 show Uq (model X.prog X.w) X.A (subscriptTail e (.Slice lo hi (some st) p2) (.ref a) (.ref s4.heap.objs.size)) (EP X pins σ Q) X.xe {s4 with heap:=s4.heap.push {cls:=.type "slice", data:=.fields #[vl,vu,vt]}};exact tail_any (ops:=[.ref a,.ref s4.heap.objs.size]) ht.isList.typeIs slot_list_getitem.lookup hg (by with_unfolding_all rfl)
def WF:D->Option Int->Option Int->Option Int->Option D
 |.list xs,none,none,some i=>if i = -1 then some (.list xs.reverse)else none
 |_,_,_,_=>none
def WN(f:M D)(lo hi st:M (Option Int)):M D:=U6 f λx=>U6 lo λl=>U6 hi λh=>U6 st λt=>U8 (WF x l h t)
theorem CI{lo hi:Option Uo}{st:Uo}{f:M D}{l h t:M (Option Int)}(he:PE X e (tD X.K B G0 f))(hl:PO X lo (tOi X.K B G0 l))(hu:PO X hi (tOi X.K B G0 h))(hst:PO X (some st) (tOi X.K B G0 t)) :
  PE X (.Subscript e (.Slice lo hi (some st) p2) pos) (tD X.K B G0 (WN f l h t)):=
 Kn (qI he hl hu hst) λσ H Q q=>by
  refine tM.one (R:=Rep X.K) q λv H2 G Z x k r a=>?_;refine tM.nx (R:=λ_ b c=>b=c) k a λl' H3 G3 Z3 xl k3 s3 r3 a3=>?_;refine tM.nx (R:=λ_ b c=>b=c) k3 a3 λh' H4 G4 Z4 xh k4 s4 r4 a4=>?_;refine tM.nx (R:=λ_ b c=>b=c) k4 a4 λt' H5 G5 Z5 xt k5 s5 r5 a5=>?_;have r3:l'=xl:=r3;have r4:h'=xh:=r4;have r5:t'=xt:=r5;subst r3 r4 r5
  cases x with
  |list xs=>
   cases l' with
   |some _=>exact a5.elim
   |none=>
   cases h' with
   |some _=>exact a5.elim
   |none=>
   cases t' with
   |none=>exact a5.elim
   |some i=>
   obtain⟨ad,vs,rfl,h1,r1⟩:=(((r.mono s3).mono s4).mono s5).lst_inv;by_cases hi:i = -1
   ·subst hi;exact⟨ad,vs,rfl,k5.gh.seq h1,rfl,rfl,rfl,λp hp=>aft.done a5 k5 (Ext.new k5.gh hp) (.lst (SqL.of K9) (r1.reverse.mono (Zx (k5.gh.free hp))))⟩
   ·unfold U8 WF at a5;dsimp only at a5;rw[QB hi]at a5;exact a5.elim
  |_=>unfold U8 WF at a5;exact a5.elim
def XH:List D->Option (List D)
 |[.list xs]=>some xs
 |[.tuple xs]=>some xs
 |_=>none
theorem Hz{x l:List D}(h:XH x=some l):x=[.list l]∨x=[.tuple l]:=by
 unfold XH at h;split at h
 ·cases h;exact .inl rfl
 ·cases h;exact .inr rfl
 ·cases h
theorem GN:bootBuiltins "list" = some (.type "list"):=by decide +kernel
theorem BB{f:M (List D)}(hg:Gl X "list")(hm:X.mg "list" = none)(ha:PA X [a] (tDs X.K B G0 f))(he:Ur [a] X.env=(false,eval a X.env)::Ur [] X.env:=by rfl) :
  PE X (.Call (.Name "list" p2) [a] [] pos) (tL X.K B G0 (U6 f λxs=>U8 (XH xs))):=
 Kn (PR GV hg hm GN ha (by decide) (by decide) he rfl) λσ H Q ⟨G,Z,k,q⟩=>by
  refine⟨G,Z,k,?_⟩;unfold U6 at q;cases z:f Z with
  |bad=>rw[z]at q;exact q.elim
  |ok xs Z1=>
   rw[z]at q;dsimp only[U8]at q;intro vs G' H' k' s' r;cases z2:XH xs with
   |none=>rw[z2]at q;exact q.elim
   |some l=>
    rw[z2]at q;rcases Hz z2 with rfl|rfl
    ·obtain⟨v,rfl,q1⟩:=r.one_inv;obtain⟨p,ws,rfl,h1,r1⟩:=q1.lst_inv;exact⟨p,ws,rfl,.inl (k'.gh.seq h1),λad hp=>q ad ws G' _ (k'.ext (Ext.hid k'.gh hp)) s' (NewL.of k' hp r1)⟩
    ·obtain⟨v,rfl,q1⟩:=r.one_inv;obtain⟨p,ws,rfl,h1,r1⟩:=q1.tup_inv;exact⟨p,ws,rfl,.inr (YZ k'.gh h1),λad hp=>q ad ws G' _ (k'.ext (Ext.hid k'.gh hp)) s' (NewL.of k' hp r1)⟩
def V0(i:Nat):M (List D):=λZ=>match Z[i]? with
 |some (some (.pub d))=>U8 (XH [d]) Z
 |some (some (.own ds))=>.ok ds Z
 |_=>.bad
theorem qH{i:Nat}(hg:Gl X "list")(hm:X.mg "list" = none)(ho:PE X a (K2 i))(he:Ur [a] X.env=(false,eval a X.env)::Ur [] X.env:=by rfl) :
  PE X (.Call (.Name "list" p2) [a] [] pos) (tL X.K B G0 (V0 i)):=
 Kn (PR GV hg hm GN (V4 ho SK he) (by decide) (by decide) he rfl) λσ H Q ⟨G,Z,k,q⟩=>by
  unfold V0 at q;cases z:Z[i]? with
  |none=>rw[z]at q;exact q.elim
  |some oo=>
   cases oo with
   |none=>rw[z]at q;exact q.elim
   |some sl=>
    cases sl with
    |deep _ _=>rw[z]at q;exact q.elim
    |own ds=>rw[z]at q;dsimp only at q;obtain⟨ad,vs,h1,h2,h3,h4,h5⟩:=k.own i ds z;exact⟨.ref ad,h1,ad,vs,rfl,.inl (SqL.of h4),λl hp=>q l vs G _ (k.ext (Ext.hid k.gh hp)) (.refl _) (NewL.of k hp h5)⟩
    |pub d=>
     rw[z]at q;dsimp only[U8]at q;obtain⟨v,h1,h2⟩:=k.pub i d z;cases z2:XH [d]with
     |none=>rw[z2]at q;exact q.elim
     |some l=>
      rw[z2]at q;dsimp only at q;rcases Hz z2 with e|e
      ·cases e;obtain⟨p,ws,rfl,g1,r1⟩:=h2.lst_inv;exact⟨_,h1,p,ws,rfl,.inl (k.gh.seq g1),λad hp=>q ad ws G _ (k.ext (Ext.hid k.gh hp)) (.refl _) (NewL.of k hp r1)⟩
      ·cases e;obtain⟨p,ws,rfl,g1,r1⟩:=h2.tup_inv;exact⟨_,h1,p,ws,rfl,.inr (YZ k.gh g1),λad hp=>q ad ws G _ (k.ext (Ext.hid k.gh hp)) (.refl _) (NewL.of k hp r1)⟩
def Vt:List D->Option D
 |[.int i]=>some (.int i)
 |[.bool b]=>some (.int (if b then 1 else 0))
 |_=>none
theorem Eh:YV X (.type "int") Vt:=by
 refine⟨_,qE,λvs G H ds d Q s r e k=>?_⟩;unfold Vt at e;split at e
 ·cases e;obtain⟨v,rfl,q⟩:=r.one_inv;rw[q.int_inv];exact .inl ⟨_,rfl,k _ G H (.refl s) (.int _)⟩
 ·cases e;obtain⟨v,rfl,q⟩:=r.one_inv;rw[q.bl_inv];exact .inr ⟨_,rfl,k _ G H (.refl s) (.int _)⟩
 ·cases e
theorem FP{x:Str}{zs:List Str}(hg:Gl X x)(hm:∃ad o its n,X.mg x=some (.ref ad)/\X.K.lookup ad=some o/\o.cls=.type "tuple" /\ o.data=.seq its n/\its.size<=Up/\Vals (zs.map V.str) its.toList)(hd:(x==("__debug__" : Str))=false:=by decide) :
  PE X (.Name x pos) (tD X.K B G0 (UQ (.tuple (zs.map Ux)))):=by
 obtain⟨ad,o,its,n,hm,h1,h2,h3,h4,h5⟩:=hm;refine Kn (LA (v:=.ref ad) hg hm rfl hd) λσ H Q ⟨G,Z,k,a⟩=>aft.now a k (.tup (.inr ⟨o,its,n,h1,h2,h3,h4,h5⟩) ?_)
 have:∀zs:List Str,Reps X.K G (zs.map V.str) (zs.map Ux):=λzs=>by
  induction zs with
  |nil=>exact .nil
  |cons z r ih=>exact .cons (.str _) ih
 exact this zs
end
section
variable{X:Cx}{B G0:Hp}{e o a b c tg:Uo}{pos p2 p3 p4:Pos}{es rest:List Uo}{te to ti:TE}
theorem Ww:∀{ns:List Int}{us:List Ui},Vals (ns.map V.int) us->PyProof.Rows.IntsAre us ns
 |[],_,.nil=>.nil
 |n::ns,_,.cons h t=>by obtain⟨tk,rfl⟩:=h;exact .cons n tk (Ww t)
def VZ(ns:List Int):Nat:=(PyProof.Rows.firstMet (λi=>ns.getD i 0) ns.length).length
theorem jc(hc:X.calm=true):YL X (.type "set") (λxs H Q=>∃l,∃ns:List Int,xs=[.ref l]/\SqL X.K H l (ns.map V.int)/\ns.length+1<4096/\∀S p,H p=none->Q (.ref p) (upd H p (.set S (VZ ns)))):=by
 intro pins s σ H xs us Q I rx h;obtain⟨l,ns,rfl,hq,hb,q⟩:=h;obtain⟨u,rfl,ru⟩:=rx.one;cases ru;obtain⟨its,rv,p,hz⟩:=I.list hq;have hi:=Ww rv;have hn:its.toArray.size=ns.length:=by have:=rv.length;rw[List.length_map]at this;simp;omega
 refine call_set_list (I.ok.hd hc) p.isList (ns:=ns) (by simpa using hi) (by rw[hn];exact hb) λh' tk hS hk=>?_
 rw[hn]at hS;refine⟨.ref s.heap.objs.size,_,I.laid (t':=tk) (λb o e=>hk b o (Qh e) e) (Qs _) (show ZH X.prog X.w _ h' _ (.set _ (VZ ns))from hS),rfl,q _ _ (I.hok.fresh (Qs _))⟩
theorem jb:YL X (.builtin "len") (λxs H Q=>∃p S n,xs=[.ref p]/\H p=some (.set S n)/\Q (.int n) H):=by
 intro pins s σ H xs us Q I rx h;obtain⟨p,S,n,rfl,hp,q⟩:=h;obtain⟨u,rfl,ru⟩:=rx.one;cases ru;obtain⟨o,es,ep,t,h1,h2,h3,h4,h5,h6,h7,h8⟩:=(show s.heap.SetOf (intKind X.prog X.w) p S n from I.hok p _ hp)
 have hsb:scanBound=4096:=rfl;refine call_len_set h1 h2 h3 h7 (by omega) ?_;rw[h8];exact⟨.int n,H,I.tok _,⟨_,rfl⟩,q⟩
def Yn:List D->Option (List Int)
 |[]=>some []
 |.int i::r=>(Yn r).map (i :: ·)
 |_=>none
theorem Rg{K:Frag}{G:Hp}:∀{vs:List V}{ds:List D}{ns:List Int},Reps K G vs ds->Yn ds=some ns->vs=ns.map V.int
 |_,_,ns,.nil,e=>by cases e;rfl
 |_,_,ns,.cons (d:=d) r t,e=>by
  cases d with
  |int b=>
   unfold Yn at e;cases z:Yn _ with
   |none=>rw[z]at e;cases e
   |some cs=>rw[z]at e;cases e;rw[r.int_inv,Rg t z];rfl
  |_=>cases e
theorem Rf(ns:List Int):Yn (ns.map int)=some ns:=by
 induction ns with
 |nil=>rfl
 |cons b r ih=>rw[Qt,Yn,ih];rfl
def Ws:List D->Option D
 |[.list ds]=>(match Yn ds with
  |some ns=>if ns.length+1<4096 then some (.int (VZ ns))else none
  |none=>none)
 |_=>none
theorem kx{xs:List D}{d:D}(h:Ws xs=some d):∃ds ns,xs=[.list ds]/\Yn ds=some ns/\ns.length+1<4096/\d=.int (VZ ns):=by
 unfold Ws at h;split at h
 ·rename_i ds;cases z:Yn ds with
  |none=>rw[z]at h;cases h
  |some ns=>
   rw[z]at h;dsimp only at h;split at h
   ·rename_i c;cases h;exact⟨ds,ns,rfl,z,c,rfl⟩
   ·cases h
 ·cases h
theorem ja:bootBuiltins "set" = some (.type "set"):=by decide +kernel
theorem jj{f:M (List D)}(hc:X.calm=true)(hg:Gl X "len")(hm:X.mg "len" = none)(hg2:Gl X "set")(hm2:X.mg "set" = none)(ha:PA X [a] (tDs X.K B G0 f))(he:Ur [a] X.env=(false,eval a X.env)::Ur [] X.env:=by rfl)
  (he2:Ur [.Call (.Name "set" p2) [a] [] p3] X.env=(false,eval (.Call (.Name "set" p2) [a] [] p3) X.env)::Ur [] X.env:=by rfl) :
  PE X (.Call (.Name "len" p4) [.Call (.Name "set" p2) [a] [] p3] [] pos) (tD X.K B G0 (K8 Ws f)):=
 Kn (PD jb hg hm boot_len (V4 (PR (jc hc) hg2 hm2 ja ha (by decide) (by decide) he rfl) SK he2) (by decide) (by decide) he2 rfl) λσ H Q q=>tM.one (R:=Reps X.K) q λvs H2 G Z x k r a=>by obtain⟨d,e,a⟩:=a.opt;obtain⟨ds,ns,rfl,z,c,rfl⟩:=kx e;obtain⟨v,rfl,q1⟩:=r.one_inv;obtain⟨l,ws,rfl,h1,r1⟩:=q1.lst_inv;have:=Rg r1 z;subst this;refine⟨l,ns,rfl,k.gh.seq h1,c,λS p hp=>⟨p,S,VZ ns,rfl,K9,?_⟩⟩;exact aft.done a k (Ext.hid k.gh hp) (.int _)
end
end DL
namespace L2
open PySem PySem.Spec PyProof.Rows
end L2
namespace DL
open PySem PySem.Spec L2
open PyProof.Rows hiding St
end DL
namespace L2
open PySem PySem.Spec PyProof.Rows
section
variable{prog:Uk}{w:World}{A:Around}{E:Ui->Uj->Prop}{s:Uj}{M:Model}{env:Env}
theorem CH{pos:Pos}{T:String}{args:List (Bool×Sem Ui)}{kws:List (Option Str×Sem Ui)}{Q:Ui->Uj->Prop}(hp:args.any (·.1)=false)(hk:kws.any (·.1.isNone)=false)
  (h:Uq M A (evalArgs (.type T) true args kws) (λa s1=>Uq M A (call (.type T) a.pos a.kw) Q E s1) E s):Uq M A (callWith pos (.type T) [] args kws) Q E s:=by
 unfold callWith;refine Qf (wpAny_holding (QK h (λa s1 h1=>Qf (Jp ?_)) λ_ _ z=>z));simp only[hp,hk,Bool.false_or];refine Qf (Qk ?_);exact Qf (QK h1 (λr s2 hr=>Qf (wpAny_holding (wpAny_point (Qk hr)))) λ_ _ z=>z)
theorem BA(l:Ul)(t:Tok)(items:Array Ui)(n:Nat)(dct:Option Ul)(sl:Array (Option Ui)) :
  Meets (Builtin.«enumerate.__new__» ⟨[.type "enumerate", .ref l],[("start", .int 1 t)]⟩) (λ_ R s=>s.heap.get? l=some ⟨.type "list", dct,.seq items n,sl⟩ /\
   R (.ok (.ret (.ref (s.heap.push {cls:=.type "list_iterator", data:=.fields #[.ref l,.int 0 0]}).objs.size))) {s with heap:=(s.heap.push {cls:=.type "list_iterator", data:=.fields #[.ref l,.int 0 0]}).push {cls:=.type "enumerate", data:=.fields #[.none,.bool false,.ref s.heap.objs.size,rawInt 1,.none,.none]}}):=
 .of_wp λprog w A R s h=>by
  obtain⟨hp,g,d,tk,os⟩:=s;obtain⟨hl,h⟩:=h;have hsub:=sub_enumerate;have hL:Heap.IsList (Shared.heap ⟨hp,g,d,tk,os⟩) l items:=⟨_,hl,rfl,n,rfl⟩
  wp_walk using AutoSeq1.wpAny_loadPart' hl
  refine wpAny_stack_any λst=>(Qk ?_);split
  ·rename_i c _ _ _ _ _;cases (c==Value.type "enumerate")<;>(wp_walk using(AutoSeq1.wpAny_loadPart' hl),(JE hL))<;>exact⟨_,rfl,h⟩
  ·(wp_walk using(AutoSeq1.wpAny_loadPart' hl),(JE hL));exact⟨_,rfl,h⟩
theorem kS{T newId initId:String}{Bn Bi:Builtin}{args:List Ui}{kw:List (Str×Ui)}{S:PySem.Spec}{Q Q1:Ui->Uj->Prop}(ft:TypeCalled T newId initId)
  (hct:checkTypeCall T ⟨args,kw⟩=pure ()) (hcn:checkBuiltinCall newId ⟨.type T::args,kw⟩=pure ()) (eN:entryFor table newId=some Bn) (eI:entryFor table initId=some Bi)
  (g:Meets (Bn ⟨.type T::args,kw⟩) S) (h:S A.in1 (wants Q1 E) s)
  (hnext:∀obj s1,Q1 obj s1->s1.TypeIs obj T/\argsOk initId ⟨obj::args,kw⟩/\∃Si,Meets (Bi ⟨obj::args,kw⟩) Si/\Si A.in1 (wants (λr s2=>r=.none/\Q obj s2) E) s1) :
  Uq (model prog w) A (call (.type T) args kw) Q E s:=by
 obtain⟨c,tl,hmro⟩:=ft.mro;have hmade:=ft.made;have hsub:=ft.sub;refine wpAny_call (codeAny_of_tree ?_);show Uq _ _ (callAny (.type T) _) _ _ _;refine Qk ⟨Code.quiet_builtin _ (by decide +kernel),(codeAny_builtin F.entry_type_call ?_)⟩;rw[Around.under_plain (weight_type_call_type T args kw) (units_type_call_type T args kw)];have h1:=ft.notType;have h2:=ft.canCreate
 repeat' (any_goals (first|wp_step|assumption))
 refine codeAny_mono (codeAny_call_builtin ft.plain eN (wpAny_of_eq hcn (g prog w A.in1 _ s h))) λr s1 hr=>?_
 match r,hr with
 |.error e,hr=>exact hr
 |.ok (.ret obj),hr=>
  obtain⟨hT,hok,Si,gi,hsi⟩:=hnext _ _ hr;have hli:=ft.init.lookup;have hbi:=ft.init.bind obj
  repeat' (any_goals (first|wp_step|assumption))
  refine codeAny_mono (codeAny_call_builtin ft.init.plain eI (ft.init.check _ _ _ _ _ _ _ _ hT hok (gi prog w A.in1 _ s1 hsi))) λr2 s2 hr2=>?_
  match r2,hr2 with
  |.error e,hr2=>exact hr2
  |.ok (.ret r),hr2=>
   obtain⟨rfl,hq⟩:=hr2
   repeat' (any_goals (first|wp_step|assumption))
  |.ok .next,hr2=>exact hr2.elim
  |.ok .brk,hr2=>exact hr2.elim
  |.ok .cont,hr2=>exact hr2.elim
 |.ok .next,hr=>exact hr.elim
 |.ok .brk,hr=>exact hr.elim
 |.ok .cont,hr=>exact hr.elim
theorem ku{T newId:String}{self:Ui}{rest:List Ui}{kw:List (Str×Ui)}(hl:typeLookup (.type T) "__init__" = pure (some (.builtin "object.__init__")))
  (hm:Bind.madeBy (.type T)=pure (some newId)) (hne:(some newId != some "object.__new__")=true) :
  Meets (Builtin.«object.__init__» ⟨self::rest,kw⟩) (λ_ R s=>s.TypeIs self T/\R (.ok (.ret .none)) s):=by
 refine .of_wp λprog w A R s hs=>?_
 obtain⟨hT,hq⟩:=hs;cases rest with
 |nil=>
  cases kw with
  |nil=>exact Qk ⟨_,rfl,hq⟩
  |cons k kw=>(repeat' (any_goals (first|wp_step|assumption)));exact⟨_,rfl,hq⟩
 |cons a rest=>(repeat' (any_goals (first|wp_step|assumption)));exact⟨_,rfl,hq⟩
theorem kt(a:Ui)(t:Tok):checkTypeCall "enumerate" ⟨[a],[("start", .int 1 t)]⟩=pure ():=by kernel_rfl
theorem ji(a:Ui)(t:Tok):checkBuiltinCall "enumerate.__new__" ⟨[.type "enumerate", a],[("start", .int 1 t)]⟩=pure ():=by kernel_rfl
theorem kr(o a:Ui)(t:Tok):argsOk "object.__init__" ⟨[o,a],[("start", .int 1 t)]⟩:=by unfold argsOk;kernel_rfl
theorem jh{l:Ul}{items:Array Ui}{t:Tok}{Q:Ui->Uj->Prop}(hL:s.heap.IsList l items)
  (h:∀h',IsEnum h' (s.heap.objs.size+1) s.heap.objs.size 1 .none->h'.IsListIter s.heap.objs.size l 0->(∀b o,s.heap.get? b=some o->h'.get? b=some o)->Q (.ref (s.heap.objs.size+1)) {s with heap:=h'}) :
  Uq (model prog w) A (call (.type "enumerate") [.ref l] [("start", .int 1 t)]) Q E s:=by
 obtain⟨⟨c,dct,dt,sl⟩,hl,hc,n,hd⟩:=hL;replace hc:c=.type "list" :=hc;replace hd:dt=.seq items n:=hd;subst hc hd;have hz:(s.heap.push {cls:=.type "list_iterator", data:=.fields #[.ref l,.int 0 0]}).objs.size=s.heap.objs.size+1:=JD ..;have he:IsEnum ((s.heap.push {cls:=.type "list_iterator", data:=.fields #[.ref l,.int 0 0]}).push {cls:=.type "enumerate", data:=.fields #[.none,.bool false,.ref s.heap.objs.size,rawInt 1,.none,.none]}) (s.heap.objs.size+1) s.heap.objs.size 1 .none:=by rw[←hz];exact QG _ rfl
 refine kS F.called_enumerate (kt _ t) (ji _ t) F.entry_enumerate_new F.entry_object_init (BA l t items n dct sl) (Q1:=λobj s1=>s1.TypeIs obj "enumerate" /\ Q obj s1) ⟨hl,?_⟩ λobj s1 hq=>
  ⟨hq.1,kr obj _ t,_,ku F.called_enumerate.init.lookup F.called_enumerate.made (by decide),hq.1,rfl,hq.2⟩
 show _/\_;rw[hz];exact⟨⟨_,he,rfl⟩,h _ he ⟨_,Qj _ (QG _ rfl),rfl,rfl⟩ λb o x=>Qj _ (Qj _ x)⟩
end
section
variable{prog:Uk}{w:World}{A:Around}{E:Ui->Uj->Prop}{s:Uj}
theorem q9{en it l:Ul}{i:Nat}{j:Int}{items:Array Ui}{x old:Ui}{Q:Option Ui->Uj->Prop}(st:IsEnum s.heap en it j old)(li:s.heap.IsListIter it l i)(ls:s.heap.IsList l items)
  (at_:items[i]?=some x) (ne:en≠it)
  (k:∀h',IsEnumOut h' en it (j+1) x s.heap.objs.size->h'.IsListIter it l (i+1)->h'.get? s.heap.objs.size=some {cls:=.type "tuple", data:=.seq #[.int j s.toks,x]}->(∀b o,b≠en->b≠it->s.heap.get? b=some o->h'.get? b=some o) ->
   Q (some (.ref s.heap.objs.size)) {s with heap:=h',toks:=s.toks+1}):Uq (model prog w) A (pyNext (.ref en)) Q E s:=by
 have ty:s.TypeIs (.ref en) "enumerate" :=⟨_,st,rfl⟩
 have lt:en<s.heap.objs.size:=Qh st;unfold pyNext;refine Qf (wpAny_attempt (wpAny_callSpecial?_slot (name:=UD "__next__") ty F.slot_enumerate_next (wpAny_call_entry F.slot_enumerate_next ty F.entry_enumerate_next ?_ (F.args_enumerate_next_1 _))));show Uq _ _ (field (.ref en) 2 >>= _) _ _ s;refine Qf (wpAny_field st rfl (x:=.ref it) rfl ?_);refine Qf (wpAny_nextOf_list_item li ls at_ λm1 li1 c1=>?_);have c1:Heap.SameBut it s.heap m1:=c1;have st1:IsEnum m1 en it j old:=(c1.2 en ne).trans st;show Uq _ _ (field (.ref en) 3 >>= _) _ _ {s with heap:=m1};refine Qf (wpAny_field st1 rfl (x:=rawInt j) rfl ?_);show Uq _ _ (field (.ref en) 4 >>= _) _ _ {s with heap:=m1};refine Qf (wpAny_field st1 rfl (x:=.none) rfl ?_);show Uq _ _ (mkInt j >>= _) _ _ {s with heap:=m1};refine Qf (wpAny_mkInt ?_);show Uq _ _ (setField (.ref en) 3 (rawInt (j+1)) >>= _) _ _ {s with heap:=m1,toks:=s.toks+1};refine wpAny_bind (wpAny_setField_rec st1 (by simp) λm2 st2 c2=>?_);have c2:Heap.SameBut en m1 m2:=c2;have st2:IsEnum m2 en it (j+1) old:=st2;show Uq _ _ (setField (.ref en) 4 .none >>= _) _ _ {s with heap:=m2,toks:=s.toks+1};refine wpAny_bind (wpAny_setField_rec st2 (by simp) λm3 st3 c3=>?_);have c3:Heap.SameBut en m2 m3:=c3;have st3:IsEnum m3 en it (j+1) old:=st3;show Uq _ _ (newTuple [.int j s.toks,x] >>= _) _ _ {s with heap:=m3,toks:=s.toks+1};refine Qf (wpAny_newTuple ?_);have z3:m3.objs.size=s.heap.objs.size:=c3.1.trans (c2.1.trans c1.1);have st4:IsEnum (m3.push {cls:=.type "tuple", data:=.seq #[.int j s.toks,x]}) en it (j+1) old:=Qj _ (show IsEnum m3 en it (j+1) old from st3);have tp4:(m3.push {cls:=.type "tuple", data:=.seq #[.int j s.toks,x]}).get? s.heap.objs.size=some {cls:=.type "tuple", data:=.seq #[.int j s.toks,x]}:=by rw[←z3];exact QG _ rfl
 have kp4:∀b o,b≠en->b≠it->s.heap.get? b=some o->(m3.push {cls:=.type "tuple", data:=.seq #[.int j s.toks,x]}).get? b=some o:=λb o n1 n2 q=>Qj _ ((c3.2 b n1).trans ((c2.2 b n1).trans ((c1.2 b n2).trans q)))
 have li4:(m3.push {cls:=.type "tuple", data:=.seq #[.int j s.toks,x]}).IsListIter it l (i+1):=by obtain⟨o,q,r⟩:=li1;exact⟨o,Qj _ ((c3.2 it (Ne.symm ne)).trans ((c2.2 it (Ne.symm ne)).trans q)),r⟩
 generalize m3.push {cls:=.type "tuple", data:=.seq #[.int j s.toks,x]}=m4 at st4 tp4 kp4 li4;show Uq _ _ (Builtin.SmallTypes.ownedTupleIsFree (.ref en) >>= _) _ _ {s with heap:=m4,toks:=s.toks+1};rw[z3];refine Qf ?_;unfold Builtin.SmallTypes.ownedTupleIsFree Builtin.SmallTypes.ownedTupleHandOut;refine Qf (wpAny_field st4 rfl (x:=.none) rfl (Qk ?_));simp only[if_true];refine wpAny_bind (wpAny_rule (wpAny_bind (wpAny_field st4 rfl (x:=old) rfl (wpAny_bind (wpAny_setField_rec st4 (by simp) λm5 st5 c5=>?_)))));have c5:Heap.SameBut en m4 m5:=c5;have st5:IsEnum m5 en it (j+1) x:=st5;refine wpAny_bind (wpAny_bind (wpAny_setField_rec st5 (by simp) λm6 st6 c6=>?_));have c6:Heap.SameBut en m5 m6:=c6;have st6:IsEnumOut m6 en it (j+1) x s.heap.objs.size:=st6;refine wpAny_setField_rec st6 (by simp) λm7 st7 c7=>?_
 have c7:Heap.SameBut en m6 m7:=c7;have st7:IsEnumOut m7 en it (j+1) x s.heap.objs.size:=st7;have up:∀b,b≠en->m7.get? b=m4.get? b:=λb n=>(c7.2 b n).trans ((c6.2 b n).trans (c5.2 b n));refine Qf (wpAny_letGo (Qk ⟨_,rfl,Qk (k m7 st7 ?_ ((up _ (JC lt)).trans tp4) λb o n1 n2 q=>(up b n1).trans (kp4 b o n1 n2 q))⟩))
 obtain⟨o,q,r⟩:=li4;exact⟨o,(up it (Ne.symm ne)).trans q,r⟩
theorem q8{en it l:Ul}{i:Nat}{j:Int}{items:Array Ui}{old:Ui}{Q:Option Ui->Uj->Prop}(hh:A.handled=none)(st:IsEnum s.heap en it j old)(li:s.heap.IsListIter it l i)(ls:s.heap.IsList l items)
  (at_:items[i]?=none) (k:∀h',Heap.ExtBut it s.heap h'->Q none {s with heap:=h'}):Uq (model prog w) A (pyNext (.ref en)) Q E s:=by
 have ty:s.TypeIs (.ref en) "enumerate" :=⟨_,st,rfl⟩
 unfold pyNext;refine Qf (wpAny_attempt (wpAny_callSpecial?_slot (name:=UD "__next__") ty F.slot_enumerate_next (wpAny_call_entry F.slot_enumerate_next ty F.entry_enumerate_next ?_ (F.args_enumerate_next_1 _))));show Uq _ _ (field (.ref en) 2 >>= _) _ _ s;refine Qf (wpAny_field st rfl (x:=.ref it) rfl (Qf (m:=Builtin.SmallTypes.nextOf (.ref it)) (wpAny_nextOf_list_end hh li ls at_ λh' z c y=>?_)));obtain⟨o,q,t⟩:=y;exact Qf (wpAny_isInstance (T:= "StopIteration") (b:=true) ⟨o,q,t⟩ isSubtype_stop (Qk (k _ c)))
end
def Sn(K:Frag)(a:Ul):It:=
 ⟨λi H=>∃xs x,SqL K H a xs/\xs[i]?=some x,
  λi H v H'=>∃p x,H p=none/\v=.ref p/\(∀xs,SqL K H a xs->xs[i]?=some x)/\H'=upd H p (.tup [.int (1+(i:Int)),x]),
  λi H=>∃xs,SqL K H a xs/\xs.length<=i⟩
theorem jg{P:Uk}{w:World}{K:Frag}{elts:List Uo}{x1}{tp:Pos}(a e it:Ul)(hne:e≠it) :
  Turn P w K (.Tuple elts x1 tp) (Sn K a) [e,it] e (λi h=>(∃old,IsEnum h e it (1+(i:Int)) old)/\h.IsListIter it a i) where
 mem:=by simp
 obj:=λi h st b hb=>by
  obtain⟨⟨old,he⟩,o,ho,c,d⟩:=st;have hb':b=e∨b=it:=by simpa using hb
  rcases hb' with rfl|rfl
  ·exact⟨_,he,λv z=>by have z':Data.fields _=Data.cell v:=z;cases z'⟩
  ·exact⟨o,ho,λv z=>by rw[d]at z;cases z⟩
 keep:=λi h h' st k=>by obtain⟨⟨old,he⟩,hi⟩:=st;exact⟨⟨old,k e (by simp) _ he⟩,hi.at λo q=>k it (by simp) o q⟩
 item:=by
  intro X hP hw hK hc i pins s σ H E I hf st hg;subst hP hw hK;obtain⟨⟨old,he⟩,hi⟩:=st;obtain⟨xs,x,hq,hx⟩:=hg;obtain⟨its,rv,p,hz⟩:=I.list hq;obtain⟨u,hu,ru⟩:=rv.get hx;refine q9 he hi p.isList (x:=u) (by simpa using hu) hne λh1 out hi1 ht kk=>?_
  refine⟨_,rfl,wpAny_letOwnedTupleGo_enum out λh2 he2 hs2=>?_⟩;have hel:e<s.heap.objs.size:=Qh he;have hs2':Heap.SameBut e h1 h2:=hs2;have ht2:h2.get? s.heap.objs.size=some {cls:=.type "tuple", data:=.seq #[.int (1+(i:Int)) s.toks,u]}:=(hs2'.2 _ (JC hel)).trans ht
  have kk2:∀b o,b∉[e,it]->s.heap.get? b=some o->h2.get? b=some o:=λb o hb q=>by
   have hbe:b≠e:=λz=>hb (by simp[z])
   have hbi:b≠it:=λz=>hb (by simp[z])
   exact(hs2'.2 b hbe).trans (kk b o hbe hbi q)
  have hn:H s.heap.objs.size=none:=I.hok.fresh (Qs _)
  have I2:Inv X pins σ (upd H s.heap.objs.size (.tup [.int (1+(i:Int)),x])) {s with heap:=h2,toks:=s.toks+1}:=
   I.turnedNew (fp:=[e,it]) hf kk2 (Qs _) ⟨by show 2<=Up;decide,[.int (1+(i:Int)) s.toks,u],.cons ⟨_,rfl⟩ (.cons ru .nil),⟨_,ht2,rfl,_,rfl⟩⟩
  refine⟨.ref s.heap.objs.size,_,I2,rfl,⟨_,x,hn,rfl,λys hy=>by rw[I.list_inj hy hq];exact hx,rfl⟩,⟨⟨u,?_⟩,?_⟩,λb hb=>?_⟩
  ·have e2:(1+((i+1:Nat):Int))=1+(i:Int)+1:=by omega
   rw[e2];exact he2
  ·exact hi1.at λo q=>(hs2'.2 it (Ne.symm hne)).trans q
  ·have hlt:b<s.heap.objs.size:=by
    have hb':b=e∨b=it:=by simpa using hb
    rcases hb' with rfl|rfl
    ·exact hel
    ·obtain⟨o,ho,_⟩:=hi;exact Qh ho
   rw[Ku (QQ hlt)];exact(hf b hb).1
 done:=by intro X hP hw hK hc i pins s σ H E I hf st hg;subst hP hw hK;obtain⟨⟨old,he⟩,hi⟩:=st;obtain⟨xs,hq,hx⟩:=hg;obtain⟨its,rv,p,hz⟩:=I.list hq;have hl:=rv.length;exact q8 (I.ok.hd hc) he hi p.isList (by simp;omega) λh' eb=>⟨rfl,I.turnedL (t':=s.toks) hf λb o hb q=>eb b o (λz=>hb (by simp[z])) q⟩
 self:=λ_ _ _ _ _ st h=>by obtain⟨⟨old,he⟩,_⟩:=st;exact wpAny_pyIter_enum he h
section
variable{X:Cx}
theorem Bz{a:Uo}{ta:TA}{p pos k1 k2:Pos}{j}{elts:List Uo}{x1}{tp:Pos}(hg:Gl X "enumerate")(hm:X.mg "enumerate" = none)(ha:PA X [a] ta)
  (hs:backTo pos (Ur [a] X.env)=(false,eval a X.env)::backTo pos (Ur [] X.env):=by rfl) (hpl:(backTo pos (Ur [a] X.env)).any (·.1)=false:=by rfl) :
  PI X (.Tuple elts x1 tp) (.Call (.Name "enumerate" p) [a] [⟨some "start", .Constant (.int 1) j k1,k2⟩] pos) (λσ H R=>ta σ H λvs H1=>∃a xs,vs=[.ref a]/\SqL X.K H1 a xs/\R (Sn X.K a) H1):=by
 intro pins s σ H R I h;refine wpAny_Call_Name_kw (VD I hg hm boot_enumerate (CH hpl rfl ?_));rw[hs];refine evalArgs_kwB rfl ?_;rw[←hs];refine thn (ha pos pins s σ H _ I h) λus s1 ⟨vs,H1,I1,r1,q1⟩=>?_;refine kws_cons (wpAny_Constant_int (kws_nil ?_))
 obtain⟨l,xs,e,hq,q⟩:=q1;subst e;cases r1 with
 |cons r rr=>
  cases rr;cases (show _=Value.ref l from r);have I1':=I1.tok (s1.toks+1);obtain⟨its,rv,pl,hz⟩:=I1'.list hq;refine jh pl.isList λh' he hi kk=>?_;have I2:Inv X pins σ H1 {s1 with heap:=h',toks:=s1.toks+1}:=I1'.kept (t':=s1.toks+1) kk;refine wpAny_pyIter_enum he ?_
  refine⟨s1.heap.objs.size+1,[s1.heap.objs.size+1,s1.heap.objs.size],_,_,H1,rfl,I2,jg l _ _ (Nat.succ_ne_self _),⟨⟨_,he⟩,hi⟩,λb hb=>?_,q⟩;have hb':b=s1.heap.objs.size+1∨b=s1.heap.objs.size:=by simpa using hb
  rcases hb' with rfl|rfl
  ·exact I1.fpOk (JQ _) (I1.hok.fresh (JQ _))
  ·exact I1.fpOk (Qs _) (I1.hok.fresh (Qs _))
end
end L2
namespace DL
open PySem PySem.Spec L2
open PyProof.Rows hiding St
section
variable{X:Cx}{B G0:Hp}{e a b c tg:Uo}{pos:Pos}{es rest:List Uo}
theorem kq{K:Frag}{G1:Hp}{ad:Ul}{vs:List V}{ds:List D}(h:SqL K G1 ad vs)(r:Reps K G1 vs ds):XI K (Sn K ad) (Yl 1 ds) G1 where
 go:=λi G H s1 s2 hi=>by
  rw[Ys]at hi;have hi':i<vs.length:=by rw[r.length];exact hi
  exact⟨vs,vs[i],(s1.trans s2).seq h,Qe hi'⟩
 stop:=λi G H s1 s2 hi=>by rw[Ys]at hi;exact⟨vs,(s1.trans s2).seq h,by rw[r.length];exact hi⟩
 yld:=λi G H x H' d s1 s2 e y=>by
  obtain⟨p,v,hp,rfl,y1,rfl⟩:=y;have z1:=y1 vs ((s1.trans s2).seq h);rw[Nh]at e;cases q:ds[i]? with
  |none=>rw[q]at e;cases e
  |some dd=>
   rw[q]at e;cases e;obtain⟨v',e1,r1⟩:=r.get q;rw[z1]at e1;cases e1;refine⟨upd G p (.tup [.int (1+(i:Int)),v]),Ext.new s2 hp,.tup (SqT.of K9) (.cons ?_ (.cons ((r1.mono s1).mono (Zx (s2.free hp))) .nil))⟩;have:((1+i:Nat):Int)=1+(i:Int):=by omega
   rw[this];exact .int _
def SH:List D->Option (List D)
 |[.list ds]=>some (Yl 1 ds)
 |_=>none
def Ph(f:M (List D)):M (List D):=U6 f λx=>U8 (SH x)
theorem jf{x l:List D}(h:SH x=some l):∃ds,x=[.list ds]/\l=Yl 1 ds:=by
 unfold SH at h;split at h
 ·cases h;exact⟨_,rfl,rfl⟩
 ·cases h
theorem By{f:M (List D)}{p2 k1 k2:Pos}{j}{elts:List Uo}{x1}{tp:Pos}(hg:Gl X "enumerate")(hm:X.mg "enumerate" = none)(ha:PA X [a] (tDs X.K B G0 f))
  (hs:backTo pos (Ur [a] X.env)=(false,eval a X.env)::backTo pos (Ur [] X.env):=by rfl) (hpl:(backTo pos (Ur [a] X.env)).any (·.1)=false:=by rfl) :
  PI X (.Tuple elts x1 tp) (.Call (.Name "enumerate" p2) [a] [⟨some "start", .Constant (.int 1) j k1,k2⟩] pos) (iD X.K B G0 (Ph f)):=Xu (Bz hg hm ha hs hpl) λσ H R q=>tM.toI (R0:=Reps X.K) q λv H' G' Z' x k r a=>by
 cases z:SH x with
 |none=>rw[z]at a;exact a.elim
 |some l=>rw[z]at a;obtain⟨ds,rfl,rfl⟩:=jf z;obtain⟨v,rfl,q⟩:=r.one_inv;obtain⟨l,ws,rfl,h1,r1⟩:=q.lst_inv;exact⟨l,ws,rfl,k.gh.seq h1,a _ G' H' k (.refl _) (kq h1 r1)⟩
end
section
variable{X:Cx}
def most:List Int->Int
 |[]=>0
 |[n]=>n
 |n::r=>if most r > n then most r else n
theorem Py:∀{ns:List Int},0<ns.length->most ns∈ns
 |[n],_=>List.mem_singleton.2 rfl
 |n::m::r,_=>by
  have ih:=Py (ns:=m::r) (Ug _);unfold most;split
  ·exact Ql _ ih
  ·exact Qn ..
theorem ON:∀{ns:List Int}{a:Int},a∈ns->a<=most ns
 |[n],a,h=>by rw[List.mem_singleton.1 h];exact Q3 _
 |n::m::r,a,h=>by
  have ih:∀b,b∈m::r->b<=most (m::r):=λb hb=>ON hb;unfold most;rcases QS.1 h with e|h
  ·subst e;split<;>omega
  ·have:=ih a h;split<;>omega
theorem CG{ns:List Int}{M:Int}(h1:M∈ns)(h2:∀a,a∈ns->a<=M):most ns=M:=
 J9 (h2 _ (Py (List.length_pos_of_mem h1))) (ON h1)
theorem qZ(hc:X.calm=true):YL X (.builtin "max") (λxs H Q=>∃l,∃ns:List Int,xs=[.ref l]/\SqL X.K H l (ns.map V.int)/\0<ns.length/\Q (.int (most ns)) H):=by
 intro pins s σ H xs us Q I rx h;obtain⟨l,ns,rfl,hq,hb,q⟩:=h;obtain⟨u,rfl,ru⟩:=rx.one;cases ru;obtain⟨its,rv,p,hz⟩:=I.list hq;have hi:=Ww rv;obtain⟨ys,e⟩:=hi.allInts.items;have hns:ns=ys.toList.map (·.1):=by rw[←hi.numsOf,←nums_intItems,←e]
 have hsz:0<ys.size:=by rw[hns,Qb,Jy]at hb;exact hb
 have hl:=p.isList;rw[e]at hl;refine max_intList (I.ok.hd hc) hl hsz λv h' tk hv hk=>?_
 obtain⟨t,rfl⟩:=intItems_at hv;obtain⟨h1,h2⟩:=argBest_gt (numAt ys) (ys.size-1);refine⟨.int (most ns),H,I.kept hk,⟨t,?_⟩,q⟩;rw[CG (M:=_) ?_ ?_]
 ·rw[hns,numAt_eq];exact getD_mem (by rw[Qb,Jy];omega)
 ·intro a ha;rw[hns]at ha;obtain⟨j,hj,rfl⟩:=mem_getD ha;rw[Qb,Jy]at hj;rw[←numAt_eq];exact h2 j (by omega)
def VX:List D->Option D
 |[.list ds]=>(match Yn ds with
  |some ns=>if 0<ns.length then some (.int (most ns))else none
  |none=>none)
 |_=>none
theorem qY{xs:List D}{d:D}(h:VX xs=some d):∃ds ns,xs=[.list ds]/\Yn ds=some ns/\0<ns.length/\d=.int (most ns):=by
 unfold VX at h;split at h
 ·rename_i ds;cases z:Yn ds with
  |none=>rw[z]at h;cases h
  |some ns=>
   rw[z]at h;dsimp only at h;split at h
   ·rename_i c;cases h;exact⟨ds,ns,rfl,z,c,rfl⟩
   ·cases h
 ·cases h
theorem Eg(hc:X.calm=true):YV X (.builtin "max") VX:=by refine⟨_,qZ hc,λvs G H ds d Q s r e k=>?_⟩;obtain⟨ds,ns,rfl,z,c,rfl⟩:=qY e;obtain⟨v,rfl,q1⟩:=r.one_inv;obtain⟨l,ws,rfl,h1,r1⟩:=q1.lst_inv;have:=Rg r1 z;subst this;exact⟨l,ns,rfl,s.seq h1,c,k _ G H (.refl s) (.int _)⟩
theorem Hb{ns:List Int}(h:0<ns.length):VX [.list (ns.map .int)]=some (.int (most ns)):=by unfold VX;simp only[Rf,Qm h]
end
section
variable{X:Cx}{B G0:Hp}{e o:Uo}{es:List Uo}
theorem ko{h:Heap}{vs:List Ui}{xs:List D}{as:List Ul}{d:D}(rs:ReadsAll h vs xs as)(hxs:Uz xs=true) :
  vs.countP (λy=>UB (SeqAt.readOf h y) d)=xs.countP (λy=>UB y d):=by
 have key:xs=vs.map (SeqAt.readOf h):=(SeqAt.readsAll_map xs vs as hxs rs).symm;rw[key,List.countP_map];rfl
def VL(y x:D):Option D:=match y with
 |.list ds=>if x.canLay0=true/\Uz ds=true/\x.depth<=60 then some (.int (ds.countP λy=>UB y x))else none
 |_=>none
theorem Bx(hu:X.A.units+64<cLine):MtR X "list.count" (λv vs H Q=>∃G u y x d,vs=[u]/\Same G H/\Rep X.K G v y/\Rep X.K G u x/\VL y x=some (.int d)/\Q (.int d) H):=by
 intro pins s σ H x xs v us Q I rx rs h;obtain⟨G,u,dy,dx,d,rfl,sg,py,px,e,q⟩:=h;obtain⟨w,rfl,rw'⟩:=rs.one;unfold VL at e;split at e
 ·rename_i ds;split at e
  ·rename_i c;obtain⟨bs,rb⟩:=Y3 I sg py rx (show Uz _=true from c.2.1);obtain⟨as,ra⟩:=Y3 I sg px rw' c.1;cases rb with
   |list h1 h2 h3 h4=>rename_i l ob its cs n;obtain⟨cls,dd,data,sl⟩:=ob;simp only at h2 h3;subst h2 h3;refine call_meets F.slot_list_count ⟨_,h1,rfl⟩ F.entry_list_count (F.args_list_count_2 _ _) (SeqAt.list_countAt _ _ _ dd sl _ (λy=>UB (SeqAt.readOf s.heap y) dx)) ⟨h1,SeqAt.items_eqAt h4 ra c.2.1 c.1 (by have:=c.2.2;omega),?_⟩;rw[ko h4 c.2.1];cases e;exact⟨.int _,H,I.tok _,⟨_,rfl⟩,q⟩
  ·cases e
 ·cases e
def Pu(y:D)(xs:List D):Option D:=match xs with
 |[x]=>VL y x
 |_=>none
theorem kn{ds xs:List D}{d:D}(h:Pu (.list ds) xs=some d):∃x n,xs=[x]/\d=.int n/\VL (.list ds) x=some (.int n):=by
 unfold Pu at h;split at h
 ·rename_i x;have h':=h;unfold VL at h;dsimp only at h;split at h
  ·cases h;exact⟨x,_,rfl,rfl,h'⟩
  ·cases h
 ·cases h
def SG(f:M D)(g:M (List D)):M D:=U6 f λy=>U6 g λxs=>U8 (match y with | .list ds=>Pu (.list ds) xs|_=>none)
theorem qX{apos cpos:Pos}{f:M D}{g:M (List D)}(hu:X.A.units+64<cLine)(ho:PE X o (tD X.K B G0 f))(ha:PA X (e::es) (tDs X.K B G0 g))
  (hbase:attributeBase o "count" X.env (eval o X.env)=eval o X.env:=by rfl)
  (hfew:((backTo cpos (Ur (e::es) X.env)).all (λx=>!x.1)&&(backToKw cpos (keywordEach [] X.env)).all (λx=>x.1.isSome)
   && decide ((e::es).length+([]:List Keyword).length+(if([]:List Keyword).isEmpty then 0 else 1)<30))=true:=by rfl)
  (hline:(apos.endLine==cpos.line)=true:=by rfl) (hs:Ur (e::es) X.env=(false,eval e X.env)::Ur es X.env:=by rfl) (hplain:(backTo cpos (Ur es X.env)).any (·.1)=false:=by rfl) :
  PE X (.Call (.Attribute o "count" apos) (e::es) [] cpos) (tD X.K B G0 (SG f g)):=
 Kn (Oa F.plainAttrs_list F.slot_list_count F.type_list_count (Bx hu) ho ha hbase hfew hline hs hplain) λσ H Q q=>by
  refine tM.one (R:=Rep X.K) q λv H2 G Z y k r a=>?_
  cases y with
  |list ds=>
   obtain⟨l,ws,rfl,h1,r1⟩:=r.lst_inv;refine⟨.inl ⟨rfl,ws,k.gh.seq h1⟩,?_⟩;refine tM.nx (R:=Reps X.K) k a λxs H3 G3 Z3 es k3 s3 r3 a3=>?_
   obtain⟨d,e,a3⟩:=a3.opt;obtain⟨x,n,rfl,rfl,e'⟩:=kn e;obtain⟨u,rfl,ru⟩:=r3.one_inv;exact⟨G3,u,.list ds,x,n,rfl,k3.gh,r.mono s3,ru,e',aft.now a3 k3 (.int _)⟩
  |_=>
   unfold U6 at a;cases z:g Z with
   |bad=>rw[z]at a;exact a.elim
   |ok xs Z1=>rw[z]at a;exact a.elim
theorem Ha{f:M D}{g:M (List D)}{Z Z1 Z2:UJ}{ds:List D}{x d:D}(h1:f Z=.ok (.list ds) Z1)(h2:g Z1=.ok [x] Z2)(h3:VL (.list ds) x=some d):SG f g Z=.ok d Z2:=by unfold SG U6;rw[h1];dsimp only;rw[h2];dsimp only[Pu];rw[h3];rfl
end
section
variable{prog:Uk}{w:World}{A:Around}{R:Result->Uj->Prop}{h0:Heap}{l I S:Ul}{rs:List (Ul×List Ui)}
def Xz(h h':Heap):Prop:=∀b o,h.get? b=some o->h'.get? b=some o
def Ls1(h:Heap)(a:Ul)(its:List Ui)(sl:Array (Option Ui)):Prop:=∃n,h.get? a=some {cls:=.type "list", dict:=none,data:=.seq its.toArray n,slots:=sl}
def Ls(h:Heap)(a:Ul)(its:List Ui):Prop:=∃n sl,h.get? a=some {cls:=.type "list", dict:=none,data:=.seq its.toArray n,slots:=sl}
theorem Ls.kept{h h':Heap}{a:Ul}{its:List Ui}(x:Ls h a its)(k:Xz h h'):Ls h' a its:=by obtain⟨n,sl,e⟩:=x;exact⟨n,sl,k _ _ e⟩
theorem je(hh:A.in1.handled=none)(hI:h0.objs.size<=I)(hS:h0.objs.size<=S)(hIS:S≠I)(hl:h0.IsList l (rs.map λp=>Value.ref p.1).toArray)(hr:∀p∈rs,Ls h0 p.1 p.2) :
  ∀(k i:Nat)(s:Uj)(t:Ul)(acc:List Ui)(c:Nat)(sl:Array (Option Ui)),rs.length-i=k->i<=rs.length->Xz h0 s.heap->s.heap.IsListIter I l i ->
   s.heap.get? S=some {cls:=.type "list", dict:=none,data:=.seq #[.ref t] c,slots:=#[]}->t≠S->t≠I->Ls1 s.heap t acc sl->acc.length+((rs.drop i).map (·.2)).flatten.length<=Up ->
   (∀p h' tk sl',Xz h0 h'->Ls1 h' p (acc++((rs.drop i).map (·.2)).flatten) sl'->(p=t/\i=rs.length/\sl'=sl∨h0.objs.size<=p/\sl'=#[])->R (.ok (.ret (.ref p))) {s with heap:=h',toks:=tk}) ->
   codeAny (model prog w) A (.builtin "sum.loop" ⟨[.ref I,.ref S,rawInt 2,rawInt 0],[]⟩) R s:=by
 intro k;induction k with
 |zero=>
  intro i s t acc c sl hk hi hK hit hSS htS htI ht hz hR;have hin:i=rs.length:=by omega
  subst hin;refine codeAny_builtin F.entry_sum_loop ?_;rw[Around.under_plainId F.plain_sum_loop _];show Uq _ A.in1 (seqItems? (.ref S) >>= _) _ _ s;refine Qf (wpAny_seqItems hSS rfl ?_);show Uq _ A.in1 (tryCatch (pyNext (.ref I)) _ >>= _) _ _ s;have hl':s.heap.IsList l (rs.map λp=>Value.ref p.1).toArray:=by obtain⟨o,e,r⟩:=hl;exact⟨o,hK _ _ e,r⟩
  refine wpAny_bind (wpAny_tryCatch (wpAny_pyNext_list_end hh hit hl' (by simp) λh' ex=>?_));refine Qk (hR t h' s.toks sl (λb o e=>?_) ?_ (.inl ⟨rfl,rfl,rfl⟩))
  ·exact ex b o (QQ (QF (Qh e) hI)) (hK b o e)
  ·obtain⟨n,e⟩:=ht;rw[List.drop_length,List.map_nil,List.flatten_nil,Jb];exact⟨n,ex _ _ htI e⟩
 |succ k ih=>
  intro i s t acc c sl hk hi hK hit hSS htS htI ht hz hR;have hlt:i<rs.length:=by omega
  refine codeAny_builtin F.entry_sum_loop ?_;rw[Around.under_plainId F.plain_sum_loop _];show Uq _ A.in1 (seqItems? (.ref S) >>= _) _ _ s;refine Qf (wpAny_seqItems hSS rfl ?_);show Uq _ A.in1 (tryCatch (pyNext (.ref I)) _ >>= _) _ _ s;have hl':s.heap.IsList l (rs.map λp=>Value.ref p.1).toArray:=by obtain⟨o,e,r⟩:=hl;exact⟨o,hK _ _ e,r⟩
  refine wpAny_bind (wpAny_tryCatch (wpAny_pyNext_list_item (x:=.ref (rs[i]'hlt).1) hit hl' (by simp[hlt]) λh' hit' sb=>?_));show Uq _ A.in1 ((holding [Value.ref (rs[i]'hlt).1] (binaryOp .Add (.ref t) (.ref (rs[i]'hlt).1))).attempt >>= _) _ _ _;refine Qf (wpAny_attempt (wpAny_holding ?_));have hm:rs[i]'hlt∈rs:=JB hlt;have hd:rs.drop i=rs[i]'hlt::rs.drop (i+1):=Jo hlt;have hK':Xz h0 h':=λb o e=>(sb.2 b (QQ (QF (Qh e) hI))).trans (hK b o e)
  obtain⟨n1,e1⟩:=ht;have e1':=(sb.2 t htI).trans e1;obtain⟨n2,s2,e2⟩:=(hr _ hm).kept hK';have hSS':=(sb.2 S hIS).trans hSS;rw[hd,Qt,QN,Qi]at hz;refine concat_meets ⟨_,e1',rfl⟩ ⟨_,e2,rfl⟩ noFill_list_add seq_list_add PySem.F.slot_list_add PySem.F.entry_list_add (PySem.F.args_list_add_2 _ _) (list_addW t _ acc.toArray _ n1 n2 none none sl s2 (by rw[QU,QU];omega)) ⟨e1',e2,?_⟩;have hlS:S<h'.objs.size:=Qh hSS';have hlI:I<h'.objs.size:=by obtain⟨o,e,_⟩:=hit';exact Qh e
  have ea:acc.toArray++(rs[i]'hlt).2.toArray=(acc++(rs[i]'hlt).2).toArray:=by simp
  rw[ea];have hP:∀b o,h'.get? b=some o->(h'.push {cls:=Value.type "list", data:=Data.seq (acc++(rs[i]'hlt).2).toArray}).get? b=some o:=λb o e=>Qj _ e
  have hS1:=hP _ _ hSS';have hNew:(h'.push {cls:=Value.type "list", data:=Data.seq (acc++(rs[i]'hlt).2).toArray}).get? h'.objs.size=some {cls:=Value.type "list", data:=Data.seq (acc++(rs[i]'hlt).2).toArray}:=QG _ rfl;show Uq _ A.in1 (updateSeq S (λ_=>#[.ref h'.objs.size]) >>= _) _ _ _;refine Qf (wpAny_updateSeq hS1 rfl ?_);have hS2:=Heap.get?_update_self (Obj.mapSeq λ_=>#[Value.ref h'.objs.size]) hS1 rfl;refine Qf (wpAny_letGo ?_);refine Qf (wpAny_updateSeq hS2 rfl (Qk ⟨plainId_quiet F.plain_sum_loop _,?_⟩));have oth:∀b o,b≠S->(h'.push {cls:=Value.type "list", data:=Data.seq (acc++(rs[i]'hlt).2).toArray}).get? b=some o->(((h'.push {cls:=Value.type "list", data:=Data.seq (acc++(rs[i]'hlt).2).toArray}).update S (Obj.mapSeq λx=>#[Value.ref h'.objs.size])).update S (Obj.mapSeq λx=>#[Value.ref h'.objs.size])).get? b=some o:=λb o hb e=>(Heap.get?_update_other _ _ (Ne.symm hb)).trans ((Heap.get?_update_other _ _ (Ne.symm hb)).trans e)
  refine ih (i+1) _ h'.objs.size (acc++(rs[i]'hlt).2) _ #[] (by omega) hlt ?_ ?_ (Heap.get?_update_self _ hS2 rfl) (JC hlS) (JC hlI) ?_ (by rw[Qi];omega) λp h'' tk sl' hk'' hp hq=>?_
  ·exact λb o e=>oth b o (QQ (QF (Qh e) hS)) (hP b o (hK' b o e))
  ·obtain⟨o,e,r⟩:=hit';exact⟨o,oth I o (Ne.symm hIS) (hP I o e),r⟩
  ·exact⟨_,oth _ _ (JC hlS) hNew⟩
  ·refine hR p h'' tk sl' hk'' ?_ (.inr ?_)
   ·rw[hd,Qt,QN,←QY];exact hp
   ·rcases hq with ⟨rfl, -,e⟩|hq
    ·exact⟨Uf (Nat.lt_of_le_of_lt hS hlS),e⟩
    ·exact hq
end
section
variable{prog:Uk}{w:World}{A:Around}{E:Ui->Uj->Prop}{s:Uj}{l z:Ul}{rs:List (Ul×List Ui)}
theorem qW(a b:Ui):argsOk "sum" ⟨[a,b],[]⟩:=by unfold argsOk;kernel_rfl
theorem jd{Q:Ui->Uj->Prop}(hh:A.handled=none)(hl:s.heap.IsList l (rs.map λp=>Value.ref p.1).toArray)(hr:∀p∈rs,Ls s.heap p.1 p.2)(hz:Ls s.heap z [])(hb:(rs.map (·.2)).flatten.length<=Up)
  (h:∀p h' tk sl',Xz s.heap h'->Ls1 h' p (rs.map (·.2)).flatten sl'->(p=z/\rs=[]∨s.heap.objs.size<=p/\sl'=#[])->Q (.ref p) {s with heap:=h',toks:=tk}) :
  Uq (model prog w) A (call (.builtin "sum") [.ref l,.ref z]) Q E s:=by
 refine call_function_tree F.kind_sum F.plain_sum F.entry_sum (qW _ _) ?_;unfold Builtin.«sum»;simp only[QC,QE];rw[QB (by decide)];refine Qf (wpAny_of_eq (show Builtin.Builtins.bindParams "sum" ["start"] 0 ⟨[.ref z],[]⟩=pure [some (.ref z)]from rfl) ?_);refine Qf (JE hl ?_);refine Qf (Qk ?_);obtain⟨n,sl,ez⟩:=id hz;have ty:∀h:Heap,h.get? z=some {cls:=.type "list", dict:=none,data:=.seq [].toArray n,slots:=sl}->({s with heap:=h}:Uj).TypeIs (.ref z) "list" :=λh e=>⟨_,e,rfl⟩
 have ez':(s.heap.push {cls:=.type "list_iterator", data:=.fields #[.ref l,.int 0 0]}).get? z=_:=Qj _ ez;simp only[List.forIn_cons,List.forIn_nil];refine Qf (Qf (Qf (wpAny_isInstance (T:= "list") (b:=false) (ty _ ez') F.sub_list_str ?_)));simp only[J6,if_false];refine Qk (Qf (Qf (wpAny_isInstance (T:= "list") (b:=false) (ty _ ez') F.sub_list_bytes ?_)));simp only[J6,if_false];refine Qk (Qf (Qf (wpAny_isInstance (T:= "list") (b:=false) (ty _ ez') F.sub_list_bytearray ?_)));simp only[J6,if_false];refine Qk (Qk ?_);refine Qf (wpAny_newObj_type ?_);have hzs:=Qh ez;have s1:(s.heap.push {cls:=.type "list_iterator", data:=.fields #[.ref l,.int 0 0]}).objs.size=s.heap.objs.size+1:=JD ..;have k2:Xz s.heap ((s.heap.push {cls:=.type "list_iterator", data:=.fields #[.ref l,.int 0 0]}).push {cls:=.type "list", data:=.seq #[.ref z]}):=λb o e=>Qj _ (Qj _ e)
 refine Qk ⟨plainId_quiet F.plain_sum_loop _,je (h0:=s.heap) (l:=l) (I:=s.heap.objs.size) (S:=(s.heap.push {cls:=.type "list_iterator", data:=.fields #[.ref l,.int 0 0]}).objs.size) (rs:=rs) hh (Qs _) (by rw[s1];exact JQ _) (by rw[s1];exact Nat.succ_ne_self _) hl hr rs.length 0 _ z [] 0 sl rfl (JR _)
  k2 ⟨_,Heap.get?_push_of_some _ (Heap.get?_push_size _ rfl),rfl,rfl⟩ (Heap.get?_push_size _ rfl) (by rw[s1];exact Nat.ne_of_lt (Nat.lt_succ_of_lt hzs)) (Nat.ne_of_lt hzs) ⟨n,k2 _ _ ez⟩ (by simpa using hb) λp h' tk sl' hk hp hq=>?_⟩
 exact h p h' tk sl' hk (by simpa using hp) (hq.imp (λe=>⟨e.1,List.eq_nil_of_length_eq_zero e.2.1.symm⟩) id)
end
section
variable{X:Cx}{pins:List (Ul×Obj)}{σ:St}{H:Hp}{s:Uj}
theorem Lu(I:Inv X pins σ H s):∀{rs:List (Ul×List V)},(∀p∈rs,SqL X.K H p.1 p.2) ->
  ∃ts:List (Ul×List Ui),(ts.map λp=>Value.ref p.1)=(rs.map λp=>Value.ref p.1)/\(∀p∈ts,Ls s.heap p.1 p.2)/\Vals (rs.map (·.2)).flatten (ts.map (·.2)).flatten
 |[],_=>⟨[],rfl,(λ_ h=>by cases h),(show Vals [] []from Paired.nil)⟩
 |p::rs,h=>by
  obtain⟨ts,e,hl,hv⟩:=Lu I λq hq=>h q (Ql _ hq)
  obtain⟨its,rv,⟨⟨c1,d1,t1,sl⟩,n,e1,ec,ed,et⟩,z⟩:=I.list (h p (Qn ..));simp only at ec ed et;subst ec ed et;refine⟨(p.1,its)::ts,by rw[Qt,Qt,e],λq hq=>?_,?_⟩
  ·rcases QS.1 hq with rfl|hq
   ·exact⟨n,sl,e1⟩
   ·exact hl q hq
  ·rw[Qt,Qt,QN,QN];exact rv.append hv
theorem Hy:∀{as:List Ul}{us:List Ui},Vals (as.map V.ref) us->us=as.map Value.ref
 |[],_,.nil=>rfl
 |a::as,_,.cons h t=>by cases h;rw[Hy t];rfl
theorem ql(hc:X.calm=true):YL X (.builtin "sum") (λxs H Q=>∃l z,∃rs:List (Ul×List V),xs=[.ref l,.ref z]/\SqL X.K H l (rs.map λp=>V.ref p.1)/\(∀p∈rs,SqL X.K H p.1 p.2)/\SqL X.K H z []/\(rs.map (·.2)).flatten.length<=Up /\
  (rs=[]->Q (.ref z) H)/\∀p,H p=none->Q (.ref p) (upd H p (.lst (rs.map (·.2)).flatten))):=by
 intro pins s σ H xs us Q I rx h;obtain⟨l,z,rs,rfl,hq,hr,hz,hb,q0,q⟩:=h;obtain⟨u,u',rfl,ru,ru'⟩:=Ob rx;cases ru;cases ru';obtain⟨its,rv,pl, -⟩:=I.list hq;obtain⟨ts,e,hl,hv⟩:=Lu I hr;have ei:its=ts.map λp=>Value.ref p.1:=by rw[e];have:=Hy (as:=rs.map (·.1)) (us:=its) (by rw[Jl];exact rv);rw[this,Jl];rfl
 subst ei;obtain⟨zi,rz,⟨⟨c1,d1,t1,sl⟩,n,e1,ec,ed,et⟩, -⟩:=I.list hz;cases rz;simp only at ec ed et;subst ec ed et;have hlen:=hv.length;refine jd (I.ok.hd hc) pl.isList hl ⟨n,sl,e1⟩ (by omega) λp h' tk sl' hk hp hq=>?_
 rcases hq with ⟨rfl,rfl⟩|⟨hp',rfl⟩
 ·have hr0:rs=[]:=by
   cases rs with
   |nil=>rfl
   |cons a b=>cases e
  exact⟨.ref _,H,I.kept hk,rfl,q0 hr0⟩
 ·obtain⟨m,ep⟩:=hp;exact⟨.ref p,_,I.laid (t':=tk) hk hp' (show ZH X.prog X.w _ h' _ (.lst _)from⟨hb,_,m,hv,ep⟩),rfl,q p (I.hok.fresh hp')⟩
def Wp:List D->Option (List (List D))
 |[]=>some []
 |.list xs::r=>(Wp r).map (xs :: ·)
 |_=>none
theorem GD{K:Frag}{G:Hp}:∀{vs:List V}{ds:List D}{ls:List (List D)},Reps K G vs ds->Wp ds=some ls ->
  ∃rs:List (Ul×List V),vs=(rs.map λp=>V.ref p.1)/\(∀p∈rs,SqL K G p.1 p.2)/\Reps K G (rs.map (·.2)).flatten ls.flatten/\rs.length=ls.length
 |_,_,ls,.nil,e=>by cases e;exact⟨[],rfl,(λ_ h=>by cases h),.nil,rfl⟩
 |_,_,ls,.cons (d:=d) r t,e=>by
  cases d with
  |list xs=>
   unfold Wp at e;cases z:Wp _ with
   |none=>rw[z]at e;cases e
   |some cs=>
    rw[z]at e;cases e;obtain⟨rs,rfl,h1,h2,h3⟩:=GD t z;obtain⟨a,ws,rfl,h,rr⟩:=r.lst_inv;refine⟨(a,ws)::rs,rfl,λp hp=>?_,?_,JX (· + 1) h3⟩
    ·rcases QS.1 hp with rfl|hp
     ·exact h
     ·exact h1 p hp
    ·rw[Qt,QN,QN];exact rr.append h2
  |_=>cases e
theorem jP(ls:List (List D)):Wp (ls.map Uv)=some ls:=by
 induction ls with
 |nil=>rfl
 |cons b r ih=>rw[Qt,Wp,ih];rfl
def Sz:List D->Option D
 |[.list ds,.list []]=>(match Wp ds with
  |some ls=>if ls.flatten.length<=1000000 then some (.list ls.flatten)else none
  |none=>none)
 |_=>none
theorem qk{xs:List D}{d:D}(h:Sz xs=some d):∃ds ls,xs=[.list ds,.list []]/\Wp ds=some ls/\ls.flatten.length<=1000000/\d=.list ls.flatten:=by
 unfold Sz at h;split at h
 ·rename_i ds;cases z:Wp ds with
  |none=>rw[z]at h;cases h
  |some ls=>
   rw[z]at h;dsimp only at h;split at h
   ·rename_i c;cases h;exact⟨ds,ls,rfl,z,c,rfl⟩
   ·cases h
 ·cases h
theorem Ef(hc:X.calm=true):YV X (.builtin "sum") Sz:=by
 refine⟨_,ql hc,λvs G H ds d Q s r e k=>?_⟩;obtain⟨ds,ls,rfl,z,c,rfl⟩:=qk e;obtain⟨v,v',rfl,q1,q2⟩:=r.two_inv;obtain⟨l,ws,rfl,h1,r1⟩:=q1.lst_inv;obtain⟨a,ws2,rfl,h2,r2⟩:=q2.lst_inv;have:=r2.nil_inv;subst this;obtain⟨rs,rfl,g1,g2,g3⟩:=GD r1 z;refine⟨l,a,rs,rfl,s.seq h1,λp hp=>s.seq (g1 p hp),s.seq h2,?_,λe0=>?_,λp hp=>?_⟩
 ·rw[g2.length];exact QR c lim
 ·subst e0;have:ls=[]:=List.eq_nil_of_length_eq_zero g3.symm;subst this;exact k _ G H (.refl s) (.lst h2 .nil)
 ·exact k _ _ _ (.new s hp) (.lst (SqL.of K9) (g2.mono (Zx (s.free hp))))
end
section
variable{X:Cx}
def Z7(ns:List Int):List Int:=ns.mergeSort λa b=>decide (a<=b)
theorem XT(ns:List Int):(Z7 ns).Perm ns:=List.mergeSort_perm ..
theorem Hx(ns:List Int):(Z7 ns).Pairwise (· <= ·):=by have:=List.pairwise_mergeSort (le:=λa b:Int=>decide (a<=b)) (by intro a b c;simp;omega) (by intro a b;simp;omega) ns;exact this.imp (by simp)
theorem MI:∀{a b:List Int},a.Perm b->a.Pairwise (· <= ·)->b.Pairwise (· <= ·)->a=b
 |[],b,p,_,_=>by rw[List.nil_perm.1 p]
 |x::a,[],p,_,_=>by have:=p.length_eq;simp at this
 |x::a,y::b,p,ha,hb=>by
  have hx:y<=x:=by
   rcases QS.1 (p.mem_iff.1 (Qn ..))with e|e
   ·exact Int.le_of_eq e.symm
   ·exact(Ju.1 hb).1 x e
  have hy:x<=y:=by
   rcases QS.1 (p.mem_iff.2 (Qn ..))with e|e
   ·exact Int.le_of_eq e.symm
   ·exact(Ju.1 ha).1 y e
  have e:=J9 hy hx;subst e;rw[MI (List.Perm.cons_inv p) (Ju.1 ha).2 (Ju.1 hb).2]
theorem Hw:∀{us:List Ui}{ns:List Int},PyProof.Rows.IntsAre us ns->Vals (ns.map V.int) us
 |_,_,.nil=>Paired.nil
 |_,_,.cons n t h=>Paired.cons ⟨t,rfl⟩ (Hw h)
theorem jO:YL X (.builtin "sorted") (λxs H Q=>∃l,∃ns:List Int,xs=[.ref l]/\SqL X.K H l (ns.map V.int)/\ns.length<64/\∀p,H p=none->Q (.ref p) (upd H p (.lst ((Z7 ns).map V.int)))):=by
 intro pins s σ H xs us Q I rx h;obtain⟨l,ns,rfl,hq,hb,q⟩:=h;obtain⟨u,rfl,ru⟩:=rx.one;cases ru;obtain⟨its,rv,p,hz⟩:=I.list hq;have hi:=Ww rv;have hn:its.length=ns.length:=by have:=rv.length;rw[Qb]at this;omega
 refine sorted_ints p.isList hi (by omega) λout ns' a1 a2 a3=>?_
 obtain⟨e,he⟩:=sortedAll_at s.heap its out;have en:ns'=Z7 ns:=MI (a2.trans (XT ns).symm) a3 (Hx ns);subst en;refine⟨.ref (s.heap.objs.size+1),_,I.laid (t':=s.toks) (λb o=>sortedAll_old) (JQ _) (show ZH X.prog X.w _ _ _ (.lst ((Z7 ns).map V.int))from⟨?_,out.toList,e,Hw a1,he⟩),rfl,q _ (I.hok.fresh (JQ _))⟩;rw[Qb,(XT ns).length_eq];rw[Qb]at hz;exact hz
def VY:List D->Option D
 |[.list ds]=>(match Yn ds with
  |some ns=>if ns.length<64 then some (.list ((Z7 ns).map .int))else none
  |none=>none)
 |_=>none
theorem jN{xs:List D}{d:D}(h:VY xs=some d):∃ds ns,xs=[.list ds]/\Yn ds=some ns/\ns.length<64/\d=.list ((Z7 ns).map .int):=by
 unfold VY at h;split at h
 ·rename_i ds;cases z:Yn ds with
  |none=>rw[z]at h;cases h
  |some ns=>
   rw[z]at h;dsimp only at h;split at h
   ·rename_i c;cases h;exact⟨ds,ns,rfl,z,c,rfl⟩
   ·cases h
 ·cases h
theorem Hv{K:Frag}{G:Hp}:∀ns:List Int,Reps K G (ns.map V.int) (ns.map int)
 |[]=>.nil
 |n::r=>.cons (.int n) (Hv r)
theorem CF:YV X (.builtin "sorted") VY:=by refine⟨_,jO,λvs G H ds d Q s r e k=>?_⟩;obtain⟨ds,ns,rfl,z,c,rfl⟩:=jN e;obtain⟨v,rfl,q1⟩:=r.one_inv;obtain⟨l,ws,rfl,h1,r1⟩:=q1.lst_inv;have:=Rg r1 z;subst this;exact⟨l,ns,rfl,s.seq h1,c,λp hp=>k _ _ _ (.new s hp) (.lst (SqL.of K9) (Hv _))⟩
theorem qi{ns:List Int}(h:ns.length<64):VY [.list (ns.map .int)]=some (.list ((Z7 ns).map .int)):=by unfold VY;simp only[Rf,Qm h]
end
@[simp] theorem mBind_ok{α β:Type}{f:M α}{k:α->M β}{Z Z':UJ}{x:α}(h:f Z=.ok x Z'):U6 f k Z=k x Z':=by unfold U6;rw[h]
theorem Ga{s:D->UJ->Option UJ}{g:SM}{P:Nat->UJ->Prop}{R:Out->Prop}:∀(ds:List D)(n:Nat)(Z:UJ),P n Z ->
  (∀i d Z,ds[i]?=some d->P (n+i) Z->∃Z1,s d Z=some Z1/\((∃Z2,(g Z1=.nx Z2∨g Z1=.ct Z2)/\P (n+i+1) Z2)∨(∃x,g Z1=.rt x/\R (.rt x))∨(∃Z2,g Z1=.bk Z2/\R (.nx Z2))∨(∃Z2 x,g Z1=.ex Z2 x/\R (.ex Z2 x)) ∨ ∃x,g Z1=.ro x/\R (.ro x)))->(∀Z,P (n+ds.length) Z->R (.nx Z))->R (Vv s g ds Z)
 |[],n,Z,h,_,f=>f Z h
 |d::r,n,Z,h,st,f=>by
  obtain⟨Z1,e1,e2⟩:=st 0 d Z rfl h;rw[Vv,e1];dsimp only;rcases e2 with ⟨Z2,e2,h2⟩|⟨x,e2,h2⟩|⟨Z2,e2,h2⟩|⟨Z2,x,e2,h2⟩|⟨x,e2,h2⟩
  ·have goal:=Ga (R:=R) r (n+1) Z2 h2 (λi d' Z3 q p=>by
    have e:n+1+i=n+(i+1):=by omega
    rw[e]at p⊢;exact st (i+1) d' Z3 (by simpa using q) p) (λZ3 p=>f Z3 (by
    have e:n+1+r.length=n+(d::r).length:=by rw[QC];omega
    rw[e]at p;exact p))
   rcases e2 with e2|e2<;>(rw[e2];exact goal)
  ·rw[e2];exact h2
  ·rw[e2];exact h2
  ·rw[e2];exact h2
  ·rw[e2];exact h2
theorem XS{lo hi:Int}{i:Nat}{d:D}(h:(ZY lo hi)[i]?=some d):d=.int (lo+i)/\(i:Int)<hi-lo:=by have hl:i<(ZY lo hi).length:=(Qg.mp h).1;rw[Yx]at hl;unfold ZY at h;rw[Qd,Qe (by rw[Qq];exact hl),List.getElem_range]at h;cases h;exact⟨rfl,by omega⟩
theorem Ee{α:Type}{xs:List α}{i:Int}{v:α}(h0:0<=i)(h:xs[i.toNat]?=some v):atI xs i=some v:=by have:=Zc (xs:=xs) (j:=i.toNat) h;rw[Int.toNat_of_nonneg h0]at this;exact this
section
variable{α β:Type}{Z Z1 Z2 Z3 Z':UJ}{f g h:M D}
theorem UV{a:α}:UQ a Z=.ok a Z:=rfl
theorem UT:UK Z=.ok [] Z:=rfl
theorem Yj{o:Option α}{a:α}(h:o=some a):U8 o Z=.ok a Z:=by subst h;rfl
theorem KP{f:M α}{k:α->M β}{x:α}{r:Res β}(h:f Z=.ok x Z1)(h2:k x Z1=r):U6 f k Z=r:=by unfold U6;rw[h];exact h2
theorem KJ{f:M α}{k:α->β}{x:α}(h:f Z=.ok x Z1):UZ k f Z=.ok (k x) Z1:=by unfold UZ U6;rw[h];rfl
theorem UL{i:Nat}{d:D}(h:Z[i]?=some (some (.pub d))):UI i Z=.ok d Z:=by unfold UI;rw[h]
theorem Yt{i:Nat}{ds:List D}(h:Z[i]?=some (some (.own ds)))(h2:Z.set i (some (.pub (.list ds)))=Z'):UI i Z=.ok (.list ds) Z':=by unfold UI;rw[h];subst h2;rfl
theorem U1{op:D->D->Option β}{x y:D}{r:β}(h1:f Z=.ok x Z1)(h2:g Z1=.ok y Z2)(h3:op x y=some r):UN op f g Z=.ok r Z2:=by unfold UN;exact KP h1 (KP h2 (Yj h3))
theorem UO{g:M (List D)}{x:D}{xs:List D}(h1:f Z=.ok x Z1)(h2:g Z1=.ok xs Z2):UM f g Z=.ok (x::xs) Z2:=by unfold UM;exact KP h1 (KP h2 rfl)
theorem YH{g:M (List D)}{xs:List D}(h1:g Z=.ok xs Z1)(h2:xs.length<=1000000):Kt g Z=.ok (.tuple xs) Z1:=by unfold Kt;exact KP h1 (by rw[Qm h2];rfl)
theorem Zo{g:M (List D)}{xs:List D}(h1:g Z=.ok xs Z1)(h2:xs.length<=1000000):Kj g Z=.ok (.list xs) Z1:=by unfold Kj;exact KP h1 (by rw[Qm h2];rfl)
theorem Wr{g:M (List D)}{xs:List D}(h1:g Z=.ok xs Z1)(h2:xs.length<=1000000):(U6 g λxs=>if xs.length<=1000000 then UQ xs else λ_=>.bad) Z=.ok xs Z1:=
 KP h1 (by rw[Qm h2];rfl)
theorem Kp{i:Nat}{d y r:D}(h:Z[i]?=some (some (.pub d)))(h1:g Z=.ok y Z1)(h2:oIx d y=some r):US i g Z=.ok r Z1:=by unfold US;rw[h];exact KP h1 (Yj h2)
theorem Wo{i:Nat}{ds es:List D}{y r:D}(h:Z[i]?=some (some (.own ds)))(h1:g Z=.ok y Z1)(h3:Z1[i]?=some (some (.own es)))(h2:oIx (.list es) y=some r):US i g Z=.ok r Z1:=by unfold US;rw[h];exact KP h1 (by rw[h3];exact Yj h2)
theorem Zw{p:List D->Option D}{g:M (List D)}{xs:List D}{r:D}(h1:g Z=.ok xs Z1)(h2:p xs=some r):K8 p g Z=.ok r Z1:=by unfold K8;exact KP h1 (Yj h2)
theorem Kk{n:Nat}{F:List D->Option D}{g:M (List D)}{xs:List D}{r:D}(h1:g Z=.ok xs Z1)(h2:xs.length=n)(h3:F xs=some r):UX n F g Z=.ok r Z1:=by unfold UX;exact KP h1 (by rw[Qm h2];exact Yj h3)
theorem SF{i:Int}(h1:f Z=.ok (.int i) Z1):ZU f Z=.ok (.int (-i)) Z1:=by unfold ZU;exact KP h1 rfl
theorem Zz{i:Nat}{d r:D}(h:Z[i]?=some (some (.pub d)))(h2:Ka [d]=some r):Zb i Z=.ok r Z:=by unfold Zb;rw[h];exact Yj h2
theorem CD{i:Nat}{ds:List D}(h:Z[i]?=some (some (.own ds))):Zb i Z=.ok (.int ds.length) Z:=by unfold Zb;rw[h]
theorem Xj{g:M (List D)}{i:Int}{r:List D}(h1:g Z=.ok [.int i] Z1)(h2:Sr [.int i]=some r):YK g Z=.ok r Z1:=by unfold YK;exact KP h1 (Yj h2)
theorem CC{g:M (List D)}{i j:Int}{r:List D}(h1:g Z=.ok [.int i,.int j] Z1)(h2:Sq [.int i,.int j]=some r):RW g Z=.ok r Z1:=by unfold RW;exact KP h1 (Yj h2)
theorem Xp{g:M (List D)}{xs r:List D}(h1:g Z=.ok xs Z1)(h2:Rr xs=some r):YJ g Z=.ok r Z1:=by unfold YJ;exact KP h1 (Yj h2)
theorem Xi{i:Int}(h1:f Z=.ok (.int i) Z1):(U6 f λx=>U8 (YG x)) Z=.ok (some i) Z1:=KP h1 rfl
theorem Xm{f:M Bool}{t:Bool}(h1:f Z=.ok t Z1):KN f Z=.ok (!t) Z1:=KJ h1
theorem X2{t:Bool}(h1:f Z=.ok (.bool t) Z1):Z9 f Z=.ok t Z1:=by unfold Z9;exact KP h1 rfl
theorem N5{f g:M Bool}{t u:Bool}(h1:f Z=.ok t Z)(h2:t=true->g Z=.ok u Z):KW f g Z=.ok (t&&u) Z:=by
 unfold KW;refine KP h1 ?_;cases t with
 |true=>rw[Qm rfl];exact h2 rfl
 |false=>rfl
theorem Pt{t u:Bool}(h1:f Z=.ok (.bool t) Z)(h2:t=true->g Z=.ok (.bool u) Z):VR f g Z=.ok (.bool (t&&u)) Z:=by
 unfold VR;refine KP h1 ?_;cases t with
 |true=>exact h2 rfl
 |false=>rfl
theorem Ol{t u:Bool}(h1:f Z=.ok (.bool t) Z)(h2:t=false->g Z=.ok (.bool u) Z):YR f g Z=.ok (.bool (t || u)) Z:=by
 unfold YR;refine KP h1 ?_;cases t with
 |false=>exact h2 rfl
 |true=>rfl
theorem CB{t:Bool}(h1:f Z=.ok (.bool t) Z1):RX f Z=.ok (.bool (!t)) Z1:=by unfold RX;exact KP h1 rfl
theorem N4{f:M Bool}{g h:M α}{r:Res α}(h1:f Z=.ok true Z1)(h2:g Z1=r):mIf f g h Z=r:=by unfold mIf;exact KP h1 (by rw[Qm rfl];exact h2)
theorem Oj{f:M Bool}{g h:M α}{r:Res α}(h1:f Z=.ok false Z1)(h2:h Z1=r):mIf f g h Z=r:=by unfold mIf;exact KP h1 (by rw[QB (by decide)];exact h2)
theorem FO{f:M Bool}{g h:M α}{t:Bool}{x y:α}(h1:f Z=.ok t Z1)(h2:g Z1=.ok x Z1)(h3:h Z1=.ok y Z1):mIf f g h Z=.ok (if t=true then x else y) Z1:=by
 unfold mIf;refine KP h1 ?_;cases t with
 |true=>rw[Qm rfl,Qm rfl];exact h2
 |false=>rw[QB (by decide),QB (by decide)];exact h3
theorem Na{p q:D->D->Option Bool}{x y z:D}{t u:Bool}(h1:f Z=.ok x Z)(h2:g Z=.ok y Z)(h3:p x y=some t)(h4:t=true->h Z=.ok z Z)(h5:t=true->q y z=some u):V1 p q f g h Z=.ok (t&&u) Z:=by
 unfold V1;refine KP h1 (KP h2 (KP (Yj h3) ?_));cases t with
 |true=>rw[Qm rfl];exact KP (h4 rfl) (Yj (h5 rfl))
 |false=>rfl
theorem KM{i j:Int}:UW (.int i) (.int j)=some (.int (i+j)):=rfl
theorem Xg{x y:List D}(h:x.length+y.length<=1000000):UW (.list x) (.list y)=some (.list (x++y)):=by unfold UW;exact Qm h
theorem Yw{i j:Int}:KD (.int i) (.int j)=some (.int (i-j)):=rfl
theorem WA{i j:Int}(h1 : -18446744073709551616<i)(h2:i<18446744073709551616):Ke (.int i) (.int j)=some (.int (i*j)):=by unfold Ke Yq;exact Qm (.inl ⟨by omega,by omega⟩)
theorem X1{i j:Int}(h1 : -18446744073709551616<j)(h2:j<18446744073709551616):Ke (.int i) (.int j)=some (.int (i*j)):=by unfold Ke Yq;exact Qm (.inr ⟨by omega,by omega⟩)
theorem Nx{x:List D}{k:Int}(h : -1000000<=k/\k<=1000000/\x.length*k.toNat<=1000000):Ke (.list x) (.int k)=some (.list (Uu k.toNat x).flatten):=by unfold Ke;exact Qm h
theorem VJ{i j:Int}(h:0<j):ZS (.int i) (.int j)=some (.int (i % j)):=by unfold ZS WJ;exact Qm h
theorem MH{i j:Int}(h:0<j)(h2:j<18446744073709551616):X5 (.int i) (.int j)=some (.int (i / j)):=by unfold X5 WK;exact Qm ⟨h,h2⟩
theorem CA{i j:Int}(h:0<=j/\j<=1000000/\i.natAbs<2 ^ 64):X4 (.int i) (.int j)=some (.int (i ^ j.toNat)):=by unfold X4 WI;exact Qm h
theorem SE{p:Int->Int->Bool}{i j:Int}:oIB p (.int i) (.int j)=some (p i j):=rfl
theorem Y1{i j:Int}:oEq (.int i) (.int j)=some (decide (i=j)):=by unfold oEq;rw[if_pos ⟨rfl,rfl,by simp[UA]⟩];congr 1
theorem Zd{xs:List D}:Ka [.list xs]=some (.int xs.length):=rfl
theorem MG{i j:Int}:Rl [.int i,.int j]=some (.int (if j > i then j else i)):=rfl
theorem Xf{j:Int}(h1:j<=1000000)(h2 : -1000000<=j):Sr [.int j]=some (ZY 0 j):=by unfold Sr;exact Qm ⟨h1,h2⟩
theorem Bw{i j:Int}(h1:j<=1000000)(h2 : -1000000<=j)(h3:i<=1000000)(h4 : -1000000<=i):Sq [.int i,.int j]=some (ZY i j):=by unfold Sq;exact Qm ⟨h1,h2,h3,h4⟩
theorem Xo{xs:List D}:Rr [.list xs]=some (Yl 0 xs):=rfl
theorem Kq{i:Nat}{d:D}(h1:f Z=.ok d Z1)(h2:i<Z1.length)(h3:Z1.set i (some (.pub d))=Z'):U0 i f Z=.nx Z':=by unfold U0 Zp sB gN;rw[h1];dsimp only;rw[if_pos h2];subst h3;rfl
theorem Ye{i:Nat}{f:M (List D)}{ds:List D}(h1:f Z=.ok ds Z1)(h2:i<Z1.length)(h3:Z1.set i (some (.own ds))=Z'):K0 i f Z=.nx Z':=by unfold K0 sB;rw[h1];dsimp only;rw[if_pos h2];subst h3;rfl
theorem XQ{i:Nat}{d:D}{ds0 ds:List D}(h0:Z[i]?=some (some (.own ds0)))(h1:f Z=.ok d Z1)(h2:Z1[i]?=some (some (.own ds)))(h3:ds.length<1000000)(h4:Z1.set i (some (.own (ds++[d])))=Z'):Zk i f Z=.nx Z':=by unfold Zk sB;rw[h0];dsimp only;rw[h1];dsimp only;rw[h2];dsimp only;rw[if_pos h3];subst h4;rfl
theorem Wi{d:D}{s:D->UJ->Option UJ}(h1:f Z=.ok d Z1)(h2:s d Z1=some Z'):Zp f s Z=.nx Z':=by unfold Zp sB;rw[h1];dsimp only;rw[h2]
theorem Wq{d:D}(h1:f Z=.ok d Z1):XJ f Z=.nx Z1:=by unfold XJ sB;rw[h1]
theorem UR{i:Nat}{d:D}(h:i<Z.length)(h2:Z.set i (some (.pub d))=Z'):gN i d Z=some Z':=by unfold gN;rw[Qm h,h2]
theorem Ks:gN0 [] Z=some Z:=rfl
theorem U2{s:D->UJ->Option UJ}{t:List D->UJ->Option UJ}{d:D}{r:List D}(h1:s d Z=some Z1)(h2:t r Z1=some Z'):gNC s t (d::r) Z=some Z':=by unfold gNC;dsimp only;rw[h1];exact h2
theorem Kr{n:Nat}{t:List D->UJ->Option UJ}{ds:List D}(h1:ds.length=n)(h2:t ds Z=some Z'):gT n t (.tuple ds) Z=some Z':=by unfold gT;dsimp only;rw[if_pos h1];exact h2
structure Ho(g:SM)(Z:UJ)(Q:Out->Prop):Prop where
 out:Q (g Z)
def FN(h:SM)(Q:Out->Prop):Out->Prop
 |.nx Z'=>Ho h Z' Q
 |o=>Q o
structure P7(h:SM)(Q:Out->Prop)(o:Out):Prop where
 out:FN h Q o
variable{Q:Out->Prop}{s t u:SM}
theorem KI(h:Ho s Z (P7 t Q)):Ho (UP s t) Z Q:=by
 have h:=h.out.out;constructor;unfold UP;cases e:s Z with
 |nx o=>rw[e]at h;exact h.out
 |_=>rw[e]at h;exact h
theorem Kd(h1:s Z=.nx Z1)(h2:Ho t Z1 Q):Ho (UP s t) Z Q:=by
 constructor;unfold UP;rw[h1];exact h2.out
theorem Zv{o:Out}(h1:s Z=o)(h2:Q o):Ho s Z Q:=by constructor;rw[h1];exact h2
theorem KR(h:Q (.nx Z)):Ho sNx Z Q:=⟨h⟩
theorem KE{o:UJ}(h:Ho t o Q):P7 t Q (.nx o):=⟨h⟩
theorem Wl{d:D}(h:Q (.rt d)):P7 t Q (.rt d):=⟨h⟩
theorem KB{f:M Bool}{b:Bool}(h1:f Z=.ok b Z1)(h2:b=true->Ho s Z1 Q)(h3:b=false->Ho t Z1 Q):Ho (sIf f s t) Z Q:=by
 constructor;unfold sIf sB;rw[h1];dsimp only
 cases b with
 |true=>rw[Qm rfl];exact(h2 rfl).out
 |false=>rw[QB (by decide)];exact(h3 rfl).out
theorem Kw{d:D}(h1:f Z=.ok d Z1)(h2:Q (.rt d)):Ho (U4 f) Z Q:=by constructor;unfold U4 sB;rw[h1];exact h2
theorem MF{P:Out->Prop}(h:Ho s Z P)(k:∀o,P o->Q o):Ho s Z Q:=⟨k _ h.out⟩
def FM(I:UJ->Prop)(Q:Out->Prop):Out->Prop
 |.nx Z | .ct Z=>I Z
 |.bk Z=>Q (.nx Z)
 |.rt d=>Q (.rt d)
 |.ex Z d=>Q (.ex Z d)
 |.ro ds=>Q (.ro ds)
 |.bad=>False
structure Vz(I:UJ->Prop)(Q:Out->Prop)(o:Out):Prop where
 out:FM I Q o
theorem KO{I:UJ->Prop}(h:I Z):Vz I Q (.nx Z):=⟨h⟩
theorem VO{I:UJ->Prop}{d:D}(h:Q (.rt d)):Vz I Q (.rt d):=⟨h⟩
theorem Zm{f:M (List D)}{tg:D->UJ->Option UJ}{ds:List D}(I:Nat->UJ->Prop)(h1:f Z=.ok ds Z1)(h0:I 0 Z1)
  (hst:∀i d Z,ds[i]?=some d->I i Z->∃Z2,tg d Z=some Z2/\Ho s Z2 (Vz (I (i+1)) Q)) (hend:∀Z,I ds.length Z->Q (.nx Z)):Ho (Ko f tg s) Z Q:=by
 constructor;unfold Ko sB;rw[h1];dsimp only
 refine Ga (P:=I) (R:=Q) ds 0 Z1 h0 (λi d Z e p=>?_) (λZ p=>hend Z (by rw[QX]at p;exact p));rw[QX]at p;obtain⟨Z2,e2,q⟩:=hst i d Z e p;refine⟨Z2,e2,?_⟩;rw[QX];have q:=q.out.out;cases z:s Z2 with
 |nx o=>rw[z]at q;exact .inl ⟨o,.inl rfl,q⟩
 |ct o=>rw[z]at q;exact .inl ⟨o,.inr rfl,q⟩
 |rt o=>rw[z]at q;exact .inr (.inl ⟨o,rfl,q⟩)
 |bk o=>rw[z]at q;exact .inr (.inr (.inl ⟨o,rfl,q⟩))
 |ex o x=>rw[z]at q;exact .inr (.inr (.inr (.inl ⟨o,x,rfl,q⟩)))
 |ro o=>rw[z]at q;exact .inr (.inr (.inr (.inr ⟨o,rfl,q⟩)))
 |bad=>rw[z]at q;exact q.elim
theorem XZ{N:List Str}{ds:List D}{P:D->Prop}(h0:Xn N ds=Z)(h:Ho s Z λo=>∃d,o=.rt d/\P d):∃d,U5 N s ds=some d/\P d:=by subst h0;obtain⟨d,e,p⟩:=h.out;refine⟨d,?_,p⟩;unfold U5;rw[e]
theorem KZ{N:List Str}{ds:List D}{d:D}(h0:Xn N ds=Z)(h:Ho s Z λo=>o=.rt d):U5 N s ds=some d:=by obtain⟨d',e,p⟩:=XZ (P:=λx=>x=d) h0 (MF h λo e=>⟨d,e,rfl⟩);rw[e,p]
end
section
variable{α β:Type}{Z Z1 Z2 Z3 Z':UJ}{f g h:M D}
theorem VE{l u:M (Option Int)}{x r:D}{a b:Option Int}(h1:f Z=.ok x Z1)(h2:l Z1=.ok a Z2)(h3:u Z2=.ok b Z3)(h4:YQ x a b=some r):ZT f l u Z=.ok r Z3:=by unfold ZT;exact KP h1 (KP h2 (KP h3 (Yj h4)))
theorem EV{f g:M Bool}(h1:f Z=.ok true Z1):mOr f g Z=.ok true Z1:=by unfold mOr;exact KP h1 rfl
theorem XY{f g:M Bool}{u:Bool}(h1:f Z=.ok false Z1)(h2:g Z1=.ok u Z2):mOr f g Z=.ok u Z2:=by unfold mOr;exact KP h1 (by rw[QB (by decide)];exact h2)
theorem SN{f g:M Bool}(h1:f Z=.ok false Z1):KW f g Z=.ok false Z1:=by unfold KW;exact KP h1 rfl
theorem VI{f g:M Bool}{u:Bool}(h1:f Z=.ok true Z1)(h2:g Z1=.ok u Z2):KW f g Z=.ok u Z2:=by unfold KW;exact KP h1 (by rw[Qm rfl];exact h2)
theorem VN{c:String}{d:D}{t:Bool}(h:f Z=.ok d Z1)(ht:(!K5 d c)=t):KN (Z9 (UZ (λd=>.bool (K5 d c)) f)) Z=.ok t Z1:=by subst ht;exact Xm (X2 (KJ (k:=λd=>Uw (K5 d c)) h))
theorem Zn{x:D}{r:List D}(h1:f Z=.ok x Z1)(h2:OO x=some r):KL f Z=.ok r Z1:=by unfold KL;exact KP h1 (Yj h2)
theorem ZN{p:D->D->Option β}{i:Nat}{d y:D}{r:β}(h:Z[i]?=some (some (.pub d)))(h1:g Z=.ok y Z1)(h2:p d y=some r):K7 p i g Z=.ok r Z1:=by unfold K7;rw[h];exact KP h1 (Yj h2)
theorem Af{p:D->D->Option β}{i:Nat}{ds es:List D}{y:D}{r:β}(h:Z[i]?=some (some (.own ds)))(h1:g Z=.ok y Z1)(h3:Z1[i]?=some (some (.own es)))(h2:p (.list es) y=some r):K7 p i g Z=.ok r Z1:=by unfold K7;rw[h];exact KP h1 (by rw[h3];exact Yj h2)
theorem Yg{f:M (List D)}{k:Nat}{s:D->UJ->Option UJ}{t:M Bool}{ds es:List D}(h1:f Z=.ok ds Z1)(h2:KQ s t g ds (Kl Z1++Uu k none) []=some es):Zu f k s t g Z=.ok es Z1:=by unfold Zu;rw[h1];dsimp only;rw[h2]
theorem SX{s:D->UJ->Option UJ}{t:M Bool}(p:D->Bool)(q:D->D)(I:UJ->Prop):∀(ds:List D)(Z:UJ)(es:List D),(∀d∈ds,∀Z,I Z->∃Z1,s d Z=some Z1/\t Z1=.ok (p d) Z1/\(p d=true->g Z1=.ok (q d) Z1)/\I (Kl Z1))->I Z->es.length+ds.length<=1000000 ->
  KQ s t g ds Z es=some (es++(ds.filter p).map q)
 |[],Z,es,_,_,_=>by rw[KQ];simp
 |d::r,Z,es,st,h0,hz=>by
  obtain⟨Z1,e1,e2,e3,h1⟩:=st d Qn Z h0;have ih:=λes' hz'=>SX p q I r (Kl Z1) es' (λd' hd=>st d' (Ql _ hd)) h1 hz';rw[QC]at hz;rw[KQ,e1];dsimp only;rw[e2];dsimp only
  cases hp:p d with
  |true=>rw[Qm rfl,e3 hp];dsimp only;rw[Qm (by omega),ih _ (by rw[Qi,QH];omega),List.filter_cons_of_pos hp,Qt,QY];rfl
  |false=>rw[QB (by decide),ih _ (by omega),List.filter_cons_of_neg (by rw[hp];decide)]
theorem RD{j:Nat}{d:D}{k:Int}{ds0 ds:List D}(h1:f Z=.ok d Z1)(h0:Z1[j]?=some (some (.own ds0)))(h2:g Z1=.ok (.int k) Z2)(h3:Z2[j]?=some (some (.own ds)))(h4:0<=k/\k<ds.length)(h5:Z2.set j (some (.own (ds.set k.toNat d)))=Z'):Wn j g f Z=.nx Z':=by unfold Wn sB;rw[h1];dsimp only;rw[h0];dsimp only;rw[h2];dsimp only;rw[h3];dsimp only;rw[if_pos h4];subst h5;rfl
theorem VH{xs:List D}{a b:Option Int}:YQ (.list xs) a b=some (.list (DL.cutD xs a b)):=rfl
theorem ZO{xs:List D}:OO (.list xs)=some xs:=rfl
theorem km(bs:List Bool):VM (bs.map Uw)=some bs:=by
 induction bs with
 |nil=>rfl
 |cons b r ih=>rw[Qt,VM,ih];rfl
theorem Cz{bs:List Bool}:YA [.list (bs.map Uw)]=some (.bool (bs.all id)):=by unfold YA;dsimp only;rw[km];rfl
end
section
variable{α β:Type}{Z Z1 Z2 Z3 Z4 Z':UJ}{f g h:M D}{s:SM}
theorem EU{g:M (List D)}{xs r:List D}(h1:g Z=.ok xs Z1)(h2:X3 xs=some r):WM g Z=.ok r Z1:=by unfold WM;exact KP h1 (Yj h2)
theorem ET{l u t:M (Option Int)}{xs:List D}(h1:f Z=.ok (.list xs) Z1)(h2:l Z1=.ok none Z2)(h3:u Z2=.ok none Z3)(h4:t Z3=.ok (some (-1)) Z4):WN f l u t Z=.ok (.list xs.reverse) Z4:=by unfold WN;exact KP h1 (KP h2 (KP h3 (KP h4 (Yj (by unfold WF;exact Qm rfl)))))
theorem O9{i:Nat}{d:D}{ds:List D}(h:Z[i]?=some (some (.pub d)))(h2:XH [d]=some ds):V0 i Z=.ok ds Z:=by unfold V0;rw[h];exact Yj h2
theorem RA{N:List Str}{ds:List D}(h0:Xn N ds=Z)(h:Ho s Z λo=>∃Z',o=.nx Z'):U5 N s ds=some .none:=by subst h0;obtain⟨Z',e⟩:=h.out;unfold U5;rw[e]
theorem OM{i j:Int}:oNe (.int i) (.int j)=some (!decide (i=j)):=by unfold oNe;rw[if_pos ⟨rfl,rfl,by simp[UA]⟩];congr 1
theorem Ae{xs:List Int}{j:Nat}{v:Int}:(xs.map int).set j (.int v)=(xs.set j v).map int:=by rw[List.map_set]
theorem O8{xs:List Int}{a b:Int}(ha:0<=a)(hb:0<=b)(hl:b<=xs.length):DL.cutD (xs.map int) (some a) (some b)=((xs.drop a.toNat).take (b.toNat-a.toNat)).map int:=by
 unfold DL.cutD HT.sIx;dsimp only;rw[QB (by omega),QB (by omega),Qb,List.map_take,List.map_drop];have e2:min b.toNat xs.length=b.toNat:=by omega
 rw[e2];by_cases hab:a.toNat<=xs.length
 ·have e1:min a.toNat xs.length=a.toNat:=by omega
  rw[e1]
 ·have e3:b.toNat-a.toNat=0:=by omega
  have e4:b.toNat-min a.toNat xs.length=0:=by omega
  rw[e3,e4,JY,JY]
theorem qh{xs ys:List Int}:Yu (xs.map int) (ys.map int)=(xs.zip ys).map λp=>.tuple [.int p.1,.int p.2]:=by unfold Yu;rw[List.zip_map,Jl];rfl
end
section
variable{Z Z1:UJ}
theorem Ad{g:M (List D)}{xs r:List D}(h1:g Z=.ok xs Z1)(h2:SH xs=some r):Ph g Z=.ok r Z1:=by unfold Ph;exact KP h1 (Yj h2)
theorem qg{xs:List D}:SH [.list xs]=some (Yl 1 xs):=rfl
end
section
variable{X:Cx}{B G0:Hp}{KX:XW}{e o a b c tg i:Uo}{pos p2:Pos}{es rest:List Uo}
def Xe(f:M Bool)(g:SM):Nat->SM
 |0,_=>.bad
 |n+1,Z=>match f Z with
  |.bad=>.bad
  |.ok t Z1=>if t=true then(match g Z1 with
   |.nx Z2=>Xe f g n Z2
   |.ct Z2=>Xe f g n Z2
   |.bk Z2=>.nx Z2
   |.rt d=>.rt d
   |.ro ds=>.ro ds
   |.ex Z2 d=>.ex Z2 d
   |.bad=>.bad)else .nx Z1
theorem Ac{body:List Stmt}{f:M Bool}{g:SM}(n:Nat)(hp:PassesOwn (model X.prog X.w) X.A X.env X.xe)(hc:PT X c (tBo X.K B G0 f))(hb:PSs X body (tS X.K B G0 KX g)):PS X (.While c body [] pos) (tS X.K B G0 KX (Xe f g n)):=
 Zr (AE hp hc hb) λDn σ H ⟨G,Z,k,a⟩=>by
  refine⟨λm σ' H'=>∃G' Z',EOk X.K B G0 G' H' σ' Z'/\aftS X.K B G0 KX (Xe f g m Z') G' Dn,⟨n,G,Z,k,a⟩,?_⟩;rintro m σ' H' ⟨G',Z',k',a'⟩;cases m with
  |zero=>exact a'.elim
  |succ m=>
   rw[Xe]at a';refine⟨G',Z',k',?_⟩;cases z:f Z' with
   |bad=>rw[z]at a';exact a'.elim
   |ok t Z1=>
    rw[z]at a';dsimp only at a';intro v G1 H1 k1 s1 e1;subst e1;cases v with
    |false=>rw[QB JH]at a'⊢;exact a' _ G1 H1 k1 s1
    |true=>
     rw[Qm rfl]at a'⊢;refine⟨λσ2 H2=>∃G2 Z2,EOk X.K B G0 G2 H2 σ2 Z2/\aftS X.K B G0 KX (Xe f g m Z2) G2 Dn,λσ2 H2 h2=>⟨m,JG m,h2⟩,G1,Z1,k1,?_⟩;cases z2:g Z1 with
     |nx Z2=>rw[z2]at a';exact λσ4 G4 H4 k4 s4=>⟨G4,Z2,k4,aftS.mono (s1.trans s4) a'⟩
     |ct Z2=>rw[z2]at a';exact λσ4 G4 H4 k4 s4=>⟨G4,Z2,k4,aftS.mono (s1.trans s4) a'⟩
     |bk Z2=>rw[z2]at a';exact λσ4 G4 H4 k4 s4=>a' σ4 G4 H4 k4 (s1.trans s4)
     |rt d=>rw[z2]at a';exact a'
     |ro ds=>rw[z2]at a';exact a'
     |ex Z2 d=>rw[z2]at a';exact λv σ4 G4 H4 k4 s4 r4=>a' v σ4 G4 H4 k4 (s1.trans s4) r4
     |bad=>rw[z2]at a';exact a'.elim
def Xr(op:Int->Int->Option D)(j:Nat)(f:M D):SM:=λZ=>match Z[j]? with
 |some (some (.pub (.int a)))=>sB f (λy Z1=>match y with
  |.int b=>(match op a b with
   |some d=>if j<Z1.length then .nx (Z1.set j (some (.pub d)))else .bad
   |none=>.bad)
  |_=>.bad) Z
 |_=>.bad
def IpD(X:Cx)(op:Operator)(p:Int->Int->Option D):Prop:=∃ti,PIp X op ti/\∀i j d,p i j=some d->∃v:V,(∀G,Rep X.K G v d)/\∀H(Q:VK),Q v H->ti (.int i) (.int j) H Q
theorem Cy:IpD X .Mult Yq:=⟨_,Bb,λi j d e=>by
 unfold Yq at e;split at e
 ·rename_i h;cases e;exact⟨_,λ_=>.int _,λH Q q=>⟨i,j,rfl,rfl,h,q⟩⟩
 ·cases e⟩
theorem ES{j:Nat}{x:Str}{op:Operator}{p:Int->Int->Option D}{f:M D}{pos':Pos}(hN:X.N.Nodup)(hi:X.N[j]?=some x)(hx:Loc X.env.scope x)(ho:IpD X op p)(he:PE X e (tD X.K B G0 f))(hf:X.fn x=true∨X.env.scope.names.lookup x=some .local:=by first|exact .inl rfl|exact .inr rfl|assumption) :
  PS X (.AugAssign (.Name x pos') op e pos) (tS X.K B G0 KX (Xr p j f)):=by
 obtain⟨ti,hti,hp⟩:=ho;refine Zr (DP hN hi hx he hti hf) λDn σ H ⟨G,Z,k,a⟩=>?_;unfold Xr at a
 cases q:Z[j]? with
 |none=>rw[q]at a;exact a.elim
 |some o0=>
  cases o0 with
  |none=>rw[q]at a;exact a.elim
  |some sl=>
   cases sl with
   |deep _ _=>rw[q]at a;exact a.elim
   |own ds=>rw[q]at a;exact a.elim
   |pub d0=>
    rw[q]at a;cases d0 with
    |int i0=>
     dsimp only at a;obtain⟨v,h1,h2⟩:=k.pub j _ q;cases h2.int_inv;refine⟨.int i0,h1,G,Z,k,?_⟩;unfold sB at a;cases z:f Z with
     |bad=>rw[z]at a;exact a.elim
     |ok y Z1=>
      rw[z]at a;dsimp only at a;intro u G1 H1 k1 s1 r1;cases y with
      |int i1=>
       cases r1.int_inv;dsimp only at a;cases w:p i0 i1 with
       |none=>rw[w]at a;exact a.elim
       |some d=>
        rw[w]at a;dsimp only at a;split at a
        ·rename_i hl;obtain⟨v',rv,hq⟩:=hp i0 i1 d w;exact hq H1 _ (a _ G1 H1 (k1.setPub (rv G1) hl) s1)
        ·exact a.elim
      |_=>exact a.elim
    |_=>exact a.elim
end
section
variable{X:Cx}{B G0:Hp}{e o a b c tg i:Uo}{pos p2:Pos}{es rest:List Uo}
theorem qf(hc:X.calm=true):YL X (.builtin "sum") (λxs H Q=>∃l,∃ns:List Int,xs=[.ref l]/\SqL X.K H l (ns.map V.int)/\Q (.int ns.sum) H):=by
 intro pins s σ H xs us Q I rx h;obtain⟨l,ns,rfl,hq,q⟩:=h;obtain⟨u,rfl,ru⟩:=rx.one;cases ru;obtain⟨its,rv,p,hz⟩:=I.list hq;have hi:=Ww rv;obtain⟨ys,e⟩:=hi.allInts.items;have hns:ns=ys.toList.map (·.1):=by rw[←hi.numsOf,←nums_intItems,←e]
 have hl:=p.isList;rw[e]at hl;refine sum_intListG (I.ok.hd hc) hl λh' tk t' hk=>?_
 have e2:preSum (numAt ys) ys.size=ns.sum:=by rw[preSum_eq,List.take_of_length_le (by simp),hns]
 rw[e2];exact⟨.int ns.sum,H,I.kept hk,⟨t',rfl⟩,q⟩
def VW:List D->Option D
 |[.list ds]=>(Yn ds).map λns=>.int ns.sum
 |_=>none
theorem qe{xs:List D}{d:D}(h:VW xs=some d):∃ds ns,xs=[.list ds]/\Yn ds=some ns/\d=.int ns.sum:=by
 unfold VW at h;split at h
 ·rename_i ds;cases z:Yn ds with
  |none=>rw[z]at h;cases h
  |some ns=>rw[z]at h;cases h;exact⟨ds,ns,rfl,z,rfl⟩
 ·cases h
theorem ER(hc:X.calm=true):YV X (.builtin "sum") VW:=by refine⟨_,qf hc,λvs G H ds d Q s r e k=>?_⟩;obtain⟨ds,ns,rfl,z,rfl⟩:=qe e;obtain⟨v,rfl,q1⟩:=r.one_inv;obtain⟨l,ws,rfl,h1,r1⟩:=q1.lst_inv;have:=Rg r1 z;subst this;exact⟨l,ns,rfl,s.seq h1,k _ G H (.refl s) (.int _)⟩
theorem L9{ns:List Int}:VW [.list (ns.map .int)]=some (.int ns.sum):=by unfold VW;dsimp only;rw[Rf];rfl
theorem qd:MtR X "list.index" (λv vs H Q=>∃l k,∃ns:List Int,v=.ref l/\vs=[.int k]/\SqL X.K H l (ns.map V.int)/\PyData.layable0 (.list (ns.map .int))=true/\k∈ns/\Q (.int (ns.idxOf k:Nat)) H):=by intro pins s σ H x vs v us Q I rx rv h;obtain⟨l,k,ns,rfl,rfl,hq,hl,hk,q⟩:=h;cases rx;obtain⟨u,rfl,ru⟩:=rv.one;obtain⟨t,rfl⟩:=ru;obtain⟨its,rv,p,hz⟩:=I.list hq;exact index_list_ints p.isList (Ww rv) hl hk ⟨.int _,H,I.tok _,⟨_,rfl⟩,q⟩
def SL(y:D)(xs:List D):Option D:=match y,xs with
 |.list ds,[.int k]=>(match Yn ds with
  |some ns=>if PyData.layable0 (.list (ns.map .int))=true/\k∈ns then some (.int (ns.idxOf k:Nat))else none
  |none=>none)
 |_,_=>none
theorem kj{ds xs:List D}{d:D}(h:SL (.list ds) xs=some d):∃k ns,xs=[.int k]/\Yn ds=some ns/\PyData.layable0 (.list (ns.map .int))=true/\k∈ns/\d=.int (ns.idxOf k:Nat):=by
 unfold SL at h;split at h
 ·rename_i ds' k e1;cases e1;cases z:Yn ds with
  |none=>rw[z]at h;cases h
  |some ns=>
   rw[z]at h;dsimp only at h;split at h
   ·rename_i c;cases h;exact⟨k,ns,rfl,rfl,c.1,c.2,rfl⟩
   ·cases h
 ·cases h
def Pg(f:M D)(g:M (List D)):M D:=U6 f λy=>U6 g λxs=>U8 (match y with | .list ds=>SL (.list ds) xs|_=>none)
theorem qc{apos cpos:Pos}{f:M D}{g:M (List D)}(ho:PE X o (tD X.K B G0 f))(ha:PA X (e::es) (tDs X.K B G0 g))
  (hbase:attributeBase o "index" X.env (eval o X.env)=eval o X.env:=by rfl)
  (hfew:((backTo cpos (Ur (e::es) X.env)).all (λx=>!x.1)&&(backToKw cpos (keywordEach [] X.env)).all (λx=>x.1.isSome)
   && decide ((e::es).length+([]:List Keyword).length+(if([]:List Keyword).isEmpty then 0 else 1)<30))=true:=by rfl)
  (hline:(apos.endLine==cpos.line)=true:=by rfl) (hs:Ur (e::es) X.env=(false,eval e X.env)::Ur es X.env:=by rfl) (hplain:(backTo cpos (Ur es X.env)).any (·.1)=false:=by rfl) :
  PE X (.Call (.Attribute o "index" apos) (e::es) [] cpos) (tD X.K B G0 (Pg f g)):=
 Kn (Oa F.plainAttrs_list F.slot_list_index F.type_list_index qd ho ha hbase hfew hline hs hplain) λσ H Q q=>by
  refine tM.one (R:=Rep X.K) q λv H2 G Z y k r a=>?_
  cases y with
  |list ds=>
   obtain⟨l,ws,rfl,h1,r1⟩:=r.lst_inv;refine⟨.inl ⟨rfl,ws,k.gh.seq h1⟩,?_⟩;refine tM.nx (R:=Reps X.K) k a λxs H3 G3 Z3 es k3 s3 r3 a3=>?_
   obtain⟨d,e,a3⟩:=a3.opt;obtain⟨x,ns,rfl,z,hl,hk,rfl⟩:=kj e;obtain⟨u,rfl,ru⟩:=r3.one_inv;have:=Rg r1 z;subst this;exact⟨l,x,ns,rfl,by rw[ru.int_inv],k3.gh.seq (s3.seq h1),hl,hk,aft.now a3 k3 (.int _)⟩
  |_=>
   unfold U6 at a;cases z:g Z with
   |bad=>rw[z]at a;exact a.elim
   |ok xs Z1=>rw[z]at a;exact a.elim
theorem Ab{f:M D}{g:M (List D)}{Z Z1 Z2:UJ}{ds:List D}{x d:D}(h1:f Z=.ok (.list ds) Z1)(h2:g Z1=.ok [x] Z2)(h3:SL (.list ds) [x]=some d):Pg f g Z=.ok d Z2:=by unfold Pg U6;rw[h1];dsimp only;rw[h2];dsimp only;rw[h3];rfl
end
end DL
namespace DL
open PySem PySem.Spec PySem.W PyProof.Rows
def Kh{α:Type}(lt:Nat->Nat->Bool):KasT α->α
 |.ret a=>a
 |.ask i j k=>Kh lt (k (lt i j))
theorem SW{α β:Type}{lt:Nat->Nat->Bool}{f:α->KasT β}:∀t:KasT α,Kh lt (t.bind f)=Kh lt (f (Kh lt t))
 |.ret _=>rfl
 |.ask i j k=>by show Kh lt ((k (lt i j)).bind f)=_;rw[SW];rfl
section
variable{key:Nat->Int}{p:Array Nat}
def KA(key:Nat->Int)(p:Array Nat)(i:Nat):Int:=key (p.getD i 0)
def srt(key:Nat->Int)(p:Array Nat)(m:Nat):Prop:=∀i j,i<=j->j<m->KA key p i<=KA key p j
def dsc(key:Nat->Int)(p:Array Nat)(m:Nat):Prop:=∀i j,i<=j->j<m->KA key p j<=KA key p i
abbrev kl(key:Nat->Int)(i j:Nat):Bool:=decide (key i<key j)
theorem HZ{k d i:Nat}(hk:k<p.size)(hd:d<=k):KA key (bubble p k d) i=if i=k-d then KA key p k else if k-d<i/\i<=k then KA key p (i-1)else KA key p i:=by
 unfold KA;simp only[Jf];rw[getElem?_bubble hk d hd]
 repeat' split
 all_goals rfl
theorem Rz{i j k:Nat}(hj:j<=p.size):KA key (kas_rev p i j) k=if i<=k/\k<j then KA key p (i+j-1-k)else KA key p k:=by
 unfold KA kas_rev;simp only[Jf];rw[getElem?_mirror_all hj]
 split<;>rfl
theorem V5{i j:Nat}:(kas_rev p i j).size=p.size:=mirror_size _ _ _ _
theorem Wz{i j:Nat}:(kas_rev p i j).Perm p:=mirror_perm _ _ _ _
theorem O7:∀(f n:Nat),1<=n->srt key p n->srt key p (Kh (kl key) (kas_asc p f n))/\n<=Kh (kl key) (kas_asc p f n)/\Kh (kl key) (kas_asc p f n)<=n+f /\
  (Kh (kl key) (kas_asc p f n)<n+f->KA key p (Kh (kl key) (kas_asc p f n))<KA key p (Kh (kl key) (kas_asc p f n)-1))
 |0,n,h1,hs=>⟨hs,Qs _,Qs _,λh=>absurd h (Jr _)⟩
 |f+1,n,h1,hs=>by
  unfold kas_asc Kh;cases c:kl key (p.getD n 0) (p.getD (n-1) 0)with
  |true=>dsimp only;rw[Qm rfl];exact⟨hs,Qs _,by show n<=n+(f+1);omega,λ_=>Qa c⟩
  |false=>
   dsimp only;rw[QB (by decide)];have hle:KA key p (n-1)<=KA key p n:=Uh.mp (Ja c)
   obtain⟨a1,a2,a3,a4⟩:=O7 f (n+1) (by omega) (λi j hij hj=>by
    by_cases hjn:j=n
    ·subst hjn;by_cases hin:i=j
     ·subst hin;exact Q3 _
     ·exact JS (hs i (j-1) (by omega) (by omega)) hle
    ·exact hs i j hij (by omega))
   exact⟨a1,by omega,by omega,λh=>a4 (by omega)⟩
def eqs(key:Nat->Int)(p:Array Nat)(n q:Nat):Prop:=∀i,n-1-q<=i->i<n->KA key p i=KA key p (n-1)
theorem PN:∀(f:Nat)(p:Array Nat)(n q:Nat),1<=n->q+1<=n->n+f<=p.size->dsc key p n->eqs key p n q ->
  let r:=Kh (kl key) (kas_desc f p n q)
  r.1.Perm p/\r.1.size=p.size/\dsc key r.1 r.2.1/\eqs key r.1 r.2.1 r.2.2/\r.2.2+1<=r.2.1/\n<=r.2.1/\r.2.1<=n+f
 |0,p,n,q,h1,hq,hz,hd,he=>⟨Ue _,rfl,hd,he,hq,Qs _,Qs _⟩
 |f+1,p,n,q,h1,hq,hz,hd,he=>by
  intro r;have hr:r=Kh (kl key) (kas_desc (f+1) p n q):=rfl;unfold kas_desc Kh at hr;cases c:kl key (p.getD n 0) (p.getD (n-1) 0)with
  |true=>
   rw[c]at hr;(try dsimp only at hr);rw[if_pos rfl]at hr;have hlt:KA key p n<KA key p (n-1):=Qa c
   have ext:∀p':Array Nat,(∀i,KA key p' i=KA key p i)->dsc key p' (n+1)/\eqs key p' (n+1) 0:=λp' hp=>⟨λi j hij hj=>by
     rw[hp,hp];by_cases hjn:j=n
     ·subst hjn;by_cases hin:i=j
      ·subst hin;exact Q3 _
      ·exact JS (Int.le_of_lt hlt) (hd i (j-1) (by omega) (by omega))
     ·exact hd i j hij (by omega),λi hi1 hi2=>by
     have:i=n:=by omega
     subst this;rfl⟩
   by_cases hq0:q > 0
   ·rw[Qm hq0]at hr
    have same:∀i,KA key (kas_rev p (n-(q+1)) n) i=KA key p i:=λi=>by
     rw[Rz (by omega)];split
     ·rw[he _ (by omega) (by omega),he i (by omega) (by omega)]
     ·rfl
    obtain⟨d1,e1⟩:=ext _ same;obtain⟨a1,a2,a3,a4,a5,a6,a7⟩:=PN f (kas_rev p (n-(q+1)) n) (n+1) 0 (by omega) (by omega) (by rw[V5];omega) d1 e1;rw[←hr]at a1 a2 a3 a4 a5 a6 a7;exact⟨a1.trans Wz,a2.trans V5,a3,a4,a5,by omega,by omega⟩
   ·rw[QB hq0]at hr;obtain⟨d1,e1⟩:=ext p λ_=>rfl
    obtain⟨a1,a2,a3,a4,a5,a6,a7⟩:=PN f p (n+1) 0 (by omega) (by omega) (by omega) d1 e1;rw[←hr]at a1 a2 a3 a4 a5 a6 a7;exact⟨a1,a2,a3,a4,a5,by omega,by omega⟩
  |false=>
   rw[c]at hr;(try dsimp only at hr);rw[if_neg (by decide)]at hr;unfold Kh at hr;have hle:KA key p (n-1)<=KA key p n:=Uh.mp (Ja c);cases d:kl key (p.getD (n-1) 0) (p.getD n 0)with
   |true=>rw[d]at hr;(try dsimp only at hr);rw[if_pos rfl]at hr;unfold Kh at hr;rw[hr];exact⟨Ue _,rfl,hd,he,hq,Qs _,by show n<=n+(f+1);omega⟩
   |false=>
    rw[d]at hr;(try dsimp only at hr);rw[if_neg (by decide)]at hr;have hge:KA key p n<=KA key p (n-1):=Uh.mp (Ja d)
    obtain⟨a1,a2,a3,a4,a5,a6,a7⟩:=PN f p (n+1) (q+1) (by omega) (by omega) (by omega) (λi j hij hj=>by
     by_cases hjn:j=n
     ·subst hjn;by_cases hin:i=j
      ·subst hin;exact Q3 _
      ·exact JS hge (hd i (j-1) (by omega) (by omega))
     ·exact hd i j hij (by omega)) (λi hi1 hi2=>by
     have e0:KA key p n=KA key p (n-1):=J9 hge hle;show KA key p i=KA key p (n+1-1);rw[J7,e0];by_cases hin:i=n
     ·subst hin;exact e0
     ·exact he i (by omega) (by omega))
    rw[←hr]at a1 a2 a3 a4 a5 a6 a7;exact⟨a1,a2,a3,a4,a5,by omega,by omega⟩
theorem GB{n nrem:Nat}(h1:1<=n)(hn:n<=nrem)(hz:nrem<=p.size)(hd:dsc key p n) :
  let r:=Kh (kl key) (kas_tail3 n nrem p)
  r.2.Perm p/\r.2.size=p.size/\srt key r.2 r.1/\1<=r.1/\r.1<=nrem:=by
 intro r;have hr:r=Kh (kl key) (kas_tail3 n nrem p):=rfl;unfold kas_tail3 at hr;rw[SW]at hr;have hs:srt key (kas_rev p 0 n) n:=λi j hij hj=>by rw[Rz (by omega),Rz (by omega),Qm (by omega),Qm (by omega)];exact hd _ _ (by omega) (by omega)
 obtain⟨a1,a2,a3,_⟩:=O7 (key:=key) (p:=kas_rev p 0 n) (nrem-n) n h1 hs;rw[hr];exact⟨Wz,V5,a1,by show 1<=Kh _ _;omega,by show Kh _ _<=_;omega⟩
theorem GS{n nrem:Nat}(h1:1<=n)(hn:n+1<=nrem)(hz:nrem<=p.size)(hd:dsc key p (n+1)) :
  let r:=Kh (kl key) (kas_descPart n nrem p)
  r.2.Perm p/\r.2.size=p.size/\srt key r.2 r.1/\1<=r.1/\r.1<=nrem:=by
 intro r;have hr:r=Kh (kl key) (kas_descPart n nrem p):=rfl;unfold kas_descPart at hr;rw[SW]at hr
 obtain⟨a1,a2,a3,a4,a5,a6,a7⟩:=PN (key:=key) (nrem-(n+1)) p (n+1) 0 (by omega) (by omega) (by omega) hd (λi hi1 hi2=>by
  have:i=n:=by omega
  subst this;rfl)
 generalize Kh (kl key) (kas_desc (nrem-(n+1)) p (n+1) 0)=d at hr a1 a2 a3 a4 a5 a6 a7;obtain⟨p1,n1,q1⟩:=d;dsimp only at hr a1 a2 a3 a4 a5 a6 a7;by_cases hq:q1 > 0
 ·rw[Qm hq]at hr
  have same:∀i,KA key (kas_rev p1 (n1-(q1+1)) n1) i=KA key p1 i:=λi=>by
   rw[Rz (by omega)];split
   ·rw[a4 _ (by omega) (by omega),a4 i (by omega) (by omega)]
   ·rfl
  obtain⟨b1,b2,b3,b4,b5⟩:=GB (key:=key) (p:=kas_rev p1 (n1-(q1+1)) n1) (n:=n1) (nrem:=nrem) (by omega) (by omega) (by rw[V5];omega) (λi j hij hj=>by rw[same,same];exact a3 i j hij hj);rw[hr];exact⟨(b1.trans Wz).trans a1,(b2.trans V5).trans a2,b3,b4,b5⟩
 ·rw[QB hq]at hr;obtain⟨b1,b2,b3,b4,b5⟩:=GB (key:=key) (p:=p1) (n:=n1) (nrem:=nrem) (by omega) (by omega) (by omega) a3;rw[hr];exact⟨b1.trans a1,b2.trans a2,b3,b4,b5⟩
theorem jM{nrem:Nat}(h1:1<=nrem)(hz:nrem<=p.size) :
  let r:=Kh (kl key) (kas_count nrem p)
  r.2.Perm p/\r.2.size=p.size/\srt key r.2 r.1/\1<=r.1/\r.1<=nrem:=by
 intro r;have hr:r=Kh (kl key) (kas_count nrem p):=rfl;unfold kas_count at hr;rw[SW]at hr
 obtain⟨a1,a2,a3,a4⟩:=O7 (key:=key) (p:=p) (nrem-1) 1 (Qs _) (λi j hij hj=>by
  have:i=j:=by omega
  subst this;exact Q3 _)
 generalize Kh (kl key) (kas_asc p (nrem-1) 1)=n at hr a1 a2 a3 a4;by_cases hn:(n==nrem)=true
 ·rw[Qm hn]at hr;unfold Kh at hr;rw[hr];exact⟨Ue _,rfl,a1,a2,by show n<=nrem;omega⟩
 ·rw[QB hn]at hr;have hne:n≠nrem:=by simpa using hn
  have hlt:=a4 (by omega);by_cases hn1:n > 1
  ·rw[Qm hn1]at hr;unfold Kh at hr;cases c:kl key (p.getD 0 0) (p.getD (n-1) 0)with
   |true=>rw[c]at hr;(try dsimp only at hr);rw[if_pos rfl]at hr;unfold Kh at hr;rw[hr];exact⟨Ue _,rfl,a1,a2,by show n<=nrem;omega⟩
   |false=>
    rw[c]at hr;(try dsimp only at hr);rw[if_neg (by decide)]at hr;have hge:KA key p (n-1)<=KA key p 0:=Uh.mp (Ja c);have all:∀i,i<n->KA key p i=KA key p 0:=λi hi=>J9 (JS (a1 i (n-1) (by omega) (by omega)) hge) (a1 0 i (by omega) hi)
    have same:∀i,KA key (kas_rev p 0 n) i=KA key p i:=λi=>by
     rw[Rz (by omega)];split
     ·rw[all _ (by omega),all i (by omega)]
     ·rfl
    obtain⟨b1,b2,b3,b4,b5⟩:=GS (key:=key) (p:=kas_rev p 0 n) (n:=n) (nrem:=nrem) a2 (by omega) (by rw[V5];exact hz) (λi j hij hj=>by
     rw[same,same];by_cases hjn:j=n
     ·subst hjn;by_cases hin:i=j
      ·subst hin;exact Q3 _
      ·rw[all i (by omega)];rw[all (j-1) (by omega)]at hlt;exact Int.le_of_lt hlt
     ·rw[all i (by omega),all j (by omega)];exact Q3 _)
    rw[hr];exact⟨b1.trans Wz,b2.trans V5,b3,b4,b5⟩
  ·rw[QB hn1]at hr;have:n=1:=by omega
   subst this
   obtain⟨b1,b2,b3,b4,b5⟩:=GS (key:=key) (p:=p) (n:=1) (nrem:=nrem) (Qs _) (by omega) hz (λi j hij hj=>by
    by_cases hij2:i=j
    ·subst hij2;exact Q3 _
    ·have h0:i=0:=by omega
     have h1:j=1:=by omega
     subst h0;subst h1;exact Int.le_of_lt hlt)
   rw[hr];exact⟨b1,b2,b3,b4,b5⟩
theorem Nw{k:Nat}(hs:srt key p k):∀(f l r:Nat),l<=r->r<=k->r-l<=f->(∀i,i<l->KA key p i<=KA key p k)->(∀i,r<=i->i<k->KA key p k<KA key p i) ->
  let m:=Kh (kl key) (kas_place p k f l r)
  m<=k/\(∀i,i<m->KA key p i<=KA key p k)/\(∀i,m<=i->i<k->KA key p k<KA key p i)
 |0,l,r,hlr,hrk,hf,h1,h2=>⟨by show l<=k;omega,h1,λi (hi:l<=i)=>h2 i (by omega)⟩
 |f+1,l,r,hlr,hrk,hf,h1,h2=>by
  intro m;have hm:m=Kh (kl key) (kas_place p k (f+1) l r):=rfl;unfold kas_place at hm;by_cases hge:l ≥ r
  ·rw[Qm hge]at hm;unfold Kh at hm;rw[hm];exact⟨by omega,h1,λi hi=>h2 i (by omega)⟩
  ·rw[QB hge]at hm;unfold Kh at hm;cases c:kl key (p.getD k 0) (p.getD ((l+r) / 2) 0)with
   |true=>rw[c]at hm;(try dsimp only at hm);rw[if_pos rfl]at hm;rw[hm];have hlt:KA key p k<KA key p ((l+r) / 2):=Qa c;exact Nw hs f l ((l+r) / 2) (by omega) (by omega) (by omega) h1 λi hi hik=>Int.lt_of_lt_of_le hlt (hs _ _ hi hik)
   |false=>rw[c]at hm;(try dsimp only at hm);rw[if_neg (by decide)]at hm;rw[hm];have hle:KA key p ((l+r) / 2)<=KA key p k:=Uh.mp (Ja c);exact Nw hs f ((l+r) / 2+1) r (by omega) hrk (by omega) (λi hi=>JS (hs i ((l+r) / 2) (by omega) (by omega)) hle) h2
theorem L8:∀(f:Nat)(p:Array Nat)(k:Nat),k+f<=p.size->srt key p k->let r:=Kh (kl key) (kas_bin f p k);r.Perm p/\r.size=p.size/\srt key r (k+f)
 |0,p,k,_,hs=>⟨Ue _,rfl,hs⟩
 |f+1,p,k,hz,hs=>by
  intro r;have hr:r=Kh (kl key) (kas_bin (f+1) p k):=rfl;unfold kas_bin at hr;rw[SW]at hr;obtain⟨a1,a2,a3⟩:=Nw (key:=key) hs k 0 k (JR _) (Qs _) (by omega) (λi hi=>by omega) (λi h1 h2=>by omega);generalize Kh (kl key) (kas_place p k k 0 k)=l at hr a1 a2 a3;have hk:k<p.size:=by omega
  obtain⟨b1,b2,b3⟩:=L8 f (bubble p k (k-l)) (k+1) (by rw[bubble_size];omega) (λi j hij hj=>by
   rw[HZ hk (by omega),HZ hk (by omega),show k-(k-l)=l by omega];by_cases hi:i=l
   ·rw[Qm hi];by_cases hjl:j=l
    ·rw[Qm hjl];exact Q3 _
    ·rw[QB hjl,Qm (by omega)];exact Int.le_of_lt (a3 (j-1) (by omega) (by omega))
   ·rw[QB hi];by_cases hi2:l<i/\i<=k
    ·rw[Qm hi2,QB (show ¬j=l by omega),Qm (by omega)];exact hs _ _ (by omega) (by omega)
    ·rw[QB hi2];by_cases hjl:j=l
     ·rw[Qm hjl];exact a2 i (by omega)
     ·rw[QB hjl];split
      ·exact hs _ _ (by omega) (by omega)
      ·exact hs _ _ (by omega) (by omega))
  rw[hr];exact⟨b1.trans (bubble_perm _ _ _),b2.trans (bubble_size _ _ _),by rw[show k+(f+1)=k+1+f by omega];exact b3⟩
theorem qb{n:Nat}(h1:1<=n):let r:=Kh (kl key) (kas_sort n);r.Perm (List.toArray (Ut n))/\r.size=n/\srt key r n:=by
 intro r;have hr:r=Kh (kl key) (kas_sort n):=rfl;unfold kas_sort at hr;rw[SW]at hr;have hsz:(List.toArray (Ut n)).size=n:=by simp
 obtain⟨a1,a2,a3,a4,a5⟩:=jM (key:=key) (p:=List.toArray (Ut n)) (nrem:=n) h1 (by rw[hsz];exact Qs _);generalize Kh (kl key) (kas_count n (List.toArray (Ut n)))=d at hr a1 a2 a3 a4 a5;by_cases hlt:d.1<n
 ·rw[Qm hlt]at hr;have hmax:max d.1 1=d.1:=by omega
  rw[hmax]at hr;obtain⟨b1,b2,b3⟩:=L8 (key:=key) (n-d.1) d.2 d.1 (by omega) a3;rw[hr];exact⟨b1.trans a1,by omega,by rw[show d.1+(n-d.1)=n by omega]at b3;exact b3⟩
 ·rw[QB hlt]at hr;unfold Kh at hr;rw[hr];exact⟨a1,by omega,by rw[show d.1=n by omega]at a3;exact a3⟩
def Asks{α:Type}(N:Nat)(R:α->Prop):KasT α->Prop
 |.ret a=>R a
 |.ask i j k=>i<N/\j<N/\∀b,Asks N R (k b)
theorem Asks.bind{α β:Type}{N:Nat}{R:α->Prop}{S:β->Prop}{f:α->KasT β}(hf:∀a,R a->Asks N S (f a)):∀{t:KasT α},Asks N R t->Asks N S (t.bind f)
 |.ret a,h=>hf a h
 |.ask _ _ k,⟨h1,h2,h3⟩=>⟨h1,h2,λb=>Asks.bind hf (h3 b)⟩
theorem L7{α:Type}{lt:Nat->Nat->Bool}{cmp:Nat->Nat->(Bool->Uj->Prop)->Uj->Prop}{s:Uj}{N:Nat}{R:α->Prop}(hc:∀i j C,i<N->j<N->C (lt i j) s->cmp i j C s):∀(t:KasT α)(Q:α->Uj->Prop),Asks N R t->Q (Kh lt t) s->t.kasWp cmp Q s
 |.ret _,_,_,h=>h
 |.ask i j k,Q,⟨h1,h2,h3⟩,h=>hc i j _ h1 h2 (L7 hc (k (lt i j)) Q (h3 _) h)
def bnd(N:Nat)(p:Array Nat):Prop:=∀i,p.getD i 0<N
theorem Rb{N:Nat}{p q:Array Nat}(hN:0<N)(h:bnd N p)(e:q.Perm p):bnd N q:=λi=>by
 rw[Jf];cases z:q[i]? with
 |none=>exact hN
 |some v=>have hm:v∈q:=Array.mem_of_getElem? z;have hm2:v∈p:=e.mem_iff.mp hm;obtain⟨j,hj,e2⟩:=Array.mem_iff_getElem.mp hm2;have:=h j;rw[Jf,JM hj,e2]at this;exact this
section
variable{N:Nat}(hN:0<N)
include hN
theorem O6{p:Array Nat}(h:bnd N p):∀(f n:Nat),Asks N (λ_=>True) (kas_asc p f n)
 |0,_=>trivial
 |f+1,n=>⟨h _,h _,λb=>by
  cases b with
  |true=>(try dsimp only);rw[if_pos rfl];trivial
  |false=>(try dsimp only);rw[if_neg (by decide)];exact O6 h f (n+1)⟩
theorem PM:∀(f:Nat)(p:Array Nat)(n q:Nat),bnd N p->Asks N (λr=>bnd N r.1) (kas_desc f p n q)
 |0,p,_,_,h=>h
 |f+1,p,n,q,h=>⟨h _,h _,λb=>by
  cases b with
  |true=>
   dsimp only;rw[Qm rfl];split
   ·exact PM f _ _ _ (Rb hN h Wz)
   ·exact PM f _ _ _ h
  |false=>
   dsimp only;rw[QB (by decide)];refine⟨h _,h _,λb=>?_⟩;cases b with
   |true=>(try dsimp only);rw[if_pos rfl];exact h
   |false=>(try dsimp only);rw[if_neg (by decide)];exact PM f _ _ _ h⟩
theorem GA{p:Array Nat}{n nrem:Nat}(h:bnd N p):Asks N (λr=>bnd N r.2) (kas_tail3 n nrem p):=
 Asks.bind (N:=N) (R:=λ_=>True) (S:=λr:Nat×Array Nat=>bnd N r.2) (f:=λm=>.ret (m,kas_rev p 0 n)) (λ_ _=>Rb (p:=p) (q:=kas_rev p 0 n) hN h Wz) (O6 hN (Rb hN h Wz) _ _)
theorem GR{p:Array Nat}{n nrem:Nat}(h:bnd N p):Asks N (λr=>bnd N r.2) (kas_descPart n nrem p):=
 Asks.bind (λr hr=>by
  split
  ·exact GA hN (Rb hN hr Wz)
  ·exact GA hN hr) (PM hN _ _ _ _ h)
theorem jL{p:Array Nat}{nrem:Nat}(h:bnd N p):Asks N (λr=>bnd N r.2) (kas_count nrem p):=
 Asks.bind (R:=λ_=>True) (λn _=>by
  split
  ·exact h
  ·split
   ·refine⟨h _,h _,λb=>?_⟩;cases b with
    |true=>(try dsimp only);rw[if_pos rfl];exact h
    |false=>(try dsimp only);rw[if_neg (by decide)];exact GR hN (Rb hN h Wz)
   ·exact GR hN h) (O6 hN h _ _)
theorem Nv{p:Array Nat}(h:bnd N p)(k:Nat):∀(f l r:Nat),Asks N (λ_=>True) (kas_place p k f l r)
 |0,_,_=>trivial
 |f+1,l,r=>by
  unfold kas_place;split
  ·trivial
  ·refine⟨h _,h _,λb=>?_⟩;cases b with
   |true=>(try dsimp only);rw[if_pos rfl];exact Nv h k f _ _
   |false=>(try dsimp only);rw[if_neg (by decide)];exact Nv h k f _ _
theorem L6:∀(f:Nat)(p:Array Nat)(k:Nat),bnd N p->Asks N (λ_=>True) (kas_bin f p k)
 |0,_,_,_=>trivial
 |f+1,p,k,h=>Asks.bind (R:=λ_=>True) (λl _=>L6 f _ _ (Rb hN h (bubble_perm _ _ _))) (Nv hN h k _ _ _)
end
theorem qa{n:Nat}(hn:0<n):Asks n (λ_=>True) (kas_sort n):=by
 have hb:bnd n (List.toArray (Ut n)):=λi=>by
  rw[Jf];by_cases hi:i<n
  ·simp[hi]
  ·simp[hi,hn]
 refine Asks.bind (λr hr=>?_) (jL hn hb);split
 ·exact L6 hn _ _ _ hr
 ·trivial
end
def Kv(q:Int×Int):Int:=q.1*10000000+q.2
def okP(q:Int×Int):Prop:=-1000000<=q.2/\q.2<=1000000
theorem Cw{x y:Int×Int}(hx:okP x)(hy:okP y):Kv x<Kv y ↔ (x.1<y.1∨x.1=y.1/\x.2<y.2):=by unfold Kv okP at *;omega
theorem Aa{x y:Int×Int}(hx:okP x)(hy:okP y)(h:Kv x=Kv y):x=y:=by
 unfold Kv okP at *;have h1:x.1=y.1:=by omega
 have h2:x.2=y.2:=by omega
 exact Prod.ext h1 h2
section
variable{prog:Uk}{w:World}{A:Around}{E:Ui->Uj->Prop}{s:Uj}
def Pf(h:Heap)(v:Ui)(q:Int×Int):Prop:=∃a t u o n,v=.ref a/\h.get? a=some o/\o.cls=.type "tuple" /\ o.data=.seq #[.int q.1 t,.int q.2 u] n
theorem Cv{x y:Ui}{p q:Int×Int}{Q:Bool->Uj->Prop}(hx:Pf s.heap x p)(hy:Pf s.heap y q)(h:Q (decide (p.1<q.1∨p.1=q.1/\p.2<q.2)) s):Uq (model prog w) A (keyLt' (tuples' true) x y) Q E s:=by
 obtain⟨a,t,u,o,n,rfl,e1,c1,d1⟩:=hx;obtain⟨b,t',u',o',n',rfl,e2,c2,d2⟩:=hy;refine kat_lt e1 d1 e2 d2 ?_;show KatLex prog w A true _ Q [(Value.int p.1 t,Value.int q.1 t'),(Value.int p.2 u,Value.int q.2 u')] 0 s;refine kat_cons (wpAny_eqBool_int ?_);by_cases h1:p.1=q.1
 ·have e:(p.1==q.1)=true:=by simpa using h1
  rw[e];refine kat_yes (kat_cons (wpAny_eqBool_int ?_));by_cases h2:p.2=q.2
  ·have e:(p.2==q.2)=true:=by simpa using h2
   rw[e];refine kat_yes (kat_nil ?_);have:decide (p.1<q.1∨p.1=q.1/\p.2<q.2)=false:=QT (by omega);rw[this]at h;exact h
  ·have e:(p.2==q.2)=false:=by simpa using h2
   rw[e];refine kat_no (kat_one _ _ (PyProof.Rows.lt_int ?_))
   have:decide (p.1<q.1∨p.1=q.1/\p.2<q.2)=decide (p.2<q.2):=by
    by_cases z:p.2<q.2
    ·rw[Jc z,Jc (.inr ⟨h1,z⟩)]
    ·rw[QT z,QT (by omega)]
   rw[this]at h;exact h
 ·have e:(p.1==q.1)=false:=by simpa using h1
  rw[e];refine kat_no (oneLt_int ?_)
  have:decide (p.1<q.1∨p.1=q.1/\p.2<q.2)=decide (p.1<q.1):=by
   by_cases z:p.1<q.1
   ·rw[Jc z,Jc (.inl z)]
   ·rw[QT z,QT (by omega)]
  rw[this]at h;exact h
def YM(h:Heap):List Ui->LP->Prop
 |[],[]=>True
 |v::vs,q::qs=>Pf h v q/\YM h vs qs
 |_,_=>False
theorem YM.get{h:Heap}:∀{vs:List Ui}{qs:LP},YM h vs qs->vs.length=qs.length/\∀(i:Nat)(hi:i<vs.length),Pf h (vs.getD i .none) (qs.getD i (0,0))
 |[],[],_=>⟨rfl,λi hi=>absurd hi (Js _)⟩
 |v::vs,q::qs,⟨h1,h2⟩=>by
  obtain⟨e,f⟩:=YM.get h2;refine⟨by simp[e],λi hi=>?_⟩;cases i with
  |zero=>exact h1
  |succ i=>exact f i (by simpa using hi)
theorem YM.tups{h:Heap}:∀{vs:List Ui}{qs:LP},YM h vs qs->∃fs:List Ui,KatTups h vs fs/\fs.length=vs.length/\∀v∈fs,∃i t,v=.int i t
 |[],[],_=>⟨[],trivial,rfl,λ_ h=>by cases h⟩
 |v::vs,q::qs,⟨hp,h2⟩=>by
  obtain⟨a,t,u,o,n,rfl,e1,c1,d1⟩:=hp;obtain⟨fs,f1,f2,f3⟩:=YM.tups h2;refine⟨.int q.1 t::fs,.cons e1 c1 d1 rfl f1,by simp[f2],λv hv=>?_⟩;rcases QS.mp hv with rfl|hv
  ·exact⟨_,_,rfl⟩
  ·exact f3 v hv
theorem YM.mono{h h':Heap}(k:∀b o,h.get? b=some o->h'.get? b=some o):∀{vs:List Ui}{qs:LP},YM h vs qs->YM h' vs qs
 |[],[],_=>trivial
 |v::vs,q::qs,⟨hp,h2⟩=>by obtain⟨a,t,u,o,n,rfl,e1,c1,d1⟩:=hp;exact⟨⟨a,t,u,o,n,rfl,k _ _ e1,c1,d1⟩,YM.mono k h2⟩
def R5(qs:LP)(π:List Nat):Prop:=π.Perm (Ut qs.length)/\(π.map λi=>qs.getD i (0,0)).Pairwise λx y=>Kv x<=Kv y
theorem kY{a:Ul}{vs:List Ui}{qs:LP}{n:Nat}{P:Fin->Uj->Prop}(ho:s.heap.get? a=some (seqObj "list" vs.toArray n))
  (hp:YM ((s.heap.update a (Obj.mapSeq λ_=>#[]))) vs qs) (hq:∀q∈qs,okP q) (h64:vs.length<64)
  (h:∀π:List Nat,R5 qs π->P (.done (.ret .none)) {s with heap:=sortedHeap s.heap a vs (List.toArray (π.map λi=>vs.getD i .none))}) :
  Uq (model prog w) A (Builtin.«list.sort» ⟨[.ref a],[]⟩) P E s:=by
 obtain⟨hl,hget⟩:=hp.get;rw[list_sort_plain];have ha:a<s.heap.objs.size:=Qh ho;refine Qf (listItems_at ho rfl ?_);refine Qf (listUpdate_at ho rfl ?_);obtain⟨e1,ho1⟩:∃e1,(s.heap.update a (Obj.mapSeq λ_=>#[])).get? a=some (seqObj "list" #[] e1):=⟨_,get?_update_seq ho (λ_=>#[])⟩
 refine Qf (seqEpoch_at ho1 rfl ?_);refine Qf (wpAny_newTuple ?_);refine Qf (wpAny_newList ?_);refine wpAny_holding ?_;have ho6:(((s.heap.update a (Obj.mapSeq λ_=>#[])).push (seqObj "tuple" vs.toArray 0)).push (seqObj "list" #[] 0)).get? a=some (seqObj "list" #[] e1):=by rw[Heap.get?_push_ne _ _ _ (by rw[size_push',Heap.size_update];exact QQ (JT ha)),Heap.get?_push_ne _ _ _ (by rw[Heap.size_update];exact QQ ha)];exact ho1
 have hp6:YM (((s.heap.update a (Obj.mapSeq λ_=>#[])).push (seqObj "tuple" vs.toArray 0)).push (seqObj "list" #[] 0)) vs qs:=hp.mono λb o e=>Qj _ (Qj _ e)
 show Uq (model prog w) A _ P E {s with heap:=((s.heap.update a (Obj.mapSeq λ_=>#[])).push (seqObj "tuple" vs.toArray 0)).push (seqObj "list" #[] 0)};dsimp only;have hsz:vs.toArray.size=vs.length:=by simp
 by_cases h2:vs.toArray.size<2
 ·rw[Qm h2,Qm h2];refine Qf (Qk ?_);rw[StateT.run_pure];refine Qf (Qk ?_);dsimp only;refine Qf (seqEpoch_at ho6 rfl ?_);refine Qf (listUpdate_at ho6 rfl ?_ (hsz2:=by rw[Array.size_map];show(pairsOf vs).size<=_;rw[pairsOf_size,sizeLine_eq];omega));simp only[bne_self_eq_false,J6,if_false]
  have hid:(arrOf (SortSt.mk' general' (vs.toArray.zip vs.toArray) #[] 7 none)).map (·.2)=List.toArray ((Ut vs.length).map λi=>vs.getD i .none):=by
   show(vs.toArray.zip vs.toArray).map (·.2)=_
   apply Array.toList_inj.mp;apply List.ext_getElem?;intro i;simp only[Array.toList_map,Array.toList_zip,Qd,List.getElem?_zip_eq_some];by_cases hi:i<vs.length
   ·simp[List.getElem?_zip_eq_some,hi,List.getElem?_range]
   ·simp[hi]
  rw[hid];refine Qk (h (Ut vs.length) ⟨by rw[hl],?_⟩);rw[List.pairwise_map];rw[hsz]at h2
  rcases(show vs.length=0∨vs.length=1 by omega)with z|z<;>rw[z]
  ·exact .nil
  ·exact List.pairwise_singleton _ _
 ·rw[QB h2,QB h2];rw[hsz]at h2;obtain⟨fs,f1,f2,f3⟩:=hp6.tups;refine Qf (kat_kind (T:=.type "int") f1 (by omega) (λv hv=>by obtain⟨i,t,rfl⟩:=f3 v hv;exact(show Looks _ _ (pure (Value.type "int")) _ from .now)) rfl ?_)
  refine Qf (QK (kat_run (ks:=vs) (G:=λp s'=>s' = {s with heap:=((s.heap.update a (Obj.mapSeq λ_=>#[])).push (seqObj "tuple" vs.toArray 0)).push (seqObj "list" #[] 0)}/\p=Kh (kl λi=>Kv (qs.getD i (0,0))) (kas_sort vs.length))
   (Q:=λst' s'=>s' = {s with heap:=((s.heap.update a (Obj.mapSeq λ_=>#[])).push (seqObj "tuple" vs.toArray 0)).push (seqObj "list" #[] 0)}/\failedOf st'=none/\arrOf st'=(Kh (kl λi=>Kv (qs.getD i (0,0))) (kas_sort vs.length)).map (kas_item (vs.toArray.zip vs.toArray)))
   rfl (by omega) h64 (λp st' s' a1 a2 a3 a4=>⟨a4.1,a3,by rw[a2,a4.2]⟩) ?_) ?_ λ_ _ e=>e)
  ·refine L7 (N:=vs.length) (R:=λ_=>True) (lt:=kl λi=>Kv (qs.getD i (0,0))) (λi j C hi hj hC=>?_) _ _ (qa (by omega)) ⟨rfl,rfl⟩;refine Cv (YM.get hp6 |>.2 i hi) (YM.get hp6 |>.2 j hj) ?_;have oi:okP (qs.getD i (0,0)):=hq _ (by rw[Qo,Qe (by omega)];exact JB _);have oj:okP (qs.getD j (0,0)):=hq _ (by rw[Qo,Qe (by omega)];exact JB _);have e:decide ((qs.getD i (0,0)).1<(qs.getD j (0,0)).1∨(qs.getD i (0,0)).1=(qs.getD j (0,0)).1/\(qs.getD i (0,0)).2<(qs.getD j (0,0)).2)=kl (λi=>Kv (qs.getD i (0,0))) i j:=by unfold kl;exact decide_eq_decide.mpr (Cw oi oj).symm
   rw[e];exact hC
  ·rintro⟨⟨⟩,st'⟩ s' ⟨rfl,hf,har⟩;dsimp only;obtain⟨b1,b2,b3⟩:=qb (key:=λi=>Kv (qs.getD i (0,0))) (n:=vs.length) (by omega);generalize Kh (kl λi=>Kv (qs.getD i (0,0))) (kas_sort vs.length)=p at har b1 b2 b3;have hout:=kat_snds (ks:=vs) (vs:=vs) rfl har;have hsz2:((arrOf st').map (·.2)).size=vs.length:=by rw[hout,QU,Qb,Jy,b2]
   refine Qf (seqEpoch_at ho6 rfl ?_);refine Qf (listUpdate_at ho6 rfl ?_ (hsz2:=by rw[hsz2,sizeLine_eq];omega));rw[hf];simp only[bne_self_eq_false,J6,if_false];rw[hout];refine Qk (h p.toList ⟨?_,?_⟩)
   ·have:=Array.perm_iff_toList_perm.mp b1;rw[←hl];exact this
   ·rw[List.pairwise_map,List.pairwise_iff_getElem];intro i j hi hj hij;rw[Jy,b2]at hi hj;have:=b3 i j (by omega) hj;unfold KA at this;rw[Jf,Jf,JM (by omega),JM (by omega)]at this;simpa using this
end
section
variable{prog:Uk}{w:World}{A:Around}{E:Ui->Uj->Prop}{s:Uj}
theorem kL{l:Ul}{vs:List Ui}{qs:LP}{Q:Ui->Uj->Prop}(hl:s.heap.IsList l vs.toArray)(hp:YM s.heap vs qs)(hq:∀q∈qs,okP q)(h64:vs.length<64)
  (h:∀π:List Nat,R5 qs π->Q (.ref (s.heap.objs.size+1)) {s with heap:=sortedAll s.heap vs (List.toArray (π.map λi=>vs.getD i .none))}) :
  Uq (model prog w) A (call (.builtin "sorted") [.ref l]) Q E s:=by
 refine Calls.call_function_entry kind_sorted plain_sorted entry_sorted (args_sorted1 _) ?_;unfold Builtin.«sorted»;refine Qf (m:=checkCount "sorted" 1 1 _) (Qk ?_);refine Qf (collect_list hl ?_);refine Qf (wpAny_newList ?_);have hsz:((s.heap.push (seqObj "list" #[] 0)).update s.heap.objs.size (Obj.mapSeq (· ++ vs.toArray))).objs.size=s.heap.objs.size+1:=by rw[Heap.size_update,size_push']
 have hoL:(((s.heap.push (seqObj "list" #[] 0)).update s.heap.objs.size (Obj.mapSeq (· ++ vs.toArray))).push (seqObj "list" vs.toArray 0)).get? (s.heap.objs.size+1)=some (seqObj "list" vs.toArray 0):=by rw[←hsz];exact QG _ rfl
 show Uq _ _ _ _ _ {s with heap:=((s.heap.push (seqObj "list" #[] 0)).update s.heap.objs.size (Obj.mapSeq (· ++ vs.toArray))).push (seqObj "list" vs.toArray 0)};rw[hsz];refine Qf (wpAny_holding (wpAny_call_entry slot_list_sort ⟨_,hoL,rfl⟩ entry_list_sort (kY (qs:=qs) hoL (hp.mono λb o e=>?_) hq h64 λπ a1=>⟨_,rfl,?_⟩) (args_list_sort _)))
 ·have hlt:b<s.heap.objs.size:=Qh e;dsimp only;have hlt':(b:Nat)<s.heap.objs.size:=hlt;rw[Heap.get?_update_ne _ _ _ _ (QQ (JT hlt')),Heap.get?_push_ne _ _ _ (by rw[hsz];exact QQ (JT hlt')),Heap.get?_update_ne _ _ _ _ (QQ hlt),Heap.get?_push_ne _ _ _ (QQ hlt)];exact e
 ·exact Qk ⟨_,rfl,h π a1⟩
end
end DL
namespace DL
open PySem PySem.Spec L2
open PyProof.Rows hiding St
section
variable{X:Cx}
theorem L5{pins:List (Ul×Obj)}{s:Uj}{σ:St}{H:Hp}(I:Inv X pins σ H s):∀{as:List Ul}{us:List Ui}{qs:LP},Vals (as.map V.ref) us->as.length=qs.length->(∀(i:Nat) a q,as[i]?=some a->qs[i]?=some q->SqT X.K H a [.int q.1,.int q.2])->YM s.heap us qs
 |[],_,[],.nil,_,_=>trivial
 |a::as,_,q::qs,.cons r t,hl,h=>by refine⟨?_,L5 I t (by simpa using hl) λi a q h1 h2=>h (i+1) a q (by simpa using h1) (by simpa using h2)⟩;cases r;obtain⟨its,rv,⟨o,e,c,n,d⟩,_⟩:=I.tuple (h 0 a q rfl rfl);obtain⟨u,v,rfl,r1,r2⟩:=rv.two;obtain⟨t1,rfl⟩:=r1;obtain⟨t2,rfl⟩:=r2;exact⟨a,t1,t2,o,n,rfl,e,c,by simpa using d⟩
theorem HY{as:List Ul}{us:List Ui}(r:Vals (as.map V.ref) us):∀(π:List Nat),(∀i∈π,i<as.length)->Vals (π.map λi=>V.ref (as.getD i 0)) (π.map λi=>us.getD i .none)
 |[],_=>.nil
 |i::π,h=>by
  refine .cons ?_ (HY r π λj hj=>h j (Ql _ hj));have hi:=h i Qn;have e:(as.map V.ref)[i]?=some (.ref (as.getD i 0)):=by rw[List.getElem?_map,List.getElem?_eq_getElem hi];simp[List.getD,List.getElem?_eq_getElem hi]
  obtain⟨u,e2,ru⟩:=r.get e;simp only[List.getD,e2,J0];exact ru
theorem jK:YL X (.builtin "sorted") (λxs H Q=>∃l,∃as:List Ul,∃qs:LP,xs=[.ref l]/\SqL X.K H l (as.map V.ref)/\as.length=qs.length/\(∀(i:Nat) a q,as[i]?=some a->qs[i]?=some q->SqT X.K H a [.int q.1,.int q.2])/\(∀q∈qs,okP q)/\qs.length<64 /\
  ∀π p,R5 qs π->H p=none->Q (.ref p) (upd H p (.lst (π.map λi=>V.ref (as.getD i 0))))):=by
 intro pins s σ H xs us Q I rx h;obtain⟨l,as,qs,rfl,hq,hl,ht,ho,hb,q⟩:=h;obtain⟨u,rfl,ru⟩:=rx.one;cases ru;obtain⟨its,rv,p,hz⟩:=I.list hq;have hn:its.length=qs.length:=by have:=rv.length;rw[Qb]at this;omega
 refine kL (qs:=qs) p.isList (L5 I rv hl ht) ho (by omega) λπ hπ=>?_
 obtain⟨e,he⟩:=sortedAll_at s.heap its (List.toArray (π.map λi=>its.getD i .none));have hπl:∀i∈π,i<as.length:=λi hi=>by have:=hπ.1.mem_iff.mp hi;rw[Q9]at this;omega
 refine⟨.ref (s.heap.objs.size+1),_,I.laid (t':=s.toks) (λb o=>sortedAll_old) (JQ _) (show ZH X.prog X.w _ _ _ (.lst (π.map λi=>V.ref (as.getD i 0)))from⟨?_,_,e,HY rv π hπl,he⟩),rfl,q π _ hπ (I.hok.fresh (JQ _))⟩;rw[Qb,hπ.1.length_eq,Qq];rw[Qb]at hz;omega
def Pe:D->Option (Int×Int)
 |.tuple [.int a,.int b]=>some (a,b)
 |_=>none
def VG:List D->Option LP
 |[]=>some []
 |d::r=>(Pe d).bind λq=>(VG r).map (q :: ·)
def Kc(q:Int×Int):D:=.tuple [.int q.1,.int q.2]
theorem A9{d:D}{q:Int×Int}(h:Pe d=some q):d=Kc q:=by
 unfold Pe at h;split at h
 ·cases h;rfl
 ·cases h
theorem GC:∀{ds:List D}{qs:LP},VG ds=some qs->ds=qs.map Kc
 |[],qs,h=>by cases h;rfl
 |d::r,qs,h=>by
  unfold VG at h;cases z:Pe d with
  |none=>rw[z]at h;cases h
  |some q=>
   rw[z]at h;cases z2:VG r with
   |none=>rw[z2]at h;cases h
   |some qs'=>rw[z2]at h;cases h;rw[A9 z,GC z2];rfl
theorem Fb:∀qs:LP,VG (qs.map Kc)=some qs
 |[]=>rfl
 |q::r=>by rw[Qt,VG,Fb r];rfl
def Wm(qs:LP):LP:=qs.mergeSort λx y=>decide (Kv x<=Kv y)
theorem Gz(qs:LP):(Wm qs).Perm qs:=List.mergeSort_perm ..
theorem HX(qs:LP):(Wm qs).Pairwise λx y=>Kv x<=Kv y:=by have:=List.pairwise_mergeSort (le:=λx y:Int×Int=>decide (Kv x<=Kv y)) (by intro a b c;simp;omega) (by intro a b;simp;omega) qs;exact this.imp (by simp)
theorem O5:∀{a b:LP},(∀x∈a,okP x)->a.Perm b->a.Pairwise (λx y=>Kv x<=Kv y)->b.Pairwise (λx y=>Kv x<=Kv y)->a=b
 |[],b,_,p,_,_=>by rw[List.nil_perm.1 p]
 |x::a,[],_,p,_,_=>by have:=p.length_eq;simp at this
 |x::a,y::b,ok,p,ha,hb=>by
  have hx:Kv y<=Kv x:=by
   rcases QS.1 (p.mem_iff.1 (Qn ..))with e|e
   ·rw[e];exact Q3 _
   ·exact(Ju.1 hb).1 x e
  have hy:Kv x<=Kv y:=by
   rcases QS.1 (p.mem_iff.2 (Qn ..))with e|e
   ·rw[e];exact Q3 _
   ·exact(Ju.1 ha).1 y e
  have oky:okP y:=ok y (p.mem_iff.2 (Qn ..));have e:=Aa (ok x (Qn ..)) oky (J9 hy hx);subst e;rw[O5 (λz hz=>ok z (Ql _ hz)) (List.Perm.cons_inv p) (Ju.1 ha).2 (Ju.1 hb).2]
theorem B9{qs:LP}{π:List Nat}(ok:∀q∈qs,okP q)(h:R5 qs π):(π.map λi=>qs.getD i (0,0))=Wm qs:=by
 have hp:(π.map λi=>qs.getD i (0,0)).Perm qs:=by
  have h1:=h.1.map λi=>qs.getD i (0,0)
  have e:(Ut qs.length).map (λi=>qs.getD i (0,0))=qs:=by
   apply List.ext_getElem?;intro i;rw[Qd];by_cases hi:i<qs.length
   ·rw[List.getElem?_range hi,List.getElem?_eq_getElem hi];simp[List.getD,List.getElem?_eq_getElem hi]
   ·rw[Jd (by rw[Qq];omega),Jd (by omega)];rfl
  rw[e]at h1;exact h1
 exact O5 (λx hx=>ok x (hp.mem_iff.mp hx)) (hp.trans (Gz qs).symm) h.2 (HX qs)
def okPB(q:Int×Int):Bool:=decide (-1000000<=q.2/\q.2<=1000000)
def Ry:List D->Option D
 |[.list ds]=>(match VG ds with
  |some qs=>if qs.length<64/\qs.all okPB=true then some (.list ((Wm qs).map Kc))else none
  |none=>none)
 |_=>none
theorem jJ{xs:List D}{d:D}(h:Ry xs=some d):∃qs:LP,xs=[.list (qs.map Kc)]/\qs.length<64/\(∀q∈qs,okP q)/\d=.list ((Wm qs).map Kc):=by
 unfold Ry at h;split at h
 ·rename_i ds;cases z:VG ds with
  |none=>rw[z]at h;cases h
  |some qs=>
   rw[z]at h;dsimp only at h;split at h
   ·rename_i c;cases h;exact⟨qs,by rw[GC z],c.1,λq hq=>(show -1000000<=q.2/\q.2<=1000000 from Qa (Jj.mp c.2 q hq)),rfl⟩
   ·cases h
 ·cases h
theorem HW{K:Frag}{G:Hp}:∀{vs:List V}{qs:LP},Reps K G vs (qs.map Kc)->∃as:List Ul,vs=as.map V.ref/\as.length=qs.length/\∀(i:Nat) a q,as[i]?=some a->qs[i]?=some q->SqT K G a [.int q.1,.int q.2]
 |_,[],.nil=>⟨[],rfl,rfl,λi a q h=>by simp at h⟩
 |_,q::qs,.cons r t=>by
  obtain⟨as,rfl,hl,h⟩:=HW t;obtain⟨a,ws,rfl,h1,r1⟩:=r.tup_inv;cases r1 with
  |cons ra rb=>
   obtain⟨v,rfl,rb'⟩:=rb.one_inv;refine⟨a::as,rfl,by simp[hl],λi a' q' e1 e2=>?_⟩;cases i with
   |zero=>cases e1;cases e2;rw[ra.int_inv,rb'.int_inv]at h1;exact h1
   |succ i=>exact h i a' q' (by simpa using e1) (by simpa using e2)
theorem B8{K:Frag}{G:Hp}{a:Ul}{q:Int×Int}(h:SqT K G a [.int q.1,.int q.2]):Rep K G (.ref a) (Kc q):=.tup h (.cons (.int _) (.cons (.int _) .nil))
theorem HV{K:Frag}{G:Hp}{as:List Ul}{qs:LP}(hl:as.length=qs.length)(h:∀(i:Nat) a q,as[i]?=some a->qs[i]?=some q->SqT K G a [.int q.1,.int q.2]):∀π:List Nat,(∀i∈π,i<qs.length)->Reps K G (π.map λi=>V.ref (as.getD i 0)) ((π.map λi=>qs.getD i (0,0)).map Kc)
 |[],_=>.nil
 |i::π,hb=>by
  refine .cons ?_ (HV hl h π λj hj=>hb j (Ql _ hj));have hi:=hb i Qn;refine B8 (h i _ _ ?_ ?_)
  ·rw[List.getElem?_eq_getElem (by omega)];simp[List.getD,List.getElem?_eq_getElem (show i<as.length by omega)]
  ·rw[List.getElem?_eq_getElem hi];simp[List.getD,List.getElem?_eq_getElem hi]
theorem Cu:YV X (.builtin "sorted") Ry:=by refine⟨_,jK,λvs G H ds d Q s r e k=>?_⟩;obtain⟨qs,rfl,h64,ok,rfl⟩:=jJ e;obtain⟨v,rfl,q1⟩:=r.one_inv;obtain⟨l,ws,rfl,h1,r1⟩:=q1.lst_inv;obtain⟨as,rfl,hl,ht⟩:=HW r1;refine⟨l,as,qs,rfl,s.seq h1,hl,λi a q e1 e2=>YZ s (ht i a q e1 e2),ok,h64,λπ p hπ hp=>?_⟩;have hb:∀i∈π,i<qs.length:=λi hi=>Q9.mp (hπ.1.mem_iff.mp hi);have rr:=(HV hl ht π hb).mono (Zx (s.free hp):Same G (upd G p (.lst (π.map λi=>V.ref (as.getD i 0)))));rw[B9 ok hπ]at rr;exact k _ _ _ (Ext.new s hp) (.lst (SqL.of K9) rr)
theorem YV.or{f:Ui}{p q:List D->Option D}(h1:YV X f p)(h2:YV X f q):YV X f (λxs=>(p xs).orElse λ_=>q xs):=by
 obtain⟨r1,c1,k1⟩:=h1;obtain⟨r2,c2,k2⟩:=h2;refine⟨λxs H Q=>r1 xs H Q∨r2 xs H Q,λpins s σ H xs us Q I rx h=>?_,λvs G H ds d Q s r e k=>?_⟩
 ·rcases h with h|h
  ·exact c1 pins s σ H xs us Q I rx h
  ·exact c2 pins s σ H xs us Q I rx h
 ·dsimp only at e;cases z:p ds with
  |some d'=>rw[z]at e;cases e;exact .inl (k1 vs G H ds _ Q s r z k)
  |none=>rw[z]at e;exact .inr (k2 vs G H ds _ Q s r e k)
def VU(xs:List D):Option D:=(VY xs).orElse λ_=>Ry xs
theorem EQ:YV X (.builtin "sorted") VU:=CF.or Cu
theorem Gy{ns:List Int}(h:ns.length<64):VU [.list (ns.map .int)]=some (.list ((Z7 ns).map .int)):=by unfold VU;rw[qi h];rfl
theorem A8{qs:LP}(h:qs.length<64)(ok:∀q∈qs,okP q):VU [.list (qs.map Kc)]=some (.list ((Wm qs).map Kc)):=by
 cases qs with
 |nil=>
  have e1:Wm []=[]:=by unfold Wm;simp
  have e2:Z7 []=[]:=by unfold Z7;simp
  have:=Gy (ns:=[]) (by decide);rw[e2]at this;rw[e1];exact this
 |cons q r=>have e1:VY [.list ((q::r).map Kc)]=none:=rfl;unfold VU;rw[e1,Option.orElse];unfold Ry;dsimp only;rw[Fb];exact Qm ⟨h,Jj.mpr λq hq=>Jc (show -1000000<=q.2/\q.2<=1000000 from ok q hq)⟩
end
section
variable{X:Cx}{B G0:Hp}{e o a b c tg:Uo}{pos p2:Pos}{es rest:List Uo}{te to ti:TE}
def VT{β:Type}(p:D->D->Option β)(f:M D)(j:Nat):M β:=U6 f λx=>λZ=>match Z[j]? with
 |some (some (.pub d))=>U8 (p x d) Z
 |some (some (.own ds))=>U8 (p x (.list ds)) Z
 |_=>.bad
theorem FL{K:Frag}{σ:St}{H:Hp}{p:D->D->Option Bool}{r:R2}{j:Nat}{f:M D}{Q:Bool->Hp->Prop}{QV:VK}(hq:∀t H3,Q t H3->QV (.bl t) H3)
  (hr:∀v u G H x y d Q,Same G H->Rep K G v x->Rep K G u y->p x y=some d->Q (.bl d) H->r v u H Q)
  (q:tBo K B G0 (VT p f j) σ H Q):tD K B G0 f σ H λx H1=>K2 j σ H1 λy H2=>r x y H2 QV:=by
 refine tM.one (R:=Rep K) q λv H2 G Z x k rx a=>?_
 cases z:Z[j]? with
 |none=>rw[z]at a;exact a.elim
 |some o=>
  cases o with
  |none=>rw[z]at a;exact a.elim
  |some sl=>
   cases sl with
   |deep _ _=>rw[z]at a;exact a.elim
   |pub d=>rw[z]at a;dsimp only at a;obtain⟨d',e',a'⟩:=aft.opt a;obtain⟨u,h1,h2⟩:=k.pub j d z;exact⟨u,h1,hr v u G H2 x d d' _ k.gh rx h2 e' (hq _ _ (a' d' G H2 k (.refl _) rfl))⟩
   |own ds=>rw[z]at a;dsimp only at a;obtain⟨d',e',a'⟩:=aft.opt a;obtain⟨ad,vs,h1,h2,h3,h4,h5⟩:=k.own j ds z;exact⟨.ref ad,h1,hr v (.ref ad) H2 H2 x (.list ds) d' _ (.refl _) (rx.mono k.gh) (.lst (SqL.of h4) (h5.mono k.gh)) e' (hq _ _ (a' d' G H2 k (.refl _) rfl))⟩
theorem Ct{op:CmpOp}{p:D->D->Option Bool}{j:Nat}{f:M D}(o:OpB X (Us op) p)(ha:PE X a (tD X.K B G0 f))(hb:PE X b (K2 j))(hm:behindInMarks op b=false) :
  PT X (.Compare a [op] [b] pos) (tBo X.K B G0 (VT p f j)):=by
 obtain⟨r,h,i⟩:=o;exact Yh (OG h ha hb hm) λσ H Q q=>FL (λt H3 z=>⟨t,rfl,z⟩) i q
theorem O4{β:Type}{p:D->D->Option β}{f:M D}{j:Nat}{Z Z1:UJ}{x:D}{ds:List D}{r:β}(h1:f Z=.ok x Z1)(h2:Z1[j]?=some (some (.own ds)))(h3:p x (.list ds)=some r):VT p f j Z=.ok r Z1:=by unfold VT;exact KP h1 (by rw[h2];exact Yj h3)
end
def Rx(Z:UJ)(j:Nat):Option D:=match Z[j]? with
 |some (some (.pub d))=>some d
 |some (some (.own ds))=>some (.list ds)
 |some (some (.deep _ d))=>some d
 |_=>none
theorem EOk.tree{K:Frag}{B G0 G H:Hp}{σ:St}{Z:UJ}{j:Nat}{d:D}(k:EOk K B G0 G H σ Z)(h:Rx Z j=some d):∃v,σ[j]?=some (some v)/\Rep K H v d:=by
 unfold Rx at h;split at h
 ·rename_i d' e;cases h;obtain⟨v,h1,h2⟩:=k.pub j _ e;exact⟨v,h1,h2.mono k.gh⟩
 ·rename_i ds e;cases h;obtain⟨a,vs,h1,h2,h3,h4,h5⟩:=k.own j ds e;exact⟨.ref a,h1,.lst (SqL.of h4) (h5.mono k.gh)⟩
 ·rename_i p d' e;cases h;obtain⟨ω,k1,k2⟩:=k.dp;obtain⟨v,fp,s,r,_⟩:=k1 j p _ e;exact⟨v,s,r.rep k.gh⟩
 ·cases h
end DL
namespace HT
open PySem PyProof.Rows
end HT
namespace DL
open PySem PySem.Spec L2
open PyProof.Rows hiding St
section
variable{X:Cx}
def Sy(x y:D):Option (List D):=match x,y with
 |.list xs,.int k=>if -1000000<=k/\k<=1000000/\xs.length*k.toNat<=1000000 then some (Uu k.toNat xs).flatten else none
 |_,_=>none
theorem A7{x y:D}{ds:List D}(h:Sy x y=some ds):∃xs k,x=.list xs/\y=.int k/\(-1000000<=k/\k<=1000000/\xs.length*k.toNat<=1000000)/\ds=(Uu k.toNat xs).flatten:=by
 unfold Sy at h;split at h
 ·split at h
  ·rename_i xs k c;cases h;exact⟨xs,k,rfl,rfl,c,rfl⟩
  ·cases h
 ·cases h
def Sx(f g:M D):M (List D):=U6 f λx=>U6 g λy=>U8 (Sy x y)
theorem ME{f g:M D}(ha:PE X a (tD X.K B G0 f))(hb:PE X b (tD X.K B G0 g)):PE X (.BinOp a .Mult b pos) (tL X.K B G0 (Sx f g)):=
 Kn (NW Lh ha hb) λσ H Q ⟨G,Z,k,q⟩=>by
  refine⟨G,Z,k,?_⟩;unfold Sx U6 at q;cases z:f Z with
  |bad=>rw[z]at q;exact q.elim
  |ok x Z1=>
   rw[z]at q;dsimp only at q;intro v G1 H1 k1 s1 r1;refine⟨G1,Z1,k1,?_⟩;cases z2:g Z1 with
   |bad=>rw[z2]at q;exact q.elim
   |ok y Z2=>
    rw[z2]at q;dsimp only[U8]at q;intro u G2 H2 k2 s2 r2;cases z3:Sy x y with
    |none=>rw[z3]at q;exact q.elim
    |some ds=>rw[z3]at q;obtain⟨xs,i,rfl,rfl,c,rfl⟩:=A7 z3;obtain⟨l,vs,rfl,h1,w⟩:=r1.lst_inv;exact⟨l,i,vs,rfl,r2.int_inv,k2.gh.seq (s2.seq h1),by omega,by omega,by rw[w.length];exact QR c.2.2 lim,λp hp=>q p _ G2 _ (k2.ext (Ext.hid k2.gh hp)) (s1.trans s2) (NewL.of k2 hp ((w.mono s2).rep _))⟩
theorem MD{f g:M D}{Z Z1 Z2:UJ}{x:D}{n:Nat}(h1:f Z=.ok (.list [x]) Z1)(h2:g Z1=.ok (.int n) Z2)(h:n<=1000):Sx f g Z=.ok (Uu n x) Z2:=by
 unfold Sx U6;rw[h1];dsimp only;rw[h2];dsimp only[U8]
 have e:Sy (.list [x]) (.int n)=some (Uu n x):=by
  unfold Sy;dsimp only;rw[Qm ⟨by omega,by omega,by show 1*_<=_;omega⟩]
  congr 1
  rw[QD];clear h2 h;induction n with
  |zero=>rfl
  |succ n ih=>rw[QW,QN,ih,QW];rfl
 rw[e]
end
end DL
namespace DL
open PySem
theorem lz0{P:List Ui->Prop}{us:List Ui}(hl:us.length=0)(h:P []):P us:=by
 cases us with
 |nil=>exact h
 |cons a r=>cases hl
theorem lzS{P:List Ui->Prop}{us:List Ui}{n:Nat}(hl:us.length=n+1)(h:∀a r,r.length=n->P (a::r)):P us:=by
 cases us with
 |nil=>cases hl
 |cons a r=>exact h a r (Nat.succ.inj hl)
theorem lz1{P:List Ui->Prop}{us:List Ui}(hl:us.length=1)(h:∀a,P [a]):P us:=lzS hl λa r e=>lz0 (P:=λr=>P (a::r)) e (h a)
theorem lz2{P:List Ui->Prop}{us:List Ui}(hl:us.length=2)(h:∀a b,P [a,b]):P us:=lzS hl λa r e=>lz1 (P:=λr=>P (a::r)) e (h a)
theorem lz3{P:List Ui->Prop}{us:List Ui}(hl:us.length=3)(h:∀a b c,P [a,b,c]):P us:=lzS hl λa r e=>lz2 (P:=λr=>P (a::r)) e (h a)
theorem lz4{P:List Ui->Prop}{us:List Ui}(hl:us.length=4)(h:∀a b c d,P [a,b,c,d]):P us:=lzS hl λa r e=>lz3 (P:=λr=>P (a::r)) e (h a)
theorem lz5{P:List Ui->Prop}{us:List Ui}(hl:us.length=5)(h:∀a b c d e,P [a,b,c,d,e]):P us:=lzS hl λa r e=>lz4 (P:=λr=>P (a::r)) e (h a)
theorem bz1{fd:Um}{ps:List Str}{us:List Ui}(hl:us.length=1)(h:∀a,bindArgs fd {pos:=[a]}=pure (ps.zip [a])):bindArgs fd {pos:=us}=pure (ps.zip us):=lz1 (P:=λus=>bindArgs fd {pos:=us}=pure (ps.zip us)) hl h
theorem bz2{fd:Um}{ps:List Str}{us:List Ui}(hl:us.length=2)(h:∀a b,bindArgs fd {pos:=[a,b]}=pure (ps.zip [a,b])):bindArgs fd {pos:=us}=pure (ps.zip us):=lz2 (P:=λus=>bindArgs fd {pos:=us}=pure (ps.zip us)) hl h
theorem bz3{fd:Um}{ps:List Str}{us:List Ui}(hl:us.length=3)(h:∀a b c,bindArgs fd {pos:=[a,b,c]}=pure (ps.zip [a,b,c])):bindArgs fd {pos:=us}=pure (ps.zip us):=lz3 (P:=λus=>bindArgs fd {pos:=us}=pure (ps.zip us)) hl h
theorem bz4{fd:Um}{ps:List Str}{us:List Ui}(hl:us.length=4)(h:∀a b c d,bindArgs fd {pos:=[a,b,c,d]}=pure (ps.zip [a,b,c,d])):bindArgs fd {pos:=us}=pure (ps.zip us):=lz4 (P:=λus=>bindArgs fd {pos:=us}=pure (ps.zip us)) hl h
theorem bz5{fd:Um}{ps:List Str}{us:List Ui}(hl:us.length=5)(h:∀a b c d e,bindArgs fd {pos:=[a,b,c,d,e]}=pure (ps.zip [a,b,c,d,e])):bindArgs fd {pos:=us}=pure (ps.zip us):=lz5 (P:=λus=>bindArgs fd {pos:=us}=pure (ps.zip us)) hl h
end DL
namespace DL
open PySem PySem.Spec L2
open PyProof.Rows hiding St
def whole(h:Heap):Frag:=(Ut h.objs.size).filterMap λa=>(h.get? a).map λo=>(a,o)
theorem HU{g:Ul->Option Obj}{x:Ul}:∀l:List Ul,(l.filterMap λa=>(g a).map λo=>(a,o)).lookup x=if x∈l then g x else none
 |[]=>rfl
 |y::l=>by
  have ih:=HU (g:=g) (x:=x) l;by_cases e:x=y
  ·subst e;rw[Qm Qn];cases z:g x with
   |none=>rw[List.filterMap_cons_none (by rw[z];rfl),ih,z];split<;>rfl
   |some o=>rw[List.filterMap_cons_some (by rw[z];rfl),QZ,beq_self_eq_true]
  ·have m:(x∈y::l)=(x∈l):=by simp[List.mem_cons,e]
   have b:(x==y)=false:=by simpa using e
   have ih':(if x∈y::l then g x else none)=_:=(by simp only[m];exact ih.symm)
   rw[ih'];cases z:g y with
   |none=>rw[List.filterMap_cons_none (by rw[z];rfl)]
   |some o=>rw[List.filterMap_cons_some (by rw[z];rfl),QZ,b]
theorem RS{h:Heap}{a:Ul}:(whole h).lookup a=h.get? a:=by
 unfold whole;rw[HU];split
 ·rfl
 ·rename_i n;cases z:h.get? a with
  |none=>rfl
  |some o=>exact absurd (Q9.mpr (Qh z)) n
theorem B7(h:Heap):(whole h).In h:=λa o e=>by rw[RS]at e;exact e
def FJ(st:Stmt):Option DefRec:=match st with
 |.FunctionDef name a b _ _ _ sc _ _ pos=>some ⟨name,a,b,sc,pos⟩
 |_=>none
def Oi(st:Stmt):Option Str:=match st with
 |.FunctionDef name _ _ _ _ _ _ _ _ _=>some name
 |_=>none
def FI(st:Stmt):Pos:=match st with
 |.FunctionDef _ _ _ _ _ _ _ _ _ pos=>pos
 |_=>⟨0,0,0,0⟩
abbrev ZB(p:Uk)(i:Nat):Stmt:=p.main.body.getD i (.Pass ⟨0,0,0,0⟩)
def Rw(p:Uk)(ix:List Nat):List DefRec:=ix.filterMap λi=>FJ (ZB p i)
section
variable{p q:Uk}{loose:List Str}{mean:ExcName->Option Ui}{mg mb:Str->Option Ui}{h:Heap}{w:World}
theorem N0{ix:List Nat}(T:Top q loose mean mg mb h)(e:recsOf q=Rw p ix)(i:Nat)(x:Str)(hi:ix.contains i=true)(hn:Oi (ZB p i)=some x):∃f fd,mg x=some (.ref f)/\Fun (whole h) x x (ZB p i) f fd:=by
 cases hs:ZB p i with
 |FunctionDef name a b _ _ _ sc _ _ pos=>
  rw[hs]at hn;cases hn;have hd:(⟨x,a,b,sc,pos⟩:DefRec)∈recsOf q:=by rw[e];exact List.mem_filterMap.mpr ⟨i,by simpa using hi,by rw[hs];rfl⟩
  obtain⟨f,⟨oc,od,dt,osl⟩,pm,cd,doc,h1,h2,h3,h4⟩:=T.fn _ hd;have h3:dt=_:=h3;subst h3;refine⟨f,_,h1,⟨⟨oc,od,.none,doc,pm,_,cd,_,osl,rfl,by rw[RS];exact h2,?_⟩,?_⟩⟩
  ·obtain⟨c,⟨_,_,dc,_⟩,vs,t,rfl,g1,g2,g3⟩:=h4;have g2:dc=_:=g2;subst g2;unfold PySem.W.codeIn;dsimp only;rw[RS,g1];dsimp only;have g4:vs.toList[1]?=some (.str x t):=by rw[Array.getElem?_toList];exact g3
   cases hv:vs.toList with
   |nil=>rw[hv]at g4;cases g4
   |cons v0 r=>
    rw[hv]at g4;cases r with
    |nil=>cases g4
    |cons v1 r=>cases g4;exact beq_self_eq_true _
  ·unfold PySem.W.keepIn;dsimp only;rw[RS,h2]
 |_=>rw[hs]at hn;cases hn
theorem A6{K:Frag}{x qual y:Str}{st:Stmt}{f:Ul}{fd:Um}(F:Fun K x qual st f fd)
  (hb:∀(kV doc pm:Ui)(an:Option Ul)(cdv ct v:Ui),bindArgs (PySem.W.fnOf x qual (SU st) (Wu st) (Z8 st) .none kV doc pm an cdv ct) ⟨[v],[]⟩=pure [(y,v)]) (s:Uj) (v:Ui):BindsTo s fd ⟨[v],[]⟩ [(y,v)]:=by
 obtain⟨oc,od,kV,doc,pm,an,cdv,ct,osl,rfl,lk,hcd⟩:=F.ex;exact .of_eq (hb kV doc pm an cdv ct v)
def R4(q:Uk)(loose:List Str)(x:Str):Bool:=
 !startupNames.contains x && !loose.contains x && !((recsOf q).map (·.name)).contains x && !((litsOf q).map (·.1)).contains x && !((clssOf q loose).map (·.name)).contains x
theorem Y0(T:Top q loose mean mg mb h){xs:List Str}(e:xs.all (R4 q loose)=true){x:Str}(hx:x∈xs):mg x=none:=by have:=Jj.mp e x hx;unfold R4 at this;simp only[Ji,Bool.not_eq_true',List.contains_eq_mem,decide_eq_false_iff_not]at this;exact T.free x this.1.1.1.1 this.1.1.1.2 this.1.1.2 this.1.2 this.2
theorem PL(T:Top q loose mean mg mb h){x:Str}{i:Int}(e:valOf q x=some (.int i)):∃t,mg x=some (.int i t):=by obtain⟨v,h1,h2⟩:=T.const x _ e;have:=h2 h;cases this;exact⟨_,h1⟩
theorem NN:∀{vs:List Ui}{ss:List Str},StrsAre vs ss->Vals (ss.map V.str) vs
 |_,_,.nil=>.nil
 |_,_,.cons y t r=>.cons ⟨t,rfl⟩ (NN r)
theorem A5(B:Tables q w mg h){x:Str}{ss:List Str}(e:tupStrsOf q x=some ss)(hl:ss.length<=1000) :
  ∃ad o its n,mg x=some (.ref ad)/\(whole h).lookup ad=some o/\o.cls=.type "tuple" /\ o.data=.seq its n/\its.size<=Up/\Vals (ss.map V.str) its.toList:=by
 obtain⟨a,vs,h1,⟨o,h2,h3,n,h4⟩,h5⟩:=B.tupS x ss e;have r:=NN h5;refine⟨a,o,_,n,h1,by rw[RS];exact h2,h3,h4,?_,r⟩;have:=r.length;rw[Qb]at this;have l:(1000:Nat)<=Up:=by decide
 rw[QU];omega
end
def scOk(sc:Scope)(N gl:List Str):Bool:=(N.all λx=>match sc.names.lookup x with|some .local=>true|some .cell=>true|_=>false)&&gl.all λx=>match sc.names.lookup x with|some .globalImplicit=>true|_=>false
def fnB(sc:Scope)(N gl:List Str):Bool:=decide (sc.kind=.function) && !sc.isCoroutine && !sc.isGenerator&&decide N.Nodup&&(sc.names.all λy=>match y.2 with | .free=>false|_=>true)&&scOk sc N gl
structure FnNm(sc:Scope)(N gl:List Str):Prop where
 kind:sc.kind=.function
 co:sc.isCoroutine=false
 gen:sc.isGenerator=false
 nd:N.Nodup
 nofree:∀y∈sc.names,y.2≠.free
 nm:∀x∈N,sc.names.lookup x=some .local∨sc.names.lookup x=some .cell
 gl:∀x∈gl,sc.names.lookup x=some .globalImplicit
theorem Ky{sc:Scope}{N gl:List Str}(H:fnB sc N gl=true):FnNm sc N gl:=by
 unfold fnB scOk at H;simp only[Ji,JF,Bool.not_eq_true',Jj]at H;obtain⟨⟨⟨⟨⟨h1,h2⟩,h3⟩,h4⟩,h5⟩,h6,h7⟩:=H;refine⟨h1,h2,h3,h4,λy hy e=>?_,λx hx=>?_,λx hx=>?_⟩
 ·have:=h5 y hy;rw[e]at this;cases this
 ·have:=h6 x hx;split at this
  ·rename_i e;exact .inl e
  ·rename_i e;exact .inr e
  ·cases this
 ·have:=h7 x hx;split at this
  ·rename_i e;exact e
  ·cases this
section
variable{sc:Scope}{N gl:List Str}{x:Str}
theorem nq(H:FnNm sc N gl):N.Nodup:=H.nd
theorem fq(H:FnNm sc N gl)(n:Nat):RE N (N.take n) sc:=⟨H.kind,H.co,H.gen,H.nd,by rw[QP,List.take_eq_take_iff];omega,λx hx=>H.nm x (JU hx),H.nofree⟩
theorem lq(H:FnNm sc N gl)(i:Nat)(h:N[i]?=some x:=by rfl):L2.Loc sc x:=H.nm x (Qr h)
theorem gq(H:FnNm sc N gl)(i:Nat)(h:gl[i]?=some x:=by rfl):sc.names.lookup x=some .globalImplicit:=H.gl x (Qr h)
theorem pq{X:Cx}{pos:Pos}(H:FnNm X.env.scope X.N gl)(i:Nat)(h:X.N[i]?=some x:=by rfl)(hd:(x==("__debug__" : Str))=false:=by decide)(hc:(x==("__classdict__" : Str))=false:=by decide):PE X (.Name x pos) (K2 i):=
 Mi h ((H.nm x (Qr h)).elim .inl λz=>.inr (.inl z)) hd hc
end
theorem KF{q p:Uk}{loose:List Str}{mean:ExcName->Option Ui}{mg mb:Str->Option Ui}{h:Heap}{ix:List Nat}(P:Uk)(w:World)(base:Heap){ps:List Str}{k n:Nat}{F:List D->Option D}(T:Top q loose mean mg mb h)(e:recsOf q=Rw p ix)(i:Nat)(x:Str)(hi:ix.contains i=true)(hn:Oi (ZB p i)=some x)
  (ok:∀{f:Ul}{fd:Um},Fun (whole h) x x (ZB p i) f fd->FnOk P w (whole h) mg base CX0 k f fd ps (spD (whole h) n F))
  (hb:∀(kV doc pm:Ui)(an:Option Ul)(cdv ct:Ui)(us:List Ui),us.length=ps.length->bindArgs (PySem.W.fnOf x x (SU (ZB p i)) (Wu (ZB p i)) (Z8 (ZB p i)) .none kV doc pm an cdv ct) ⟨us,[]⟩=pure (ps.zip us)):Def P w (whole h) mg base x k n F:=by
 obtain⟨f,fd,m,FU⟩:=N0 T e i x hi hn;exact Def.mk m FU (FU.binds hb) (ok FU)
section
variable{X:Cx}{B G0:Hp}{e:Uo}{pos:Pos}{es:List Uo}
theorem pdf{k kk n:Nat}{F:List D->Option D}{g:M (List D)}{x:Str}{p2:Pos}(d:Def X.prog X.w X.K X.mg X.base x k n F)(hr:Room kk X.A)(hg:Gl X x)(ha:PA X (e::es) (tDs X.K B G0 g))(hk:k<=kk:=by decide)(hn:(e::es).length=n:=by rfl)
  (hdb:(x==("__debug__" : Str))=false:=by decide) (he:Ur (e::es) X.env=(false,eval e X.env)::Ur es X.env:=by rfl) (hpl:(backTo pos (Ur es X.env)).any (·.1)=false:=by rfl) :
  PE X (.Call (.Name x p2) (e::es) [] pos) (tD X.K B G0 (UX n F g)):=D0 d (hr.mono hk) hg ha hn hdb he hpl
end
theorem FH{q p:Uk}{loose:List Str}{mean:ExcName->Option Ui}{mg mb:Str->Option Ui}{h:Heap}{ix:List Nat}{P:Uk}{w:World}{k:Nat}{F:List D->Option D}{y:Str}{fa:Ul}(T:Top q loose mean mg mb h)(e:recsOf q=Rw p ix)(i:Nat)(x:Str)(hi:ix.contains i=true)(hn:Oi (ZB p i)=some x)(hfa:mg x=some (.ref fa))
  (hb:∀(kV doc pm:Ui)(an:Option Ul)(cdv ct v:Ui),bindArgs (PySem.W.fnOf x x (SU (ZB p i)) (Wu (ZB p i)) (Z8 (ZB p i)) .none kV doc pm an cdv ct) ⟨[v],[]⟩=pure [(y,v)])
  (ok:∀(base:Heap){f:Ul}{fd:Um},Fun (whole h) x x (ZB p i) f fd->FnOk P w (whole h) mg base CX0 k f fd [y] (spD (whole h) 1 F)) :
  ∃fd:Um,(∀(s:Uj)(v:Ui),BindsTo s fd ⟨[v],[]⟩ [(y,v)])/\∀base:Heap,FnOk P w (whole h) mg base CX0 k fa fd [y] (spD (whole h) 1 F):=by
 obtain⟨f,fd,m,FU⟩:=N0 T e i x hi hn;cases hfa.symm.trans m;exact⟨fd,A6 FU hb,λbase=>ok base FU⟩
theorem B6{l:PySem.W.OpenLaw}{n k:Nat}{q:Uk}{loose:List Str}{XP:(Str->Option Ui)->Heap->Prop}{YP:World->Heap->Prop}{d:DefRec}{F:List D->Option D}{x:Str}
  (hn:l.most=some n) (hn2:n<=Up) (hdf:d.params.defaults=[]) (hr:Room k callerA)
  (hF:∀(w:World)(s₀:Uj)(mg mb:Str->Option Ui)(fa:Ul)(h:Heap),PySem.W.Ground q loose [] XP w s₀ mg mb h->mg d.name=some (.ref fa) ->
   ∃fd:Um,(∀(s:Uj)(u:Ui),BindsTo s fd ⟨[u],[]⟩ [(x,u)])/\∀base:Heap,FnOk l.prog w (whole h) mg base CX0 k fa fd [x] (spD (whole h) 1 F))
  (hl:∀ns:List Int,ns.length<=n->F [.list (ns.map int)]=some (.bool true)) :
  PySem.W.WalkO q loose XP YP l.row.toRowW d [] (λf vs=>PySem.call f vs):=by
 refine Att.attach_call hn hdf λw s₀ s₁ mg mb fa o pm cd doc a vs ns G Y ho hd hcd hmg hobj hints hlen hg=>?_
 obtain⟨fd,hb,hF⟩:=hF w s₀ mg mb fa _ G hmg;exact AZ (B7 _) G.T.g G.T.b G.T.builtins G.T.nolimit hg hobj hints (QR hlen hn2) hr (λbase _ _=>hF base) hb (λH hO hS=>Et hS (hl ns hlen)) λH e s' z=>z
end DL
namespace L2
open PySem PySem.Spec PyProof.Rows
def EO(trs:Ul->List (TE×TE)):TE:=λσ H Q=>∀p,H p=none->Pb (trs p) σ (upd H p (.dK [])) λps H2=>H2 p=some (.dK [])/\∃kvs:List (Key×V),ps=kvs.map (λkv=>(kV kv.1,kv.2))/\kvs.length<=15/\Q (.ref p) (upd H2 p (.dK (VC [] kvs)))
theorem B5{X:Cx}{pos:Pos}{keys:List (Option Uo)}{values:List Uo}{trs:Ul->List (TE×TE)}(h:∀p,PPs X pos keys values (trs p))(hall:keys.all (·.isSome)=true)(hl:keys.length=values.length)(h0:keys≠[])
  (h15:keys.length<=15):PE X (.Dict keys values pos) (EO trs):=by
 intro pins s σ H Q I q;have hn:=I.hok.fresh (Qs s.heap.objs.size);have I1:=I.laid (a:=s.heap.objs.size) (o:=.dK []) (h':=s.heap.push {cls:=.type "dict", data:=.dict #[]}) (t':=s.toks) (λ_ _ q=>Qj _ q) (Qs _) (AY s.heap I.big);refine wpAny_Dict_walk (knd:=YW X.prog X.w) hall hl h0 h15 (thn (h _ pins _ σ _ _ I1 (q _ hn)) λws s2 ⟨ps,H2,I2,rel,e,kvs,ep,lk,q2⟩=>?_);subst ep;obtain⟨rs,c,rk⟩:=GQ (P:=X.prog) (w:=X.w) rel;obtain⟨z,hd,vs0,r0,dd⟩:=NS I2.hok e;cases r0;refine⟨rs,c,dd,λh' dd' hs=>⟨.ref s.heap.objs.size,_,?_,rfl,q2⟩⟩;have hz:(VC [] kvs).length<=Up:=by have h1:=GT kvs [];rw[QE]at h1;rw[sizeLine_eq];omega
 have he:∃q,h'.get? s.heap.objs.size=some q:=let ⟨q,_,_,hq,_⟩:=dd';⟨q,hq⟩
 exact OD I2 (by rw[e];exact True.intro) hs he (Mc hz hd (rk.merge .nil) dd')
theorem B4{kvs:List (Key×V)}{k:Key}{v:V}(h:k∉kvs.map (·.1)):K4 kvs k v=kvs++[(k,v)]:=by unfold K4;rw[QB];intro z;rw[List.any_eq_true]at z;obtain⟨p,hp,e⟩:=z;exact h (by rw[←Qa e];exact Qu.mpr ⟨p,hp,rfl⟩)
theorem Gx:∀(more kvs:List (Key×V)),((kvs++more).map (·.1)).Nodup->VC kvs more=kvs++more
 |[],kvs,_=>by rw[Jb];rfl
 |p::r,kvs,h=>by
  have hn:p.1∉kvs.map (·.1):=by rw[Qz,List.nodup_append]at h;exact λz=>h.2.2 _ z p.1 (Qu.mpr ⟨p,Qn,rfl⟩) rfl
  show VC (K4 kvs p.1 p.2) r=_;rw[B4 hn,Gx r (kvs++[(p.1,p.2)]) (by rw[QY];exact h),QY];rfl
end L2
namespace DL
open PySem PySem.Spec L2
open PyProof.Rows hiding St
theorem MC{α β γ:Type}(f:α->γ):∀(ks:List α)(vs:List (γ×β)),vs.map (·.1)=ks.map f->vs=(ks.zip (vs.map (·.2))).map (λkv=>(f kv.1,kv.2))
 |[],[],_=>rfl
 |k::ks,(a,b)::vs,h=>by rw[Qt,Qt]at h;injection h with h1 h2;have h1:a=f k:=h1;rw[Qt,Q4,Qt,←MC f ks vs h2,h1]
theorem L4{α β:Type}:∀(ps:List (α×β)),(ps.map (·.1)).zip (ps.map (·.2))=ps
 |[]=>rfl
 |p::r=>by rw[Qt,Qt,Q4,L4 r]
def SD:List (M D×M D)->M (List (D×D))
 |[]=>UQ []
 |(f,g)::r=>U6 f λx=>U6 g λy=>U6 (SD r) λps=>UQ ((x,y)::ps)
def Z6:D->Option Key
 |.int i=>some (.inl i)
 |.str x=>some (.inr x)
 |_=>none
def Pd:List D->Option (List Key)
 |[]=>some []
 |d::r=>match Z6 d,Pd r with
  |some k,some ks=>some (k::ks)
  |_,_=>none
def P6(ps:List (D×D)):Option D:=match Pd (ps.map (·.1))with
 |some ks=>if ks.Nodup/\ks.length<=15/\ks≠[]then some (.dict ps)else none
 |none=>none
def P5(prs:List (M D×M D)):M D:=U6 (SD prs) λps=>U8 (P6 ps)
def FG(K:Frag)(G:Hp)(vs:List (V×V))(ps:List (D×D)):Prop:=Reps K G (vs.map (·.1)) (ps.map (·.1))/\Reps K G (vs.map (·.2)) (ps.map (·.2))
section
variable{K:Frag}{B G0 G H:Hp}{σ:St}{Z:UJ}
theorem Ra{d:D}{k:Key}(h:Z6 d=some k):d=kD k:=by
 cases d with
 |int i=>cases h;rfl
 |str x=>cases h;rfl
 |_=>cases h
theorem HS:∀{ds:List D}{ks:List Key},Pd ds=some ks->ds=ks.map kD
 |[],_,h=>by cases h;rfl
 |d::r,ks,h=>by
  unfold Pd at h;split at h
  ·rename_i k ks' h1 h2;cases h;rw[Qt,←Ra h1,←HS h2]
  ·cases h
theorem Rep.key_inv{v:V}{k:Key}(r:Rep K G v (kD k)):v=kV k:=by
 cases k with
 |inl i=>exact r.int_inv
 |inr x=>exact r.str_inv
theorem Reps.keys_inv:∀{vs:List V}{ks:List Key},Reps K G vs (ks.map kD)->vs=ks.map kV
 |_,[],.nil=>rfl
 |_,k::ks,.cons h t=>by rw[h.key_inv,Reps.keys_inv t];rfl
theorem HR:∀{prs:List (M D×M D)}{G H:Hp}{Z:UJ}{Q:List (V×V)->Hp->Prop},EOk K B G0 G H σ Z ->
  (match SD prs Z with
   |.ok ps Z'=>∀vs G' H',EOk K B G0 G' H' σ Z'->Same G G'->FG K G' vs ps->Q vs H'
   |.bad=>False)->Pb (prs.map λp=>(tD K B G0 p.1,tD K B G0 p.2)) σ H Q
 |[],G,H,Z,Q,k,a=>a [] G H k (.refl _) ⟨.nil,.nil⟩
 |(f,g)::r,G,H,Z,Q,k,a=>by
  refine⟨G,Z,k,?_⟩;unfold SD U6 at a;show aft K B G0 (Rep K) (f Z) G σ _;cases z:f Z with
  |bad=>rw[z]at a;exact a.elim
  |ok x Z1=>
   rw[z]at a;dsimp only at a;intro v G1 H1 k1 s1 r1;refine⟨G1,Z1,k1,?_⟩;show aft K B G0 (Rep K) (g Z1) G1 σ _;cases z2:g Z1 with
   |bad=>rw[z2]at a;exact a.elim
   |ok y Z2=>
    rw[z2]at a;dsimp only at a;intro u G2 H2 k2 s2 r2;refine HR (prs:=r) k2 ?_;cases z3:SD r Z2 with
    |bad=>rw[z3]at a;exact a.elim
    |ok ps Z3=>rw[z3]at a;intro vs G3 H3 k3 s3 r3;exact a ((v,u)::vs) G3 H3 k3 ((s1.trans s2).trans s3) ⟨.cons ((r1.mono s2).mono s3) r3.1,.cons (r2.mono s3) r3.2⟩
theorem EOk.under{p:Ul}(k:EOk K B G0 G H σ Z)(hp:H p=none):EOk K (upd B p (.dK [])) G0 G (upd H p (.dK [])) σ Z where
 bh:=λb o q=>by
  by_cases z:b=p
  ·subst z;rw[K9]at q⊢;exact q
  ·rw[Ku z]at q⊢;exact k.bh b o q
 gh:=k.gh.trans (Zx hp)
 g0:=k.g0
 np:=λa u q n=>by
  by_cases z:a=p
  ·subst z;exact k.gh.free hp
  ·rw[Ku z]at q;exact k.np a u q n
 len:=k.len
 pub:=k.pub
 own:=λi ds q=>by obtain⟨a,vs,h1,h2,h3,h4,h5⟩:=k.own i ds q;have z:a≠p:=Yo h4 hp;exact⟨a,vs,h1,by rw[Ku z];exact h2,h3,by rw[Ku z];exact h4,h5⟩
 sep:=k.sep
 dp:=k.dp.map (λ_ _ _ q=>⟨q,rfl⟩) (λ_ ds q=>⟨ds,q,rfl⟩) λi pt d v fp q s r w n=>⟨r.mono (.refl _) (Zx hp),λb m=>let ⟨_,hl⟩:=r.isl b m;⟨by rw[Ku (Yo hl hp)];exact(w b m).1,(w b m).2⟩⟩
end
section
variable{X:Cx}{B G0:Hp}{KX:XW}{e o a b c:Uo}{pos p2:Pos}{es rest:List Uo}
structure DPs(X:Cx)(pos:Pos)(G0:Hp)(keys:List (Option Uo))(values:List Uo)(prs:List (M D×M D)):Prop where
 out:∀B',PPs X pos keys values (prs.map λp=>(tD X.K B' G0 p.1,tD X.K B' G0 p.2))
theorem Cs:DPs X pos G0 [] [] []:=⟨λ_=>Bo⟩
theorem B3{k v:Uo}{ks:List (Option Uo)}{vs:List Uo}{f g:M D}{prs:List (M D×M D)}(hk:∀B',PE X k (tD X.K B' G0 f))(hv:∀B',PE X v (tD X.K B' G0 g))(hr:DPs X pos G0 ks vs prs):DPs X pos G0 (some k::ks) (v::vs) ((f,g)::prs):=
 ⟨λB'=>AX (hk B') (hv B') (hr.out B')⟩
def Vy(x y:D):Option D:=match x,Z6 y with
 |.dict kvs,some k=>(kvs.find? λp=>decide (Z6 p.1=some k)).map (·.2)
 |_,_=>none
theorem Ps(k:Key):Z6 (kD k)=some k:=by cases k<;>rfl
theorem O3{K:Frag}{G:Hp}{k:Key}{d:D}:∀{ks:List Key}{vs:List V}{ds:List D},Reps K G vs ds->(((ks.map kD).zip ds).find? λp=>decide (Z6 p.1=some k)).map (·.2)=some d->∃v,ZA (ks.zip vs) k=some v/\Rep K G v d
 |[],vs,ds,_,e=>by simp at e
 |q::ks,_,_,.nil,e=>by simp at e
 |q::ks,_,_,@Reps.cons _ _ v d0 vs ds r t,e=>by
  rw[Qt,Q4,List.find?_cons]at e;unfold ZA;rw[Q4,List.find?_cons];rw[Ps]at e;by_cases h:q=k
  ·subst h;simp only[decide_true]at e⊢;cases e;exact⟨v,rfl,r⟩
  ·have h':¬(some q=some k):=λz=>h (Q5 z)
   simp only[h,h',decide_false]at e⊢;exact O3 t e
theorem HQ{ky:Key}:∀{ks:List (List Key)}{ds:List D},((ks.map tkD).zip ds).find? (λkv=>decide (Z6 kv.1=some ky))=none
 |[],_=>rfl
 |_::_,[]=>rfl
 |k::ks,d::ds=>by rw[List.map_cons,List.zip_cons_cons,List.find?_cons_of_neg (by show ¬decide ((none:Option Key)=some ky)=true;simp)];exact HQ (ks:=ks) (ds:=ds)
theorem Cr(hu:X.A.units+64<cLine){f g:M D}(ha:PE X a (tD X.K B G0 f))(hb:PE X b (tD X.K B G0 g))(hs:WO b:=by intro _ _;rfl):PE X (.Subscript a b pos) (tD X.K B G0 (UN Vy f g)):=
 Kn (Lk (by omega) ha hb hs) λσ H Q q=>tM.two q λv u H2 G Z x y k rx ry a=>by
  obtain⟨d,e,a1⟩:=a.opt;unfold Vy at e;split at e
  ·rename_i kvs ky hk;have hy:=Ra hk;subst hy;have hu:=ry.key_inv;subst hu;cases rx with
   |dic h=>simp at e
   |exc _ _ _ _=>simp[Z6]at e
   |@dct ad ks vs ds _ e0 hne hl h r=>subst e0;obtain⟨w,hw,rw'⟩:=O3 r e;exact⟨ad,w,rfl,.inl ⟨_,ky,.inl (k.gh _ _ h),rfl,hw.symm⟩,a1.now k rw'⟩
   |@dtt ad ob ks vs ds _ e0 hl h r=>subst e0;have z:=HQ (ks:=ks) (ds:=ds) (ky:=ky);unfold pdD at e;rw[List.find?_cons_of_neg (by show ¬decide ((none:Option Key)=some ky)=true;simp),z]at e;cases e
  ·cases e
end
end DL
namespace DL
open PySem PySem.Spec L2 PySem.SeqAt PySem.AutoSeq1
open PyProof.Rows hiding St
end DL
namespace DL
open PySem PySem.Spec L2
open PyProof.Rows hiding St
end DL
namespace L2
open PySem PySem.Spec PyProof.Rows
end L2
namespace DL
open PySem PySem.Spec L2
open PyProof.Rows hiding St
end DL
namespace L2
open PySem PySem.Spec PyProof.Rows
end L2
namespace DL
open PySem PySem.Spec L2
open PyProof.Rows hiding St
end DL
namespace L2
open PySem PySem.Spec PyProof.Rows
end L2
namespace DL
open PySem PySem.Spec L2
open PyProof.Rows hiding St
theorem EOk.lent{K:Frag}{B G0 G H:Hp}{σ:St}{Z:UJ}(k:EOk K B G0 G H σ Z):EOk K H H H H σ (ZG Z) where
 bh:=.refl _
 gh:=.refl _
 g0:=.refl _
 np:=λ_ _ e n=>by rw[n]at e;cases e
 len:=by unfold ZG;rw[Qb];exact k.len
 pub:=λi d e=>by
  rcases HB e with e2|⟨ds,rfl,e2⟩|⟨p,e2⟩
  ·exact k.tree (by unfold Rx;rw[e2])
  ·exact k.tree (by unfold Rx;rw[e2])
  ·exact k.tree (by unfold Rx;rw[e2])
 own:=λi ds e=>(SY e).elim
 sep:=λi j a ds es e=>(SY e).elim
 dp:=.of (λ_ _ _ q=>GP q) λ_ _ q=>SY q
end DL
namespace L2
open PySem PySem.Spec PyProof.Rows
end L2
namespace DL
open PySem PySem.Spec L2
open PyProof.Rows hiding St
end DL
namespace L2
open PySem PySem.Spec PyProof.Rows
end L2
namespace DL
open PySem PySem.Spec L2
open PyProof.Rows hiding St
theorem Om{α:Type}(a:α):[a].Nodup:=by simp
section
variable{K:Frag}{B G0 G H:Hp}{σ:St}{Z:UJ}
structure NewT(K:Frag)(B G H:Hp)(σ:St)(Z:UJ)(pt:Pat)(v:V)(d:D)(fp:List Ul):Prop where
 r:RepO K G H pt v d fp
 nd:fp.Nodup
 b:∀a∈fp,B a=none/\G a=none
 f:∀a∈fp,∀(j:Nat) es,Z[j]?=some (some (.own es))->σ[j]?≠some (some (.ref a))
 dp:∀a∈fp,∀(j:Nat) p d v fp',Z[j]?=some (some (.deep p d))->σ[j]?=some (some v)->RepO K G H p v d fp'->a∉fp'
theorem EOk.setDeep{i:Nat}{pt:Pat}{v:V}{d:D}{fp:List Ul}(k:EOk K B G0 G H σ Z)(n:NewT K B G H σ Z pt v d fp)(hi:i<Z.length):EOk K B G0 G H (σ.set i (some v)) (Z.set i (some (.deep pt d))) where
 bh:=k.bh
 gh:=k.gh
 g0:=k.g0
 np:=k.np
 len:=by rw[Q6,Q6];exact k.len
 pub:=λj d' q=>by
  by_cases z:i=j
  ·subst z;have:=Yd q;cases this
  ·rw[Qp z]at q⊢;exact k.pub j d' q
 own:=λj es q=>by
  by_cases z:i=j
  ·subst z;have:=Yd q;cases this
  ·rw[Qp z]at q⊢;exact k.own j es q
 sep:=λj l c es fs q1 q2 s1 s2=>by
  have z1:i≠j:=λz=>by subst z;have:=Yd q1;cases this
  have z2:i≠l:=λz=>by subst z;have:=Yd q2;cases this
  rw[Qp z1]at q1 s1;rw[Qp z2]at q2 s2;exact k.sep j l c es fs q1 q2 s1 s2
 dp:=by
  obtain⟨ω,k1,k2⟩:=k.dp;have hs:i<σ.length:=by rw[←k.len];exact hi
  refine⟨λb=>if b∈fp then i else ω b,λj p d' q=>?_,λj es b q s=>?_⟩
  ·by_cases z:i=j
   ·subst z;have:=Yd q;cases this;exact⟨v,fp,QI hs,n.r,n.nd,λa m=>⟨(n.b a m).1,(n.b a m).2,Qm m⟩⟩
   ·rw[Qp z]at q⊢;obtain⟨v',fp',s,r,nn,w⟩:=k1 j p d' q;refine⟨v',fp',s,r,nn,λb m=>⟨(w b m).1,(w b m).2.1,?_⟩⟩;dsimp only;rw[QB (λz=>n.dp b z j p d' v' fp' q s r m)];exact(w b m).2.2
  ·by_cases z:i=j
   ·subst z;have:=Yd q;cases this
   ·rw[Qp z]at q s;dsimp only;rw[QB (λz=>n.f b z j es q s)];exact k2 j es b q s
theorem RepOl.leaf:∀{vs:List V}{ds:List D},Reps K G vs ds->RepOl K G H .leaf vs ds []
 |_,_,.nil=>.nil
 |_,_,.cons h t=>.cons (f1:=[]) (f2:=[]) (.leaf h) (RepOl.leaf t)
def VS(Z:UJ)(i:Nat):Option (Pat×D):=match Z[i]? with
 |some (some (.own ds))=>some (.lst .leaf,.list ds)
 |some (some (.deep p d))=>some (p,d)
 |_=>none
theorem EOk.slots(k:EOk K B G0 G H σ Z):∃ω:Ul->Nat,∀(i:Nat) p d,VS Z i=some (p,d)->∃v fp,σ[i]?=some (some v)/\RepO K G H p v d fp/\fp.Nodup/\∀a∈fp,B a=none/\G a=none/\ω a=i:=by
 obtain⟨ω,k1,k2⟩:=k.dp;refine⟨ω,λi p d h=>?_⟩;unfold VS at h;split at h
 ·rename_i ds q;cases h;obtain⟨a,vs,h1,h2,h3,h4,h5⟩:=k.own i ds q;refine⟨.ref a,[a],h1,.lst h4 (.leaf h5),Om a,λb m=>?_⟩;rw[Qv.mp m];exact⟨h2,h3,k2 i ds a q h1⟩
 ·rename_i p' d' q;cases h;exact k1 i p d q
 ·cases h
theorem EOk.mutD{j:Nat}{p:Pat}{d d':D}{v:V}{fp fp':List Ul}{a:Ul}{o:HO}(k:EOk K B G0 G H σ Z)(hd:Z[j]?=some (some (.deep p d)))(hv:σ[j]?=some (some v))(r:RepO K G H p v d fp)(ha:a∈fp)
  (r':RepO K G (upd H a o) p v d' fp') (nd':fp'.Nodup) (sub:∀b∈fp',b∈fp):EOk K B G0 G (upd H a o) σ (Z.set j (some (.deep p d'))):=by
 obtain⟨ω,k1,k2⟩:=k.dp;obtain⟨v0,fp0,s0,r0,n0,w0⟩:=k1 j p d hd;rw[hv]at s0;cases s0;have e0:=r0.uniq (.refl _) r;subst e0;obtain⟨hb,hg,hw⟩:=w0 a ha;obtain⟨ws,hl⟩:=r.isl a ha;have nt:∀vs,H a≠some (.tup vs):=λvs z=>by rw[hl]at z;cases ws<;>cases z
 have hjl:j<Z.length:=(Qg.mp hd).1;have nz:∀{m:Nat}{s:Sl},j≠m->(Z.set j (some (.deep p d')))[m]?=some (some s)->Z[m]?=some (some s):=λ{m s} z q=>by rw[Qp z]at q;exact q
 refine⟨λb u e=>?_,λb u e=>?_,k.g0,k.np,by rw[Q6];exact k.len,λm dm e=>?_,λm es e=>?_,λm l c es fs q1 q2 s1 s2=>?_,ω,λm pm dm e=>?_,λm es b e s=>?_⟩
 ·rw[Ku (Yo e hb)];exact k.bh b u e
 ·rw[Ku (Yo e hg)];exact k.gh b u e
 ·by_cases z:j=m
  ·subst z;have:=Yd e;cases this
  ·exact k.pub m dm (nz z e)
 ·by_cases z:j=m
  ·subst z;have:=Yd e;cases this
  ·have e:=nz z e;obtain⟨c,us,g1,g2,g3,g4,g5⟩:=k.own m es e;have zc:c≠a:=λw=>by subst w;exact z (hw.symm.trans (k2 m es c e g1))
   exact⟨c,us,g1,g2,g3,by rw[Ku zc];exact g4,g5⟩
 ·have z1:j≠m:=λz=>by subst z;have:=Yd q1;cases this
  have z2:j≠l:=λz=>by subst z;have:=Yd q2;cases this
  exact k.sep m l c es fs (nz z1 q1) (nz z2 q2) s1 s2
 ·by_cases z:j=m
  ·subst z;have:=Yd e;cases this;exact⟨v,fp',hv,r',nd',λb mb=>w0 b (sub b mb)⟩
  ·obtain⟨vm,fm,sm,rm,nm,wm⟩:=k1 m pm dm (nz z e);exact⟨vm,fm,sm,rm.upd nt (λmm=>z (hw.symm.trans (wm a mm).2.2)),nm,wm⟩
 ·have z:j≠m:=λz=>by subst z;have:=Yd e;cases this
  exact k2 m es b (nz z e) s
end
def tT(K:Frag)(B G0:Hp)(pt:Pat)(f:M D):TE:=λσ H Q=>∃G Z,EOk K B G0 G H σ Z/\match f Z with
 |.ok d Z'=>∀v fp G' H',EOk K B G0 G' H' σ Z'->Same G G'->NewT K B G' H' σ Z' pt v d fp->Q v H'
 |.bad=>False
def Sw(i:Nat)(pt:Pat)(f:M D):SM:=sB f λd Z=>if i<Z.length then .nx (Z.set i (some (.deep pt d)))else .bad
section
variable{X:Cx}{B G0:Hp}{KX:XW}{e o a b c:Uo}{pos:Pos}{es:List Uo}{st:Stmt}{sts:List Stmt}{pt:Pat}
theorem Cq{i:Nat}{x:Str}{f:M D}{p2:Pos}(hN:X.N.Nodup)(hi:X.N[i]?=some x)(hx:Loc X.env.scope x)(he:PE X e (tT X.K B G0 pt f))(hs:swapsWith e (some (.Name x p2)) pos.line X.env=pure false:=by rfl)
  (hf:X.fn x=true∨X.env.scope.names.lookup x=some .local:=by first|exact .inl rfl|exact .inr rfl|assumption):PS X (.Assign [.Name x p2] e pos) (tS X.K B G0 KX (Sw i pt f)):=
 Zr (Ot hN hi hx he hs hf) λD σ H ⟨G,Z,k,a⟩=>by
  refine⟨G,Z,k,?_⟩;unfold Sw sB at a;cases z:f Z with
  |bad=>rw[z]at a;exact a.elim
  |ok ds Z1=>
   rw[z]at a;intro v fp G' H' k' s' n;dsimp only at a;split at a
   ·rename_i hl;exact a _ G' H' (k'.setDeep n hl) s'
   ·exact a.elim
end
def isT:Option HO->Bool
 |some (.tup _)=>true
 |some (.frz _ (.tup _))=>true
 |_=>false
theorem EN{u:MO}:isT (some u.ho)=false:=by cases u<;>rfl
def Zq(fp:List Ul)(G H:Hp):Hp:=λb=>if b∈fp∨isT (H b)=true then H b else G b
section
variable{K:Frag}{B G0 G H:Hp}{fp:List Ul}
theorem qp(gh:Same G H):Same G (Zq fp G H):=λb o e=>by
 unfold Zq;split
 ·exact gh b o e
 ·exact e
theorem Cp(gh:Same G H):Same (Zq fp G H) H:=λb o e=>by
 unfold Zq at e;split at e
 ·exact e
 ·exact gh b o e
theorem M7{b:Ul}(h:b∈fp∨isT (H b)=true):Zq fp G H b=H b:=by unfold Zq;rw[Qm h]
theorem M6{b:Ul}(h:b∉fp)(h2:isT (H b)=false):Zq fp G H b=G b:=by
 unfold Zq;rw[QB];rintro(z|z)
 ·exact h z
 ·rw[h2]at z;cases z
theorem Ext.pubT{G' H':Hp}(ex:Ext G H G' H')(fr:∀a∈fp,H a=none):Ext G H (Zq fp G' H') H':=
 ⟨ex.h,ex.g.trans (qp ex.gh),Cp ex.gh,λa u e n=>by rw[M6 (λm=>by rw[fr a m]at e;cases e) (by rw[ex.h a _ e];exact EN)];exact ex.np a u e n⟩
def nl0:D->Bool
 |.tuple ds=>ds.all flat
 |d=>flat d
theorem Rep.nl{G' G2 H':Hp}{v:V}{d:D}(r:Rep K G' v d)(h:nl0 d=true)(gh:Same G' H'):Rep K (Zq fp G2 H') v d:=by
 cases r with
 |tup hs rr=>
  refine .tup ?_ (rr.flat h);rcases hs with (hs|⟨o,hs⟩)|hs
  ·have:=gh _ _ hs;exact .inl (.inl ((M7 (.inr (by rw[this];rfl))).trans this))
  ·have:=gh _ _ hs;exact .inl (.inr ⟨o,(M7 (.inr (by rw[this];rfl))).trans this⟩)
  ·exact .inr hs
 |non=>exact .non
 |bl b=>exact .bl b
 |int i=>exact .int i
 |str x=>exact .str x
 |lst _ _=>cases h
 |dic _=>cases h
 |exc _ _ _ _=>cases h
 |dct _ _ _ _ _=>cases h
 |dtt _ _ _ _=>cases h
theorem Reps.nl{G' G2 H':Hp}(gh:Same G' H'):∀{vs:List V}{ds:List D},Reps K G' vs ds->ds.all nl0=true->Reps K (Zq fp G2 H') vs ds
 |_,_,.nil,_=>.nil
 |_,_,.cons r t,h=>by rw[List.all_cons,Ji]at h;exact .cons (r.nl h.1 gh) (Reps.nl gh t h.2)
end
def Wh(f:M (List D)):M (List D):=λZ=>match f (ZG Z)with
 |.ok ds _=>if ds.all nl0=true then .ok ds Z else .bad
 |.bad=>.bad
section
variable{Z Z1 Z2 Z':UJ}{pt:Pat}
theorem Co{i:Nat}{f:M D}{d:D}(h1:f Z=.ok d Z1)(h2:i<Z1.length)(h3:Z1.set i (some (.deep pt d))=Z'):Sw i pt f Z=.nx Z':=by unfold Sw sB;rw[h1];dsimp only;rw[if_pos h2];subst h3;rfl
theorem B2{f:M (List D)}{ds:List D}(h:f (ZG Z)=.ok ds Z')(hf:ds.all nl0=true):Wh f Z=.ok ds Z:=by unfold Wh;rw[h];dsimp only;rw[if_pos hf]
end
theorem NewL.back{K:Frag}{B G0 G H G' H':Hp}{σ:St}{Z Z1:UJ}{ad:Ul}{vs:List V}{ds:List D}(k:EOk K B G0 G H σ Z)(k':EOk K H H G' H' σ Z1)(n:NewL K H G' H' σ Z1 ad vs ds)(hf:ds.all nl0=true) :
  EOk K B G0 (Zq [] G H') H' σ Z/\Same G (Zq [] G H')/\NewL K B (Zq [] G H') H' σ Z ad vs ds:=by
 have ex:Ext G H G H':=⟨k'.bh,.refl _,k.gh.trans k'.bh,λ_ _ _ n=>n⟩;have ex2:Ext G H (Zq [] G H') H':=ex.pubT (λa m=>by cases m);refine⟨k.ext ex2,ex2.g,⟨k.bh.free n.b,?_,n.h,n.r.nl k'.gh hf,λj es q w=>?_,λj pt d v fp q s r=>k.freshD k'.bh n.b q s r⟩⟩
 ·rw[M6 (by simp) (by rw[n.h];rfl)];exact k.gh.free n.b
 ·obtain⟨b,us,g1,g2,g3,g4,g5⟩:=k.own j es q;rw[g1]at w;cases w;rw[n.b]at g4;cases g4
section
variable{X:Cx}{B G0:Hp}{KX:XW}
theorem FF{l:Bool}{y:Str}{j:Nat}{py:Pos}{spos:Pos}{tg elt iter:Uo}{ifs:List Uo}{gs:List Comprehension}{scope:Scope}{pos:Pos}{N2:List Str}{k:Nat}{f:M (List D)}{s:D->UJ->Option UJ}{t:M Bool}{rd:RdB}(hN:X.N.Nodup)(hj:X.N[j]?=some y)(hy:X.env.scope.names.lookup y=some .local)(hc:X.calm=true)
  (hi:∀B' G',PI X tg iter (iD X.K B' G' f)) (hblk:ZV X N2 scope (.ListComp elt (⟨tg,iter,ifs,0⟩::gs) scope pos) tg ifs s t rd) (hb:So X.env.scope scope X.N N2 k) (hs:∀x,UH iter X.env x=pure x:=by intro _;rfl)
  (hsw:swapsWith (.ListComp elt (⟨tg,iter,ifs,0⟩::gs) scope pos) (some (.Name y py)) spos.line X.env=pure true:=by rfl) :
  PS X (.Assign [.Name y py] (.ListComp elt (⟨tg,iter,ifs,0⟩::gs) scope pos) spos) (tS X.K B G0 KX (K0 j (Wh (dCG l f k s t rd)))):=by
 intro pins s0 σ H Dn I ⟨G,Z,k0,a⟩;unfold K0 sB Wh at a;cases z:dCG l f k s t rd (ZG Z)with
 |bad=>rw[z]at a;exact a.elim
 |ok es Z1=>
 rw[z]at a;dsimp only at a;by_cases hnl:es.all nl0=true
 case neg=>rw[QB hnl]at a;exact a.elim
 rw[Qm hnl]at a;dsimp only at a;by_cases hl:j<Z.length
 ·rw[Qm hl]at a;obtain⟨ds,ZF,zf,zl,hfl⟩:=OA z;rw[exec_Assign_Name_used _ _ _ _ hsw];refine Qf (Jp (Qf ?_));show Uq _ X.A (do let _ ←comprehension (.ListComp elt (⟨tg,iter,ifs,0⟩::gs) scope pos) scope X.env _ (newList []) false (eval iter X.env) (some (assign (.Name y py) X.env))) _ _ s0;refine Qf (QK (Nb (use:=some (assign (.Name y py) X.env)) (Qc:=λ_ s'=>SP X pins Dn .next s') hc (hi H H) hblk hb hs I k0.lent zf zl hfl λC D vs G' H' s4 m I7 hm hC hL hz hcl hp k' s' n=>?_) (λ_ s' hq=>Qk (Qk hq)) λ_ _ e=>e);show Uq _ X.A (assign (.Name y py) X.env (.ref D)) _ _ s4;refine wpAny_assign_Name (Ni I7 hN hj (.inl hy) (v:=.ref D) rfl (λs5 I8 ⟨ad,sb,hx⟩=>?_) (.inr hy))
  have hCa:C≠ad:=by
   rcases hx with e|e
   ·rw[e];exact hL
   ·exact Ne.symm (hcl y ad e)
  refine⟨m,hm.sameBut sb hCa,λh' sb'=>⟨_,H',I8.turned (t':=s5.toks) (it:=C) (λb o hb e=>(sb'.2 b hb).trans e) hC hL (.inr hz) hcl hp,?_⟩⟩;obtain⟨k2,s2,n2⟩:=NewL.back k0 k' n hnl;exact a _ _ H' (k2.setOwn n2 hl) s2
 ·rw[QB hl]at a;exact a.elim
theorem qo{F F':M (List D)}(h:∀Z es Z',F Z=.ok es Z'->F' Z=.ok es Z')(Z:UJ)(es:List D)(Z':UJ)(e:Wh F Z=.ok es Z'):Wh F' Z=.ok es Z':=by
 unfold Wh at e⊢;cases z:F (ZG Z)with
 |bad=>rw[z]at e;cases e
 |ok ds Z1=>rw[z]at e;rw[h _ _ _ z];exact e
theorem FE{l:Bool}{y:Str}{j:Nat}{py:Pos}{spos:Pos}{tg elt iter:Uo}{ifs:List Uo}{gs:List Comprehension}{scope:Scope}{pos:Pos}{f:M (List D)}{s:D->UJ->Option UJ}{t:M Bool}{rd:RdB}{F:M (List D)}(SC:Scope)(N1 N2:List Str)(k:Nat)(le:∀Z es Z',F Z=.ok es Z'->dCG l f k s t rd Z=.ok es Z')(hN:X.N.Nodup)(hj:X.N[j]?=some y)(hy:X.env.scope.names.lookup y=some .local)(hc:X.calm=true)
  (hi:∀B' G',PI X tg iter (iD X.K B' G' f)) (hblk:ZV X N2 scope (.ListComp elt (⟨tg,iter,ifs,0⟩::gs) scope pos) tg ifs s t rd) (h1:X.env.scope=SC) (h2:X.N=N1) (hb:Wj Vu SC scope N1 N2 k=true) (hs:∀x,UH iter X.env x=pure x:=by intro _;rfl)
  (hsw:swapsWith (.ListComp elt (⟨tg,iter,ifs,0⟩::gs) scope pos) (some (.Name y py)) spos.line X.env=pure true:=by rfl) :
  PS X (.Assign [.Name y py] (.ListComp elt (⟨tg,iter,ifs,0⟩::gs) scope pos) spos) (tS X.K B G0 KX (K0 j (Wh F))):=
 Zr (FF hN hj hy hc hi hblk (by rw[h1,h2];exact OP hb) hs hsw) λ_ _ _ q=>N6 (qo le) q
end
def RI(f:M D):M Bool:=U6 f λx=>match x with | .list ds=>UQ (!ds.isEmpty)|_=>λ_=>.bad
def Wc:Nat:=10 ^ 60
section
variable{X:Cx}{B G0:Hp}{e:Uo}
theorem ki{α β:Type}{xs:List α}{ys:List β}(h:xs.length=ys.length):xs.isEmpty=ys.isEmpty:=by cases xs<;>cases ys<;>first|rfl|(simp at h)
theorem Cn{f:M D}(h:PE X e (tD X.K B G0 f))(he:∀whole,isTrue e X.env whole=(do let v ←whole;standAt e.pos;holding [v] (truthy v)):=by intro _;rfl):PT X e (tBo X.K B G0 (RI f)):=
 Yh (A2 h he) λσ H Q q=>tM.one (R:=Rep X.K) q λv H2 G Z x k r a=>by
  cases x with
  |list ds=>obtain⟨l,vs,rfl,h1,r1⟩:=r.lst_inv;refine⟨!vs.isEmpty,.inl ⟨vs,k.gh.seq h1,rfl⟩,?_⟩;exact aft.now (v:=!vs.isEmpty) a k (by rw[ki r1.length])
  |_=>exact a.elim
theorem HP{f:M D}{Z Z1:UJ}{ds:List D}(h1:f Z=.ok (.list ds) Z1):RI f Z=.ok (!ds.isEmpty) Z1:=by unfold RI;exact KP h1 rfl
end
def Xs(kvs:List (D×D))(k:Key)(d:D):List (D×D):=if kvs.any (λp=>decide (Z6 p.1=some k))then kvs.map (λp=>if Z6 p.1=some k then(p.1,d)else p)else kvs++[(kD k,d)]
def R3(j:Nat)(g f:M D):SM:=sB f λd Z1=>match Z1[j]? with
 |some (some (.deep .dic _))=>sB g (λy Z2=>match Z6 y,Z2[j]? with
  |some k,some (some (.deep .dic (.dict kvs)))=>if kvs.length<1000 then .nx (Z2.set j (some (.deep .dic (.dict (Xs kvs k d)))))else .bad
  |_,_=>.bad) Z1
 |_=>.bad
section
variable{K:Frag}{G:Hp}
theorem Pr{k:Key}:∀{ks:List Key}{vs:List V}{ds:List D},Reps K G vs ds->((ks.map kD).zip ds).any (λp=>decide (Z6 p.1=some k))=(ks.zip vs).any λkv=>decide (kv.1=k)
 |[],_,_,_=>rfl
 |_::_,_,_,.nil=>rfl
 |k0::ks,_,_,.cons _ t=>by
  rw[Qt,Q4,Q4,Ud,Ud,Pr t,Ps]
  congr 1
  by_cases e:k0=k
  ·subst e;simp
  ·simp[e]
theorem L0{k:Key}{w:V}{d:D}(r:Rep K G w d):∀{ks:List Key}{vs:List V}{ds:List D},Reps K G vs ds->∃vs' ds',(ks.zip vs).map (λkv=>if kv.1=k then(kv.1,w)else kv)=ks.zip vs'/\((ks.map kD).zip ds).map (λp=>if Z6 p.1=some k then(p.1,d)else p)=(ks.map kD).zip ds'/\ds'.length=ds.length/\Reps K G vs' ds'
 |[],vs,ds,h=>⟨vs,ds,rfl,rfl,rfl,h⟩
 |_::_,_,_,.nil=>⟨[],[],rfl,rfl,rfl,.nil⟩
 |k0::ks,_,_,.cons (v:=v0) (d:=d0) h t=>by
  obtain⟨vs',ds',e1,e2,e3,e4⟩:=L0 r (ks:=ks) t;by_cases e:k0=k
  ·refine⟨w::vs',d::ds',?_,?_,by rw[QC,e3,QC],.cons r e4⟩
   ·rw[Q4,Qt,e1,Qm e,Q4]
   ·rw[Qt,Q4,Qt,e2,Qm (by rw[Ps,e]),Q4]
  ·refine⟨v0::vs',d0::ds',?_,?_,by rw[QC,e3,QC],.cons h e4⟩
   ·rw[Q4,Qt,e1,QB e,Q4]
   ·rw[Qt,Q4,Qt,e2,QB (by rw[Ps];exact λz=>e (Q5 z)),Q4]
theorem Reps.snoc{w:V}{d:D}(r:Rep K G w d):∀{vs:List V}{ds:List D},Reps K G vs ds->Reps K G (vs++[w]) (ds++[d])
 |_,_,.nil=>.cons r .nil
 |_,_,.cons h t=>.cons h (Reps.snoc r t)
theorem CU{k:Key}{w:V}{d:D}(r:Rep K G w d){ks:List Key}{vs:List V}{ds:List D}(h:Reps K G vs ds)(hl:ks.length=ds.length):∃(ks':List Key)(vs':List V)(ds':List D),K4 (ks.zip vs) k w=ks'.zip vs'/\Xs ((ks.map kD).zip ds) k d=(ks'.map kD).zip ds'/\ks'.length=ds'.length/\Reps K G vs' ds':=by
 unfold K4 Xs;rw[Pr h];have hv:=h.length;split
 ·obtain⟨vs',ds',e1,e2,e3,e4⟩:=L0 r (k:=k) (ks:=ks) h;exact⟨ks,vs',ds',e1,e2,by rw[e3];exact hl,e4⟩
 ·refine⟨ks++[k],vs++[w],ds++[d],?_,?_,by rw[Qi,Qi,hl];rfl,h.snoc r⟩
  ·rw[List.zip_append (by omega)];rfl
  ·rw[Qz,List.zip_append (by rw[Qb];omega)];rfl
end
section
variable{X:Cx}{B G0:Hp}{KX:XW}{e o i:Uo}{pos p2:Pos}
theorem EM{j:Nat}{f g:M D}(hu:X.A.units+64<cLine)(he:PE X e (tD X.K B G0 f))(ho:PE X o (K2 j))(hi:PE X i (tD X.K B G0 g))(hs:swapsWith e (some (.Subscript o i p2)) pos.line X.env=pure false:=by rfl) :
  PS X (.Assign [.Subscript o i p2] e pos) (tS X.K B G0 KX (R3 j g f)):=
 Zr (Bp (by omega) ho hi he hs) λD σ H q=>tS.bnd (R:=Rep X.K) q λv H1 G1 Z1 d k r a=>by
  split at a
  ·rename_i d0 q0;obtain⟨ω,ks1⟩:=k.slots;obtain⟨v0,fp0,hv0,r0,_,_⟩:=ks1 j .dic d0 (by unfold VS;rw[q0]);refine⟨v0,hv0,G1,Z1,k,?_⟩;unfold sB at a;cases z:g Z1 with
   |bad=>rw[z]at a;exact a.elim
   |ok y Z2=>
    rw[z]at a;dsimp only at a;intro kv G' H' k' s' r';split at a
    ·rename_i ky kvs hk q2;split at a
     ·rename_i hlt;obtain⟨ω2,ks2⟩:=k'.slots;obtain⟨v2,fp2,hv2,r2,nd2,w2⟩:=ks2 j .dic (.dict kvs) (by unfold VS;rw[q2]);rw[hv0]at hv2;cases hv2;have ey:=Ra hk;subst ey;have ekv:=r'.key_inv;subst ekv;cases r2 with
      |@dic ad ks vs ds _ e hl h rr=>
       obtain⟨ks',vs',ds',e1,e2,e3,e4⟩:=CU (k:=ky) (r.mono s') rr hl;refine⟨ad,_,rfl,DPut.k h ?_,a σ G' _ (k'.mutD q2 hv0 (.dic e hl h rr) Qn (.dic (ks:=ks') (vs:=vs') (ds:=ds') (by rw[e];exact e2) e3 (by rw[K9,e1]) e4) (Om ad) λb m=>m) (s'.trans (.refl _))⟩;have:(ks.zip vs).length<=kvs.length:=by rw[e,JO,JO,Qb];have:=rr.length;omega
       exact Nat.lt_of_le_of_lt this (QF hlt (by decide))
     ·exact a.elim
    ·exact a.elim
  ·exact a.elim
theorem EOk.fillO{K:Frag}{B G0 G H:Hp}{σ:St}{Z:UJ}{p:Ul}{u:HO}(k:EOk K (upd B p (.dK [])) G0 G H σ Z)(hb:B p=none)(h0:G0 p=none):EOk K B G0 G (upd H p u) σ Z/\G p=none/\H p=some (.dK [])/\(∀(j:Nat) es,Z[j]?=some (some (.own es))->σ[j]?≠some (some (.ref p))) /\
  ∀(j:Nat) pt d v fp',Z[j]?=some (some (.deep pt d))->σ[j]?=some (some v)->RepO K G (upd H p u) pt v d fp'->p∉fp':=by
 have hG:G p=none:=k.np p (.k []) K9 h0;have hH:H p=some (.dK []):=k.bh p _ K9;refine⟨⟨λb o q=>?_,λb o q=>?_,k.g0,λa w q n=>?_,k.len,k.pub,λi ds q=>?_,k.sep,k.dp.map (λ_ _ _ q=>⟨q,rfl⟩) (λ_ ds q=>⟨ds,q,rfl⟩) λi pt d v fp q s r w n=>?_⟩,hG,hH,λj es q s=>?_,λj pt d v fp' q s r=>?_⟩
 ·have z:b≠p:=Yo q hb;rw[Ku z];exact k.bh b o (by rw[Ku z];exact q)
 ·rw[Ku (Yo q hG)];exact k.gh b o q
 ·have z:a≠p:=Yo q hb;exact k.np a w (by rw[Ku z];exact q) n
 ·obtain⟨a,vs,h1,h2,h3,h4,h5⟩:=k.own i ds q;have z:a≠p:=λe=>by subst e;rw[K9]at h2;cases h2
  exact⟨a,vs,h1,by rw[Ku z]at h2;exact h2,h3,by rw[Ku z];exact h4,h5⟩
 ·have zz:∀b∈fp,b≠p:=λb m e=>by subst e;have:=(w b m).1;rw[K9]at this;cases this
  refine⟨r.upd (λ_ e=>by rw[hH]at e;cases e) (λm=>zz p m rfl),λb m=>?_⟩;obtain⟨w1,w2⟩:=w b m;rw[Ku (zz b m)]at w1;exact⟨w1,w2⟩
 ·obtain⟨a,vs,h1,h2,h3,h4,h5⟩:=k.own j es q;rw[h1]at s;cases s;rw[K9]at h2;cases h2
 ·obtain⟨ω,k1,_⟩:=k.dp;obtain⟨v',fp,s',r',_,w⟩:=k1 j pt d q;rw[s]at s';cases s';have zz:p∉fp:=λm=>by have:=(w p m).1;rw[K9]at this;cases this
  have e:=(r'.upd (o:=u) (λ_ e=>by rw[hH]at e;cases e) zz).uniq (.refl _) r;rw[←e];exact zz
theorem B0{keys:List (Option Uo)}{values:List Uo}{prs:List (M D×M D)}(h:DPs X pos G0 keys values prs)(hall:keys.all (·.isSome)=true:=by rfl)(hl:keys.length=values.length:=by rfl)(h0:keys≠[]:=by simp)(h15:keys.length<=15:=by decide) :
  PE X (.Dict keys values pos) (tT X.K B G0 .dic (P5 prs)):=by
 refine Kn (B5 (trs:=λp=>prs.map λf=>(tD X.K (upd B p (.dK [])) G0 f.1,tD X.K (upd B p (.dK [])) G0 f.2)) (λp=>h.out _) hall hl h0 h15) λσ H Q ⟨G,Z,k,a⟩ p hp=>?_;refine HR (k.under hp) ?_;unfold P5 U6 at a
 cases z:SD prs Z with
 |bad=>rw[z]at a;exact a.elim
 |ok ps Z1=>
  rw[z]at a;dsimp only at a;intro vs G1 H1 k1 s1 r1;unfold U8 at a;cases e1:P6 ps with
  |none=>rw[e1]at a;exact a.elim
  |some d=>
  rw[e1]at a;dsimp only at a;unfold P6 at e1;split at e1
  ·rename_i ks hk;split at e1
   ·rename_i hc;cases e1;have ek:=HS hk;have hv:=r1.1;rw[ek]at hv;have hv:=hv.keys_inv;have hlen:ks.length=ps.length:=by have:=congrArg List.length ek;simpa using this.symm
    have hlv:vs.length=ks.length:=by have:=congrArg List.length hv;simpa using this
    have evs:vs=(ks.zip (vs.map (·.2))).map (λkv=>(kV kv.1,kv.2)):=by exact MC kV ks vs hv
    obtain⟨f1,f2,f3,f4,f5⟩:=k1.fillO (u:=.dK (ks.zip (vs.map (·.2)))) (k.bh.free hp) (k.g0.free (k.gh.free hp));refine⟨f3,ks.zip (vs.map (·.2)),evs,?_,?_⟩
    ·rw[JO,Qb];omega
    ·have em:VC [] (ks.zip (vs.map (·.2)))=ks.zip (vs.map (·.2)):=by
      rw[Gx _ [] ?_,Q7];rw[Q7,List.map_fst_zip (by rw[Qb];omega)];exact hc.1
     rw[em];refine a (.ref p) [p] _ _ f1 s1 ⟨.dic (ks:=ks) (vs:=vs.map (·.2)) (ds:=ps.map (·.2)) ?_ (by rw[Qb];exact hlen) K9 r1.2,Om p,λb m=>?_,λb m=>?_,λb m=>?_⟩
     ·rw[←ek,L4]
     ·rw[Qv.mp m];exact⟨k.bh.free hp,f2⟩
     ·rw[Qv.mp m];exact f4
     ·rw[Qv.mp m];exact f5
   ·cases e1
  ·cases e1
def ZC(x y:D):Option Bool:=match y,Z6 x with
 |.dict kvs,some k=>if(kvs.all λp=>(Z6 p.1).isSome)=true then some (kvs.any λp=>decide (Z6 p.1=some k))else none
 |_,_=>none
theorem CT{K:Frag}{G H:Hp}{x y:D}{v u:V}{t:Bool}(sg:Same G H)(px:Rep K G v x)(py:Rep K G u y)(e:ZC x y=some t):∃a o,u=.ref a/\YF H a v o/\o.isSome=t:=by
 unfold ZC at e;split at e
 ·rename_i kvs k hk;split at e
  ·rename_i c;cases e;have ex:=Ra hk;subst ex;have ev:=px.key_inv;subst ev;cases py with
   |@dic a h=>exact⟨a,none,rfl,.inl ⟨[],k,.inl (sg _ _ h),rfl,rfl⟩,rfl⟩
   |exc _ _ _ _=>simp[Z6]at c
   |@dct a ks vs ds _ e0 hne hl h r=>refine⟨a,ZA (ks.zip vs) k,rfl,.inl ⟨_,k,.inl (sg _ _ h),rfl,rfl⟩,?_⟩;subst e0;rw[Pr r,PB]
   |dtt e0 hl h r=>subst e0;simp[pdD,Z6]at c
  ·cases e
 ·cases e
theorem Ed(hu:X.A.units+64<cLine):OpB X (Us .In) ZC:=by refine⟨λv u H Q=>∃G x y d,Same G H/\Rep X.K G v x/\Rep X.K G u y/\ZC x y=some d/\Q (.bl d) H,?_,λv u G H x y d Q s rx ry e k=>⟨G,x,y,d,s,rx,ry,e,k⟩⟩;intro pins s σ H x y v u Q I rx ry ⟨G,dx,dy,d,sg,px,py,e,q⟩;obtain⟨a,o,rfl,g,rfl⟩:=CT sg px py e;obtain rfl:u=Value.ref a:=ry;exact d_in (by omega) I g rx λs' I'=>⟨.bl _,H,I',rfl,q⟩
theorem EL{j:Nat}{g f:M D}{Z Z1 Z2 Z':UJ}{d y e0:D}{k:Key}{kvs:List (D×D)}(h1:f Z=.ok d Z1)(q1:Z1[j]?=some (some (.deep .dic e0)))(h2:g Z1=.ok y Z2)(hk:Z6 y=some k)(q2:Z2[j]?=some (some (.deep .dic (.dict kvs))))(hl:kvs.length<1000)
  (h3:Z2.set j (some (.deep .dic (.dict (Xs kvs k d))))=Z'):R3 j g f Z=.nx Z':=by
 unfold R3 sB;rw[h1];dsimp only;rw[q1];dsimp only;rw[h2];dsimp only;rw[hk,q2];dsimp only;rw[Qm hl,h3]
def X6(j:Nat)(g:M D):M D:=λZ=>match Z[j]? with
 |some (some (.deep .dic _))=>(match g Z with
  |.ok y Z2=>(match Z2[j]? with
   |some (some (.deep .dic (.dict kvs)))=>(match Vy (.dict kvs) y with
    |some d=>.ok d Z2
    |none=>.bad)
   |_=>.bad)
  |.bad=>.bad)
 |_=>.bad
theorem CS{j:Nat}{g:M D}(hu:X.A.units+64<cLine)(ho:PE X o (K2 j))(hi:PE X i (tD X.K B G0 g))(hs:WO i:=by intro _ _;rfl):PE X (.Subscript o i pos) (tD X.K B G0 (X6 j g)):=
 Kn (Lk (by omega) ho hi hs) λσ H Q ⟨G,Z,k,a⟩=>by
  unfold X6 at a;split at a
  ·rename_i d0 q0;obtain⟨ω,ks1⟩:=k.slots;obtain⟨v0,fp0,hv0,r0,_,_⟩:=ks1 j .dic d0 (by unfold VS;rw[q0]);refine⟨v0,hv0,G,Z,k,?_⟩;cases z:g Z with
   |bad=>rw[z]at a;exact a.elim
   |ok y Z2=>
    rw[z]at a;dsimp only at a;intro kv G' H' k' s' r';split at a
    ·rename_i kvs q2;split at a
     ·rename_i d e;obtain⟨ω2,ks2⟩:=k'.slots;obtain⟨v2,fp2,hv2,r2,nd2,w2⟩:=ks2 j .dic (.dict kvs) (by unfold VS;rw[q2]);rw[hv0]at hv2;cases hv2;unfold Vy at e;split at e
      ·rename_i kvs' ky hx hk;cases hx;have ey:=Ra hk;subst ey;have ekv:=r'.key_inv;subst ekv;cases r2 with
       |@dic ad ks vs ds _ e0 hl h rr=>subst e0;obtain⟨w,hw,rw'⟩:=O3 rr e;exact⟨ad,w,rfl,.inl ⟨_,ky,.inl h,rfl,hw.symm⟩,a w G' H' k' s' rw'⟩
      ·cases e
     ·exact a.elim
    ·exact a.elim
  ·exact a.elim
def YS(b:Bool)(j:Nat)(g:M D):M Bool:=λZ=>match g Z with
 |.ok y Z2=>(match Z2[j]? with
  |some (some (.deep .dic (.dict kvs)))=>(match ZC y (.dict kvs)with
   |some t=>.ok (t==b) Z2
   |none=>.bad)
  |_=>.bad)
 |.bad=>.bad
theorem M5{j:Nat}{b:Bool}{g:M D}{σ:St}{H:Hp}{Q:Bool->Hp->Prop}(q:tBo X.K B G0 (YS b j g) σ H Q):tD X.K B G0 g σ H λy H1=>K2 j σ H1 λx H2=>∃a o,x=.ref a/\YF H2 a y o/\Q (o.isSome==b) H2:=by
 obtain⟨G,Z,k,a⟩:=q;refine⟨G,Z,k,?_⟩;unfold YS at a;cases z:g Z with
 |bad=>rw[z]at a;exact a.elim
 |ok y Z2=>
  rw[z]at a;dsimp only at a;intro kv G' H' k' s' r';split at a
  ·rename_i kvs q2;split at a
   ·rename_i t e;obtain⟨ω2,ks2⟩:=k'.slots;obtain⟨v2,fp2,hv2,r2,nd2,w2⟩:=ks2 j .dic (.dict kvs) (by unfold VS;rw[q2]);refine⟨v2,hv2,?_⟩;unfold ZC at e;split at e
    ·rename_i kvs' ky hx hk;cases hx;split at e
     ·cases e;have ey:=Ra hk;subst ey;have ekv:=r'.key_inv;subst ekv;cases r2 with
      |@dic ad ks vs ds _ e0 hl h rr=>subst e0;refine⟨ad,ZA (ks.zip vs) ky,rfl,.inl ⟨_,ky,.inl h,rfl,rfl⟩,?_⟩;rw[Pr rr,PB]at a;exact a _ G' H' k' s' rfl
     ·cases e
    ·cases e
   ·exact a.elim
  ·exact a.elim
theorem tM.mono{K:Frag}{B G0:Hp}{α γ:Type}{R:Hp->γ->α->Prop}{f:M α}{σ:St}{H:Hp}{P Q:γ->Hp->Prop}(h:tM K B G0 R f σ H P)(i:∀v H1,P v H1->Q v H1):tM K B G0 R f σ H Q:=by
 obtain⟨G,Z,k,a⟩:=h;refine⟨G,Z,k,?_⟩;unfold aft at a⊢;cases z:f Z with
 |bad=>rw[z]at a;exact a
 |ok d Z'=>rw[z]at a;exact λv G' H' k' s' r=>i _ _ (a v G' H' k' s' r)
theorem CQ{j:Nat}{g:M D}(hu:X.A.units+64<cLine)(hi:PE X i (tD X.K B G0 g))(ho:PE X o (K2 j))(hm:behindInMarks .In o=false:=by first|exact PF _ (by decide) (by decide)|rfl):PT X (.Compare i [.In] [o] pos) (tBo X.K B G0 (YS true j g)):=
 Yh (Pc (Dy (by omega) hi ho) hm) λσ H Q q=>tM.mono (M5 q) λy H1 ⟨x,hx,a,ov,e1,e2,e3⟩=>⟨x,hx,a,ov,e1,e2,_,rfl,by simpa using e3⟩
theorem BZ{j:Nat}{g:M D}(hu:X.A.units+64<cLine)(hi:PE X i (tD X.K B G0 g))(ho:PE X o (K2 j))(hm:behindInMarks .NotIn o=false:=by first|exact PF _ (by decide) (by decide)|rfl):PT X (.Compare i [.NotIn] [o] pos) (tBo X.K B G0 (YS false j g)):=
 Yh (Pc (qx (by omega) hi ho) hm) λσ H Q q=>tM.mono (M5 q) λy H1 ⟨x,hx,a,ov,e1,e2,e3⟩=>⟨x,hx,a,ov,e1,e2,_,rfl,by cases h:ov.isSome<;>rw[h]at e3<;>exact e3⟩
theorem CP{j:Nat}{g:M D}{Z Z1:UJ}{e0 y d:D}{kvs:List (D×D)}(q0:Z[j]?=some (some (.deep .dic e0)))(h:g Z=.ok y Z1)(q1:Z1[j]?=some (some (.deep .dic (.dict kvs))))(h2:Vy (.dict kvs) y=some d):X6 j g Z=.ok d Z1:=by unfold X6;rw[q0];dsimp only;rw[h];dsimp only;rw[q1];dsimp only;rw[h2]
theorem RH{j:Nat}{b t:Bool}{g:M D}{Z Z1:UJ}{y:D}{kvs:List (D×D)}(h:g Z=.ok y Z1)(q1:Z1[j]?=some (some (.deep .dic (.dict kvs))))(h2:ZC y (.dict kvs)=some t):YS b j g Z=.ok (t==b) Z1:=by unfold YS;rw[h];dsimp only;rw[q1];dsimp only;rw[h2]
end
end DL
namespace L2
open PySem PySem.Spec PyProof.Rows PySem.Calls PyProof.V
end L2
namespace DL
open PySem PySem.Spec L2
open PyProof.Rows hiding St
def tgN:Uo->List Str
 |.Name x _=>[x]
 |.Tuple [.Name x _] _ _=>[x]
 |.Tuple [.Name x _,.Name y _] _ _=>[x,y]
 |.Tuple [.Name x _,.Name y _,.Name z _] _ _=>[x,y,z]
 |.Tuple [.Name x _,.Name y _,.Name z _,.Name u _] _ _=>[x,y,z,u]
 |_=>[]
def adN(vs:List Str):List Str->List Str
 |[]=>vs
 |x::r=>adN (if vs.elem x then vs else vs++[x]) r
def Td(vs:List Str):List Comprehension->List Str
 |[]=>vs
 |⟨tg,_,_,_⟩::r=>Td (adN vs (tgN tg)) r
def dotN(x:Str):Str:=("." : Str)++x
def blN(N:List Str)(gs:List Comprehension):List Str:=N.map (λx=>if(Td [] gs).elem x then dotN x else x)++Td [] gs
def glN(sc:Scope):List Str:=sc.names.filterMap λy=>match y.2 with | .globalImplicit=>some y.1|_=>none
abbrev NmF(s:Stmt)(N:List Str):Prop:=FnNm (Z8 s) N (glN (Z8 s))
theorem mq{α:Type}{l:List α}{x:α}(n:Nat)(h:l[n]?=some x):x∈l:=Qr h
section
variable{sc:Scope}{N gl:List Str}{x:Str}
theorem gA(H:FnNm sc N gl)(h:gl.elem x=true):sc.names.lookup x=some .globalImplicit:=H.gl x (by simpa using h)
end
section
variable{X:Cx}{B G0:Hp}{KX:XW}{e e1 e2 o a b c i:Uo}{gl:List Str}{pos p2:Pos}{x:Str}{j:Nat}
theorem Ec(H:FnNm X.env.scope X.N gl)(hi:X.N[j]?=some x:=by rfl)(hf:X.fn x=true∨X.env.scope.names.lookup x=some .local:=by first|exact .inl rfl|exact .inr rfl|assumption):PG X (.Name x pos) (tG X.K B G0 (gN j)):=Wf (Wg H.nd hi (lq H j hi) hf)
theorem EK{N':List Str}{scope:Scope}{cl:List (Str×Ul)}{C:Ul}{s₀:Uj}{H₀:Hp}{ex:List Ul}(hN:N'.Nodup:=by decide +kernel)(hi:N'[j]?=some x:=by rfl)(hl:locK (scope.names.lookup x)=true:=by rfl):PG (X.blk N' scope cl C s₀ H₀ ex) (.Name x pos) (tG X.K B G0 (gN j)):=Wf (Wg hN hi (SO hl).1 (SO hl).2)
theorem aSet{f:M D}(H:FnNm X.env.scope X.N gl)(he:PE X e (tD X.K B G0 f))(hi:X.N[j]?=some x:=by rfl)(hs:swapsWith e (some (.Name x p2)) pos.line X.env=pure false:=by rfl)
  (hf:X.fn x=true∨X.env.scope.names.lookup x=some .local:=by first|exact .inl rfl|exact .inr rfl|assumption):PS X (.Assign [.Name x p2] e pos) (tS X.K B G0 KX (U0 j f)):=Eu H.nd hi (lq H j hi) he hs hf
theorem NM{f:M (List D)}(H:FnNm X.env.scope X.N gl)(he:PE X e (tL X.K B G0 f))(hi:X.N[j]?=some x:=by rfl)(hs:swapsWith e (some (.Name x p2)) pos.line X.env=pure false:=by rfl)
  (hf:X.fn x=true∨X.env.scope.names.lookup x=some .local:=by first|exact .inl rfl|exact .inr rfl|assumption):PS X (.Assign [.Name x p2] e pos) (tS X.K B G0 KX (K0 j f)):=Lr H.nd hi (lq H j hi) he hs hf
theorem Eb{f:M D}{pt:Pat}(H:FnNm X.env.scope X.N gl)(he:PE X e (tT X.K B G0 pt f))(hi:X.N[j]?=some x:=by rfl)(hs:swapsWith e (some (.Name x p2)) pos.line X.env=pure false:=by rfl)
  (hf:X.fn x=true∨X.env.scope.names.lookup x=some .local:=by first|exact .inl rfl|exact .inr rfl|assumption):PS X (.Assign [.Name x p2] e pos) (tS X.K B G0 KX (Sw j pt f)):=Cq H.nd hi (lq H j hi) he hs hf
theorem aAug{op:Operator}{p:Int->Int->Option D}{f:M D}{pos':Pos}(H:FnNm X.env.scope X.N gl)(ho:IpD X op p)(he:PE X e (tD X.K B G0 f))(hi:X.N[j]?=some x:=by rfl)(hf:X.fn x=true∨X.env.scope.names.lookup x=some .local:=by first|exact .inl rfl|exact .inr rfl|assumption):PS X (.AugAssign (.Name x pos') op e pos) (tS X.K B G0 KX (Xr p j f)):=ES H.nd hi (lq H j hi) ho he hf
theorem Ea{l:Bool}{tg elt iter:Uo}{ifs:List Uo}{gs:List Comprehension}{scope:Scope}{f:M (List D)}{s:D->UJ->Option UJ}{t:M Bool}{rd:RdB}{F:M (List D)}{k:Nat}{SC:Scope}{N1:List Str}(H:FnNm SC N1 gl)(le:∀Z es Z',F Z=.ok es Z'->dCG l f k s t rd Z=.ok es Z')(hc:X.calm=true)
  (hi:PI X tg iter (iD X.K B G0 f)) (hblk:ZV X (blN N1 (⟨tg,iter,ifs,0⟩::gs)) scope (.ListComp elt (⟨tg,iter,ifs,0⟩::gs) scope pos) tg ifs s t rd) (hb:Wj Vu SC scope N1 (blN N1 (⟨tg,iter,ifs,0⟩::gs)) k=true) (h1:X.env.scope=SC:=by rfl) (h2:X.N=N1:=by rfl) (hs:∀x,UH iter X.env x=pure x:=by intro _;rfl) :
  PE X (.ListComp elt (⟨tg,iter,ifs,0⟩::gs) scope pos) (tL X.K B G0 F):=FW _ _ _ k le hc hi hblk h1 h2 hb hs
theorem F9{l:Bool}{y:Str}{py spos:Pos}{tg elt iter:Uo}{ifs:List Uo}{gs:List Comprehension}{scope:Scope}{f:M (List D)}{s:D->UJ->Option UJ}{t:M Bool}{rd:RdB}{F:M (List D)}{k:Nat}{SC:Scope}{N1:List Str}(H:FnNm SC N1 gl)(le:∀Z es Z',F Z=.ok es Z'->dCG l f k s t rd Z=.ok es Z')(hc:X.calm=true)
  (hi:PI X tg iter (iD X.K B G0 f)) (hblk:ZV X (blN N1 (⟨tg,iter,ifs,0⟩::gs)) scope (.ListComp elt (⟨tg,iter,ifs,0⟩::gs) scope pos) tg ifs s t rd) (hb:Wj Vu SC scope N1 (blN N1 (⟨tg,iter,ifs,0⟩::gs)) k=true) (hj:N1[j]?=some y:=by rfl) (hy:SC.names.lookup y=some .local:=by rfl) (h1:X.env.scope=SC:=by rfl) (h2:X.N=N1:=by rfl) (hs:∀x,UH iter X.env x=pure x:=by intro _;rfl)
  (hsw:swapsWith (.ListComp elt (⟨tg,iter,ifs,0⟩::gs) scope pos) (some (.Name y py)) spos.line X.env=pure true:=by rfl) :
  PS X (.Assign [.Name y py] (.ListComp elt (⟨tg,iter,ifs,0⟩::gs) scope pos) spos) (tS X.K B G0 KX (K0 j F)):=sD_1 _ _ _ k le (h2 ▸ H.nd) (h2 ▸ hj) (h1 ▸ hy) hc hi hblk h1 h2 hb hs hsw
theorem EJ{l:Bool}{scope0:Scope}{cl:List (Str×Ul)}{C:Ul}{s₀:Uj}{H₀:Hp}{ex:List Ul}{N2:List Str}{tg elt iter:Uo}{ifs:List Uo}{gs:List Comprehension}{scope:Scope}{f:M (List D)}{s:D->UJ->Option UJ}{t:M Bool}{rd:RdB}{F:M (List D)}{k:Nat}(le:∀Z es Z',F Z=.ok es Z'->dCG l f k s t rd Z=.ok es Z')(hc:X.calm=true)
  (hi:PI (X.blk N2 scope0 cl C s₀ H₀ ex) tg iter (iD X.K B G0 f)) (hblk:ZV (X.blk N2 scope0 cl C s₀ H₀ ex) (blN N2 (⟨tg,iter,ifs,0⟩::gs)) scope (.ListComp elt (⟨tg,iter,ifs,0⟩::gs) scope pos) tg ifs s t rd) (hb:Wj Vu scope0 scope N2 (blN N2 (⟨tg,iter,ifs,0⟩::gs)) k=true) (hs:∀x,UH iter (X.blk N2 scope0 cl C s₀ H₀ ex).env x=pure x:=by intro _;rfl) :
  PE (X.blk N2 scope0 cl C s₀ H₀ ex) (.ListComp elt (⟨tg,iter,ifs,0⟩::gs) scope pos) (tL X.K B G0 F):=Ep _ k le hc hi hblk hb hs
end
end DL
namespace DL
open PySem PySem.Spec L2
open PyProof.Rows hiding St
open Builtin Builtin.Str
end DL
namespace DL
open PySem PySem.Spec L2
open PyProof.Rows hiding St
end DL
namespace DL
open PySem PySem.Spec L2
open PyProof.Rows hiding St
open PySem.SeqRoads2 PySem.SeqAt
end DL
namespace DL
open PySem PySem.Spec L2
open PyProof.Rows hiding St
end DL
namespace L2
open PySem PySem.Spec PyProof.Rows
end L2
namespace DL
open PySem PySem.Spec L2
open PyProof.Rows hiding St
end DL
namespace DL
open PySem PySem.Spec L2
open PyProof.Rows hiding St
open PySem.SeqRoads2 PySem.SeqAt
end DL
namespace DL
open PySem PySem.Spec L2
open PyProof.Rows hiding St
section
variable{X:Cx}{B G0:Hp}{KX:XW}{e e':Uo}{es es':List Uo}{st st':Stmt}{sts sts':List Stmt}{pos p2:Pos}{x:Str}{j:Nat}{gl:List Str}
theorem BY{g h:SM}(q:st::sts=sts')(h1:PS X st (tS X.K B G0 KX g))(h2:PSs X sts (tS X.K B G0 KX h)):PSs X sts' (tS X.K B G0 KX (UP g h)):=q ▸ SQ h1 h2
theorem EI{f:M (List D)}(q:Stmt.Assign [.Name x p2] e pos=st')(H:FnNm X.env.scope X.N gl)(he:PE X e (tL X.K B G0 f))(hi:X.N[j]?=some x:=by rfl)(hs:swapsWith e (some (.Name x p2)) pos.line X.env=pure false:=by rfl)
  (hf:X.fn x=true∨X.env.scope.names.lookup x=some .local:=by first|exact .inl rfl|exact .inr rfl|assumption):PS X st' (tS X.K B G0 KX (K0 j f)):=q ▸ NM H he hi hs hf
theorem BX{f:M (List D)}(q:Expr.List es pos=e')(h:PA X es (tDs X.K B G0 f)):PE X e' (tL X.K B G0 (U6 f λxs=>if xs.length<=1000000 then UQ xs else λ_=>.bad)):=q ▸ Lq h
theorem qm{f:M D}{g:M (List D)}(q:e::es=es')(ha:PE X e (tD X.K B G0 f))(hr:PA X es (tDs X.K B G0 g))(hs:Ur (e::es) X.env=(false,eval e X.env)::Ur es X.env:=by rfl):PA X es' (tDs X.K B G0 (UM f g)):=q ▸ Xh ha hr hs
end
theorem EOk.publishD{K:Frag}{B G0 G H:Hp}{σ:St}{Z:UJ}{i:Nat}{d:D}(k:EOk K B G0 G H σ Z)(h:Z[i]?=some (some (.deep .dic d))) :
  ∃a G',σ[i]?=some (some (.ref a))/\Same G G'/\Rep K G' (.ref a) d/\EOk K B G0 G' H σ (Z.set i (some (.pub d))):=by
 obtain⟨ω,k1,k2⟩:=k.dp;obtain⟨v,fp,h1,r,nd,w⟩:=k1 i _ _ h;have hl:i<Z.length:=(Qg.mp h).1;cases r with
 |@dic a ks vs ds kvs e hl' hH hr=>
 obtain⟨h2,h3,hω⟩:=w a Qn;have sg:Same G (upd G a (.dK (ks.zip vs))):=Zx h3
 have rr:Rep K (upd G a (.dK (ks.zip vs))) (.ref a) (.dict kvs):=by
  cases ks with
  |nil=>
   have e:kvs=[]:=by rw[e];rfl
   subst e;exact .dic K9
  |cons q ks=>exact .dct e (by simp) hl' K9 (hr.mono sg)
 have nz:∀{m:Nat}{s:Sl},(Z.set i (some (Sl.pub (.dict kvs))))[m]?=some (some s)->(i=m/\s=.pub (.dict kvs))∨(i≠m/\Z[m]?=some (some s)):=λ{m s} q=>by
  by_cases z:i=m
  ·subst z;rw[QI hl]at q;cases q;exact .inl ⟨rfl,rfl⟩
  ·rw[Qp z]at q;exact .inr ⟨z,q⟩
 refine⟨a,upd G a (.dK (ks.zip vs)),h1,sg,rr,⟨k.bh,λb u q=>?_,k.g0.trans sg,λb o q n=>?_,by rw[Q6];exact k.len,λj d q=>?_,λj es q=>?_,λj l c es fs q1 q2 s1 s2=>?_,?_⟩⟩
 ·by_cases z:b=a
  ·subst z;rw[K9]at q;cases q;exact hH
  ·rw[Ku z]at q;exact k.gh b u q
 ·have z:b≠a:=λz=>by subst z;rw[h2]at q;cases q
  rw[Ku z];exact k.np b o q n
 ·rcases nz q with ⟨rfl,e⟩|⟨_,q⟩
  ·cases e;exact⟨.ref a,h1,rr⟩
  ·obtain⟨v,g1,g2⟩:=k.pub j d q;exact⟨v,g1,g2.mono sg⟩
 ·rcases nz q with ⟨_,e⟩|⟨zi,q⟩
  ·cases e
  ·obtain⟨b,ws,g1,g2,g3,g4,g5⟩:=k.own j es q;have zb:b≠a:=λe=>zi (by rw[←hω,←e];exact k2 j es b q g1)
   exact⟨b,ws,g1,g2,by rw[Ku zb];exact g3,g4,g5.mono sg⟩
 ·rcases nz q1 with ⟨_,e⟩|⟨_,q1⟩
  ·cases e
  ·rcases nz q2 with ⟨_,e⟩|⟨_,q2⟩
   ·cases e
   ·exact k.sep j l c es fs q1 q2 s1 s2
 ·refine⟨ω,λm p d q=>?_,λm es b q s=>?_⟩
  ·rcases nz q with ⟨_,e⟩|⟨zi,q⟩
   ·cases e
   ·obtain⟨v,fp,s,r,n,w2⟩:=k1 m p d q;exact⟨v,fp,s,r.mono sg (.refl _),n,λb mb=>⟨(w2 b mb).1,by rw[Ku (λz=>zi (by rw[←hω,←z];exact(w2 b mb).2.2))];exact(w2 b mb).2.1,(w2 b mb).2.2⟩⟩
  ·rcases nz q with ⟨_,e⟩|⟨_,q⟩
   ·cases e
   ·exact k2 m es b q s
def Rk(i:Nat):M D:=λZ=>match Z[i]? with
 |some (some (.deep .dic d))=>.ok d (Z.set i (some (.pub d)))
 |_=>.bad
section
variable{X:Cx}{B G0:Hp}{e:Uo}
theorem CO{i:Nat}(h:PE X e (K2 i)):PE X e (tD X.K B G0 (Rk i)):=Kn h λσ H Q ⟨G,Z,k,a⟩=>by
 unfold Rk at a;split at a
 ·rename_i d q;obtain⟨ad,G',h1,h2,h3,h4⟩:=k.publishD q;exact⟨.ref ad,h1,a (.ref ad) G' H h4 h2 h3⟩
 ·exact a.elim
theorem CN{i:Nat}{Z Z':UJ}{d:D}(h:Z[i]?=some (some (.deep .dic d)))(h2:Z.set i (some (.pub d))=Z'):Rk i Z=.ok d Z':=by unfold Rk;rw[h];subst h2;rfl
end
section
variable{X:Cx}{B G0:Hp}{KX:XW}{a b e e':Uo}{es es':List Uo}{st st':Stmt}{sts sts':List Stmt}{pos p2:Pos}{x:Str}{j:Nat}{gl:List Str}
theorem F8{f:M D}(q:Stmt.Assign [.Name x p2] e pos=st')(H:FnNm X.env.scope X.N gl)(he:PE X e (tD X.K B G0 f))(hi:X.N[j]?=some x:=by rfl)(hs:swapsWith e (some (.Name x p2)) pos.line X.env=pure false:=by rfl)
  (hf:X.fn x=true∨X.env.scope.names.lookup x=some .local:=by first|exact .inl rfl|exact .inr rfl|assumption):PS X st' (tS X.K B G0 KX (U0 j f)):=q ▸ aSet H he hi hs hf
theorem BW{f:M (List D)}(q:Expr.List es pos=e')(h:PA X es (tDs X.K B G0 f)):PE X e' (tD X.K B G0 (Kj f)):=q ▸ OB h
theorem BV{x1}{f:M (List D)}(q:Expr.Tuple es x1 pos=e')(h:PA X es (tDs X.K B G0 f)):PE X e' (tD X.K B G0 (Kt f)):=q ▸ Pk h
theorem Mp{op:Operator}{p:D->D->Option D}{f g:M D}(o:OpD X (binaryOp op) p)(q:Expr.BinOp a op b pos=e')(ha:PE X a (tD X.K B G0 f))(hb:PE X b (tD X.K B G0 g)):PE X e' (tD X.K B G0 (UN p f g)):=q ▸ Vw o ha hb
end
end DL
namespace W
open PySem PySem.Spec L2 DL
open PyProof.Rows hiding St
def top(i:Nat):Stmt:=PySem.Challenge.pw_wishdeal_k61_whole_best_or_not.main.body.getD i (.Pass ⟨0,0,0,0⟩)
abbrev GG(s:Stmt)(x:Str):Prop:=(Z8 s).names.lookup x=some NameKind.globalImplicit
abbrev VV(s:Stmt)(x:Str):Prop:=L2.Vis (Z8 s) x
abbrev LL(s:Stmt)(x:Str):Prop:=L2.Loc (Z8 s) x
theorem vk{s:Stmt}{x:Str}(h:(Z8 s).names.lookup x=some .local∨(Z8 s).names.lookup x=some .cell∨(Z8 s).names.lookup x=some .free):VV s x:=h
theorem lk{s:Stmt}{x:Str}(h:(Z8 s).names.lookup x=some .local∨(Z8 s).names.lookup x=some .cell):LL s x:=h
structure Txt(K:Frag)(mg:Str->Option Ui):Prop where
 b_all:mg "all" = none
 b_bool:mg "bool" = none
 b_enumerate:mg "enumerate" = none
 b_int:mg "int" = none
 b_isinstance:mg "isinstance" = none
 b_len:mg "len" = none
 b_list:mg "list" = none
 b_max:mg "max" = none
 b_range:mg "range" = none
 b_set:mg "set" = none
 b_sorted:mg "sorted" = none
 b_str:mg "str" = none
 b_sum:mg "sum" = none
 b_tuple:mg "tuple" = none
 b_zip:mg "zip" = none
 c_MOST_ASKERS:∃t,mg "MOST_ASKERS" = some (Value.int 7 t)
 c_MOST_COPIES:∃t,mg "MOST_COPIES" = some (Value.int 7 t)
 c_MOST_RANKS:∃t,mg "MOST_RANKS" = some (Value.int 5 t)
 c_MOST_THINGS:∃t,mg "MOST_THINGS" = some (Value.int 6 t)
 c_ORDERS:∃ad o its n,mg "ORDERS" = some (.ref ad)/\K.lookup ad=some o/\o.cls=.type "tuple" /\ o.data=.seq its n/\its.size<=Up/\Vals ((["firsts", "full", "lasts"]:List Str).map V.str) its.toList
abbrev Sca:Stmt:=top 73
abbrev N_ca:List Str:=["_law_wishes_here", "_law_paper", "_law_tight_here", "_law_dealing", "_law_asker", "_law_what"]
theorem Hca:NmF Sca N_ca:=Ky (by decide +kernel)
def M4:SM:=
 sIf (KW (UN (oIB λi j=>decide (j<i)) (UN oIx (US 1 (UQ (.int 2))) (UI 5)) (UQ (.int 0))) (UN (oIB λi j=>decide (i<j)) (SG (UI 3) (UM (UI 5) (UK))) (UN oIx (US 0 (UQ (.int 0))) (UI 5))))
 (U4 (UQ (.bool false)))
 (sNx)
def M0:SM:=
 sIf (mOr (KW (UZ (λd=>!isNon d) (UI 5)) (UN Yi (Kt (UM (UI 4) (UM (UI 5) (UK)))) (UI 2))) (KW (UZ isNon (UI 5)) (UN (oIB λi j=>decide (j<i)) (UN oIx (US 1 (UQ (.int 1))) (UI 4)) (UQ (.int 0)))))
 (U4 (UQ (.bool false)))
 (sNx)
def Tg:SM:=
 UP (Ko (YJ (UM (UI 3) (UK))) (gT 2 (gNC (gN 4) (gNC (gN 5) (gN0)))) M0)
 (UP (Ko (YK (UM (K8 Ka (UM (US 0 (UQ (.int 0))) (UK))) (UK))) (gN 5) M4)
 (U4 (UQ (.bool true))))
def Y8:List D->Option D:=U5 N_ca Tg
abbrev Sbq:Stmt:=top 63
abbrev N_bq:List Str:=["_law_script", "_law_k"]
theorem Hbq:NmF Sbq N_bq:=Ky (by decide +kernel)
def WH:SM:=
 UP (sIf (K7 (oIB λi j=>decide (i<j)) 1 (Zb 0))
 (U4 (US 0 (UI 1)))
 (sNx))
 (U4 (UQ (.int 0)))
def YT:List D->Option D:=U5 N_bq WH
abbrev Sbt:Stmt:=top 66
abbrev N_bt:List Str:=["_law_wishes_here", "_law_asker", "_law_thing", "_law_k", "_law_row"]
theorem Hbt:NmF Sbt N_bt:=Ky (by decide +kernel)
def MZ:SM:=
 sIf (K7 oIn 2 (UI 4))
 (U4 (UN UW (UI 3) (UQ (.int 1))))
 (sNx)
def To:SM:=
 UP (Ko (YJ (UM (UN oIx (US 0 (UQ (.int 1))) (UI 1)) (UK))) (gT 2 (gNC (gN 3) (gNC (gN 4) (gN0)))) MZ)
 (U4 (UQ (.int 0)))
def WV:List D->Option D:=U5 N_bt To
abbrev Sbu:Stmt:=top 67
abbrev N_bu:List Str:=["_law_wishes_here"]
theorem Hbu:NmF Sbu N_bu:=Ky (by decide +kernel)
def Tn:SM:=
 U4 (K8 VX (UM (UZ Uv (Zu (KL (US 0 (UQ (.int 1)))) 1 (gN 1) (UQ true) (Zb 1))) (UK)))
def WU:List D->Option D:=U5 N_bu Tn
abbrev Sbx:Stmt:=top 70
abbrev N_bx:List Str:=["_law_wishes_here", "_law_aim_here", "_law_asker", "_law_thing", "_law_order", "_law_old", "_law_turns", "_law_base", "_law_ranks", "_law_rank_here", "_law_powers", "_law_k", "_law_worth_here", "_law_pick", "_law_one"]
theorem Hbx:NmF Sbx N_bx:=Ky (by decide +kernel)
def Pq:SM:=
 UP (U0 12 (UN Ke (UI 12) (UN UW (UI 8) (UQ (.int 1)))))
 (UP (U0 13 (UN Ke (UI 13) (UN UW (UI 8) (UQ (.int 1)))))
 (sIf (K7 oEq 14 (UI 2))
 (U0 13 (UN KD (UN UW (UN UW (UI 13) (UI 8)) (UQ (.int 1))) (UI 9)))
 (sNx)))
def MY:SM:=
 Zk 10 (UN Ke (US 10 (ZU (UQ (.int 1)))) (UI 7))
def Tj:SM:=
 UP (Zp (UI 1) (gT 3 (gNC (gN 4) (gNC (gN 5) (gNC (gN 6) (gN0))))))
 (UP (U0 7 (UN UW (K8 Ka (UM (US 0 (UQ (.int 1))) (UK))) (UQ (.int 1))))
 (UP (U0 8 (UX 1 WU (UM (UI 0) (UK))))
 (UP (U0 9 (UX 3 WV (UM (UI 0) (UM (UI 2) (UM (UI 3) (UK))))))
 (UP (K0 10 (U6 (UM (UQ (.int 1)) (UK)) λxs=>if xs.length<=1000000 then UQ xs else λ_=>.bad))
 (UP (Ko (YK (UM (UI 8) (UK))) (gN 11) MY)
 (UP (U0 12 (US 10 (UN KD (UI 8) (UI 9))))
 (UP (sIf (K7 oEq 4 (UQ (.str "full")))
 (U0 12 (UN UW (UI 12) (US 10 (UI 8))))
 (sNx))
 (UP (sIf (K7 oEq 4 (UQ (.str "lasts")))
 (U0 12 (UN KD (US 10 (UI 8)) (US 10 (UN KD (UI 9) (UQ (.int 1))))))
 (sNx))
 (UP (U0 12 (UN Ke (UI 12) (UI 7)))
 (UP (sIf (KW (UZ (λd=>!isNon d) (UI 5)) (UN oEq (US 5 (UI 2)) (UI 3)))
 (U0 12 (UN UW (UI 12) (UQ (.int 1))))
 (sNx))
 (UP (U0 13 (UQ (.int 0)))
 (UP (Ko (KL (UI 6)) (gN 14) Pq)
 (U4 (UN UW (UI 12) (UI 13)))))))))))))))
def XA:List D->Option D:=U5 N_bx Tj
abbrev Sby:Stmt:=top 71
abbrev N_by:List Str:=["_law_wishes_here", "_law_aim_here", "_law_dealing", "_law_total", "_law_asker", "_law_thing"]
theorem Hby:NmF Sby N_by:=Ky (by decide +kernel)
def MX:SM:=
 sIf (UZ (λd=>!isNon d) (UI 5))
 (U0 3 (UN UW (UI 3) (UX 4 XA (UM (UI 0) (UM (UI 1) (UM (UI 4) (UM (UI 5) (UK))))))))
 (sNx)
def Ti:SM:=
 UP (U0 3 (UQ (.int 0)))
 (UP (Ko (YJ (UM (UI 2) (UK))) (gT 2 (gNC (gN 4) (gNC (gN 5) (gN0)))) MX)
 (U4 (UI 3)))
def WS:List D->Option D:=U5 N_by Ti
abbrev Sbv:Stmt:=top 68
abbrev N_bv:List Str:=["_law_wishes_here", "_law_asker"]
theorem Hbv:NmF Sbv N_bv:=Ky (by decide +kernel)
def Tl:SM:=
 U4 (K8 VU (UM (K8 Sz (UM (UN oIx (US 0 (UQ (.int 1))) (UI 1)) (UM (Kj (UK)) (UK)))) (UK)))
def XB:List D->Option D:=U5 N_bv Tl
abbrev Scb:Stmt:=top 74
abbrev N_cb:List Str:=["_law_wishes_here", "_law_tight_here", "_law_digits", "_law_left", "_law_found", "_law_asker", "_law_some", "_law_what"]
theorem Hcb:NmF Scb N_cb:=Ky (by decide +kernel)
def OL:SM:=
 UP (K0 6 (SI (KL (UX 2 XB (UM (UI 0) (UM (UI 5) (UK))))) 1 (gN 8) (UN (oIB λi j=>decide (j<i)) (US 3 (UI 8)) (UQ (.int 0))) (UI 8)))
 (UP (sIf (UN (oIB λi j=>decide (j<i)) (US 2 (UQ (.int 0))) (UQ (.int 0)))
 (K0 6 (Zu (KL (UI 6)) 1 (gN 8) (UN oIn (Kt (UM (UI 5) (UM (UI 8) (UK)))) (UI 1)) (UI 8)))
 (sNx))
 (UP (U0 6 (UN UW (UI 6) (UN Ke (Kj (UM (UQ .none) (UK))) (K8 Vt (UM (YR (UZ Uw (UN (oIB λi j=>decide (j<i)) (US 2 (UN UW (UQ (.int 1)) (UI 5))) (UQ (.int 40)))) (UZ Uw (K7 oEq 6 (Kj (UK))))) (UK))))))
 (UP (U0 7 (US 6 (UN ZS (US 2 (UN UW (UQ (.int 1)) (UI 5))) (Zb 6))))
 (UP (sIf (UZ (λd=>!isNon d) (UI 7))
 (Wn 3 (UI 7) (UN KD (US 3 (UI 7)) (UQ (.int 1))))
 (sNx))
 (Zk 4 (UI 7))))))
def Tf:SM:=
 UP (K0 3 (U6 (UM (US 0 (UQ (.int 0))) (UK)) λxs=>U8 (XH xs)))
 (UP (K0 4 (U6 (UK) λxs=>if xs.length<=1000000 then UQ xs else λ_=>.bad))
 (UP (Ko (YK (UM (K8 Ka (UM (US 0 (UQ (.int 1))) (UK))) (UK))) (gN 5) OL)
 (U4 (UI 4))))
def WQ:List D->Option D:=U5 N_cb Tf
abbrev Sbr:Stmt:=top 64
abbrev N_br:List Str:=["_law_cell", "_law_salt", "_law_sizes", "_law_number", "_law_left", "_law_found", "_law_k", "_law_one"]
theorem Hbr:NmF Sbr N_br:=Ky (by decide +kernel)
def OK:SM:=
 sIf (KW (K7 (oIB λi j=>decide (j<=i)) 3 (UN X4 (UQ (.int 10)) (UQ (.int 18)))) (K7 (oIB λi j=>decide (j<i)) 4 (UQ (.int 0))))
 (UP (Zk 5 (UN ZS (UI 4) (US 2 (UI 6))))
 (U0 4 (UN X5 (UI 4) (US 2 (UI 6)))))
 (UP (U0 7 (UN ZS (UN UW (UN UW (UN UW (UI 3) (UN Ke (UQ (.int 7919)) (UI 1))) (UN Ke (UN Ke (UQ (.int 101)) (UI 6)) (UI 6))) (UI 6)) (UQ (.int 2147483647))))
 (UP (U0 7 (UN ZS (UN Ke (UI 7) (UQ (.int 48271))) (UQ (.int 2147483647))))
 (UP (U0 7 (UN ZS (UN Ke (UN ZS (UN Ke (UI 7) (UI 7)) (UQ (.int 2147483629))) (UQ (.int 48271))) (UQ (.int 2147483647))))
 (Zk 5 (UN ZS (UN X5 (UI 7) (UQ (.int 16))) (US 2 (UI 6)))))))
def Tq:SM:=
 UP (U0 3 (K8 Rl (UM (UI 0) (UM (UN KD (ZU (UQ (.int 1))) (UI 0)) (UK)))))
 (UP (U0 4 (UI 3))
 (UP (K0 5 (U6 (UK) λxs=>if xs.length<=1000000 then UQ xs else λ_=>.bad))
 (UP (Ko (YK (UM (Zb 2) (UK))) (gN 6) OK)
 (U4 (UI 5)))))
def YE:List D->Option D:=U5 N_br Tq
abbrev Sbz:Stmt:=top 72
abbrev N_bz:List Str:=["_law_wishes_here", "_law_aim_here", "_law_paper", "_law_found", "_law_asker", "_law_what"]
theorem Hbz:NmF Sbz N_bz:=Ky (by decide +kernel)
def MW:SM:=
 sIf (UN oEq (UN UW (UN oIx (US 2 (UQ (.int 1))) (UI 4)) (UN oIx (US 2 (UQ (.int 2))) (UI 5))) (UN Ke (US 2 (UQ (.int 0))) (UX 4 XA (UM (UI 0) (UM (UI 1) (UM (UI 4) (UM (UI 5) (UK))))))))
 (Zk 3 (Kt (UM (UI 4) (UM (UI 5) (UK)))))
 (sNx)
def MV:SM:=
 Ko (KL (UX 2 XB (UM (UI 0) (UM (UI 4) (UK))))) (gN 5) MW
def Th:SM:=
 UP (K0 3 (U6 (UK) λxs=>if xs.length<=1000000 then UQ xs else λ_=>.bad))
 (UP (Ko (YK (UM (K8 Ka (UM (US 0 (UQ (.int 1))) (UK))) (UK))) (gN 4) MV)
 (U4 (UI 3)))
def WR:List D->Option D:=U5 N_bz Th
abbrev Saa:Stmt:=top 1
abbrev N_aa:List Str:=["thing"]
theorem Haa:NmF Saa N_aa:=Ky (by decide +kernel)
def Sj:SM:=
 U4 (VR (UZ (λd=>.bool (K5 d "int")) (UI 0)) (RX (UZ (λd=>.bool (K5 d "bool")) (UI 0))))
def Vq:List D->Option D:=U5 N_aa Sj
abbrev Sab:Stmt:=top 2
abbrev N_ab:List Str:=["thing", "many"]
theorem Hab:NmF Sab N_ab:=Ky (by decide +kernel)
def Sh:SM:=
 U4 (VR (UX 1 Vq (UM (UI 0) (UK))) (UZ Uw (V1 (oIB λi j=>decide (i<=j)) (oIB λi j=>decide (i<j)) (UQ (.int 0)) (UI 0) (UI 1))))
def ZL:List D->Option D:=U5 N_ab Sh
abbrev Sad:Stmt:=top 13
abbrev N_ad:List Str:=["thing", "things"]
theorem Had:NmF Sad N_ad:=Ky (by decide +kernel)
def Sf:SM:=
 UP (sIf (mOr (KN (Z9 (UZ (λd=>.bool (K5 d "list")) (UI 0)))) (UN oEq (Zb 0) (UQ (.int 0))))
 (U4 (UQ (.bool false)))
 (sNx))
 (U4 (K8 YA (UM (UZ Uv (Zu (KL (UI 0)) 1 (gN 2) (UQ true) (UX 2 ZL (UM (UI 2) (UM (UI 1) (UK)))))) (UK))))
def Wb:List D->Option D:=U5 N_ad Sf
abbrev Sae:Stmt:=top 14
abbrev N_ae:List Str:=["thing", "things", "wished"]
theorem Hae:NmF Sae N_ae:=Ky (by decide +kernel)
def Se:SM:=
 UP (sIf (mOr (KN (Z9 (UZ (λd=>.bool (K5 d "list")) (UI 0)))) (UN (oIB λi j=>decide (j<i)) (Zb 0) (UQ (.int 5))))
 (U4 (UQ (.bool false)))
 (sNx))
 (UP (sIf (KN (Z9 (K8 YA (UM (UZ Uv (Zu (KL (UI 0)) 1 (gN 3) (UQ true) (UX 2 Wb (UM (UI 3) (UM (UI 1) (UK)))))) (UK)))))
 (U4 (UQ (.bool false)))
 (sNx))
 (UP (K0 2 (Ru (KL (UI 0)) 2 (gN 3) (UQ true) (KL (UI 3)) (gN 4) (UQ true) (UI 4)))
 (U4 (UZ Uw (UN oEq (K8 Ws (UM (UI 2) (UK))) (Zb 2))))))
def Vo:List D->Option D:=U5 N_ae Se
abbrev Saf:Stmt:=top 15
abbrev N_af:List Str:=["lists", "things", "asker", "ranks"]
theorem Haf:NmF Saf N_af:=Ky (by decide +kernel)
def MU:SM:=
 sIf (KN (Z9 (UX 2 Vo (UM (UI 3) (UM (UI 1) (UK))))))
 (Wk)
 (sNx)
def Sd:SM:=
 UP (sIf (mOr (KN (Z9 (UZ (λd=>.bool (K5 d "list")) (UI 0)))) (KN (V1 (oIB λi j=>decide (i<=j)) (oIB λi j=>decide (i<=j)) (UQ (.int 1)) (Zb 0) (UQ (.int 7)))))
 (Wk)
 (sNx))
 (Ko (YJ (UM (UI 0) (UK))) (gT 2 (gNC (gN 2) (gNC (gN 3) (gN0)))) MU)
def Vn:List D->Option D:=U5 N_af Sd
abbrev Sac:Stmt:=top 12
abbrev N_ac:List Str:=["copies", "number", "many"]
theorem Hac:NmF Sac N_ac:=Ky (by decide +kernel)
def MT:SM:=
 sIf (KN (Z9 (UX 2 ZL (UM (UI 2) (UM (UN UW (UQ (.int 7)) (UQ (.int 1))) (UK))))))
 (Wk)
 (sNx)
def Sg:SM:=
 UP (sIf (mOr (KN (Z9 (UZ (λd=>.bool (K5 d "list")) (UI 0)))) (KN (V1 (oIB λi j=>decide (i<=j)) (oIB λi j=>decide (i<=j)) (UQ (.int 1)) (Zb 0) (UQ (.int 6)))))
 (Wk)
 (sNx))
 (Ko (YJ (UM (UI 0) (UK))) (gT 2 (gNC (gN 1) (gNC (gN 2) (gN0)))) MT)
def Vp:List D->Option D:=U5 N_ac Sg
abbrev Sag:Stmt:=top 16
abbrev N_ag:List Str:=["thing", "copies", "lists"]
theorem Hag:NmF Sag N_ag:=Ky (by decide +kernel)
def Sc:SM:=
 UP (sIf (mOr (KN (Z9 (UZ (λd=>.bool (K5 d "tuple")) (UI 0)))) (UN oNe (Zb 0) (UQ (.int 2))))
 (Wk)
 (sNx))
 (UP (Zp (UI 0) (gT 2 (gNC (gN 1) (gNC (gN 2) (gN0)))))
 (UP (XJ (UX 1 Vp (UM (UI 1) (UK))))
 (XJ (UX 2 Vn (UM (UI 2) (UM (Zb 1) (UK)))))))
def ZW:List D->Option D:=U5 N_ag Sc
abbrev Sbo:Stmt:=top 59
abbrev N_bo:List Str:=["wishes", "paper", "times", "asks", "prices"]
theorem Hbo:NmF Sbo N_bo:=Ky (by decide +kernel)
def Ts:SM:=
 UP (XJ (UX 1 ZW (UM (UI 0) (UK))))
 (UP (Zp (UI 1) (gT 3 (gNC (gN 2) (gNC (gN 3) (gNC (gN 4) (gN0))))))
 (U4 (UN UW (K8 VW (UM (UI 3) (UK))) (K8 VW (UM (UZ Uv (Zu (WM (UM (UI 4) (UM (US 0 (UQ (.int 0))) (UK)))) 2 (gT 2 (gNC (gN 5) (gNC (gN 6) (gN0)))) (UQ true) (UN Ke (UI 5) (UI 6)))) (UK))))))
def WY:List D->Option D:=U5 N_bo Ts
abbrev Sbd:Stmt:=top 46
abbrev N_bd:List Str:=["nothing", "steps", "begin", "number", "step", "way", "ahead", "behind", "gain", "asker"]
theorem Hbd:NmF Sbd N_bd:=Ky (by decide +kernel)
def MS:SM:=
 sIf (UZ (λd=>!isNon d) (UI 9))
 (Zk 5 (Kt (UM (UI 9) (UM (mIf (K7 oEq 7 (UI 0)) (UQ .none) (UI 7)) (UK)))))
 (sNx)
def MR:SM:=
 sIf (UN oEq (US 4 (UQ (.int 0))) (UI 0))
 (U0 2 (UI 3))
 (sNx)
def TH:SM:=
 UP (U0 2 (UQ (.int 0)))
 (UP (Ko (YJ (UM (UI 1) (UK))) (gT 2 (gNC (gN 3) (gNC (gN 4) (gN0)))) MR)
 (UP (K0 5 (U6 (UK) λxs=>if xs.length<=1000000 then UQ xs else λ_=>.bad))
 (UP (Ko (KL (UN UW (ZT (UI 1) (U6 (UI 2) λx=>U8 (YG x)) (UQ none)) (ZT (UI 1) (UQ none) (U6 (UI 2) λx=>U8 (YG x))))) (gT 4 (gNC (gN 6) (gNC (gN 7) (gNC (gN 8) (gNC (gN 9) (gN0)))))) MS)
 (U4 (UI 5)))))
def Y9:List D->Option D:=U5 N_bd TH
abbrev Sav:Stmt:=top 37
abbrev N_av:List Str:=["dealing", "way", "told", "asker", "taken"]
theorem Hav:NmF Sav N_av:=Ky (by decide +kernel)
def MQ:SM:=
 Wn 2 (UI 3) (UI 4)
def TU:SM:=
 UP (K0 2 (V0 0))
 (UP (Ko (KL (UI 1)) (gT 2 (gNC (gN 3) (gNC (gN 4) (gN0)))) MQ)
 (U4 (UI 2)))
def XF:List D->Option D:=U5 N_av TU
abbrev Sbn:Stmt:=top 57
abbrev N_bn:List Str:=["dealing", "steps", "roads", "nothing", "told", "step", "ahead", "behind", "gain", "asker", "is_left", "shown"]
theorem Hbn:NmF Sbn N_bn:=Ky (by decide +kernel)
def MP:SM:=
 UP (Zp (UI 5) (gT 4 (gNC (gN 6) (gNC (gN 7) (gNC (gN 8) (gNC (gN 9) (gN0)))))))
 (UP (U0 10 (VR (UZ (λd=>.bool (isNon d)) (UI 9)) (UZ Uw (K7 oEq 7 (UI 3)))))
 (sIf (KW (K7 ZC 6 (US 2 (UI 7))) (KN (Z9 (UI 10))))
 (UP (U0 11 (UX 2 XF (UM (UI 0) (UM (UX 2 Y9 (UM (UI 3) (UM (UN UW (Kj (UM (UI 5) (UK))) (UN Vy (US 2 (UI 7)) (UI 6))) (UK)))) (UK)))))
 (sIf (VT Yi (UI 11) 4)
 (Zk 4 (UI 11))
 (sNx)))
 (sNx)))
def Tt:SM:=
 UP (U0 3 (UN KD (Zb 2) (UQ (.int 1))))
 (UP (K0 4 (U6 (UM (UZ Uv (V0 0)) (UK)) λxs=>if xs.length<=1000000 then UQ xs else λ_=>.bad))
 (UP (Ko (KL (UI 1)) (gN 5) MP)
 (U4 (UI 4))))
def X7:List D->Option D:=U5 N_bn Tt
abbrev Sbh:Stmt:=top 50
abbrev N_bh:List Str:=["askers", "worths", "prices", "asks", "asker", "thing", "worth"]
theorem Hbh:NmF Sbh N_bh:=Ky (by decide +kernel)
def MN:SM:=
 Wn 3 (UI 4) (K8 Rl (UM (US 3 (UI 4)) (UM (UN KD (UI 6) (US 2 (UI 5))) (UK))))
def TB:SM:=
 UP (K0 3 (Sx (Kj (UM (UQ (.int 0)) (UK))) (UI 0)))
 (UP (Ko (KL (UI 1)) (gT 3 (gNC (gN 4) (gNC (gN 5) (gNC (gN 6) (gN0))))) MN)
 (U4 (UI 3)))
def W4:List D->Option D:=U5 N_bh TB
abbrev Sbl:Stmt:=top 55
abbrev N_bl:List Str:=["prices", "roads", "times", "led_from"]
theorem Hbl:NmF Sbl N_bl:=Ky (by decide +kernel)
def Tv:SM:=
 UP (U0 2 (Zb 1))
 (UP (K0 3 (Zu (YK (UM (UI 2) (UK))) 1 (gN 4) (UQ true) (K8 Ka (UM (UZ Uv (Zu (KL (UI 1)) 1 (gN 5) (K7 ZC 4 (UI 5)) (UI 5))) (UK)))))
 (U4 (UZ Uv (SI (YJ (UM (UI 0) (UK))) 2 (gT 2 (gNC (gN 4) (gNC (gN 5) (gN0)))) (UQ true) (UN KD (UN UW (UN Ke (UI 2) (UI 5)) (US 3 (UI 4))) (US 3 (ZU (UQ (.int 1)))))))))
def W0:List D->Option D:=U5 N_bl Tv
abbrev Sbm:Stmt:=top 56
abbrev N_bm:List Str:=["askers", "worths", "prices", "roads", "times", "finer", "asks"]
theorem Hbm:NmF Sbm N_bm:=Ky (by decide +kernel)
def Tu:SM:=
 UP (U0 4 (Zb 3))
 (UP (U0 5 (UX 2 W0 (UM (UI 2) (UM (UI 3) (UK)))))
 (UP (U0 6 (UX 3 W4 (UM (UI 0) (UM (UZ Uv (Zu (KL (UI 1)) 3 (gT 3 (gNC (gN 7) (gNC (gN 8) (gNC (gN 9) (gN0))))) (UQ true) (Kt (UM (UI 7) (UM (UI 8) (UM (UN Ke (UI 4) (UI 9)) (UK))))))) (UM (UI 5) (UK))))))
 (U4 (Kt (UM (UI 4) (UM (UI 6) (UM (UI 5) (UK))))))))
def WZ:List D->Option D:=U5 N_bm Tu
abbrev Sbj:Stmt:=top 53
abbrev N_bj:List Str:=["place", "places", "steps", "told", "turn", "step"]
theorem Hbj:NmF Sbj N_bj:=Ky (by decide +kernel)
def MM:SM:=
 sIf (KW (YS true 3 (US 5 (UQ (.int 0)))) (YS false 3 (US 5 (UQ (.int 1)))))
 (R3 3 (US 5 (UQ (.int 1))) (UN UW (X6 3 (US 5 (UQ (.int 0)))) (Kj (UM (UI 5) (UK)))))
 (sNx)
def ML:SM:=
 Ko (KL (UI 2)) (gN 5) MM
def Tx:SM:=
 UP (Sw 3 .dic (P5 [(UI 0,Kj (UK))]))
 (UP (Ko (YK (UM (UI 1) (UK))) (gN 4) ML)
 (U4 (Rk 3)))
def W2:List D->Option D:=U5 N_bj Tx
abbrev Sbk:Stmt:=top 54
abbrev N_bk:List Str:=["places", "steps"]
theorem Hbk:NmF Sbk N_bk:=Ky (by decide +kernel)
def Tw:SM:=
 U4 (UZ Uv (Zu (YK (UM (UI 0) (UK))) 1 (gN 2) (UQ true) (UX 3 W2 (UM (UI 2) (UM (UI 0) (UM (UI 1) (UK)))))))
def W1:List D->Option D:=U5 N_bk Tw
abbrev Saw:Stmt:=top 39
abbrev N_aw:List Str:=["nothing", "got"]
theorem Haw:NmF Saw N_aw:=Ky (by decide +kernel)
def TR:SM:=
 U4 (mIf (UZ isNon (UI 1)) (UI 0) (UI 1))
def X9:List D->Option D:=U5 N_aw TR
abbrev Sax:Stmt:=top 40
abbrev Sm:List Str:=["nothing", "worths", "dealing", "had", "asker", "thing", "worth", "told"]
theorem Hax:FnNm (Z8 Sax) Sm ["place_of", "enumerate", "len"]:=Ky (by decide +kernel)
def MK:SM:=
 sIf (UN oNe (US 2 (UI 4)) (UI 5))
 (Zk 7 (Kt (UM (UX 2 X9 (UM (UI 0) (UM (US 2 (UI 4)) (UK)))) (UM (UI 5) (UM (UN KD (UI 6) (US 3 (UI 4))) (UM (UI 4) (UK)))))))
 (sNx)
def MJ:SM:=
 sIf (UN oEq (US 2 (UI 4)) (UI 5))
 (Wn 3 (UI 4) (UI 6))
 (sNx)
def TQ:SM:=
 UP (K0 3 (Sx (Kj (UM (UQ (.int 0)) (UK))) (Zb 2)))
 (UP (Ko (KL (UI 1)) (gT 3 (gNC (gN 4) (gNC (gN 5) (gNC (gN 6) (gN0))))) MJ)
 (UP (K0 7 (Wh (Zu (YJ (UM (UI 2) (UK))) 2 (gT 2 (gNC (gN 8) (gNC (gN 9) (gN0)))) (UZ (λd=>!isNon d) (UI 9)) (Kt (UM (UI 9) (UM (UI 0) (UM (ZU (US 3 (UI 8))) (UM (UI 8) (UK)))))))))
 (UP (Ko (KL (UI 1)) (gT 3 (gNC (gN 4) (gNC (gN 5) (gNC (gN 6) (gN0))))) MK)
 (U4 (UI 7)))))
def Va:List D->Option D:=U5 Sm TQ
abbrev Sak:Stmt:=top 21
abbrev N_ak:List Str:=["wishes", "dealing"]
theorem Hak:NmF Sak N_ak:=Ky (by decide +kernel)
def T8:SM:=
 UP (XJ (UX 1 ZW (UM (UI 0) (UK))))
 (U4 (UZ Uv (Zu (YJ (UM (US 0 (UQ (.int 0))) (UK))) 2 (gT 2 (gNC (gN 2) (gNC (gN 3) (gN0)))) (UQ true) (UN KD (UI 3) (SG (UI 1) (UM (UI 2) (UK)))))))
def Vj:List D->Option D:=U5 N_ak T8
abbrev Say:Stmt:=top 41
abbrev N_ay:List Str:=["wishes", "dealing", "nothing", "left", "to_nothing"]
theorem Hay:NmF Say N_ay:=Ky (by decide +kernel)
def TN:SM:=
 UP (U0 2 (K8 Ka (UM (US 0 (UQ (.int 0))) (UK))))
 (UP (U0 3 (UX 2 Vj (UM (UI 0) (UM (UI 1) (UK)))))
 (UP (K0 4 (Zu (YJ (UM (UI 3) (UK))) 2 (gT 2 (gNC (gN 5) (gNC (gN 6) (gN0)))) (K7 (oIB λi j=>decide (j<i)) 6 (UQ (.int 0))) (Kt (UM (UI 5) (UM (UI 2) (UM (UQ (.int 0)) (UM (UQ .none) (UK))))))))
 (U4 (UN UW (UI 4) (UZ Uv (Zu (YK (UM (UI 2) (UK))) 1 (gN 5) (UQ true) (Kt (UM (UI 2) (UM (UI 5) (UM (UQ (.int 0)) (UM (UQ .none) (UK))))))))))))
def W9:List D->Option D:=U5 N_ay TN
abbrev Saz:Stmt:=top 42
abbrev N_az:List Str:=["wishes", "worths", "dealing"]
theorem Haz:NmF Saz N_az:=Ky (by decide +kernel)
def TM:SM:=
 U4 (UN UW (UX 3 Va (UM (K8 Ka (UM (US 0 (UQ (.int 0))) (UK))) (UM (UI 1) (UM (UI 2) (UK))))) (UX 2 W9 (UM (UI 0) (UM (UI 2) (UK)))))
def Yr:List D->Option D:=U5 N_az TM
abbrev Sbi:Stmt:=top 52
abbrev N_bi:List Str:=["steps", "prices", "paid"]
theorem Hbi:NmF Sbi N_bi:=Ky (by decide +kernel)
def Tz:SM:=
 UP (U0 2 (UN UW (UI 1) (Kj (UM (UQ (.int 0)) (UK)))))
 (U4 (UZ Uv (Zu (KL (UI 0)) 1 (gN 3) (UN oEq (UN UW (US 2 (US 3 (UQ (.int 0)))) (US 3 (UQ (.int 2)))) (US 2 (US 3 (UQ (.int 1))))) (UI 3))))
def W3:List D->Option D:=U5 N_bi Tz
abbrev Sba:Stmt:=top 43
abbrev N_ba:List Str:=["walks", "steps", "told", "step", "ahead", "behind", "gain", "asker", "gained", "walked"]
theorem Hba:NmF Sba N_ba:=Ky (by decide +kernel)
def Lg:SM:=
 UP (Zp (UI 3) (gT 4 (gNC (gN 4) (gNC (gN 5) (gNC (gN 6) (gNC (gN 7) (gN0)))))))
 (UP (Zp (US 0 (UI 4)) (gT 2 (gNC (gN 8) (gNC (gN 9) (gN0)))))
 (sIf (UN (oIB λi j=>decide (j<i)) (UN UW (UI 8) (UI 6)) (UN oIx (US 2 (UI 5)) (UQ (.int 0))))
 (Wn 2 (UI 5) (Kt (UM (UN UW (UI 8) (UI 6)) (UM (UN UW (UI 9) (Kj (UM (UI 3) (UK)))) (UK)))))
 (sNx)))
def TL:SM:=
 UP (K0 2 (V0 0))
 (UP (Ko (KL (UI 1)) (gN 3) Lg)
 (U4 (UI 2)))
def W8:List D->Option D:=U5 N_ba TL
abbrev Sbb:Stmt:=top 44
abbrev N_bb:List Str:=["places", "steps", "told", "turn"]
theorem Hbb:NmF Sbb N_bb:=Ky (by decide +kernel)
def Lf:SM:=
 U0 2 (UX 2 W8 (UM (UI 2) (UM (UI 1) (UK))))
def TK:SM:=
 UP (U0 2 (UN Ke (Kj (UM (Kt (UM (UQ (.int 0)) (UM (Kj (UK)) (UK)))) (UK))) (UI 0)))
 (UP (Ko (YK (UM (UI 0) (UK))) (gN 3) Lf)
 (U4 (UI 2)))
def XE:List D->Option D:=U5 N_bb TK
abbrev Sbg:Stmt:=top 49
abbrev N_bg:List Str:=["wishes", "worths", "dealing", "nothing", "walks"]
theorem Hbg:NmF Sbg N_bg:=Ky (by decide +kernel)
def TC:SM:=
 UP (U0 3 (K8 Ka (UM (US 0 (UQ (.int 0))) (UK))))
 (UP (U0 4 (UX 2 XE (UM (UN UW (UI 3) (UQ (.int 1))) (UM (UX 3 Yr (UM (UI 0) (UM (UI 1) (UM (UI 2) (UK))))) (UK)))))
 (U4 (UZ Uv (Zu (KL (ZT (UI 4) (UQ none) (U6 (UI 3) λx=>U8 (YG x)))) 2 (gT 2 (gNC (gN 5) (gNC (gN 6) (gN0)))) (UQ true) (UI 5)))))
def W5:List D->Option D:=U5 N_bg TC
abbrev Sbc:Stmt:=top 45
abbrev N_bc:List Str:=["walk", "end", "step", "begin"]
theorem Hbc:NmF Sbc N_bc:=Ky (by decide +kernel)
def Le:SM:=
 sIf (UN oEq (UN oIx (US 0 (UI 3)) (UQ (.int 0))) (US 2 (UQ (.int 1))))
 (U4 (ZT (UI 0) (U6 (UI 3) λx=>U8 (YG x)) (U6 (UN UW (UI 1) (UQ (.int 1))) λx=>U8 (YG x))))
 (sNx)
def Ld:SM:=
 Ko (YK (UM (UN UW (UI 1) (UQ (.int 1))) (UK))) (gN 3) Le
def TJ:SM:=
 UP (Ko (YJ (UM (UI 0) (UK))) (gT 2 (gNC (gN 1) (gNC (gN 2) (gN0)))) Ld)
 (U4 (Kj (UK)))
def W7:List D->Option D:=U5 N_bc TJ
abbrev Sbe:Stmt:=top 47
abbrev N_be:List Str:=["wishes", "worths", "dealing", "nothing", "gained", "walk"]
theorem Hbe:NmF Sbe N_be:=Ky (by decide +kernel)
def Lc:SM:=
 sIf (UN oEq (Zb 5) (UN UW (UI 3) (UQ (.int 1))))
 (U4 (UX 2 Y9 (UM (UI 3) (UM (UX 1 W7 (UM (UI 5) (UK))) (UK)))))
 (sNx)
def TF:SM:=
 UP (U0 3 (K8 Ka (UM (US 0 (UQ (.int 0))) (UK))))
 (UP (Ko (KL (UX 2 XE (UM (UN UW (UI 3) (UQ (.int 1))) (UM (UX 3 Yr (UM (UI 0) (UM (UI 1) (UM (UI 2) (UK))))) (UK))))) (gT 2 (gNC (gN 4) (gNC (gN 5) (gN0)))) Lc)
 (U4 (Kj (UK))))
def X8:List D->Option D:=U5 N_be TF
abbrev Sbf:Stmt:=top 48
abbrev N_bf:List Str:=["wishes", "worths", "dealing", "way"]
theorem Hbf:NmF Sbf N_bf:=Ky (by decide +kernel)
def Pp:SM:=
 UP (U0 2 (UX 2 XF (UM (UI 2) (UM (UI 3) (UK)))))
 (U0 3 (UX 3 X8 (UM (UI 0) (UM (UI 1) (UM (UI 2) (UK))))))
def TD:SM:=
 UP (U0 2 (UN Ke (Kj (UM (UQ .none) (UK))) (K8 Ka (UM (US 0 (UQ (.int 1))) (UK)))))
 (UP (U0 3 (UX 3 X8 (UM (UI 0) (UM (UI 1) (UM (UI 2) (UK))))))
 (UP (Xe (RI (UI 3)) Pp Wc)
 (U4 (UI 2))))
def W6:List D->Option D:=U5 N_bf TD
abbrev Saj:Stmt:=top 19
abbrev N_aj:List Str:=["wishes"]
theorem Haj:NmF Saj N_aj:=Ky (by decide +kernel)
def T9:SM:=
 UP (XJ (UX 1 ZW (UM (UI 0) (UK))))
 (U4 (K8 VU (UM (UZ Uv (Rt (YJ (UM (US 0 (UQ (.int 1))) (UK))) 4 (gT 2 (gNC (gN 1) (gNC (gN 2) (gN0)))) (UQ true) (KL (UI 2)) (gN 3) (UQ true) (KL (UI 3)) (gN 4) (UQ true) (Kt (UM (UI 1) (UM (UI 4) (UK)))))) (UK))))
def Vk:List D->Option D:=U5 N_aj T9
abbrev Saq:Stmt:=top 31
abbrev N_aq:List Str:=["base", "times", "told", "step"]
theorem Haq:NmF Saq N_aq:=Ky (by decide +kernel)
def Lb:SM:=
 Xr Yq 2 (UI 0)
def T2:SM:=
 UP (U0 2 (UQ (.int 1)))
 (UP (Ko (YK (UM (UI 1) (UK))) (gN 3) Lb)
 (U4 (UI 2)))
def Zs:List D->Option D:=U5 N_aq T2
abbrev Sas:Stmt:=top 33
abbrev N_as:List Str:=["turns", "base", "asker", "rank", "behind"]
theorem Has:NmF Sas N_as:=Ky (by decide +kernel)
def TY:SM:=
 UP (sIf (K7 Yi 2 (UI 0))
 (U4 (UQ (.int 0)))
 (sNx))
 (UP (U0 4 (UN KD (UN KD (Zb 0) (UQ (.int 1))) (Pg (UI 0) (UM (UI 2) (UK)))))
 (U4 (UN Ke (UN KD (UI 1) (UI 3)) (UX 2 Zs (UM (UI 1) (UM (UI 4) (UK)))))))
def Vc:List D->Option D:=U5 N_as TY
abbrev Sar:Stmt:=top 32
abbrev N_ar:List Str:=["order", "base", "most", "rank"]
theorem Har:NmF Sar N_ar:=Ky (by decide +kernel)
def TZ:SM:=
 UP (sIf (K7 oEq 0 (UQ (.str "firsts")))
 (U4 (UX 2 Zs (UM (UI 1) (UM (UN KD (UI 2) (UI 3)) (UK)))))
 (sNx))
 (UP (sIf (K7 oEq 0 (UQ (.str "full")))
 (U4 (UN UW (UX 2 Zs (UM (UI 1) (UM (UI 2) (UK)))) (UX 2 Zs (UM (UI 1) (UM (UN KD (UI 2) (UI 3)) (UK))))))
 (sNx))
 (U4 (UN KD (UX 2 Zs (UM (UI 1) (UM (UI 2) (UK)))) (UX 2 Zs (UM (UI 1) (UM (UN KD (UI 3) (UQ (.int 1))) (UK)))))))
def Vd:List D->Option D:=U5 N_ar TZ
abbrev Sah:Stmt:=top 17
abbrev N_ah:List Str:=["ranks", "thing", "number", "rank"]
theorem Hah:NmF Sah N_ah:=Ky (by decide +kernel)
def La:SM:=
 sIf (K7 oIn 1 (UI 3))
 (U4 (UI 2))
 (sNx)
def Sb:SM:=
 UP (Ko (Ph (UM (UI 0) (UK))) (gT 2 (gNC (gN 2) (gNC (gN 3) (gN0)))) La)
 (U4 (UQ (.int 0)))
def Vm:List D->Option D:=U5 N_ah Sb
abbrev Sat:Stmt:=top 34
abbrev N_at:List Str:=["wishes", "aim", "most", "asker", "thing", "order", "old", "turns", "lists", "rank", "base", "kept", "by_counts"]
theorem Hat:NmF Sat N_at:=Ky (by decide +kernel)
def TX:SM:=
 UP (Zp (UI 1) (gT 3 (gNC (gN 5) (gNC (gN 6) (gNC (gN 7) (gN0))))))
 (UP (U0 8 (US 0 (UQ (.int 1))))
 (UP (U0 9 (UX 2 Vm (UM (US 8 (UI 3)) (UM (UI 4) (UK)))))
 (UP (U0 10 (UN UW (Zb 8) (UQ (.int 1))))
 (UP (U0 11 (mIf (KW (UZ (λd=>!isNon d) (UI 6)) (UN oEq (US 6 (UI 3)) (UI 4))) (UQ (.int 1)) (UQ (.int 0))))
 (UP (U0 12 (UN UW (UN Ke (UX 4 Vd (UM (UI 5) (UM (UI 10) (UM (UI 2) (UM (UI 9) (UK)))))) (UI 10)) (UI 11)))
 (U4 (UN UW (UN Ke (UI 12) (UX 2 Zs (UM (UN UW (UI 2) (UQ (.int 1))) (UM (Zb 7) (UK))))) (UX 4 Vc (UM (UI 7) (UM (UN UW (UI 2) (UQ (.int 1))) (UM (UI 3) (UM (UI 9) (UK)))))))))))))
def Wa:List D->Option D:=U5 N_at TX
abbrev Sai:Stmt:=top 18
abbrev N_ai:List Str:=["wishes"]
theorem Hai:NmF Sai N_ai:=Ky (by decide +kernel)
def Sa:SM:=
 UP (XJ (UX 1 ZW (UM (UI 0) (UK))))
 (U4 (K8 VX (UM (UZ Uv (Zu (KL (US 0 (UQ (.int 1)))) 1 (gN 1) (UQ true) (Zb 1))) (UK))))
def Vl:List D->Option D:=U5 N_ai Sa
abbrev Sao:Stmt:=top 28
abbrev N_ao:List Str:=["thing", "askers"]
theorem Hao:NmF Sao N_ao:=Ky (by decide +kernel)
def T4:SM:=
 UP (sIf (mOr (KN (Z9 (UZ (λd=>.bool (K5 d "list")) (UI 0)))) (KN (Z9 (K8 YA (UM (UZ Uv (Zu (KL (UI 0)) 1 (gN 2) (UQ true) (UX 2 ZL (UM (UI 2) (UM (UI 1) (UK)))))) (UK))))))
 (U4 (UQ (.bool false)))
 (sNx))
 (U4 (UZ Uw (UN oEq (K8 Ws (UM (UI 0) (UK))) (Zb 0))))
def Vf:List D->Option D:=U5 N_ao T4
abbrev San:Stmt:=top 27
abbrev N_an:List Str:=["thing", "askers", "things"]
theorem Han:NmF San N_an:=Ky (by decide +kernel)
def T5:SM:=
 UP (sIf (UZ isNon (UI 0))
 (U4 (UQ (.bool true)))
 (sNx))
 (UP (sIf (mOr (KN (Z9 (UZ (λd=>.bool (K5 d "list")) (UI 0)))) (UN oNe (Zb 0) (UI 1)))
 (U4 (UQ (.bool false)))
 (sNx))
 (U4 (K8 YA (UM (UZ Uv (Zu (KL (UI 0)) 1 (gN 3) (UQ true) (YR (UZ (λd=>.bool (isNon d)) (UI 3)) (UX 2 ZL (UM (UI 3) (UM (UI 2) (UK))))))) (UK)))))
def Vg:List D->Option D:=U5 N_an T5
abbrev Sal:Stmt:=top 24
abbrev N_al:List Str:=["thing"]
theorem Hal:NmF Sal N_al:=Ky (by decide +kernel)
def T7:SM:=
 U4 (VR (UZ (λd=>.bool (K5 d "str")) (UI 0)) (UZ Uw (K7 oIn 0 (UQ (.tuple ((["firsts", "full", "lasts"]:List Str).map Ux))))))
def Vi:List D->Option D:=U5 N_al T7
abbrev Sam:Stmt:=top 25
abbrev N_am:List Str:=["thing"]
theorem Ham:NmF Sam N_am:=Ky (by decide +kernel)
def T6:SM:=
 sIf (KN (Z9 (UX 1 Vi (UM (UI 0) (UK)))))
 (Wk)
 (sNx)
def Vh:List D->Option D:=U5 N_am T6
abbrev Sap:Stmt:=top 29
abbrev N_ap:List Str:=["wishes", "thing", "copies", "lists", "order", "old", "turns"]
theorem Hap:NmF Sap N_ap:=Ky (by decide +kernel)
def T3:SM:=
 UP (XJ (UX 1 ZW (UM (UI 0) (UK))))
 (UP (sIf (mOr (KN (Z9 (UZ (λd=>.bool (K5 d "tuple")) (UI 1)))) (UN oNe (Zb 1) (UQ (.int 3))))
 (Wk)
 (sNx))
 (UP (Zp (UI 0) (gT 2 (gNC (gN 2) (gNC (gN 3) (gN0)))))
 (UP (Zp (UI 1) (gT 3 (gNC (gN 4) (gNC (gN 5) (gNC (gN 6) (gN0))))))
 (UP (XJ (UX 1 Vh (UM (UI 4) (UK))))
 (UP (sIf (KN (Z9 (UX 3 Vg (UM (UI 5) (UM (Zb 3) (UM (Zb 2) (UK)))))))
 (Wk)
 (sNx))
 (sIf (KN (Z9 (UX 2 Vf (UM (UI 6) (UM (Zb 3) (UK))))))
 (Wk)
 (sNx)))))))
def Ve:List D->Option D:=U5 N_ap T3
abbrev Sau:Stmt:=top 35
abbrev N_au:List Str:=["wishes", "aim", "most"]
theorem Hau:NmF Sau N_au:=Ky (by decide +kernel)
def TV:SM:=
 UP (XJ (UX 2 Ve (UM (UI 0) (UM (UI 1) (UK)))))
 (UP (U0 2 (UX 1 Vl (UM (UI 0) (UK))))
 (U4 (UZ Uv (Zu (KL (UX 1 Vk (UM (UI 0) (UK)))) 2 (gT 2 (gNC (gN 3) (gNC (gN 4) (gN0)))) (UQ true) (Kt (UM (UI 3) (UM (UI 4) (UM (UX 5 Wa (UM (UI 0) (UM (UI 1) (UM (UI 2) (UM (UI 3) (UM (UI 4) (UK))))))) (UK)))))))))
def Vb:List D->Option D:=U5 N_au TV
abbrev Sbp:Stmt:=top 61
abbrev N_bp:List Str:=["wishes", "aim", "worths", "dealing", "prices", "steps", "roads"]
theorem Hbp:NmF Sbp N_bp:=Ky (by decide +kernel)
def Tr:SM:=
 UP (U0 2 (UX 2 Vb (UM (UI 0) (UM (UI 1) (UK)))))
 (UP (U0 3 (UX 2 W6 (UM (UI 0) (UM (UI 2) (UK)))))
 (UP (U0 4 (UX 3 W5 (UM (UI 0) (UM (UI 2) (UM (UI 3) (UK))))))
 (UP (U0 5 (UX 2 W3 (UM (UX 3 Yr (UM (UI 0) (UM (UI 2) (UM (UI 3) (UK))))) (UM (UI 4) (UK)))))
 (UP (U0 6 (UX 2 W1 (UM (UN UW (Zb 4) (UQ (.int 1))) (UM (UI 5) (UK)))))
 (U4 (Kt (UM (UX 4 WZ (UM (Zb 3) (UM (UI 2) (UM (UI 4) (UM (UI 6) (UK)))))) (UM (UX 3 X7 (UM (UI 3) (UM (UI 5) (UM (UI 6) (UK))))) (UK)))))))))
def WX:List D->Option D:=U5 N_bp Tr
abbrev Sbw:Stmt:=top 69
abbrev N_bw:List Str:=["_law_wishes_here", "_law_cell", "_law_salt", "_law_askers", "_law_digits", "_law_old", "_law_turns", "_law_digit"]
theorem Hbw:NmF Sbw N_bw:=Ky (by decide +kernel)
def Po:SM:=
 U0 7 (UN ZS (UN UW (UI 7) (UQ (.int 1))) (UI 3))
def M9:SM:=
 UP (Xe (VT oIn (UI 7) 6) Po 1000)
 (Zk 6 (UI 7))
def Tk:SM:=
 UP (U0 3 (K8 Ka (UM (US 0 (UQ (.int 1))) (UK))))
 (UP (U0 4 (UX 3 YE (UM (UI 1) (UM (UI 2) (UM (UN UW (UN UW (Kj (UM (UQ (.int 3)) (UM (UQ (.int 2)) (UM (UN UW (UI 3) (UQ (.int 1))) (UK))))) (UN Ke (Kj (UM (UN UW (K8 Ka (UM (US 0 (UQ (.int 0))) (UK))) (UQ (.int 1))) (UK))) (UI 3))) (UN Ke (Kj (UM (UI 3) (UK))) (UI 3))) (UK))))))
 (UP (U0 5 (UQ .none))
 (UP (sIf (UN oEq (US 4 (UQ (.int 1))) (UQ (.int 1)))
 (K0 5 (Zu (KL (ZT (UI 4) (U6 (UQ (.int 3)) λx=>U8 (YG x)) (U6 (UN UW (UQ (.int 3)) (UI 3)) λx=>U8 (YG x)))) 1 (gN 8) (UQ true) (UN oIx (Kj (UM (UQ .none) (UM (UN KD (UI 8) (UQ (.int 1))) (UK)))) (K8 Vt (UM (UZ Uw (K7 (oIB λi j=>decide (j<i)) 8 (UQ (.int 0)))) (UK))))))
 (sNx))
 (UP (K0 6 (U6 (UK) λxs=>if xs.length<=1000000 then UQ xs else λ_=>.bad))
 (UP (Ko (KL (ZT (UI 4) (U6 (UN UW (UQ (.int 3)) (UI 3)) λx=>U8 (YG x)) (U6 (UN UW (UN UW (UQ (.int 3)) (UI 3)) (US 4 (UQ (.int 2)))) λx=>U8 (YG x)))) (gN 7) M9)
 (U4 (Kt (UM (UN oIx (Kj (UM (UQ (.str "firsts")) (UM (UQ (.str "full")) (UM (UQ (.str "lasts")) (UK))))) (US 4 (UQ (.int 0)))) (UM (UI 5) (UM (UI 6) (UK)))))))))))
def WT:List D->Option D:=U5 N_bw Tk
abbrev Sbs:Stmt:=top 65
abbrev N_bs:List Str:=["_law_script", "_law_at", "_law_most_things", "_law_most_askers", "_law_most_ranks", "_law_digits", "_law_copies", "_law_lists", "_law_asker", "_law_cell", "_law_places", "_law_ranks", "_law_rank_here", "_law_row"]
theorem Hbs:NmF Sbs N_bs:=Ky (by decide +kernel)
def OJ:SM:=
 UP (K0 13 (Zu (YK (UM (Zb 6) (UK))) 1 (gN 14) (UN oEq (US 10 (UI 14)) (UI 12)) (UI 14)))
 (sIf (K7 oNe 13 (Kj (UK)))
 (Zk 11 (UN oIx (Kj (UM (UI 13) (UM (WN (UI 13) (UQ none) (UQ none) (U6 (ZU (UQ (.int 1))) λx=>U8 (YG x))) (UK)))) (US 10 (ZU (UQ (.int 1))))))
 (sNx))
def OI:SM:=
 UP (U0 9 (UX 2 YT (UM (UI 0) (UM (UN UW (UN UW (UI 1) (UQ (.int 1))) (UI 8)) (UK)))))
 (UP (U0 10 (UX 3 YE (UM (UI 9) (UM (UN UW (UN UW (UN Ke (UQ (.int 11)) (UI 1)) (UN Ke (UQ (.int 3)) (UI 8))) (UQ (.int 1))) (UM (UN UW (UN Ke (Kj (UM (UN UW (UI 4) (UQ (.int 1))) (UK))) (UI 2)) (Kj (UM (UQ (.int 2)) (UK)))) (UK))))))
 (UP (K0 11 (U6 (UK) λxs=>if xs.length<=1000000 then UQ xs else λ_=>.bad))
 (UP (Ko (RW (UM (UQ (.int 1)) (UM (UN UW (UI 4) (UQ (.int 1))) (UK)))) (gN 12) OJ)
 (Zk 7 (UI 11)))))
def Tp:SM:=
 UP (U0 5 (UX 3 YE (UM (UX 2 YT (UM (UI 0) (UM (UI 1) (UK)))) (UM (UI 1) (UM (UN UW (Kj (UM (UI 2) (UM (UI 3) (UK)))) (UN Ke (Kj (UM (UQ (.int 11)) (UK))) (UI 2))) (UK))))))
 (UP (K0 6 (Zu (KL (ZT (UI 5) (U6 (UQ (.int 2)) λx=>U8 (YG x)) (U6 (UN UW (UQ (.int 3)) (US 5 (UQ (.int 0)))) λx=>U8 (YG x)))) 1 (gN 14) (UQ true) (UN oIx (Kj (UM (UQ (.int 1)) (UM (UQ (.int 1)) (UM (UQ (.int 2)) (UM (UQ (.int 0)) (UM (UQ (.int 3)) (UM (UQ (.int 7)) (UM (UQ (.int 1)) (UM (UQ (.int 4)) (UM (UQ (.int 5)) (UM (UQ (.int 6)) (UM (UQ (.int 1)) (UK))))))))))))) (UI 14))))
 (UP (K0 7 (U6 (UK) λxs=>if xs.length<=1000000 then UQ xs else λ_=>.bad))
 (UP (Ko (YK (UM (UN UW (UQ (.int 1)) (US 5 (UQ (.int 1)))) (UK))) (gN 8) OI)
 (U4 (Kt (UM (UI 6) (UM (UI 7) (UK))))))))
def WW:List D->Option D:=U5 N_bs Tp
abbrev Scc:Stmt:=top 75
abbrev N_cc:List Str:=["_law_script", "_law_wishes_here", "_law_aim_here", "_law_paper", "_law_shown", "_law_claim", "_law_tight_here", "_law_k", "_law_cell", "_law_digits", "_law_dealing", "_law_worth_here", "_law_inside"]
theorem Hcc:NmF Scc N_cc:=Ky (by decide +kernel)
def M8:SM:=
 UP (U0 9 (UX 3 YE (UM (UI 8) (UM (UN UW (UQ (.int 20)) (UI 7)) (UM (UN UW (Kj (UM (UQ (.int 4)) (UK))) (UN Ke (Kj (UM (UQ (.int 61)) (UK))) (K8 Ka (UM (US 1 (UQ (.int 1))) (UK))))) (UK))))))
 (UP (U0 10 (UX 3 WQ (UM (UI 1) (UM (UI 6) (UM (UI 9) (UK))))))
 (UP (U0 11 (UN Ke (US 3 (UQ (.int 0))) (UX 3 WS (UM (UI 1) (UM (UI 2) (UM (UI 10) (UK)))))))
 (UP (U0 12 (UX 4 Y8 (UM (UI 1) (UM (UI 3) (UM (UI 6) (UM (UI 10) (UK)))))))
 (sIf (mOr (K7 (oIB λi j=>decide (j<i)) 11 (UI 5)) (UN oNe (UZ Uw (K7 oEq 11 (UI 5))) (UI 12)))
 (U4 (UQ (.bool false)))
 (sNx)))))
def Te:SM:=
 UP (U0 1 (UX 5 WW (UM (UI 0) (UM (UQ (.int 0)) (UM (UQ (.int 6)) (UM (UQ (.int 7)) (UM (UQ (.int 5)) (UK))))))))
 (UP (U0 2 (UX 3 WT (UM (UI 1) (UM (UX 2 YT (UM (UI 0) (UM (UQ (.int 8)) (UK)))) (UM (UQ (.int 8)) (UK))))))
 (UP (Zp (UX 2 WX (UM (UI 1) (UM (UI 2) (UK)))) (gT 2 (gNC (gN 3) (gNC (gN 4) (gN0)))))
 (UP (U0 5 (UX 2 WY (UM (UI 1) (UM (UI 3) (UK)))))
 (UP (U0 6 (UX 3 WR (UM (UI 1) (UM (UI 2) (UM (UI 3) (UK))))))
 (UP (Ko (YJ (UM (UN UW (Kj (UM (UX 2 YT (UM (UI 0) (UM (UQ (.int 0)) (UK)))) (UK))) (ZT (UI 0) (U6 (UQ (.int 9)) λx=>U8 (YG x)) (U6 (UQ (.int 49)) λx=>U8 (YG x)))) (UK))) (gT 2 (gNC (gN 7) (gNC (gN 8) (gN0)))) M8)
 (U4 (UZ Uw (UN oEq (UZ Uv (Zu (KL (UI 4)) 1 (gN 13) (KN (Z9 (UX 4 Y8 (UM (UI 1) (UM (UI 3) (UM (UI 6) (UM (UI 13) (UK)))))))) (UI 13))) (Kj (UK))))))))))
def WP:List D->Option D:=U5 N_cc Te
set_option hygiene false in
local macro_rules | `(tactic| walk_at "g")=>`(tactic| first | exact gA nm rfl | exact Er rfl)
set_option hygiene false in
local macro_rules | `(tactic| walk_at "v")=>`(tactic| first | exact pq nm _ | exact pvb _)
set_option hygiene false in
local macro_rules | `(tactic| walk_at "b")=>`(tactic| first | ((with_reducible show OpB _ (compareOp CmpOp.Eq) _);first | exact B_eq hu) | ((with_reducible show OpB _ (compareOp CmpOp.NotEq) _);first | exact B_ne hu) | ((with_reducible show OpB _ (compareOp CmpOp.Lt) _);first | exact B_lt) | ((with_reducible show OpB _ (compareOp CmpOp.LtE) _);first | exact B_le) | ((with_reducible show OpB _ (compareOp CmpOp.Gt) _);first | exact B_gt) | ((with_reducible show OpB _ (compareOp CmpOp.GtE) _);first | exact B_ge) | ((with_reducible show OpB _ (compareOp CmpOp.In) _);first | exact B_in hu | exact Ed hu) | ((with_reducible show OpB _ (compareOp CmpOp.NotIn) _);first | exact FQ hu))
set_option hygiene false in
local macro_rules | `(tactic| walk_at "m")=>`(tactic| first | exact Op _ | exact rfl)
set_option hygiene false in
local macro_rules | `(tactic| walk_at "k")=>`(tactic| first | exact LC | exact qN | exact qM | exact qL)
set_option hygiene false in
local macro_rules | `(tactic| walk_at "w")=>`(tactic| first | exact PassesOwn.never)
set_option hygiene false in
local macro_rules | `(tactic| walk_at "x")=>`(tactic| first | assumption | exact wants_cx)
set_option hygiene false in
local macro_rules | `(tactic| walk_at "c")=>`(tactic| first | exact T.c_MOST_ASKERS | exact T.c_MOST_COPIES | exact T.c_MOST_RANKS | exact T.c_MOST_THINGS | exact T.c_ORDERS)
set_option hygiene false in
local macro_rules | `(tactic| walk_at "ck")=>`(tactic| fail)
set_option hygiene false in
local macro_rules | `(tactic| walk_at "e")=>`(tactic| first | ((with_reducible show PE _ (Expr.Name _ _) _);first | exact CO (pq nm _) | exact Yb (pq nm _) | exact Yb (pvb _) | exact FS (by walk_at "g") (by walk_at "c") | exact FP (by walk_at "g") (by walk_at "c")) | ((with_reducible show PE _ (Expr.Constant _ _ _) _);first | exact Mb | exact Cm | exact Dw | exact Bl) | ((with_reducible show PE _ (Expr.Subscript _ _ _) _);first | refine CS hu (by walk_at "v") ?_ (fun _ _=>rfl) | refine SR (by walk_at "v") ?_ (fun _ _=>rfl) | refine jk ?_ ?_ ?_ | refine CI ?_ ?_ ?_ ?_ | refine Ex ?_ ?_ (fun _ _=>rfl) | refine Cr hu ?_ ?_) | ((with_reducible show PE _ (Expr.BinOp _ Operator.Add _ _) _);first | refine Vw NZ ?_ ?_) | ((with_reducible show PE _ (Expr.BinOp _ Operator.Sub _ _) _);first | refine Vw NY ?_ ?_) | ((with_reducible show PE _ (Expr.BinOp _ Operator.Mult _ _) _);first | refine Vw NX ?_ ?_) | ((with_reducible show PE _ (Expr.BinOp _ Operator.Mod _ _) _);first | refine Vw F0 ?_ ?_) | ((with_reducible show PE _ (Expr.BinOp _ Operator.FloorDiv _ _) _);first | refine Vw FZ ?_ ?_) | ((with_reducible show PE _ (Expr.BinOp _ Operator.Pow _ _) _);first | refine Vw FY ?_ ?_) | ((with_reducible show PE _ (Expr.Call (Expr.Name "len" _) _ _ _) _);first | refine LF (by walk_at "g") T.b_len (by walk_at "v") | refine Tb NJ (by walk_at "g") T.b_len boot_len ?_ | refine jj rfl (by walk_at "g") T.b_len (by walk_at "g") T.b_set ?_) | ((with_reducible show PE _ (Expr.Call (Expr.Name "max" _) _ _ _) _);first | refine Tb (Ew rfl) (by walk_at "g") T.b_max boot_max ?_ | refine Tb (Eg rfl) (by walk_at "g") T.b_max boot_max ?_) | ((with_reducible show PE _ (Expr.Call (Expr.Name "sorted" _) _ _ _) _);first | refine Tb EQ (by walk_at "g") T.b_sorted PyProof.Rows.boot_sorted ?_) | ((with_reducible show PE _ (Expr.Call (Expr.Name "sum" _) _ _ _) _);first | refine Tb (ER rfl) (by walk_at "g") T.b_sum PyProof.Rows.boot_sum ?_ | refine Tb (Ef rfl) (by walk_at "g") T.b_sum PyProof.Rows.boot_sum ?_) | ((with_reducible show PE _ (Expr.Call (Expr.Name "all" _) _ _ _) _);first | refine Tb (FV rfl) (by walk_at "g") T.b_all PyProof.Rows.boot_all ?_) | ((with_reducible show PE _ (Expr.Call (Expr.Name "int" _) _ _ _) _);first | refine jp Eh (by walk_at "g") T.b_int PyProof.Rows.boot_int ?_) | ((with_reducible show PE _ (Expr.Call (Expr.Name "isinstance" _) [_,Expr.Name "int" _] _ _) _);first | refine RP (c := "int") (by decide) (by walk_at "g") T.b_isinstance (by walk_at "g") T.b_int (by decide +kernel) ?_ (by decide) (by decide)) | ((with_reducible show PE _ (Expr.Call (Expr.Name "isinstance" _) [_,Expr.Name "list" _] _ _) _);first | refine RP (c := "list") (by decide) (by walk_at "g") T.b_isinstance (by walk_at "g") T.b_list (by decide +kernel) ?_ (by decide) (by decide)) | ((with_reducible show PE _ (Expr.Call (Expr.Name "isinstance" _) [_,Expr.Name "tuple" _] _ _) _);first | refine RP (c := "tuple") (by decide) (by walk_at "g") T.b_isinstance (by walk_at "g") T.b_tuple (by decide +kernel) ?_ (by decide) (by decide)) | ((with_reducible show PE _ (Expr.Call (Expr.Name "isinstance" _) [_,Expr.Name "bool" _] _ _) _);first | refine RP (c := "bool") (by decide) (by walk_at "g") T.b_isinstance (by walk_at "g") T.b_bool (by decide +kernel) ?_ (by decide) (by decide)) | ((with_reducible show PE _ (Expr.Call (Expr.Name "isinstance" _) [_,Expr.Name "str" _] _ _) _);first | refine RP (c := "str") (by decide) (by walk_at "g") T.b_isinstance (by walk_at "g") T.b_str (by decide +kernel) ?_ (by decide) (by decide)) | ((with_reducible show PE _ (Expr.Call (Expr.Name _ _) _ _ _) _);first | refine pdf (by assumption) hr (by walk_at "g") ?_) | ((with_reducible show PE _ (Expr.Call _ _ _ _) _);first | refine qX hu ?_ ?_ | refine qc ?_ ?_) | refine OB ?_ | refine Pk ?_ | ((with_reducible show PE _ (Expr.Compare _ _ _ _) _);first | refine D5 ?_ | refine CJ (by walk_at "b") (by walk_at "v") ?_ (by walk_at "m") | refine Cf (by walk_at "b") ?_ ?_ (by walk_at "m") | refine qu (by walk_at "b") (by walk_at "b") ?_ ?_ ?_) | refine CL ?_ | refine Lo ?_ | refine D7 ?_ | refine D9 ?_ ?_ | refine Ey ?_ ?_ | refine D8 ?_ | refine qt ?_ ?_ ?_)
set_option hygiene false in
local macro_rules | `(tactic| walk_at "t")=>`(tactic| first | ((with_reducible show PT _ (Expr.Compare _ _ _ _) _);first | refine CQ hu ?_ (by walk_at "v") | refine BZ hu ?_ (by walk_at "v") | refine D6 ?_ | refine LG ?_ | refine CK (by walk_at "b") (by walk_at "v") ?_ (by walk_at "m") | refine Ct (by walk_at "b") ?_ (by walk_at "v") (by walk_at "m") | refine OC (by walk_at "b") ?_ ?_ (by walk_at "m") | refine qv (by walk_at "b") (by walk_at "b") ?_ ?_ ?_) | ((with_reducible show PT _ (Expr.BoolOp _ _ _) _);refine PW.pt ?_) | refine Cb ?_ | refine Ca ?_ | refine Cn ?_)
set_option hygiene false in
local macro_rules | `(tactic| walk_at "l")=>`(tactic| first | refine Ea nm (by walk_at "k") rfl ?_ ?_ (by decide +kernel) | refine EJ (by walk_at "k") rfl ?_ ?_ (by decide +kernel) | refine qH (by walk_at "g") T.b_list (by walk_at "v") | refine BB (by walk_at "g") T.b_list ?_ | refine Lq ?_ | refine ME ?_ ?_)
set_option hygiene false in
local macro_rules | `(tactic| walk_at "i")=>`(tactic| first | refine qV (by walk_at "g") T.b_range ?_ | refine qU (by walk_at "g") T.b_range ?_ | refine Lp (by walk_at "g") T.b_enumerate ?_ | refine By (by walk_at "g") T.b_enumerate ?_ | refine Ej (by walk_at "g") T.b_zip ?_ | refine Oq ?_)
set_option hygiene false in
local macro_rules | `(tactic| walk_at "s")=>`(tactic| first | ((with_reducible show PS _ (Stmt.Assign [Expr.Name _ _] _ _) _);first | refine aSet nm ?_ | refine F9 nm (by walk_at "k") rfl ?_ ?_ (by decide +kernel) | refine NM nm ?_ | refine Eb nm ?_) | ((with_reducible show PS _ (Stmt.Assign _ _ _) _);first | refine Ev ?_ ?_ | refine Lm ?_ (by walk_at "v") ?_ | refine EM hu ?_ (by walk_at "v") ?_) | refine P4 ?_ ?_ ?_ | refine N8 ?_ | refine Os (by walk_at "w") rfl ?_ ?_ ?_ | ((with_reducible show PS _ (Stmt.Expr _ _) _);first | refine N7 (by walk_at "v") ?_ | refine D1 ?_) | refine aAug nm Cy ?_ | exact BK | refine Ac _ (by walk_at "w") ?_ ?_)
set_option hygiene false in
local macro_rules | `(tactic| walk_at "d")=>`(tactic| (have hu:=hr.units;have hgd:=hr.gd;repeat' (first | ((with_reducible show PSs _ (Wu _) _);show PSs _ (_ :: _) _) | ((with_reducible show PSs _ (Stmt.Assign _ _ _ :: _ :: _) _);generalize hS:(_ :: _:List Stmt)=sts;refine BY hS ?_ ?_) | ((with_reducible show PS _ (Stmt.Assign [Expr.Name _ _] (Expr.List _ _) _) (tS _ _ _ _ (K0 _ _)));generalize hS:Stmt.Assign _ _ _=st;refine EI hS nm ?_) | ((with_reducible show PS _ (Stmt.Assign [Expr.Name _ _] (Expr.BinOp _ _ _ _) _) (tS _ _ _ _ (U0 _ _)));generalize hS:Stmt.Assign _ _ _=st;refine F8 hS nm ?_) | ((with_reducible show PE _ (Expr.List _ _) _);generalize hS:Expr.List _ _=e;first | refine BX hS ?_ | refine BW hS ?_) | ((with_reducible show PE _ (Expr.Tuple _ _ _) _);generalize hS:Expr.Tuple _ _ _=e;refine BV hS ?_) | ((with_reducible show PE _ (Expr.BinOp _ Operator.Add _ _) (tD _ _ _ _));generalize hS:Expr.BinOp _ _ _ _=e;refine Mp NZ hS ?_ ?_) | ((with_reducible show PE _ (Expr.BinOp _ Operator.Mult _ _) (tD _ _ _ _));generalize hS:Expr.BinOp _ _ _ _=e;refine Mp NX hS ?_ ?_) | ((with_reducible show PA _ (_ :: _) (tDs _ _ _ _));generalize hS:(_ :: _:List Expr)=es;refine qm hS ?_ ?_) | ((with_reducible show PE _ _ (tD _ _ _ _));first | walk_at "e") | ((with_reducible show PA _ _ (tDs _ _ _ _));first | refine Xh ?_ ?_ | exact SS) | ((with_reducible show PSs _ _ (tS _ _ _ _ _));first | refine SQ ?_ ?_ | refine SJ ?_ | exact On | exact sD_nevers) | ((with_reducible show PS _ _ _);walk_at "s") | ((with_reducible show PT _ _ _);walk_at "t") | ((with_reducible show PW _ _ _);first | refine Cc ?_ ?_ | refine DR ?_ ?_ | refine BO ?_ | refine Cd ?_) | ((with_reducible show PE _ _ (tL _ _ _ _));walk_at "l") | ((with_reducible show PI _ _ _ _);walk_at "i") | ((with_reducible show PG _ _ _);first | exact Ec nm | exact EK | refine R8 rfl ?_) | ((with_reducible show PGs _ _ _);first | exact R9 | refine Wt ?_ ?_) | ((with_reducible show PO _ _ _);first | exact BN | refine BM ?_) | ((with_reducible show ZV _ _ _ _ _ _ _ _ _);refine fun cl C s0 H0 ex=>⟨fun B' G'=>?_,fun B' G'=>?_,?_⟩) | ((with_reducible show Y7 _ _ _);first | exact DY | refine Ln ?_) | ((with_reducible show Rp _ _ _ _ _ _);first | refine HA rfl rfl rfl fun B' G'=>?_ | refine qO rfl rfl rfl rfl (fun _=>rfl) (fun B' G'=>?_) (fun B' G'=>?_) (fun B' G'=>?_) ?_) | ((with_reducible show PE _ _ (tT _ _ _ _ _));first | refine peT_call (by assumption) hr (by walk_at "g") ?_ | exact peT_nil | exact peT_dnil | refine B0 ?_) | ((with_reducible show DPs _ _ _ _ _ _);first | exact Cs | refine B3 (fun B'=>?_) (fun B'=>?_) ?_))))
section
variable{P:Uk}{w:World}{K:Frag}{mg:Str->Option Ui}{base:Heap}{f:Ul}{fd:Um}(T:Txt K mg)
include T
theorem Kca(F:Fun K "_law_within" "_law_within" Sca f fd):FnOk P w K mg base CX0 1 f fd ["_law_wishes_here", "_law_paper", "_law_tight_here", "_law_dealing"] (spD K 4 Y8):=
 okD (k:=0) (g:=Tg) F (fq Hca 4) rfl λcdv A outer s H E B G0 hr=>
 have nm:=Hca
 by walk_at "d"
theorem Kbq(F:Fun K "_law_cell_at" "_law_cell_at" Sbq f fd):FnOk P w K mg base CX0 1 f fd ["_law_script", "_law_k"] (spD K 2 YT):=
 okD (k:=0) (g:=WH) F (fq Hbq 2) rfl λcdv A outer s H E B G0 hr=>
 have nm:=Hbq
 by walk_at "d"
theorem Kbt(F:Fun K "_law_rank" "_law_rank" Sbt f fd):FnOk P w K mg base CX0 1 f fd ["_law_wishes_here", "_law_asker", "_law_thing"] (spD K 3 WV):=
 okD (k:=0) (g:=To) F (fq Hbt 3) rfl λcdv A outer s H E B G0 hr=>
 have nm:=Hbt
 by walk_at "d"
theorem Kbu(F:Fun K "_law_longest" "_law_longest" Sbu f fd):FnOk P w K mg base CX0 1 f fd ["_law_wishes_here"] (spD K 1 WU):=
 okD (k:=0) (g:=Tn) F (fq Hbu 1) rfl λcdv A outer s H E B G0 hr=>
 have nm:=Hbu
 by walk_at "d"
theorem Kbx(d_bt:Def P w K mg base "_law_rank" 1 3 WV)(d_bu:Def P w K mg base "_law_longest" 1 1 WU)(F:Fun K "_law_worth" "_law_worth" Sbx f fd):FnOk P w K mg base CX0 2 f fd ["_law_wishes_here", "_law_aim_here", "_law_asker", "_law_thing"] (spD K 4 XA):=
 okD (k:=1) (g:=Tj) F (fq Hbx 4) rfl λcdv A outer s H E B G0 hr=>
 have nm:=Hbx
 by walk_at "d"
theorem Kby(d_bx:Def P w K mg base "_law_worth" 2 4 XA)(F:Fun K "_law_whole" "_law_whole" Sby f fd):FnOk P w K mg base CX0 3 f fd ["_law_wishes_here", "_law_aim_here", "_law_dealing"] (spD K 3 WS):=
 okD (k:=2) (g:=Ti) F (fq Hby 3) rfl λcdv A outer s H E B G0 hr=>
 have nm:=Hby
 by walk_at "d"
theorem Kbv(F:Fun K "_law_wished" "_law_wished" Sbv f fd):FnOk P w K mg base CX0 1 f fd ["_law_wishes_here", "_law_asker"] (spD K 2 XB):=
 okD (k:=0) (g:=Tl) F (fq Hbv 2) rfl λcdv A outer s H E B G0 hr=>
 have nm:=Hbv
 by walk_at "d"
theorem Kcb(d_bv:Def P w K mg base "_law_wished" 1 2 XB)(F:Fun K "_law_taken" "_law_taken" Scb f fd):FnOk P w K mg base CX0 2 f fd ["_law_wishes_here", "_law_tight_here", "_law_digits"] (spD K 3 WQ):=
 okD (k:=1) (g:=Tf) F (fq Hcb 3) rfl λcdv A outer s H E B G0 hr=>
 have nm:=Hcb
 by walk_at "d"
theorem Kbr(F:Fun K "_law_numbers" "_law_numbers" Sbr f fd):FnOk P w K mg base CX0 1 f fd ["_law_cell", "_law_salt", "_law_sizes"] (spD K 3 YE):=
 okD (k:=0) (g:=Tq) F (fq Hbr 3) rfl λcdv A outer s H E B G0 hr=>
 have nm:=Hbr
 by walk_at "d"
theorem Kbz(d_bv:Def P w K mg base "_law_wished" 1 2 XB)(d_bx:Def P w K mg base "_law_worth" 2 4 XA)(F:Fun K "_law_tight" "_law_tight" Sbz f fd):FnOk P w K mg base CX0 3 f fd ["_law_wishes_here", "_law_aim_here", "_law_paper"] (spD K 3 WR):=
 okD (k:=2) (g:=Th) F (fq Hbz 3) rfl λcdv A outer s H E B G0 hr=>
 have nm:=Hbz
 by walk_at "d"
theorem Kaa(F:Fun K "is_whole" "is_whole" Saa f fd):FnOk P w K mg base CX0 1 f fd ["thing"] (spD K 1 Vq):=
 okD (k:=0) (g:=Sj) F (fq Haa 1) rfl λcdv A outer s H E B G0 hr=>
 have nm:=Haa
 by walk_at "d"
theorem Kab(d_aa:Def P w K mg base "is_whole" 1 1 Vq)(F:Fun K "is_number_below" "is_number_below" Sab f fd):FnOk P w K mg base CX0 2 f fd ["thing", "many"] (spD K 2 ZL):=
 okD (k:=1) (g:=Sh) F (fq Hab 2) rfl λcdv A outer s H E B G0 hr=>
 have nm:=Hab
 by walk_at "d"
theorem Kad(d_ab:Def P w K mg base "is_number_below" 2 2 ZL)(F:Fun K "is_rank" "is_rank" Sad f fd):FnOk P w K mg base CX0 3 f fd ["thing", "things"] (spD K 2 Wb):=
 okD (k:=2) (g:=Sf) F (fq Had 2) rfl λcdv A outer s H E B G0 hr=>
 have nm:=Had
 by walk_at "d"
theorem Kae(d_ad:Def P w K mg base "is_rank" 3 2 Wb)(F:Fun K "is_asker_list" "is_asker_list" Sae f fd):FnOk P w K mg base CX0 4 f fd ["thing", "things"] (spD K 2 Vo):=
 okD (k:=3) (g:=Se) F (fq Hae 2) rfl λcdv A outer s H E B G0 hr=>
 have nm:=Hae
 by walk_at "d"
theorem Kaf(d_ae:Def P w K mg base "is_asker_list" 4 2 Vo)(F:Fun K "look_at_lists" "look_at_lists" Saf f fd):FnOk P w K mg base CX0 5 f fd ["lists", "things"] (spD K 2 Vn):=
 okD (k:=4) (g:=Sd) F (fq Haf 2) rfl λcdv A outer s H E B G0 hr=>
 have nm:=Haf
 by walk_at "d"
theorem Kac(d_ab:Def P w K mg base "is_number_below" 2 2 ZL)(F:Fun K "look_at_copies" "look_at_copies" Sac f fd):FnOk P w K mg base CX0 3 f fd ["copies"] (spD K 1 Vp):=
 okD (k:=2) (g:=Sg) F (fq Hac 1) rfl λcdv A outer s H E B G0 hr=>
 have nm:=Hac
 by walk_at "d"
theorem Kag(d_af:Def P w K mg base "look_at_lists" 5 2 Vn)(d_ac:Def P w K mg base "look_at_copies" 3 1 Vp)(F:Fun K "look_at_wishes" "look_at_wishes" Sag f fd):FnOk P w K mg base CX0 6 f fd ["thing"] (spD K 1 ZW):=
 okD (k:=5) (g:=Sc) F (fq Hag 1) rfl λcdv A outer s H E B G0 hr=>
 have nm:=Hag
 by walk_at "d"
theorem Kbo(d_ag:Def P w K mg base "look_at_wishes" 6 1 ZW)(F:Fun K "claim_of" "claim_of" Sbo f fd):FnOk P w K mg base CX0 7 f fd ["wishes", "paper"] (spD K 2 WY):=
 okD (k:=6) (g:=Ts) F (fq Hbo 2) rfl λcdv A outer s H E B G0 hr=>
 have nm:=Hbo
 by walk_at "d"
theorem Kbd(F:Fun K "way_round" "way_round" Sbd f fd):FnOk P w K mg base CX0 1 f fd ["nothing", "steps"] (spD K 2 Y9):=
 okD (k:=0) (g:=TH) F (fq Hbd 2) rfl λcdv A outer s H E B G0 hr=>
 have nm:=Hbd
 by walk_at "d"
theorem Kav(F:Fun K "behind_way" "behind_way" Sav f fd):FnOk P w K mg base CX0 1 f fd ["dealing", "way"] (spD K 2 XF):=
 okD (k:=0) (g:=TU) F (fq Hav 2) rfl λcdv A outer s H E B G0 hr=>
 have nm:=Hav
 by walk_at "d"
theorem Kbn(d_bd:Def P w K mg base "way_round" 1 2 Y9)(d_av:Def P w K mg base "behind_way" 1 2 XF)(F:Fun K "shown_by_rounds" "shown_by_rounds" Sbn f fd):FnOk P w K mg base CX0 2 f fd ["dealing", "steps", "roads"] (spD K 3 X7):=
 okD (k:=1) (g:=Tt) F (fq Hbn 3) rfl λcdv A outer s H E B G0 hr=>
 have nm:=Hbn
 by walk_at "d"
theorem Kbh(F:Fun K "asks_beyond" "asks_beyond" Sbh f fd):FnOk P w K mg base CX0 1 f fd ["askers", "worths", "prices"] (spD K 3 W4):=
 okD (k:=0) (g:=TB) F (fq Hbh 3) rfl λcdv A outer s H E B G0 hr=>
 have nm:=Hbh
 by walk_at "d"
theorem Kbl(F:Fun K "strict_prices" "strict_prices" Sbl f fd):FnOk P w K mg base CX0 1 f fd ["prices", "roads"] (spD K 2 W0):=
 okD (k:=0) (g:=Tv) F (fq Hbl 2) rfl λcdv A outer s H E B G0 hr=>
 have nm:=Hbl
 by walk_at "d"
theorem Kbm(d_bh:Def P w K mg base "asks_beyond" 1 3 W4)(d_bl:Def P w K mg base "strict_prices" 1 2 W0)(F:Fun K "strict_paper" "strict_paper" Sbm f fd):FnOk P w K mg base CX0 2 f fd ["askers", "worths", "prices", "roads"] (spD K 4 WZ):=
 okD (k:=1) (g:=Tu) F (fq Hbm 4) rfl λcdv A outer s H E B G0 hr=>
 have nm:=Hbm
 by walk_at "d"
theorem Kbj(F:Fun K "roads_from" "roads_from" Sbj f fd):FnOk P w K mg base CX0 1 f fd ["place", "places", "steps"] (spD K 3 W2):=
 okD (k:=0) (g:=Tx) F (fq Hbj 3) rfl λcdv A outer s H E B G0 hr=>
 have nm:=Hbj
 by walk_at "d"
theorem Kbk(d_bj:Def P w K mg base "roads_from" 1 3 W2)(F:Fun K "all_roads" "all_roads" Sbk f fd):FnOk P w K mg base CX0 2 f fd ["places", "steps"] (spD K 2 W1):=
 okD (k:=1) (g:=Tw) F (fq Hbk 2) rfl λcdv A outer s H E B G0 hr=>
 have nm:=Hbk
 by walk_at "d"
theorem Kaw(F:Fun K "place_of" "place_of" Saw f fd):FnOk P w K mg base CX0 1 f fd ["nothing", "got"] (spD K 2 X9):=
 okD (k:=0) (g:=TR) F (fq Haw 2) rfl λcdv A outer s H E B G0 hr=>
 have nm:=Haw
 by walk_at "d"
theorem Kax(d_aw:Def P w K mg base "place_of" 1 2 X9)(F:Fun K "steps_of_askers" "steps_of_askers" Sax f fd):FnOk P w K mg base CX0 2 f fd ["nothing", "worths", "dealing"] (spD K 3 Va):=
 okD (k:=1) (g:=TQ) F (fq Hax 3) rfl λcdv A outer s H E B G0 hr=>
 have hu:=hr.units;have hgd:=hr.gd
 (SQ (Lr (i:=3) (nq Hax) rfl (lq Hax 3) (ME (OB (Xh Mb SS)) (LF (gq Hax 2) T.b_len (pq Hax 2))))
 (SQ (Os UC rfl (Oq (Yb (pq Hax 1))) (R8 rfl (Wt (Wf (Wg (i:=4) (nq Hax) rfl (lq Hax 4))) (Wt (Wf (Wg (i:=5) (nq Hax) rfl (lq Hax 5))) (Wt (Wf (Wg (i:=6) (nq Hax) rfl (lq Hax 6))) R9))))
 (SJ (P4 (OC (B_eq hu) (SR (pq Hax 2) (Yb (pq Hax 4)) (λ_ _=>rfl)) (Yb (pq Hax 5)) (Op _))
 (SJ (Lm (Yb (pq Hax 6)) (pq Hax 3) (Yb (pq Hax 4))))
 On)))
 (SQ (FE (j:=7) (Z8 Sax) Sm ["nothing", "worths", "dealing", "had", ".asker", "thing", "worth", "told", "asker", "got"] 2 LC (nq Hax) rfl rfl rfl (λB' G'=>(Lp (gq Hax 1) T.b_enumerate (Xh (Yb (pq Hax 2)) SS))) (λcl C s0 H0 ex=>⟨λB' G'=>(R8 rfl (Wt (Wf (Wg (i:=8) (show(["nothing", "worths", "dealing", "had", ".asker", "thing", "worth", "told", "asker", "got"]:List Str).Nodup by decide +kernel) rfl (SO rfl).1 (SO rfl).2)) (Wt (Wf (Wg (i:=9) (show(["nothing", "worths", "dealing", "had", ".asker", "thing", "worth", "told", "asker", "got"]:List Str).Nodup by decide +kernel) rfl (SO rfl).1 (SO rfl).2)) R9))),λB' G'=>(Ln (LG (Yb (pvb 9)))),(HA rfl rfl rfl λB' G'=>(Pk (Xh (Yb (pvb 9)) (Xh (Yb (pvb 0)) (Xh (Lo (SR (pvb 3) (Yb (pvb 8)) (λ_ _=>rfl))) (Xh (Yb (pvb 8)) SS))))))⟩) rfl rfl (by decide +kernel))
 (SQ (Os UC rfl (Oq (Yb (pq Hax 1))) (R8 rfl (Wt (Wf (Wg (i:=4) (nq Hax) rfl (lq Hax 4))) (Wt (Wf (Wg (i:=5) (nq Hax) rfl (lq Hax 5))) (Wt (Wf (Wg (i:=6) (nq Hax) rfl (lq Hax 6))) R9))))
 (SJ (P4 (OC (B_ne hu) (SR (pq Hax 2) (Yb (pq Hax 4)) (λ_ _=>rfl)) (Yb (pq Hax 5)) (Op _))
 (SJ (N7 (pq Hax 7) (Pk (Xh (pdf d_aw hr (gq Hax 0) (Xh (Yb (pq Hax 0)) (Xh (SR (pq Hax 2) (Yb (pq Hax 4)) (λ_ _=>rfl)) SS))) (Xh (Yb (pq Hax 5)) (Xh (Vw NY (Yb (pq Hax 6)) (SR (pq Hax 3) (Yb (pq Hax 4)) (λ_ _=>rfl))) (Xh (Yb (pq Hax 4)) SS)))))))
 On)))
 (SJ (N8 (Yb (pq Hax 7))))))))
theorem Kak(d_ag:Def P w K mg base "look_at_wishes" 6 1 ZW)(F:Fun K "copies_left" "copies_left" Sak f fd):FnOk P w K mg base CX0 7 f fd ["wishes", "dealing"] (spD K 2 Vj):=
 okD (k:=6) (g:=T8) F (fq Hak 2) rfl λcdv A outer s H E B G0 hr=>
 have nm:=Hak
 by walk_at "d"
theorem Kay(d_ak:Def P w K mg base "copies_left" 7 2 Vj)(F:Fun K "steps_of_copies" "steps_of_copies" Say f fd):FnOk P w K mg base CX0 8 f fd ["wishes", "dealing"] (spD K 2 W9):=
 okD (k:=7) (g:=TN) F (fq Hay 2) rfl λcdv A outer s H E B G0 hr=>
 have nm:=Hay
 by walk_at "d"
theorem Kaz(d_ax:Def P w K mg base "steps_of_askers" 2 3 Va)(d_ay:Def P w K mg base "steps_of_copies" 8 2 W9)(F:Fun K "all_steps" "all_steps" Saz f fd):FnOk P w K mg base CX0 9 f fd ["wishes", "worths", "dealing"] (spD K 3 Yr):=
 okD (k:=8) (g:=TM) F (fq Haz 3) rfl λcdv A outer s H E B G0 hr=>
 have nm:=Haz
 by walk_at "d"
theorem Kbi(F:Fun K "tight_steps" "tight_steps" Sbi f fd):FnOk P w K mg base CX0 1 f fd ["steps", "prices"] (spD K 2 W3):=
 okD (k:=0) (g:=Tz) F (fq Hbi 2) rfl λcdv A outer s H E B G0 hr=>
 have nm:=Hbi
 by walk_at "d"
theorem Kba(F:Fun K "longer_walks" "longer_walks" Sba f fd):FnOk P w K mg base CX0 1 f fd ["walks", "steps"] (spD K 2 W8):=
 okD (k:=0) (g:=TL) F (fq Hba 2) rfl λcdv A outer s H E B G0 hr=>
 have nm:=Hba
 by walk_at "d"
theorem Kbb(d_ba:Def P w K mg base "longer_walks" 1 2 W8)(F:Fun K "widest_walks" "widest_walks" Sbb f fd):FnOk P w K mg base CX0 2 f fd ["places", "steps"] (spD K 2 XE):=
 okD (k:=1) (g:=TK) F (fq Hbb 2) rfl λcdv A outer s H E B G0 hr=>
 have nm:=Hbb
 by walk_at "d"
theorem Kbg(d_az:Def P w K mg base "all_steps" 9 3 Yr)(d_bb:Def P w K mg base "widest_walks" 2 2 XE)(F:Fun K "prices_for" "prices_for" Sbg f fd):FnOk P w K mg base CX0 10 f fd ["wishes", "worths", "dealing"] (spD K 3 W5):=
 okD (k:=9) (g:=TC) F (fq Hbg 3) rfl λcdv A outer s H E B G0 hr=>
 have nm:=Hbg
 by walk_at "d"
theorem Kbc(F:Fun K "round_within" "round_within" Sbc f fd):FnOk P w K mg base CX0 1 f fd ["walk"] (spD K 1 W7):=
 okD (k:=0) (g:=TJ) F (fq Hbc 1) rfl λcdv A outer s H E B G0 hr=>
 have nm:=Hbc
 by walk_at "d"
theorem Kbe(d_az:Def P w K mg base "all_steps" 9 3 Yr)(d_bb:Def P w K mg base "widest_walks" 2 2 XE)(d_bc:Def P w K mg base "round_within" 1 1 W7)(d_bd:Def P w K mg base "way_round" 1 2 Y9)(F:Fun K "gaining_way" "gaining_way" Sbe f fd):FnOk P w K mg base CX0 10 f fd ["wishes", "worths", "dealing"] (spD K 3 X8):=
 okD (k:=9) (g:=TF) F (fq Hbe 3) rfl λcdv A outer s H E B G0 hr=>
 have nm:=Hbe
 by walk_at "d"
theorem Kbf(d_be:Def P w K mg base "gaining_way" 10 3 X8)(d_av:Def P w K mg base "behind_way" 1 2 XF)(F:Fun K "best_by" "best_by" Sbf f fd):FnOk P w K mg base CX0 11 f fd ["wishes", "worths"] (spD K 2 W6):=
 okD (k:=10) (g:=TD) F (fq Hbf 2) rfl λcdv A outer s H E B G0 hr=>
 have nm:=Hbf
 by walk_at "d"
theorem Kaj(d_ag:Def P w K mg base "look_at_wishes" 6 1 ZW)(F:Fun K "all_wishes" "all_wishes" Saj f fd):FnOk P w K mg base CX0 7 f fd ["wishes"] (spD K 1 Vk):=
 okD (k:=6) (g:=T9) F (fq Haj 1) rfl λcdv A outer s H E B G0 hr=>
 have nm:=Haj
 by walk_at "d"
theorem Kaq(F:Fun K "power" "power" Saq f fd):FnOk P w K mg base CX0 1 f fd ["base", "times"] (spD K 2 Zs):=
 okD (k:=0) (g:=T2) F (fq Haq 2) rfl λcdv A outer s H E B G0 hr=>
 have nm:=Haq
 by walk_at "d"
theorem Kas(d_aq:Def P w K mg base "power" 1 2 Zs)(F:Fun K "worth_by_turns" "worth_by_turns" Sas f fd):FnOk P w K mg base CX0 2 f fd ["turns", "base", "asker", "rank"] (spD K 4 Vc):=
 okD (k:=1) (g:=TY) F (fq Has 4) rfl λcdv A outer s H E B G0 hr=>
 have nm:=Has
 by walk_at "d"
theorem Kar(d_aq:Def P w K mg base "power" 1 2 Zs)(F:Fun K "worth_by_order" "worth_by_order" Sar f fd):FnOk P w K mg base CX0 2 f fd ["order", "base", "most", "rank"] (spD K 4 Vd):=
 okD (k:=1) (g:=TZ) F (fq Har 4) rfl λcdv A outer s H E B G0 hr=>
 have nm:=Har
 by walk_at "d"
theorem Kah(F:Fun K "rank_in" "rank_in" Sah f fd):FnOk P w K mg base CX0 1 f fd ["ranks", "thing"] (spD K 2 Vm):=
 okD (k:=0) (g:=Sb) F (fq Hah 2) rfl λcdv A outer s H E B G0 hr=>
 have nm:=Hah
 by walk_at "d"
theorem Kat(d_aq:Def P w K mg base "power" 1 2 Zs)(d_as:Def P w K mg base "worth_by_turns" 2 4 Vc)(d_ar:Def P w K mg base "worth_by_order" 2 4 Vd)(d_ah:Def P w K mg base "rank_in" 1 2 Vm)(F:Fun K "worth_by_aim" "worth_by_aim" Sat f fd):FnOk P w K mg base CX0 3 f fd ["wishes", "aim", "most", "asker", "thing"] (spD K 5 Wa):=
 okD (k:=2) (g:=TX) F (fq Hat 5) rfl λcdv A outer s H E B G0 hr=>
 have nm:=Hat
 by walk_at "d"
theorem Kai(d_ag:Def P w K mg base "look_at_wishes" 6 1 ZW)(F:Fun K "longest" "longest" Sai f fd):FnOk P w K mg base CX0 7 f fd ["wishes"] (spD K 1 Vl):=
 okD (k:=6) (g:=Sa) F (fq Hai 1) rfl λcdv A outer s H E B G0 hr=>
 have nm:=Hai
 by walk_at "d"
theorem Kao(d_ab:Def P w K mg base "is_number_below" 2 2 ZL)(F:Fun K "is_turns" "is_turns" Sao f fd):FnOk P w K mg base CX0 3 f fd ["thing", "askers"] (spD K 2 Vf):=
 okD (k:=2) (g:=T4) F (fq Hao 2) rfl λcdv A outer s H E B G0 hr=>
 have nm:=Hao
 by walk_at "d"
theorem Kan(d_ab:Def P w K mg base "is_number_below" 2 2 ZL)(F:Fun K "is_old" "is_old" San f fd):FnOk P w K mg base CX0 3 f fd ["thing", "askers", "things"] (spD K 3 Vg):=
 okD (k:=2) (g:=T5) F (fq Han 3) rfl λcdv A outer s H E B G0 hr=>
 have nm:=Han
 by walk_at "d"
theorem Kal(F:Fun K "is_order" "is_order" Sal f fd):FnOk P w K mg base CX0 1 f fd ["thing"] (spD K 1 Vi):=
 okD (k:=0) (g:=T7) F (fq Hal 1) rfl λcdv A outer s H E B G0 hr=>
 have nm:=Hal
 by walk_at "d"
theorem Kam(d_al:Def P w K mg base "is_order" 1 1 Vi)(F:Fun K "look_at_order" "look_at_order" Sam f fd):FnOk P w K mg base CX0 2 f fd ["thing"] (spD K 1 Vh):=
 okD (k:=1) (g:=T6) F (fq Ham 1) rfl λcdv A outer s H E B G0 hr=>
 have nm:=Ham
 by walk_at "d"
theorem Kap(d_ao:Def P w K mg base "is_turns" 3 2 Vf)(d_an:Def P w K mg base "is_old" 3 3 Vg)(d_am:Def P w K mg base "look_at_order" 2 1 Vh)(d_ag:Def P w K mg base "look_at_wishes" 6 1 ZW)(F:Fun K "look_at_aim" "look_at_aim" Sap f fd):FnOk P w K mg base CX0 7 f fd ["wishes", "thing"] (spD K 2 Ve):=
 okD (k:=6) (g:=T3) F (fq Hap 2) rfl λcdv A outer s H E B G0 hr=>
 have nm:=Hap
 by walk_at "d"
theorem Kau(d_aj:Def P w K mg base "all_wishes" 7 1 Vk)(d_at:Def P w K mg base "worth_by_aim" 3 5 Wa)(d_ai:Def P w K mg base "longest" 7 1 Vl)(d_ap:Def P w K mg base "look_at_aim" 7 2 Ve)(F:Fun K "all_worths" "all_worths" Sau f fd):FnOk P w K mg base CX0 8 f fd ["wishes", "aim"] (spD K 2 Vb):=
 okD (k:=7) (g:=TV) F (fq Hau 2) rfl λcdv A outer s H E B G0 hr=>
 have nm:=Hau
 by walk_at "d"
theorem Kbp(d_bn:Def P w K mg base "shown_by_rounds" 2 3 X7)(d_bm:Def P w K mg base "strict_paper" 2 4 WZ)(d_bk:Def P w K mg base "all_roads" 2 2 W1)(d_az:Def P w K mg base "all_steps" 9 3 Yr)(d_bi:Def P w K mg base "tight_steps" 1 2 W3)(d_bg:Def P w K mg base "prices_for" 10 3 W5)(d_bf:Def P w K mg base "best_by" 11 2 W6)(d_au:Def P w K mg base "all_worths" 8 2 Vb)(F:Fun K "web_of" "web_of" Sbp f fd):FnOk P w K mg base CX0 12 f fd ["wishes", "aim"] (spD K 2 WX):=
 okD (k:=11) (g:=Tr) F (fq Hbp 2) rfl λcdv A outer s H E B G0 hr=>
 have nm:=Hbp
 by walk_at "d"
theorem Kbw(d_br:Def P w K mg base "_law_numbers" 1 3 YE)(F:Fun K "_law_aim" "_law_aim" Sbw f fd):FnOk P w K mg base CX0 2 f fd ["_law_wishes_here", "_law_cell", "_law_salt"] (spD K 3 WT):=
 okD (k:=1) (g:=Tk) F (fq Hbw 3) rfl λcdv A outer s H E B G0 hr=>
 have nm:=Hbw
 by walk_at "d"
theorem Kbs(d_br:Def P w K mg base "_law_numbers" 1 3 YE)(d_bq:Def P w K mg base "_law_cell_at" 1 2 YT)(F:Fun K "_law_wishes" "_law_wishes" Sbs f fd):FnOk P w K mg base CX0 2 f fd ["_law_script", "_law_at", "_law_most_things", "_law_most_askers", "_law_most_ranks"] (spD K 5 WW):=
 okD (k:=1) (g:=Tp) F (fq Hbs 5) rfl λcdv A outer s H E B G0 hr=>
 have nm:=Hbs
 by walk_at "d"
theorem Kcc(d_ca:Def P w K mg base "_law_within" 1 4 Y8)(d_bq:Def P w K mg base "_law_cell_at" 1 2 YT)(d_by:Def P w K mg base "_law_whole" 3 3 WS)(d_cb:Def P w K mg base "_law_taken" 2 3 WQ)(d_br:Def P w K mg base "_law_numbers" 1 3 YE)(d_bz:Def P w K mg base "_law_tight" 3 3 WR)(d_bo:Def P w K mg base "claim_of" 7 2 WY)(d_bp:Def P w K mg base "web_of" 12 2 WX)(d_bw:Def P w K mg base "_law_aim" 2 3 WT)(d_bs:Def P w K mg base "_law_wishes" 2 5 WW)(F:Fun K "law" "law" Scc f fd):FnOk P w K mg base CX0 13 f fd ["_law_script"] (spD K 1 WP):=
 okD (k:=12) (g:=Te) F (fq Hcc 1) rfl λcdv A outer s H E B G0 hr=>
 have nm:=Hcc
 by walk_at "d"
end
theorem Kz:recsOf q0=Rw p0 ixL:=by show recsOf (PySem.W.view PySem.Challenge.pw_wishdeal_k61_whole_best_or_not XM)=Rw PySem.Challenge.pw_wishdeal_k61_whole_best_or_not ixL;rw[PySem.W.Fast.te3399658132070893891,PySem.W.Fast.te1262811278937853177];kernel_rfl
theorem YY:(["all", "bool", "enumerate", "int", "isinstance", "len", "list", "max", "range", "set", "sorted", "str", "sum", "tuple", "zip"]:List Str).all (R4 q0 (PySem.W.looseW q0 []))=true:=by show List.all _ (R4 (PySem.W.view PySem.Challenge.pw_wishdeal_k61_whole_best_or_not XM) (PySem.W.looseW (PySem.W.view PySem.Challenge.pw_wishdeal_k61_whole_best_or_not XM) []))=true;k_qdec
theorem xi:valOf q0 "MOST_ASKERS" = some (.int 7):=by show valOf (PySem.W.view PySem.Challenge.pw_wishdeal_k61_whole_best_or_not XM) _=_;rw[Jv,PySem.W.Fast.te1262811278937853177];kernel_rfl
theorem xg:valOf q0 "MOST_COPIES" = some (.int 7):=by show valOf (PySem.W.view PySem.Challenge.pw_wishdeal_k61_whole_best_or_not XM) _=_;rw[Jv,PySem.W.Fast.te1262811278937853177];kernel_rfl
theorem kQ:valOf q0 "MOST_RANKS" = some (.int 5):=by show valOf (PySem.W.view PySem.Challenge.pw_wishdeal_k61_whole_best_or_not XM) _=_;rw[Jv,PySem.W.Fast.te1262811278937853177];kernel_rfl
theorem xf:valOf q0 "MOST_THINGS" = some (.int 6):=by show valOf (PySem.W.view PySem.Challenge.pw_wishdeal_k61_whole_best_or_not XM) _=_;rw[Jv,PySem.W.Fast.te1262811278937853177];kernel_rfl
theorem qq:tupStrsOf q0 "ORDERS" = some (["firsts", "full", "lasts"]:List Str):=by show tupStrsOf (PySem.W.view PySem.Challenge.pw_wishdeal_k61_whole_best_or_not XM) _=_;rw[PySem.W.Fast.te14491516231548247274,PySem.W.Fast.te1262811278937853177];kernel_rfl
theorem EH{l:PySem.W.OpenLaw}{w:World}{s0:Uj}{mg mb:Str->Option Ui}{fa:Ul}{h:Heap}{XP:(Str->Option Ui)->Heap->Prop}(G:PySem.W.Ground q0 [] [] XP w s0 mg mb h)(hfa:mg "law" = some (.ref fa)) :
  ∃fd:Um,(∀(s:Uj)(v:Ui),BindsTo s fd ⟨[v],[]⟩ [("_law_script", v)])/\∀base:Heap,FnOk l.prog w (whole h) mg base CX0 13 fa fd ["_law_script"] (spD (whole h) 1 WP):=by
 have T:Txt (whole h) mg:=⟨Y0 G.T YY (mq 0 rfl),Y0 G.T YY (mq 1 rfl),Y0 G.T YY (mq 2 rfl),Y0 G.T YY (mq 3 rfl),Y0 G.T YY (mq 4 rfl),Y0 G.T YY (mq 5 rfl),Y0 G.T YY (mq 6 rfl),Y0 G.T YY (mq 7 rfl),Y0 G.T YY (mq 8 rfl),Y0 G.T YY (mq 9 rfl),Y0 G.T YY (mq 10 rfl),Y0 G.T YY (mq 11 rfl),Y0 G.T YY (mq 12 rfl),Y0 G.T YY (mq 13 rfl),Y0 G.T YY (mq 14 rfl),PL G.T xi,PL G.T xg,PL G.T kQ,PL G.T xf,A5 G.B qq (by decide)⟩
 refine FH G.T Kz 75 "law" rfl rfl hfa (λ_ _ _ _ _ _ _=>rfl) λbase=>?_
 have d_ca:=KF l.prog w base G.T Kz 73 "_law_within" rfl rfl (λF=>Kca T  F) λ_ _ _ _ _ _ us hl=>bz4 (us:=us) hl λ_ _ _ _=>rfl
 have d_bq:=KF l.prog w base G.T Kz 63 "_law_cell_at" rfl rfl (λF=>Kbq T  F) λ_ _ _ _ _ _ us hl=>bz2 (us:=us) hl λ_ _=>rfl
 have d_bt:=KF l.prog w base G.T Kz 66 "_law_rank" rfl rfl (λF=>Kbt T  F) λ_ _ _ _ _ _ us hl=>bz3 (us:=us) hl λ_ _ _=>rfl
 have d_bu:=KF l.prog w base G.T Kz 67 "_law_longest" rfl rfl (λF=>Kbu T  F) λ_ _ _ _ _ _ us hl=>bz1 (us:=us) hl λ_=>rfl
 have d_bx:=KF l.prog w base G.T Kz 70 "_law_worth" rfl rfl (λF=>Kbx T d_bt d_bu F) λ_ _ _ _ _ _ us hl=>bz4 (us:=us) hl λ_ _ _ _=>rfl
 have d_by:=KF l.prog w base G.T Kz 71 "_law_whole" rfl rfl (λF=>Kby T d_bx F) λ_ _ _ _ _ _ us hl=>bz3 (us:=us) hl λ_ _ _=>rfl
 have d_bv:=KF l.prog w base G.T Kz 68 "_law_wished" rfl rfl (λF=>Kbv T  F) λ_ _ _ _ _ _ us hl=>bz2 (us:=us) hl λ_ _=>rfl
 have d_cb:=KF l.prog w base G.T Kz 74 "_law_taken" rfl rfl (λF=>Kcb T d_bv F) λ_ _ _ _ _ _ us hl=>bz3 (us:=us) hl λ_ _ _=>rfl
 have d_br:=KF l.prog w base G.T Kz 64 "_law_numbers" rfl rfl (λF=>Kbr T  F) λ_ _ _ _ _ _ us hl=>bz3 (us:=us) hl λ_ _ _=>rfl
 have d_bz:=KF l.prog w base G.T Kz 72 "_law_tight" rfl rfl (λF=>Kbz T d_bv d_bx F) λ_ _ _ _ _ _ us hl=>bz3 (us:=us) hl λ_ _ _=>rfl
 have d_aa:=KF l.prog w base G.T Kz 1 "is_whole" rfl rfl (λF=>Kaa T  F) λ_ _ _ _ _ _ us hl=>bz1 (us:=us) hl λ_=>rfl
 have d_ab:=KF l.prog w base G.T Kz 2 "is_number_below" rfl rfl (λF=>Kab T d_aa F) λ_ _ _ _ _ _ us hl=>bz2 (us:=us) hl λ_ _=>rfl
 have d_ad:=KF l.prog w base G.T Kz 13 "is_rank" rfl rfl (λF=>Kad T d_ab F) λ_ _ _ _ _ _ us hl=>bz2 (us:=us) hl λ_ _=>rfl
 have d_ae:=KF l.prog w base G.T Kz 14 "is_asker_list" rfl rfl (λF=>Kae T d_ad F) λ_ _ _ _ _ _ us hl=>bz2 (us:=us) hl λ_ _=>rfl
 have d_af:=KF l.prog w base G.T Kz 15 "look_at_lists" rfl rfl (λF=>Kaf T d_ae F) λ_ _ _ _ _ _ us hl=>bz2 (us:=us) hl λ_ _=>rfl
 have d_ac:=KF l.prog w base G.T Kz 12 "look_at_copies" rfl rfl (λF=>Kac T d_ab F) λ_ _ _ _ _ _ us hl=>bz1 (us:=us) hl λ_=>rfl
 have d_ag:=KF l.prog w base G.T Kz 16 "look_at_wishes" rfl rfl (λF=>Kag T d_af d_ac F) λ_ _ _ _ _ _ us hl=>bz1 (us:=us) hl λ_=>rfl
 have d_bo:=KF l.prog w base G.T Kz 59 "claim_of" rfl rfl (λF=>Kbo T d_ag F) λ_ _ _ _ _ _ us hl=>bz2 (us:=us) hl λ_ _=>rfl
 have d_bd:=KF l.prog w base G.T Kz 46 "way_round" rfl rfl (λF=>Kbd T  F) λ_ _ _ _ _ _ us hl=>bz2 (us:=us) hl λ_ _=>rfl
 have d_av:=KF l.prog w base G.T Kz 37 "behind_way" rfl rfl (λF=>Kav T  F) λ_ _ _ _ _ _ us hl=>bz2 (us:=us) hl λ_ _=>rfl
 have d_bn:=KF l.prog w base G.T Kz 57 "shown_by_rounds" rfl rfl (λF=>Kbn T d_bd d_av F) λ_ _ _ _ _ _ us hl=>bz3 (us:=us) hl λ_ _ _=>rfl
 have d_bh:=KF l.prog w base G.T Kz 50 "asks_beyond" rfl rfl (λF=>Kbh T  F) λ_ _ _ _ _ _ us hl=>bz3 (us:=us) hl λ_ _ _=>rfl
 have d_bl:=KF l.prog w base G.T Kz 55 "strict_prices" rfl rfl (λF=>Kbl T  F) λ_ _ _ _ _ _ us hl=>bz2 (us:=us) hl λ_ _=>rfl
 have d_bm:=KF l.prog w base G.T Kz 56 "strict_paper" rfl rfl (λF=>Kbm T d_bh d_bl F) λ_ _ _ _ _ _ us hl=>bz4 (us:=us) hl λ_ _ _ _=>rfl
 have d_bj:=KF l.prog w base G.T Kz 53 "roads_from" rfl rfl (λF=>Kbj T  F) λ_ _ _ _ _ _ us hl=>bz3 (us:=us) hl λ_ _ _=>rfl
 have d_bk:=KF l.prog w base G.T Kz 54 "all_roads" rfl rfl (λF=>Kbk T d_bj F) λ_ _ _ _ _ _ us hl=>bz2 (us:=us) hl λ_ _=>rfl
 have d_aw:=KF l.prog w base G.T Kz 39 "place_of" rfl rfl (λF=>Kaw T  F) λ_ _ _ _ _ _ us hl=>bz2 (us:=us) hl λ_ _=>rfl
 have d_ax:=KF l.prog w base G.T Kz 40 "steps_of_askers" rfl rfl (λF=>Kax T d_aw F) λ_ _ _ _ _ _ us hl=>bz3 (us:=us) hl λ_ _ _=>rfl
 have d_ak:=KF l.prog w base G.T Kz 21 "copies_left" rfl rfl (λF=>Kak T d_ag F) λ_ _ _ _ _ _ us hl=>bz2 (us:=us) hl λ_ _=>rfl
 have d_ay:=KF l.prog w base G.T Kz 41 "steps_of_copies" rfl rfl (λF=>Kay T d_ak F) λ_ _ _ _ _ _ us hl=>bz2 (us:=us) hl λ_ _=>rfl
 have d_az:=KF l.prog w base G.T Kz 42 "all_steps" rfl rfl (λF=>Kaz T d_ax d_ay F) λ_ _ _ _ _ _ us hl=>bz3 (us:=us) hl λ_ _ _=>rfl
 have d_bi:=KF l.prog w base G.T Kz 52 "tight_steps" rfl rfl (λF=>Kbi T  F) λ_ _ _ _ _ _ us hl=>bz2 (us:=us) hl λ_ _=>rfl
 have d_ba:=KF l.prog w base G.T Kz 43 "longer_walks" rfl rfl (λF=>Kba T  F) λ_ _ _ _ _ _ us hl=>bz2 (us:=us) hl λ_ _=>rfl
 have d_bb:=KF l.prog w base G.T Kz 44 "widest_walks" rfl rfl (λF=>Kbb T d_ba F) λ_ _ _ _ _ _ us hl=>bz2 (us:=us) hl λ_ _=>rfl
 have d_bg:=KF l.prog w base G.T Kz 49 "prices_for" rfl rfl (λF=>Kbg T d_az d_bb F) λ_ _ _ _ _ _ us hl=>bz3 (us:=us) hl λ_ _ _=>rfl
 have d_bc:=KF l.prog w base G.T Kz 45 "round_within" rfl rfl (λF=>Kbc T  F) λ_ _ _ _ _ _ us hl=>bz1 (us:=us) hl λ_=>rfl
 have d_be:=KF l.prog w base G.T Kz 47 "gaining_way" rfl rfl (λF=>Kbe T d_az d_bb d_bc d_bd F) λ_ _ _ _ _ _ us hl=>bz3 (us:=us) hl λ_ _ _=>rfl
 have d_bf:=KF l.prog w base G.T Kz 48 "best_by" rfl rfl (λF=>Kbf T d_be d_av F) λ_ _ _ _ _ _ us hl=>bz2 (us:=us) hl λ_ _=>rfl
 have d_aj:=KF l.prog w base G.T Kz 19 "all_wishes" rfl rfl (λF=>Kaj T d_ag F) λ_ _ _ _ _ _ us hl=>bz1 (us:=us) hl λ_=>rfl
 have d_aq:=KF l.prog w base G.T Kz 31 "power" rfl rfl (λF=>Kaq T  F) λ_ _ _ _ _ _ us hl=>bz2 (us:=us) hl λ_ _=>rfl
 have d_as:=KF l.prog w base G.T Kz 33 "worth_by_turns" rfl rfl (λF=>Kas T d_aq F) λ_ _ _ _ _ _ us hl=>bz4 (us:=us) hl λ_ _ _ _=>rfl
 have d_ar:=KF l.prog w base G.T Kz 32 "worth_by_order" rfl rfl (λF=>Kar T d_aq F) λ_ _ _ _ _ _ us hl=>bz4 (us:=us) hl λ_ _ _ _=>rfl
 have d_ah:=KF l.prog w base G.T Kz 17 "rank_in" rfl rfl (λF=>Kah T  F) λ_ _ _ _ _ _ us hl=>bz2 (us:=us) hl λ_ _=>rfl
 have d_at:=KF l.prog w base G.T Kz 34 "worth_by_aim" rfl rfl (λF=>Kat T d_aq d_as d_ar d_ah F) λ_ _ _ _ _ _ us hl=>bz5 (us:=us) hl λ_ _ _ _ _=>rfl
 have d_ai:=KF l.prog w base G.T Kz 18 "longest" rfl rfl (λF=>Kai T d_ag F) λ_ _ _ _ _ _ us hl=>bz1 (us:=us) hl λ_=>rfl
 have d_ao:=KF l.prog w base G.T Kz 28 "is_turns" rfl rfl (λF=>Kao T d_ab F) λ_ _ _ _ _ _ us hl=>bz2 (us:=us) hl λ_ _=>rfl
 have d_an:=KF l.prog w base G.T Kz 27 "is_old" rfl rfl (λF=>Kan T d_ab F) λ_ _ _ _ _ _ us hl=>bz3 (us:=us) hl λ_ _ _=>rfl
 have d_al:=KF l.prog w base G.T Kz 24 "is_order" rfl rfl (λF=>Kal T  F) λ_ _ _ _ _ _ us hl=>bz1 (us:=us) hl λ_=>rfl
 have d_am:=KF l.prog w base G.T Kz 25 "look_at_order" rfl rfl (λF=>Kam T d_al F) λ_ _ _ _ _ _ us hl=>bz1 (us:=us) hl λ_=>rfl
 have d_ap:=KF l.prog w base G.T Kz 29 "look_at_aim" rfl rfl (λF=>Kap T d_ao d_an d_am d_ag F) λ_ _ _ _ _ _ us hl=>bz2 (us:=us) hl λ_ _=>rfl
 have d_au:=KF l.prog w base G.T Kz 35 "all_worths" rfl rfl (λF=>Kau T d_aj d_at d_ai d_ap F) λ_ _ _ _ _ _ us hl=>bz2 (us:=us) hl λ_ _=>rfl
 have d_bp:=KF l.prog w base G.T Kz 61 "web_of" rfl rfl (λF=>Kbp T d_bn d_bm d_bk d_az d_bi d_bg d_bf d_au F) λ_ _ _ _ _ _ us hl=>bz2 (us:=us) hl λ_ _=>rfl
 have d_bw:=KF l.prog w base G.T Kz 69 "_law_aim" rfl rfl (λF=>Kbw T d_br F) λ_ _ _ _ _ _ us hl=>bz3 (us:=us) hl λ_ _ _=>rfl
 have d_bs:=KF l.prog w base G.T Kz 65 "_law_wishes" rfl rfl (λF=>Kbs T d_br d_bq F) λ_ _ _ _ _ _ us hl=>bz5 (us:=us) hl λ_ _ _ _ _=>rfl
 exact λ{_ _} F=>Kcc T d_ca d_bq d_by d_cb d_br d_bz d_bo d_bp d_bw d_bs F
abbrev d_cc:DefRec:=⟨"law", SU Scc,Wu Scc,Z8 Scc,FI Scc⟩
theorem walk{YP:World->Heap->Prop}{XP:(Str->Option Ui)->Heap->Prop}(hlaw:∀ns:List Int,ns.length<=63->WP [.list (ns.map int)]=some (.bool true)):PySem.W.WalkO q0 [] XP YP (PySem.Challenge.rw_wishdeal_k61_whole_best_or_not).row.toRowW d_cc [] (λf vs=>PySem.call f vs):=
 B6 (n:=63) (k:=13) (x:= "_law_script") rfl (by decide) rfl ⟨rfl,by decide,by decide,rfl⟩ (λ_ _ _ _ _ _ G hm=>EH G hm) hlaw
theorem Sv{f:M D}{Z Z1:UJ}{d:D}{t:Bool}(h:f Z=.ok d Z1)(ht:(!isNon d)=t):UZ (λd=>!isNon d) f Z=.ok t Z1:=by subst ht;exact KJ (k:=λd=>!isNon d) h
theorem Gw{sizes found:List Int}{z d:Int}(h:∀(j:Nat) d z,found[j]?=some d->sizes[j]?=some z->0<=d/\d<z)(hz:sizes[found.length]?=some z)(h0:0<=d/\d<z) :
  ∀(j:Nat) d' z',(found++[d])[j]?=some d'->sizes[j]?=some z'->0<=d'/\d'<z':=by
 intro j d' z' e1 e2;by_cases hj:j<found.length
 ·rw[Qw hj]at e1;exact h j d' z' e1 e2
 ·by_cases hj2:j=found.length
  ·subst hj2;rw[hz]at e2;cases e2;rw[Qx (Qs _),Nat.sub_self,List.getElem?_cons_zero]at e1;cases e1;exact h0
  ·rw[Jd (by rw[Qi,QH];omega)]at e1;cases e1
abbrev pb(d:D):Option Sl:=some (.pub d)
def inv(c s:Int)(sizes:List Int)(n:Int)(i:Nat)(Z:UJ):Prop:=∃left found x6 x7,Z=[some (Sl.pub (.int c)),pb (.int s),pb (.list (sizes.map .int)),pb (.int n),pb (.int left),some (.own ((found:List Int).map .int)),x6,x7] /\
 found.length=i/\∀(j:Nat) d z,found[j]?=some d->sizes[j]?=some z->0<=d/\d<z
theorem AD{c s n:Int}{sizes:List Int}(hs:∀x∈sizes,0<x/\x<18446744073709551616)(hl:sizes.length<=1000){i:Nat}{d:D}{Z:UJ}{Q:Out->Prop}(hi:(ZY 0 sizes.length)[i]?=some d)(h:inv c s sizes n i Z) :
  ∃Z2,gN 6 d Z=some Z2/\Ho OK Z2 (Vz (inv c s sizes n (i+1)) Q):=by
 obtain⟨left,found,x6,x7,rfl,hf,hfd⟩:=h;obtain⟨rfl,hlt⟩:=XS hi;obtain⟨z,hz⟩:∃z,sizes[i]?=some z:=⟨sizes[i]'(by omega),Qe _⟩
 obtain⟨z1,z2⟩:=hs z (Qr hz);have hix:oIx (.list (sizes.map int)) (.int (0+(i:Int)))=some (.int z):=by rw[Jt];exact Zc (by rw[Qd,hz];rfl)
 generalize hk:(0:Int)+(i:Int)=k at hix⊢;have hk1:k<18446744073709551616:=by omega
 have hk2 : -18446744073709551616<k:=by omega
 have hlen:(found.map int).length<1000000:=by rw[Qb];omega
 have pw:X4 (.int 10) (.int 18)=some (.int 1000000000000000000):=by rw[CA (by decide)];rfl
 refine⟨_,UR (Qa rfl) rfl,?_⟩;unfold OK;apply KB
 case h1=>exact N5 (ZN rfl (U1 UV UV pw) rfl) λ_=>ZN rfl UV rfl
 case h2=>intro _;refine Kd (XQ rfl (U1 (UL rfl) (Kp rfl (UL rfl) hix) (VJ (by omega))) rfl hlen rfl) ?_;refine Zv (Kq (U1 (UL rfl) (Kp rfl (UL rfl) hix) (MH (by omega) (by omega))) (Qa rfl) rfl) (KO ?_);exact⟨_,found++[left % z],_,_,by rw[Qz];rfl,by rw[Qi,hf];rfl,Gw hfd (by rw[hf];exact hz) ⟨Int.emod_nonneg _ (by omega),Int.emod_lt_of_pos _ z1⟩⟩
 case h3=>intro _;refine Kd (Kq (U1 (U1 (U1 (U1 (UL rfl) (U1 UV (UL rfl) (WA (by decide) (by decide))) KM) (U1 (U1 UV (UL rfl) (WA (by decide) (by decide))) (UL rfl) (X1 hk2 hk1)) KM) (UL rfl) KM) UV (VJ (by decide))) (Qa rfl) rfl) ?_;refine Kd (Kq (U1 (U1 (UL rfl) UV (X1 (by decide) (by decide))) UV (VJ (by decide))) (Qa rfl) rfl) ?_;refine Kd (Kq (U1 (U1 (U1 (U1 (UL rfl) (UL rfl) (X1 (by omega) (by omega))) UV (VJ (by decide))) UV (X1 (by decide) (by decide))) UV (VJ (by decide))) (Qa rfl) rfl) ?_;refine Zv (XQ rfl (U1 (U1 (UL rfl) UV (MH (by decide) (by decide))) (Kp rfl (UL rfl) hix) (VJ (by omega))) rfl hlen rfl) (KO ?_);exact⟨_,found++[_ % z],_,_,by rw[Qz];rfl,by rw[Qi,hf];rfl,Gw hfd (by rw[hf];exact hz) ⟨Int.emod_nonneg _ (by omega),Int.emod_lt_of_pos _ z1⟩⟩
theorem PY(c s:Int){sizes:List Int}(hs:∀x∈sizes,0<x/\x<18446744073709551616)(hl:sizes.length<=1000) :
  ∃r,YE [.int c,.int s,.list (sizes.map int)]=some r/\∃ds:List Int,r=.list (ds.map .int)/\ds.length=sizes.length/\∀(j:Nat) d z,ds[j]?=some d->sizes[j]?=some z->0<=d/\d<z:=by
 refine XZ (Z:=[pb (.int c),pb (.int s),pb (.list (sizes.map int)),none,none,none,none,none]) rfl ?_;unfold Tq;refine Kd (Kq (Zw (UO (UL rfl) (UO (U1 (SF UV) (UL rfl) Yw) UT)) MG) (Qa rfl) rfl) ?_;refine Kd (Kq (UL rfl) (Qa rfl) rfl) ?_;refine Kd (Ye (Wr UT (Qa rfl)) (Qa rfl) rfl) ?_;apply KI;apply Zm (ds:=ZY 0 sizes.length) (inv c s sizes (if -1-c > c then -1-c else c))
 case h1=>exact Xj (UO (Zz rfl (by rw[Zd,Qb])) UT) (Xf (by omega) (by omega))
 case h0=>exact⟨_,[],none,none,rfl,rfl,λj d z e=>by cases e⟩
 case hst=>exact λi d Z e h=>AD hs hl e h
 case hend=>rintro Z ⟨left,found,x6,x7,rfl,hf,hfd⟩;rw[Yx]at hf;exact KE (Kw (Yt rfl rfl) ⟨_,rfl,found,rfl,by omega,hfd⟩)
mutual
theorem LZ:∀(d:PyData),d.canLay0=true->UB d d=true
 |.none,_=>rfl
 |.bool b,_=>by cases b<;>rfl
 |.int i,_=>by simp[UB]
 |.str s,_=>by simp[UB]
 |.list xs,h=>eqvAll_refl xs h
 |.tuple xs,h=>eqvAll_refl xs h
 |.dict _,h=>by cases h
theorem eqvAll_refl:∀(xs:List PyData),Uz xs=true->PyData.eqvAll xs xs=true
 |[],_=>rfl
 |x::r,h=>by
  have h:(PyData.canLay0 x&&Uz r)=true:=h;rw[Ji]at h
  show(UB x x&&PyData.eqvAll r r)=true
  rw[LZ x h.1,eqvAll_refl r h.2];rfl
end
theorem Ta:∀{xs:List D},(∀x∈xs,PyData.canLay0 x=true)->Uz xs=true
 |[],_=>rfl
 |x::r,h=>by
  show(PyData.canLay0 x&&Uz r)=true
  rw[h x Qn,Ta λy hy=>h y (Ql _ hy)];rfl
theorem PK{n:Nat}:∀{xs:List D},(∀x∈xs,UA x<=n)->PyData.depthAll xs<=n
 |[],_=>by simp[PyData.depthAll]
 |x::r,h=>by have h1:=h x Qn;have h2:=PK (n:=n) λy hy=>h y (Ql _ hy);simp only[PyData.depthAll];omega
def Zf(r:List Int):D:=.list (r.map int)
def KH(rs:List (List Int)):D:=.list (rs.map Zf)
def Kg(cs:List Int)(ls:L3):D:=.tuple [.list (cs.map int),.list (ls.map KH)]
structure V9(n:Nat)(rs:List (List Int)):Prop where
 few:rs.length<=5
 some:∀r∈rs,r≠[]
 there:∀r∈rs,∀t∈r,0<=t/\t<n
 once:rs.flatten.Nodup
structure Good(cs:List Int)(ls:L3):Prop where
 c1:1<=cs.length
 c6:cs.length<=6
 c7:∀c∈cs,0<=c/\c<8
 l1:1<=ls.length
 l7:ls.length<=7
 rk:∀rs∈ls,V9 cs.length rs
theorem BU(r:List Int):(Zf r).canLay0=true:=Ta λx hx=>by obtain⟨y,_,rfl⟩:=Qu.mp hx;rfl
theorem Mw(i:Int):(int i).depth<=1:=by simp[UA]
theorem OH{n:Nat}{xs:List D}(h:PyData.depthAll xs<=n):(Uv xs).depth<=n+1:=by simp only[UA];omega
theorem LY(r:List Int):(Zf r).depth<=2:=OH (PK λx hx=>by obtain⟨y,_,rfl⟩:=Qu.mp hx;exact Mw y)
theorem AC(i:Int):Vq [.int i]=some (.bool true):=by refine KZ (Z:=[pb (.int i)]) rfl ?_;unfold Sj;exact Kw (Pt (KJ (UL rfl)) (λ_=>CB (KJ (UL rfl)))) rfl
theorem PJ{i m:Int}(h0:0<=i)(h1:i<m):ZL [.int i,.int m]=some (.bool true):=by
 refine KZ (Z:=[pb (.int i),pb (.int m)]) rfl ?_;unfold Sh;have hb:(decide (0<=i)&&decide (i<m))=true:=by simp[h0,h1]
 refine Kw (Pt (t:=true) (u:=true) (Kk (UO (UL rfl) UT) rfl (AC i)) (λ_=>?_)) rfl;rw[←hb];exact KJ (Na UV (UL rfl) rfl (λ_=>UL rfl) (λ_=>rfl))
theorem PH{α:Type}(l:List α):YA [.list (l.map λ_=>.bool true)]=some (.bool true):=by
 have:(l.map λ_=>Uw true)=(l.map λ_=>true).map Uw:=by rw[Jl];rfl
 rw[this,Cz]
 congr 2
 rw[List.all_map];induction l with
 |nil=>rfl
 |cons x r ih=>simpa using ih
theorem jI{r:List Int}{n:Int}(hne:r≠[])(hl:r.length<=1000)(h:∀t∈r,0<=t/\t<n):Wb [Zf r,.int n]=some (.bool true):=by
 refine KZ (Z:=[pb (Zf r),pb (.int n)]) rfl ?_;unfold Sf;apply KI;have hlen:Ka [Zf r]=some (.int r.length):=by unfold Zf;rw[Zd,Qb]
 have hp:0<r.length:=List.length_pos_iff.mpr hne;apply KB
 case h1=>exact XY (Z1:=[pb (Zf r),pb (.int n)]) (VN (UL rfl) rfl) (U1 (Zz rfl hlen) UV Y1)
 case h2=>
       intro hh;have:(r.length:Int)=0:=by simpa using hh
       omega
 case h3=>
  intro _;refine KR (KE ?_)
  have hc:KQ (gN 2) (UQ true) (UX 2 ZL (UM (UI 2) (UM (UI 1) (UK)))) (r.map int) (Kl [pb (Zf r),pb (.int n)]++Uu 1 none) []=some (r.map λ_=>.bool true):=by
   rw[SX (λ_=>true) (λ_=>.bool true) (λZ=>∃x,Z=[pb (Zf r),pb (.int n),x])]
   ·rw[Uc.mpr (λ_ _=>rfl),Q7,Jl];rfl
   ·rintro d hm Z ⟨x,rfl⟩;obtain⟨t,ht,rfl⟩:=Qu.mp hm;exact⟨_,UR (Qa rfl) rfl,rfl,λ_=>Kk (UO (UL rfl) (UO (UL rfl) UT)) rfl (PJ (h t ht).1 (h t ht).2),_,rfl⟩
   ·exact⟨none,rfl⟩
   ·rw[Qb,QE];omega
  exact Kw (Zw (UO (KJ (Yg (Zn (UL rfl) rfl) hc)) UT) (PH r)) rfl
theorem HN{a b c x3:Option Sl}(ha:YU a=a)(hb:YU b=b)(hc:YU c=c)(hx:YU x3=x3):∀(ds es:List D)(x4:Option Sl),es.length+ds.length<=1000000 ->
  ∃y,YO (gN 4) (UQ true) (UI 4) ds [a,b,c,x3,x4] es=some (es++ds,[a,b,c,x3,y])
 |[],es,x4,_=>⟨x4,by rw[YO,Jb]⟩
 |d::r,es,x4,h=>by
  rw[QC]at h;obtain⟨y,e⟩:=HN ha hb hc hx r (es++[d]) (some (.pub d)) (by rw[Qi,QH];omega);refine⟨y,?_⟩;rw[YO];have h1:gN 4 d [a,b,c,x3,x4]=some [a,b,c,x3,pb d]:=UR (Qa rfl) rfl;rw[h1];dsimp only[UQ];rw[Qm rfl];have h2:UI 4 [a,b,c,x3,pb d]=.ok d [a,b,c,x3,pb d]:=UL rfl;rw[h2];dsimp only;rw[Qm (by omega)];have h3:Kl [a,b,c,x3,pb d]=[a,b,c,x3,pb d]:=by unfold Kl;simp only[Qt,List.map_nil,ha,hb,hc,hx];rfl
  rw[h3,e,QY];rfl
theorem GM{a b:D}:∀(rs:List (List Int))(es:List D)(x3 x4:Option Sl),es.length+rs.flatten.length<=1000000 ->
  X0 (gN 3) (UQ true) (KL (UI 3)) (gN 4) (UQ true) (UI 4) (rs.map Zf) [pb a,pb b,none,x3,x4] es=some (es++rs.flatten.map int)
 |[],es,_,_,_=>by rw[List.map_nil,X0];simp
 |r::rs,es,x3,x4,h=>by rw[QN,Qi]at h;rw[Qt,X0];have h1:gN 3 (Zf r) [pb a,pb b,none,x3,x4]=some [pb a,pb b,none,pb (Zf r),x4]:=UR (Qa rfl) rfl;rw[h1];dsimp only[UQ];rw[Qm rfl];have h2:KL (UI 3) [pb a,pb b,none,pb (Zf r),x4]=.ok (r.map int) [pb a,pb b,none,pb (Zf r),x4]:=Zn (UL rfl) rfl;rw[h2];dsimp only;have h3:Kl [pb a,pb b,none,pb (Zf r),x4]=[pb a,pb b,none,pb (Zf r),YU x4]:=rfl;rw[h3];obtain⟨y,e⟩:=HN (a:=some (.pub a)) (b:=some (.pub b)) (c:=none) (x3:=some (.pub (Zf r))) rfl rfl rfl rfl (r.map int) es (YU x4) (by rw[Qb];omega);rw[e];dsimp only;have ih:=GM (a:=a) (b:=b) rs (es++r.map int) (some (.pub (Zf r))) y (by rw[Qi,Qb];omega);refine Eq.trans ih ?_;rw[QN,Qz,QY]
theorem Gv{ns:List Int}(h:ns.Nodup):VZ ns=ns.length:=by
 unfold VZ
 have:∀i,i<=ns.length->(PyProof.Rows.firstMet (λi=>ns.getD i 0) i).length=i:=by
  intro i;induction i with
  |zero=>intro _;rfl
  |succ i ih=>
   intro hi;rw[PyProof.Rows.firstMet_succ]
   have hany:(PyProof.Rows.firstMet (λi=>ns.getD i 0) i).any (· == ns.getD i 0)=false:=by
    rw[PyProof.Rows.firstMet_any,List.any_eq_false];intro x hx;obtain⟨j,hj,rfl⟩:=Qu.mp hx;have hj:=Q9.mp hj;intro e;have e:ns.getD j 0=ns.getD i 0:=by simpa using e
    have l1:j<ns.length:=by omega
    have l2:i<ns.length:=by omega
    simp only[List.getD,Qe l1,Qe l2,J0]at e;exact absurd ((List.getElem_inj h).mp e) (by omega)
   unfold PyProof.Rows.step_dedup;rw[hany];rw[QB (by decide),Qi,ih (by omega)];rfl
 exact this ns.length (Qs _)
theorem kh{rs:List (List Int)}{n:Nat}(g:V9 n rs)(hn:n<=6)(hf:rs.flatten.length<=1000):Vo [KH rs,.int n]=some (.bool true):=by
 refine KZ (Z:=[pb (KH rs),pb (.int n),none]) rfl ?_;unfold Se;have hlen:Ka [KH rs]=some (.int rs.length):=by unfold KH;rw[Zd,Qb]
 have h5:=g.few;have hrl:∀r∈rs,r.length<=1000:=λr hr=>QR (List.Sublist.length_le (List.sublist_flatten_of_mem hr)) hf;apply KI;apply KB
 case h1=>exact XY (Z1:=[pb (KH rs),pb (.int n),none]) (VN (UL rfl) rfl) (U1 (Zz rfl hlen) UV rfl)
 case h2=>
       intro hh;have:(5:Int)<(rs.length:Int):=by simpa using hh
       omega
 case h3=>
  intro _;refine KR (KE ?_)
  have hc:KQ (gN 3) (UQ true) (UX 2 Wb (UM (UI 3) (UM (UI 1) (UK)))) (rs.map Zf) (Kl [pb (KH rs),pb (.int n),none]++Uu 1 none) []=some (rs.map λ_=>.bool true):=by
   rw[SX (λ_=>true) (λ_=>.bool true) (λZ=>∃x,Z=[pb (KH rs),pb (.int n),none,x])]
   ·rw[Uc.mpr (λ_ _=>rfl),Q7,Jl];rfl
   ·rintro d hm Z ⟨x,rfl⟩;obtain⟨r,hr,rfl⟩:=Qu.mp hm;exact⟨_,UR (Qa rfl) rfl,rfl,λ_=>Kk (UO (UL rfl) (UO (UL rfl) UT)) rfl (jI (g.some r hr) (hrl r hr) (g.there r hr)),_,rfl⟩
   ·exact⟨none,rfl⟩
   ·rw[Qb,QE];omega
  apply KI;apply KB
  case h1=>exact Xm (X2 (Zw (UO (KJ (Yg (Zn (UL rfl) rfl) hc)) UT) (PH rs)))
  case h2=>intro hh;cases hh
  case h3=>
   intro _;refine KR (KE ?_);have h2:Ru (KL (UI 0)) 2 (gN 3) (UQ true) (KL (UI 3)) (gN 4) (UQ true) (UI 4) [pb (KH rs),pb (.int n),none]=.ok (rs.flatten.map int) [pb (KH rs),pb (.int n),none]:=by unfold Ru;have e1:KL (UI 0) [pb (KH rs),pb (.int n),none]=.ok (rs.map Zf) [pb (KH rs),pb (.int n),none]:=Zn (UL rfl) rfl;rw[e1];dsimp only;have e2:=GM (a:=KH rs) (b:=.int n) rs [] none none (by rw[QE];omega);have e3:X0 (gN 3) (UQ true) (KL (UI 3)) (gN 4) (UQ true) (UI 4) (rs.map Zf) (Kl [pb (KH rs),pb (.int n),none]++Uu 2 none) []=some ([]++rs.flatten.map int):=e2;rw[e3];rfl
   refine Kd (Ye h2 (Qa rfl) rfl) ?_;have hls:Ws [.list (rs.flatten.map int)]=some (.int rs.flatten.length):=by unfold Ws;dsimp only;rw[Rf];dsimp only;rw[Qm (by omega),Gv g.once]
   refine Kw (KJ (U1 (Zw (UO (Yt rfl rfl) UT) hls) (Zz rfl Zd) Y1)) ?_;rw[Qb];simp
theorem Y2{d:D}:∀{xs:List D}{k i:Nat},(Yl k xs)[i]?=some d->∃x,xs[i]?=some x/\d=.tuple [.int ((k+i:Nat):Int),x]
 |[],k,i,h=>by cases h
 |x::r,k,0,h=>by cases h;exact⟨x,rfl,rfl⟩
 |x::r,k,i+1,h=>by obtain⟨y,e,q⟩:=Y2 (xs:=r) (k:=k+1) (i:=i) h;exact⟨y,e,by rw[q];congr 4;omega⟩
theorem SZ:∀(n:Nat)(l:List Int),l.Nodup->(∀x∈l,0<=x/\x<n)->l.length<=n
 |0,[],_,_=>Qs _
 |0,x::r,_,h=>by have:=h x Qn;omega
 |n+1,l,hn,h=>by
  by_cases hm:(n:Int)∈l
  ·have:=SZ n (l.erase (n:Int)) (hn.erase _) λx hx=>by
    have h1:=(List.Nodup.mem_erase_iff hn).mp hx;have h2:=h x h1.2;have h3:=h1.1;omega
   rw[List.length_erase_of_mem hm]at this;omega
  ·have:=SZ n l hn λx hx=>by
    have h2:=h x hx;have h3:x≠(n:Int):=λe=>hm (e ▸ hx);omega
   omega
theorem RK{n:Nat}{rs:List (List Int)}(g:V9 n rs):rs.flatten.length<=n:=SZ n _ g.once λx hx=>by obtain⟨r,hr,hxr⟩:=J4.mp hx;exact g.there r hr x hxr
theorem AB{cs:List Int}(h1:1<=cs.length)(h6:cs.length<=6)(h:∀c∈cs,0<=c/\c<8):Vp [.list (cs.map int)]=some .none:=by
 refine RA (Z:=[pb (.list (cs.map int)),none,none]) rfl ?_;unfold Sg;have hlen:Ka [.list (cs.map int)]=some (.int cs.length):=by rw[Zd,Qb]
 apply KI;apply KB
 case h1=>exact XY (Z1:=[pb (.list (cs.map int)),none,none]) (VN (UL rfl) rfl) (Xm (Na UV (Zz rfl hlen) rfl (λ_=>UV) (λ_=>rfl)))
 case h2=>
  intro hh;have a1:(1:Int)<=(cs.length:Int):=by omega
  have a2:(cs.length:Int)<=6:=by omega
  simp[a1,a2]at hh
 case h3=>
  intro _;refine KR (KE ?_);apply Zm (λ_ Z=>∃x1 x2,Z=[pb (.list (cs.map int)),x1,x2])
  case h1=>exact Xp (UO (UL rfl) UT) Xo
  case h0=>exact⟨_,_,rfl⟩
  case hst=>
   rintro i d Z hi ⟨x1,x2,rfl⟩;obtain⟨x,hx,rfl⟩:=Y2 hi;obtain⟨c,hc,rfl⟩:=Qu.mp (Qr hx);refine⟨_,Kr rfl (U2 (UR (Qa rfl) rfl) (U2 (UR (Qa rfl) rfl) Ks)),?_⟩;unfold MT;apply KB
   case h1=>exact Xm (X2 (Kk (UO (UL rfl) (UO (U1 UV UV KM) UT)) rfl (PJ (h c hc).1 (by have:=(h c hc).2;omega))))
   case h2=>intro hh;cases hh
   case h3=>exact λ_=>KR (KO ⟨_,_,rfl⟩)
  case hend=>exact λZ ⟨x1,x2,e⟩=>⟨_,rfl⟩
theorem BS{ls:L3}{n:Nat}(hn:n<=6)(h1:1<=ls.length)(h7:ls.length<=7)(h:∀rs∈ls,V9 n rs):Vn [.list (ls.map KH),.int n]=some .none:=by
 refine RA (Z:=[pb (.list (ls.map KH)),pb (.int n),none,none]) rfl ?_;unfold Sd;have hlen:Ka [.list (ls.map KH)]=some (.int ls.length):=by rw[Zd,Qb]
 apply KI;apply KB
 case h1=>exact XY (Z1:=[pb (.list (ls.map KH)),pb (.int n),none,none]) (VN (UL rfl) rfl) (Xm (Na UV (Zz rfl hlen) rfl (λ_=>UV) (λ_=>rfl)))
 case h2=>
  intro hh;have a1:(1:Int)<=(ls.length:Int):=by omega
  have a2:(ls.length:Int)<=7:=by omega
  simp[a1,a2]at hh
 case h3=>
  intro _;refine KR (KE ?_);apply Zm (λ_ Z=>∃x2 x3,Z=[pb (.list (ls.map KH)),pb (.int n),x2,x3])
  case h1=>exact Xp (UO (UL rfl) UT) Xo
  case h0=>exact⟨_,_,rfl⟩
  case hst=>
   rintro i d Z hi ⟨x1,x2,rfl⟩;obtain⟨x,hx,rfl⟩:=Y2 hi;obtain⟨rs,hrs,rfl⟩:=Qu.mp (Qr hx);refine⟨_,Kr rfl (U2 (UR (Qa rfl) rfl) (U2 (UR (Qa rfl) rfl) Ks)),?_⟩;unfold MU;have hfl:=RK (h rs hrs);apply KB
   case h1=>exact Xm (X2 (Kk (UO (UL rfl) (UO (UL rfl) UT)) rfl (kh (h rs hrs) hn (by omega))))
   case h2=>intro hh;cases hh
   case h3=>exact λ_=>KR (KO ⟨_,_,rfl⟩)
  case hend=>exact λZ ⟨x1,x2,e⟩=>⟨_,rfl⟩
theorem RR{cs:List Int}{ls:L3}(g:Good cs ls):ZW [Kg cs ls]=some .none:=by
 refine RA (Z:=[pb (Kg cs ls),none,none]) rfl ?_;unfold Sc;apply KI;apply KB
 case h1=>exact XY (Z1:=[pb (Kg cs ls),none,none]) (VN (UL rfl) rfl) (U1 (Zz rfl rfl) UV OM)
 case h2=>intro hh;cases hh
 case h3=>
  intro _;refine KR (KE ?_);have hlen:Ka [.list (cs.map int)]=some (.int (cs.length:Nat)):=by rw[Zd,Qb]
  refine Kd (Wi (UL rfl) (Kr rfl (U2 (UR (Qa rfl) rfl) (U2 (UR (Qa rfl) rfl) Ks)))) ?_;refine Kd (Wq (Kk (UO (UL rfl) UT) rfl (AB g.c1 g.c6 g.c7))) ?_;exact Zv (Wq (Kk (UO (UL rfl) (UO (Zz rfl hlen) UT)) rfl (BS g.c6 g.l1 g.l7 g.rk))) ⟨_,rfl⟩
theorem LX:∀(xs ys:List Int),PyData.eqvAll (xs.map int) (ys.map int)=decide (xs=ys)
 |[],[]=>rfl
 |[],y::ys=>by simp[PyData.eqvAll]
 |x::xs,[]=>by simp[PyData.eqvAll]
 |x::xs,y::ys=>by
  have ih:=LX xs ys
  show(UB (.int x) (.int y)&&PyData.eqvAll (xs.map int) (ys.map int))=_
  rw[ih];have:UB (.int x) (.int y)=decide (x=y):=rfl;rw[this,JN];simp
theorem AA{xs:List Int}:oNe (.list (xs.map int)) (.list [])=some (!decide (xs=[])):=by
 unfold oNe;have h1:(Uv (xs.map int)).canLay0=true:=BU xs;have h3:(Uv (xs.map int)).depth<=60:=by have:=LY xs;unfold Zf at this;omega
 rw[Qm ⟨h1,rfl,h3⟩]
 congr 2
 exact LX xs []
theorem OV{xs:List D}{x:D}(h:xs.getLast?=some x):oIx (.list xs) (.int (-1))=some x:=by
 unfold oIx atI;have hl:xs≠[]:=by rintro rfl;cases h
 have hp:0<xs.length:=List.length_pos_iff.mpr hl;rw[List.getLast?_eq_getElem?]at h
 show(ixN xs.length (-1)).bind _=_
 unfold ixN;rw[QB (by decide),Qm (by omega)];have e2:(-1+(xs.length:Int)).toNat=xs.length-1:=by omega
 simp only[Option.bind_some];rw[e2];exact h
theorem Pn{xs:List Int}{k:Nat}(h:k<xs.length):oIx (.list (xs.map int)) (.int k)=some (.int (xs.getD k 0)):=by refine Zc ?_;rw[Qd,Qe h];simp[List.getD,List.getElem?_eq_getElem h]
theorem PX(ns:List Int)(k:Nat)(hl:ns.length<=1000):∃v,YT [.list (ns.map int),.int k]=some (.int v):=by
 have hlen:Ka [.list (ns.map int)]=some (.int ns.length):=by rw[Zd,Qb]
 by_cases h:k<ns.length
 ·refine⟨ns.getD k 0,KZ (Z:=[pb (.list (ns.map int)),pb (.int k)]) rfl ?_⟩;unfold WH;apply KI;apply KB
  case h1=>exact ZN rfl (Zz rfl hlen) rfl
  case h2=>exact λ_=>Kw (Kp rfl (UL rfl) (Pn h)) (Wl rfl)
  case h3=>
        intro hh;have:¬(k:Int)<(ns.length:Int):=by simpa using hh
        omega
 ·refine⟨0,KZ (Z:=[pb (.list (ns.map int)),pb (.int k)]) rfl ?_⟩;unfold WH;apply KI;apply KB
  case h1=>exact ZN rfl (Zz rfl hlen) rfl
  case h2=>
        intro hh;have:(k:Int)<(ns.length:Int):=by simpa using hh
        omega
  case h3=>exact λ_=>KR (KE (Kw UV rfl))
def tab:List Int:=[1,1,2,0,3,7,1,4,5,6,1]
theorem Mo{z:Int}(h0:0<=z)(h1:z<11):oIx (.list (tab.map int)) (.int z)=some (.int (tab.getD z.toNat 0))/\0<=tab.getD z.toNat 0/\tab.getD z.toNat 0<8:=by
 have e:z=0∨z=1∨z=2∨z=3∨z=4∨z=5∨z=6∨z=7∨z=8∨z=9∨z=10:=by omega
 rcases e with rfl|rfl|rfl|rfl|rfl|rfl|rfl|rfl|rfl|rfl|rfl<;>exact⟨rfl,by decide,by decide⟩
structure V2(n:Nat)(pl:List Int)(j:Nat)(rs:List (List Int)):Prop where
 few:rs.length<=j
 some:∀r∈rs,r≠[]
 there:∀r∈rs,∀t∈r,(0<=t/\t<n)/\pl.getD t.toNat 0<1+(j:Int)
 once:rs.flatten.Nodup
def Vx(n:Nat)(pl:List Int)(r:Int):List Int:=((Ut n).filter λk=>decide (pl.getD k 0=r)).map λk:Nat=>(k:Int)
theorem kE(n:Nat)(pl:List Int)(r:Int):(Vx n pl r).Nodup:=by unfold Vx;refine List.Pairwise.map _ (λa b h e=>h (by omega)) ((List.nodup_range).filter _)
theorem HM{n:Nat}{pl:List Int}{r t:Int}(h:t∈Vx n pl r):(0<=t/\t<n)/\pl.getD t.toNat 0=r:=by
 unfold Vx at h;obtain⟨k,hk,rfl⟩:=Qu.mp h;have hk:=Jz.mp hk;have h1:=Q9.mp hk.1;have h2:pl.getD k 0=r:=by simpa using hk.2
 exact⟨⟨by omega,by omega⟩,by rw[QD];exact h2⟩
theorem V2.add{n:Nat}{pl:List Int}{j:Nat}{rs:List (List Int)}{row:List Int}(g:V2 n pl j rs)(hne:row≠[])(hm:∀t∈row,t∈Vx n pl (1+(j:Int)))(hn:row.Nodup):V2 n pl (j+1) (rs++[row]) where
 few:=by rw[Qi,QH];have:=g.few;omega
 some:=λr hr=>by
  rcases QJ.mp hr with z|z
  ·exact g.some r z
  ·rw[Qv.mp z];exact hne
 there:=λr hr t ht=>by
  rcases QJ.mp hr with z|z
  ·have:=g.there r z t ht;exact⟨this.1,by omega⟩
  ·rw[Qv.mp z]at ht;have:=HM (hm t ht);exact⟨this.1,by omega⟩
 once:=by rw[List.flatten_append,List.flatten_singleton];refine List.nodup_append.mpr ⟨g.once,hn,λa ha b hb e=>?_⟩;subst e;obtain⟨r,hr,har⟩:=J4.mp ha;have h1:=(g.there r hr a har).2;have h2:=(HM (hm a hb)).2;omega
theorem V2.next{n:Nat}{pl:List Int}{j:Nat}{rs:List (List Int)}(g:V2 n pl j rs):V2 n pl (j+1) rs:=
 ⟨by have:=g.few;omega,g.some,λr hr t ht=>⟨(g.there r hr t ht).1,by have:=(g.there r hr t ht).2;omega⟩,g.once⟩
theorem Pm{x:D}{m:Nat}(h:m<=1000):Ke (.list [x]) (.int m)=some (.list (Uu m x)):=by
 rw[Nx ⟨by omega,by omega,by rw[QD];show 1*m<=_;omega⟩,QD]
 congr 2
 induction m with
 |zero=>rfl
 |succ m ih=>rw[QW,QN,ih (by omega)];rfl
def szG(T A:Nat):List Int:=(T:Int)::(A:Int)::Uu T 11
def Yz(T R:Nat):List Int:=Uu T ((R:Int)+1)++[2]
theorem Mv{T A:Nat}:(szG T A).length=T+2:=by unfold szG;simp
theorem LW{T R:Nat}:(Yz T R).length=T+1:=by unfold Yz;simp
theorem EG{T A:Nat}(h1:1<=T)(h2:T<=6)(h3:1<=A)(h4:A<=7):∀x∈szG T A,0<x/\x<18446744073709551616:=λx hx=>by unfold szG at hx;simp only[List.mem_cons,JI]at hx;rcases hx with rfl|rfl|⟨_,rfl⟩<;>omega
theorem CM{T R:Nat}(h:R<=5):∀x∈Yz T R,0<x/\x<18446744073709551616:=λx hx=>by unfold Yz at hx;simp only[List.mem_append,List.mem_singleton,JI]at hx;rcases hx with ⟨_,rfl⟩|rfl<;>omega
theorem Az{T R:Nat}:(Yz T R)[T]?=some 2:=by unfold Yz;simp
theorem EF{T A k:Nat}(h:k<T):(szG T A)[2+k]?=some 11:=by unfold szG;rw[show 2+k=k+1+1 by omega,JZ,JZ,QA,Qm h]
def P9(T A R:Nat)(S dz:D)(at_ n:Nat)(cs pl:List Int)(ls:L3)(x9 x10:Option Sl)(j:Nat)(Z:UJ):Prop:=∃(rs:List (List Int))(x13 x14:Option Sl),
 Z=[pb S,pb (.int at_),pb (.int (T:Nat)),pb (.int (A:Nat)),pb (.int (R:Nat)),pb dz,some (.own (cs.map int)),some (.own (ls.map KH)),x9,x10,pb (.list (pl.map int)),some (.own (rs.map Zf)),x13,x14]/\V2 n pl j rs
theorem jH{T A R:Nat}{S dz:D}{at_ n:Nat}{cs pl:List Int}{ls:L3}{v9 v10:D}{j:Nat}{d:D}{Z:UJ}{Q:Out->Prop}(hcs:cs.length=n)(hT:T<=6)(hR:R<=5)(hn:n<=T)(hpl:pl.length=T+1)(hlast:pl.getD T 0=0∨pl.getD T 0=1)
  (hj:(ZY 1 ((R:Int)+1))[j]?=some d) (h:P9 T A R S dz at_ n cs pl ls (some (.pub v9)) (some (.pub v10)) j Z) :
  ∃Z2,gN 12 d Z=some Z2/\Ho OJ Z2 (Vz (P9 T A R S dz at_ n cs pl ls (some (.pub v9)) (some (.pub v10)) (j+1)) Q):=by
 obtain⟨rs,x13,x14,rfl,g⟩:=h;obtain⟨rfl,hlt⟩:=XS hj;have hj5:j<R:=by omega
 refine⟨_,UR (Qa rfl) rfl,?_⟩;unfold OJ
 have hrd:ZY 0 ((n:Nat):Int)=(Ut n).map λk=>.int (k:Int):=by
  unfold ZY;have:((n:Int)-0).toNat=n:=by omega
  rw[this];apply List.map_congr_left;intro k _;rw[Jt]
 have hc:KQ (gN 14) (UN oEq (US 10 (UI 14)) (UI 12)) (UI 14) (ZY 0 ((n:Nat):Int)) (Kl [pb S,pb (.int at_),pb (.int (T:Nat)),pb (.int (A:Nat)),pb (.int (R:Nat)),pb dz,some (.own (cs.map int)),some (.own (ls.map KH)),pb v9,pb v10,pb (.list (pl.map int)),some (.own (rs.map Zf)),pb (.int (1+(j:Int))),x14]++Uu 1 none) []=some ((Vx n pl (1+(j:Int))).map int):=by
  rw[hrd,SX (λd=>match d with | .int k=>decide (pl.getD k.toNat 0=1+(j:Int))|_=>false) (λd=>d) (λZ=>∃x,Z=[pb S,pb (.int at_),pb (.int (T:Nat)),pb (.int (A:Nat)),pb (.int (R:Nat)),pb dz,none,none,pb v9,pb v10,pb (.list (pl.map int)),none,pb (.int (1+(j:Int))),YU x14,x])]
  ·rw[Q7,List.map_id',List.filter_map];unfold Vx;rw[Jl];rfl
  ·rintro d hm Z ⟨x,rfl⟩;obtain⟨k,hk,rfl⟩:=Qu.mp hm;have hk:=Q9.mp hk;refine⟨_,UR (Qa rfl) rfl,U1 (Kp rfl (UL rfl) (Pn (by omega))) (UL rfl) Y1,λ_=>UL rfl,pb (.int k),?_⟩;unfold Kl;cases x14 with
   |none=>rfl
   |some sl=>cases sl<;>rfl
  ·exact⟨none,rfl⟩
  ·rw[Qb,Qq,QE];omega
 have hlen:(cs.map int).length=n:=by rw[Qb,hcs]
 refine Kd (Ye (Yg (Xj (UO (CD rfl) UT) (by rw[hlen];exact Xf (by omega) (by omega))) hc) (Qa rfl) rfl) ?_;generalize hrow:Vx n pl (1+(j:Int))=row;apply KB
 case h1=>exact Af rfl (Zo UT (by decide)) rfl AA
 case h2=>
  intro hh;have hne:row≠[]:=by simpa using hh
  have hlx:oIx (.list (pl.map int)) (.int (-1))=some (.int (pl.getD T 0)):=OV (by rw[List.getLast?_eq_getElem?,Qb,hpl,Qd,J7,Qe (show T<pl.length by omega)];simp[List.getD,List.getElem?_eq_getElem (show T<pl.length by omega)])
  obtain⟨row',hix,hrow'⟩:∃row':List Int,oIx (.list [.list (row.map int),.list (row.map int).reverse]) (.int (pl.getD T 0))=some (Zf row')/\(row'=row∨row'=row.reverse):=by
   rcases hlast with e|e
   ·rw[e];exact⟨row,rfl,.inl rfl⟩
   ·rw[e];exact⟨row.reverse,by show some (Uv (row.map int).reverse)=_;unfold Zf;rw[List.map_reverse],.inr rfl⟩
  have hrl:(rs.map Zf).length<1000000:=by rw[Qb];have:=g.few;omega
  refine Zv (XQ rfl (U1 (Zo (UO (Yt rfl rfl) (UO (ET (UL rfl) UV UV (Xi (SF UV))) UT)) (Qa rfl)) (Kp rfl (SF UV) hlx) hix) rfl hrl rfl) ?_;refine KO ⟨rs++[row'],pb (.int (1+(j:Int))),pb (.list (row.map int)),by rw[Qz];rfl,g.add ?_ ?_ ?_⟩
  ·rcases hrow' with e|e<;>rw[e]
   ·exact hne
   ·exact λz=>hne (List.reverse_eq_nil_iff.mp z)
  ·intro t ht;rw[hrow];rcases hrow' with e|e<;>rw[e]at ht
   ·exact ht
   ·exact List.mem_reverse.mp ht
  ·have hnd:=kE n pl (1+(j:Int));rw[hrow]at hnd;rcases hrow' with e|e<;>rw[e]
   ·exact hnd
   ·exact(List.reverse_perm row).nodup_iff.mpr hnd
 case h3=>exact λ_=>KR (KO ⟨rs,_,_,rfl,g.next⟩)
def P8(T A R:Nat)(S dz:D)(at_ n:Nat)(cs:List Int)(i:Nat)(Z:UJ):Prop:=∃(ls:L3)(x9 x10 x11 x12 x13 x14:Option Sl),
 Z=[pb S,pb (.int at_),pb (.int (T:Nat)),pb (.int (A:Nat)),pb (.int (R:Nat)),pb dz,some (.own (cs.map int)),some (.own (ls.map KH)),x9,x10,x11,x12,x13,x14]/\ls.length=i/\∀rs∈ls,V9 n rs/\rs.length<=R
theorem kC{T A R:Nat}{ns:List Int}{dz:D}{at_ n:Nat}{cs:List Int}{i:Nat}{m:Int}{d:D}{Z:UJ}{Q:Out->Prop}(hns:ns.length<=1000)(hT:T<=6)(hR:R<=5)(hcs:cs.length=n)(hn:n<=T)(hm:m<=100)
  (hi:(ZY 0 m)[i]?=some d) (h:P8 T A R (.list (ns.map int)) dz at_ n cs i Z) :
  ∃Z2,gN 8 d Z=some Z2/\Ho OI Z2 (Vz (P8 T A R (.list (ns.map int)) dz at_ n cs (i+1)) Q):=by
 obtain⟨ls,x9,x10,x11,x12,x13,x14,rfl,hl,hg⟩:=h;obtain⟨rfl,hlt⟩:=XS hi;refine⟨_,UR (Qa rfl) rfl,?_⟩;unfold OI;obtain⟨v,hv⟩:=PX ns (at_+1+i) hns;have ev:((at_:Int)+1+(0+(i:Int)))=((at_+1+i:Nat):Int):=by omega
 rw[←ev]at hv;refine Kd (Kq (Kk (UO (UL rfl) (UO (U1 (U1 (UL rfl) UV KM) (UL rfl) KM) UT)) rfl hv) (Qa rfl) rfl) ?_;obtain⟨r,hF,pl,rfl,hpl,hpb⟩:=PY v (11*(at_:Int)+3*(0+(i:Int))+1) (sizes:=Yz T R) (CM hR) (by rw[LW];omega);have hpl7:pl.length=T+1:=by rw[hpl,LW]
 have hmul:Ke (.list [.int ((R:Int)+1)]) (.int (T:Nat))=some (.list (Uu T (.int ((R:Int)+1)))):=Pm (by omega);have hadd:UW (.list (Uu T (.int ((R:Int)+1)))) (.list [.int 2])=some (.list ((Yz T R).map int)):=by rw[Xg (by rw[Qy];show T+1<=_;omega)];unfold Yz;rw[Qz,JJ];rfl
 refine Kd (Kq (Kk (UO (UL rfl) (UO (U1 (U1 (U1 UV (UL rfl) (WA (by decide) (by decide))) (U1 UV (UL rfl) (WA (by decide) (by decide))) KM) UV KM) (UO (U1 (U1 (Zo (UO (U1 (UL rfl) UV KM) UT) (Qa rfl)) (UL rfl) hmul) (Zo (UO UV UT) (Qa rfl)) hadd) UT))) rfl hF) (Qa rfl) rfl) ?_;refine Kd (Ye (Wr UT (Qa rfl)) (Qa rfl) rfl) ?_
 have hlast:pl.getD T 0=0∨pl.getD T 0=1:=by
  have e:pl[T]?=some pl[T]:=Qe (by omega);have:=hpb T pl[T] 2 e Az;have e2:pl.getD T 0=pl[T]:=by simp[List.getD,e]
  rw[e2];omega
 apply KI;apply Zm (P9 T A R (.list (ns.map int)) dz at_ n cs pl ls (some (.pub (.int (0+(i:Int))))) (some (.pub (.int v))))
 case h1=>exact CC (UO UV (UO (U1 (UL rfl) UV KM) UT)) (Bw (by omega) (by omega) (by decide) (by decide))
 case h0=>exact⟨[],x13,x14,rfl,⟨Qs _,λ_ h=>(by cases h),λ_ h=>(by cases h),List.nodup_nil⟩⟩
 case hst=>exact λj d Z e h=>jH hcs hT hR hn hpl7 hlast e h
 case hend=>
  rintro Z ⟨rs,y13,y14,rfl,g⟩;refine KE ?_;have hl5:(ZY 1 ((R:Int)+1)).length=R:=by rw[Yx];omega
  rw[hl5]at g;have hll:(ls.map KH).length<1000000:=by rw[Qb];omega
  refine Zv (XQ rfl (Yt rfl rfl) rfl hll rfl) ?_;refine KO ⟨ls++[rs],pb (.int (0+(i:Int))),pb (.int v),pb (.list (pl.map int)),pb (.list (rs.map Zf)),y13,y14,by rw[Qz];rfl,by rw[Qi,hl];rfl,λx hx=>?_⟩;rcases QJ.mp hx with z|z
  ·exact hg x z
  ·rw[Qv.mp z];exact⟨⟨by have:=g.few;omega,g.some,λr hr t ht=>(g.there r hr t ht).1,g.once⟩,g.few⟩
theorem kJ(T A R:Nat){ns:List Int}(hns:ns.length<=1000)(at_:Nat)(hT1:1<=T:=by decide)(hT:T<=6:=by decide)(hA1:1<=A:=by decide)(hA:A<=7:=by decide)(hR:R<=5:=by decide):∃r,WW [.list (ns.map int),.int at_,.int (T:Nat),.int (A:Nat),.int (R:Nat)]=some r/\∃cs ls,r=Kg cs ls/\Good cs ls/\cs.length<=T/\ls.length<=A/\∀rs∈ls,rs.length<=R:=by
 obtain⟨v,hv⟩:=PX ns at_ hns;obtain⟨r,hF,ds,rfl,hl,hd⟩:=PY v at_ (sizes:=szG T A) (EG hT1 hT hA1 hA) (by rw[Mv];omega);have hl8:ds.length=T+2:=by rw[hl,Mv]
 have at':∀(j:Nat)(k z:Int),k=j->(szG T A)[j]?=some z->∃d,oIx (.list (ds.map int)) (.int k)=some (.int d)/\ds[j]?=some d/\0<=d/\d<z:=λj k z hk hz=>by
  subst hk;have hj:j<ds.length:=by rw[hl];exact(Qg.mp hz).1
  have e:ds[j]?=some ds[j]:=Qe hj;obtain⟨p0,p1⟩:=hd j ds[j] z e hz;exact⟨ds[j],Zc (by rw[Qd,e];rfl),e,p0,p1⟩
 obtain⟨d0,x0,e0,p0,q0⟩:=at' 0 0 T rfl rfl;obtain⟨d1,x1,e1,p1,q1⟩:=at' 1 1 A rfl rfl;have hmul:Ke (.list [.int 11]) (.int (T:Nat))=some (.list (Uu T (.int 11))):=Pm (by omega);have hadd:UW (.list [.int (T:Nat),.int (A:Nat)]) (.list (Uu T (.int 11)))=some (.list ((szG T A).map int)):=by rw[Xg (by rw[Qy];show 2+T<=_;omega)];unfold szG;rw[Qt,Qt,JJ];rfl
 obtain⟨n,hn⟩:∃n:Nat,1+d0=n:=⟨(1+d0).toNat,by omega⟩
 refine XZ (Z:=[pb (.list (ns.map int)),pb (.int at_),pb (.int (T:Nat)),pb (.int (A:Nat)),pb (.int (R:Nat)),none,none,none,none,none,none,none,none,none]) rfl ?_;unfold Tp;refine Kd (Kq (Kk (UO (Kk (UO (UL rfl) (UO (UL rfl) UT)) rfl hv) (UO (UL rfl) (UO (U1 (Zo (UO (UL rfl) (UO (UL rfl) UT)) (Qa rfl)) (U1 (Zo (UO UV UT) (Qa rfl)) (UL rfl) hmul) hadd) UT))) rfl hF) (Qa rfl) rfl) ?_
 have hcut:DL.cutD (ds.map int) (some 2) (some (3+d0))=((ds.drop 2).take n).map int:=by
  rw[O8 (by decide) (by omega) (by omega)];have:(3+d0).toNat-(2:Int).toNat=n:=by omega
  rw[this];rfl
 have hrowl:((ds.drop 2).take n).length=n:=by rw[QP,Jh,hl8];omega
 have each:∀z∈(ds.drop 2).take n,0<=z/\z<11:=λz hz=>by
  have hz:=JU hz;obtain⟨k,hk,e⟩:=List.getElem_of_mem hz;rw[Jh,hl8]at hk;rw[List.getElem_drop]at e;have e2:ds[2+k]?=some z:=by rw[←e];exact Qe _
  refine hd (2+k) z 11 e2 (EF ?_);omega
 let cs:List Int:=((ds.drop 2).take n).map λz=>tab.getD z.toNat 0
 have hcl:cs.length=n:=by show(List.map _ _).length=n;rw[Qb,hrowl]
 have hc:∀xs:List (Option Sl),Kl xs=xs->xs.length=14->KQ (gN 14) (UQ true) (UN oIx (Kj (UM (UQ (.int 1)) (UM (UQ (.int 1)) (UM (UQ (.int 2)) (UM (UQ (.int 0)) (UM (UQ (.int 3)) (UM (UQ (.int 7)) (UM (UQ (.int 1)) (UM (UQ (.int 4)) (UM (UQ (.int 5)) (UM (UQ (.int 6)) (UM (UQ (.int 1)) (UK))))))))))))) (UI 14)) (((ds.drop 2).take n).map int) (Kl xs++Uu 1 none) []=some (cs.map int):=by
  intro xs hx hxl;rw[hx,SX (λ_=>true) (λd=>match d with | .int z=>.int (tab.getD z.toNat 0)|_=>.none) (λZ=>∃x,Z=xs++[x])]
  ·rw[Uc.mpr (λ_ _=>rfl),Q7,Jl];show _=some ((((ds.drop 2).take n).map λz=>tab.getD z.toNat 0).map int);rw[Jl];rfl
  ·rintro d hm Z ⟨x,rfl⟩;obtain⟨z,hz,rfl⟩:=Qu.mp hm;have ht:=Mo (each z hz).1 (each z hz).2;have hset:(xs++[x]).set 14 (some (Sl.pub (.int z)))=xs++[pb (.int z)]:=by rw[List.set_append_right _ _ (by omega),hxl];rfl
   have hget:(xs++[some (Sl.pub (.int z))])[14]?=some (some (Sl.pub (.int z))):=by rw[Qx (by omega),hxl];rfl
   refine⟨_,UR (by rw[Qi,hxl];exact Qa rfl) hset,rfl,λ_=>?_,pb (.int z),?_⟩
   ·exact U1 (Zo (UO UV (UO UV (UO UV (UO UV (UO UV (UO UV (UO UV (UO UV (UO UV (UO UV (UO UV UT))))))))))) (Qa rfl)) (UL hget) ht.1
   ·unfold Kl at hx⊢;rw[Qz,hx];rfl
  ·exact⟨none,rfl⟩
  ·rw[Qb,hrowl,QE];omega
 refine Kd (Ye (Yg (Zn (VE (UL rfl) (Xi UV) (Xi (U1 UV (Kp rfl UV x0) KM)) (by rw[VH,hcut])) ZO) (hc _ rfl rfl)) (Qa rfl) rfl) ?_;refine Kd (Ye (Wr UT (Qa rfl)) (Qa rfl) rfl) ?_;apply KI;apply Zm (P8 T A R (.list (ns.map int)) (.list (ds.map int)) at_ n cs)
 case h1=>exact Xj (UO (U1 UV (Kp rfl UV x1) KM) UT) (Xf (by omega) (by omega))
 case h0=>exact⟨[],_,_,_,_,_,_,rfl,rfl,λ_ h=>by cases h⟩
 case hst=>exact λi d Z e h=>kC hns hT hR hcl (by omega) (by omega) e h
 case hend=>rintro Z ⟨ls,y9,y10,y11,y12,y13,y14,rfl,hll,hg⟩;rw[Yx]at hll;refine KE (Kw (YH (UO (Yt rfl rfl) (UO (Yt rfl rfl) UT)) (Qa rfl)) ⟨_,rfl,cs,ls,rfl,⟨?_,by omega,by omega,λrs hrs=>(hg rs hrs).2⟩⟩);exact⟨by omega,by omega,λc hc=>by obtain⟨z,hz,rfl⟩:=Qu.mp hc;exact(Mo (each z hz).1 (each z hz).2).2,by omega,by omega,λrs hrs=>by rw[hcl];exact(hg rs hrs).1⟩
def Zg(t:Int)(rs:List (List Int)):Nat:=if rs.findIdx (λr=>r.contains t)<rs.length then rs.findIdx (λr=>r.contains t)+1 else 0
theorem Dv(a b:Int):UB (.int a) (.int b)=(a==b):=by simp[UB]
theorem OU(t:Int)(r:List Int):oIn (.int t) (Zf r)=some (r.contains t):=by
 have h1:Uz (r.map int)=true:=by
  induction r with
  |nil=>rfl
  |cons x r ih=>rw[Qt];unfold Uz;rw[ih];rfl
 unfold oIn Zf;dsimp only;rw[Qm ⟨rfl,h1,JR _⟩]
 congr 1
 rw[List.any_map];clear h1;induction r with
 |nil=>rfl
 |cons x r ih=>
  rw[Ud,ih,List.contains_cons]
  congr 1
  show UB (.int x) (.int t)=(t==x);rw[Dv];exact Bool.eq_iff_iff.2 ⟨λh=>beq_iff_eq.2 (beq_iff_eq.1 h).symm,λh=>beq_iff_eq.2 (beq_iff_eq.1 h).symm⟩
theorem HL{t:Int}{rs:List (List Int)}{i:Nat}{r:List Int}(hr:rs[i]?=some r)(h:r.contains t=true)(hb:∀j r,j<i->rs[j]?=some r->r.contains t=false):Zg t rs=1+i:=by obtain⟨hi,e⟩:=List.getElem?_eq_some_iff.1 hr;have hf:rs.findIdx (λr=>r.contains t)=i:=(List.findIdx_eq hi).2 ⟨by rw[e];exact h,λj hj=>hb j _ hj (Qe (Nat.lt_trans hj hi))⟩;unfold Zg;rw[hf,Qm hi,Nat.add_comm]
theorem HK{t:Int}{rs:List (List Int)}(hb:∀j r,j<rs.length->rs[j]?=some r->r.contains t=false):Zg t rs=0:=by
 have hf:rs.findIdx (λr=>r.contains t)=rs.length:=List.findIdx_eq_length.2 λr hr=>by obtain⟨j,hj,e⟩:=List.mem_iff_getElem.1 hr;exact hb j r hj (by rw[Qe hj,e])
 unfold Zg;rw[hf,QB (Jr _)]
theorem jG(t:Int)(rs:List (List Int)):Vm [KH rs,.int t]=some (.int (Zg t rs:Nat)):=by
 refine KZ (Z:=[pb (KH rs),pb (.int t),none,none]) rfl ?_;unfold Sb;apply KI;apply Zm (λi Z=>(∃x2 x3,Z=[pb (KH rs),pb (.int t),x2,x3])/\∀j r,j<i->rs[j]?=some r->r.contains t=false)
 case h1=>exact Ad (UO (UL rfl) UT) qg
 case h0=>exact⟨⟨_,_,rfl⟩,λj r h=>absurd h (Js _)⟩
 case hst=>
  rintro i d Z hi ⟨⟨x2,x3,rfl⟩,hb⟩;obtain⟨x,hx,rfl⟩:=Y2 hi;rw[Qd]at hx;cases hr:rs[i]? with
  |none=>rw[hr]at hx;cases hx
  |some r=>
   rw[hr]at hx;cases hx;refine⟨_,Kr rfl (U2 (UR (Qa rfl) rfl) (U2 (UR (Qa rfl) rfl) Ks)),?_⟩;unfold La;apply KB
   case h1=>exact ZN rfl (UL rfl) (OU t r)
   case h2=>intro hh;refine Kw (UL rfl) (VO ?_);rw[HL hr hh hb];exact⟨rfl⟩
   case h3=>
    intro hh;refine KR (KO ⟨⟨_,_,rfl⟩,λj r' hj hr'=>?_⟩);rcases Nat.lt_succ_iff_lt_or_eq.1 hj with h|rfl
    ·exact hb j r' h hr'
    ·rw[hr]at hr';cases hr';exact hh
 case hend=>rintro Z ⟨⟨x2,x3,rfl⟩,hb⟩;rw[Ys,Qb]at hb;refine KE ?_;rw[HK hb];exact Kw UV rfl
def U3:Option Int->D
 |none=>.none
 |some t=>.int t
def Kf(ws:LO):D:=.list (ws.map U3)
structure Deal(cs:List Int)(ls:L3)(ws:LO):Prop where
 len:ws.length=ls.length
 wish:∀(i:Nat) t rs,ws[i]?=some (some t)->ls[i]?=some rs->t∈rs.flatten
 cop:∀(k:Nat) c,cs[k]?=some c->((ws.count (some (k:Int)):Nat):Int)<=c
theorem Gu{t:Int}{rs:List (List Int)}(h:t∈rs.flatten):Zg t rs≠0:=by obtain⟨r,hr,ht⟩:=J4.mp h;have:rs.findIdx (λr=>r.contains t)<rs.length:=List.findIdx_lt_length_of_exists ⟨r,hr,by simpa using ht⟩;unfold Zg;rw[Qm this];omega
theorem O2(ws:LO):Uz (ws.map U3)=true:=Ta λx hx=>by obtain⟨y,_,rfl⟩:=Qu.mp hx;cases y<;>rfl
theorem OT(a b:Option Int):UB (U3 a) (U3 b)=decide (a=b):=by rw[JN];cases a<;>cases b<;>simp[U3,UB]
theorem Gs{ws:LO}{k:Int}:VL (Kf ws) (.int k)=some (.int (ws.count (some k):Nat)):=by
 unfold Kf VL;dsimp only;rw[if_pos ⟨rfl,O2 ws,by simp[UA]⟩]
 congr 3
 induction ws with
 |nil=>rfl
 |cons w r ih=>
  rw[Qt,List.countP_cons,JP,ih]
  congr 1
  have:=OT w (some k);have e:U3 (some k)=.int k:=rfl;rw[e]at this;rw[this];cases w with
  |none=>simp
  |some z=>simp
theorem LV{f:M (List D)}{k:Nat}{s:D->UJ->Option UJ}{t:M Bool}{g:M D}{Z Z1:UJ}{ds es:List D}(h1:f Z=.ok ds Z1)(h2:KQ s t g ds (ZG Z1++Uu k none) []=some es)(h3:es.all flat=true):SI f k s t g Z=.ok es Z1:=by unfold SI;rw[h1];dsimp only;rw[h2];dsimp only;rw[if_pos h3]
theorem HJ{cs:List Int}{ls:L3}{rs:List (List Int)}{i:Nat}(hi:ls[i]?=some rs)(hl:rs.flatten.length<64):XB [Kg cs ls,.int i]=some (.list ((Z7 rs.flatten).map int)):=by
 refine KZ (Z:=[pb (Kg cs ls),pb (.int i)]) rfl ?_;unfold Tl;have i1:oIx (Kg cs ls) (.int 1)=some (.list (ls.map KH)):=Zc (j:=1) rfl;have i2:oIx (.list (ls.map KH)) (.int i)=some (KH rs):=Zc (by rw[Qd,hi];rfl)
 have hs:Sz [KH rs,.list []]=some (.list (rs.flatten.map int)):=by
  have e:KH rs=.list ((rs.map λr=>r.map int).map Uv):=by unfold KH;rw[Jl];rfl
  have e2:(rs.map λr=>r.map int).flatten=rs.flatten.map int:=by rw[List.map_flatten]
  rw[e];unfold Sz;dsimp only;rw[jP];dsimp only;rw[e2,Qm (by rw[Qb];omega)]
 exact Kw (Zw (UO (Zw (UO (U1 (Kp rfl UV i1) (UL rfl) i2) (UO (Zo UT (Qa rfl)) UT)) hs) UT) (Gy hl)) rfl
structure V3(cs:List Int)(ls:L3)(lf:List Int)(ws:LO):Prop where
 wish:∀(i:Nat) t rs,ws[i]?=some (some t)->ls[i]?=some rs->t∈rs.flatten
 len:lf.length=cs.length
 cop:∀(k:Nat) c,cs[k]?=some c->lf[k]?=some (c-((ws.count (some (k:Int)):Nat):Int))/\0<=c-((ws.count (some (k:Int)):Nat):Int)
theorem Gj{ls:L3}{ws:LO}{o:Option Int}{rs:List (List Int)}(h:∀(i:Nat) t rs,ws[i]?=some (some t)->ls[i]?=some rs->t∈rs.flatten)(hi:ls[ws.length]?=some rs)(ho:∀t,o=some t->t∈rs.flatten) :
  ∀(i:Nat) t rs,(ws++[o])[i]?=some (some t)->ls[i]?=some rs->t∈rs.flatten:=by
 intro j t rs' e1 e2;by_cases hj:j<ws.length
 ·rw[Qw hj]at e1;exact h j t rs' e1 e2
 ·by_cases hj2:j=ws.length
  ·subst hj2;rw[hi]at e2;cases e2;rw[Qx (Qs _),Nat.sub_self,List.getElem?_cons_zero]at e1;cases e1;exact ho t rfl
  ·rw[Jd (by rw[Qi,QH];omega)]at e1;cases e1
theorem V3.none{cs:List Int}{ls:L3}{lf:List Int}{ws:LO}{rs:List (List Int)}(d:V3 cs ls lf ws)(hi:ls[ws.length]?=some rs):V3 cs ls lf (ws++[Option.none]) where
 wish:=Gj d.wish hi λt e=>by cases e
 len:=d.len
 cop:=λk c e=>by rw[List.count_append];simpa using d.cop k c e
theorem V3.give{cs:List Int}{ls:L3}{lf:List Int}{ws:LO}{rs:List (List Int)}{t v:Int}(d:V3 cs ls lf ws)(hi:ls[ws.length]?=some rs)(ht:t∈rs.flatten)(h0:0<=t)(hv:lf[t.toNat]?=some v)(hp:0<v):V3 cs ls (lf.set t.toNat (v-1)) (ws++[some t]) where
 wish:=Gj d.wish hi λt' e=>by cases e;exact ht
 len:=by rw[Q6];exact d.len
 cop:=λk c e=>by
  obtain⟨h1,h2⟩:=d.cop k c e;rw[List.count_append];by_cases hk:t=(k:Int)
  ·subst hk;rw[QD]at hv⊢;rw[h1]at hv;cases hv;have hl:k<lf.length:=(Qg.mp h1).1;rw[QI hl];simp only[List.count_singleton_self];refine⟨by congr 1;omega,by omega⟩
  ·have hne:t.toNat≠k:=by omega
   rw[Qp hne];have:List.count (some (k:Int)) [some t]=0:=by rw[List.count_eq_zero];intro z;have:=Qv.mp z;exact hk (Q5 this).symm
   rw[this];exact⟨h1,h2⟩
theorem Mn{os:LO}{k:Nat}(h:k<os.length):oIx (.list (os.map U3)) (.int k)=some (U3 os[k]):=Zc (by rw[Qd,Qe h];rfl)
theorem LU{ws:LO}{o:Option Int}:(ws++[o]).map U3=ws.map U3++[U3 o]:=by rw[Qz];rfl
theorem BR(ws:LO):(Kf ws).depth<=2:=OH (PK λx hx=>by obtain⟨y,_,rfl⟩:=Qu.mp hx;cases y<;>simp[U3,UA])
theorem Xl{s:D->UJ->Option UJ}{t:M Bool}{g:M D}(I:UJ->Prop):∀(ds qs:List D)(Z:UJ)(es:List D),qs.length=ds.length ->
  (∀(i:Nat) d e,ds[i]?=some d->qs[i]?=some e->∀Z,I Z->∃Z1,s d Z=some Z1/\t Z1=.ok true Z1/\g Z1=.ok e Z1/\I (Kl Z1))->I Z->es.length+ds.length<=1000000->KQ s t g ds Z es=some (es++qs)
 |[],[],Z,es,_,_,_,_=>by rw[KQ,Jb]
 |d::r,e::q,Z,es,hl,st,h0,hz=>by obtain⟨Z1,e1,e2,e3,h1⟩:=st 0 d e rfl rfl Z h0;rw[QC]at hz;rw[KQ,e1];dsimp only;rw[e2];dsimp only;rw[Qm rfl,e3];dsimp only;rw[if_pos (by omega),Xl I r q (Kl Z1) (es++[e]) (by simpa using hl) (λi d' e' x y=>st (i+1) d' e' (by simpa using x) (by simpa using y)) h1 (by rw[List.length_append,List.length_singleton];omega),List.append_assoc];rfl
def lng(ls:L3):Nat:=(most (ls.map λrs=>(rs.length:Int))).toNat
def Xb(cs:List Int)(ws:LO):List Int:=(Ut cs.length).map λk:Nat=>cs.getD k 0-((ws.count (some (k:Int)):Nat):Int)
theorem OS{ls:L3}(h:1<=ls.length):most (ls.map λrs=>(rs.length:Int))=(lng ls:Nat):=by
 have hm:most (ls.map λrs=>(rs.length:Int))∈ls.map λrs=>(rs.length:Int):=Py (by rw[Qb];omega)
 obtain⟨rs,_,e⟩:=Qu.mp hm;unfold lng;omega
theorem Mm{ls:L3}{rs:List (List Int)}(h:rs∈ls):rs.length<=lng ls:=by have h1:((rs.length:Nat):Int)<=most (ls.map λrs=>(rs.length:Int)):=ON (Qu.mpr ⟨rs,h,rfl⟩);have h2:=OS (ls:=ls) (List.length_pos_of_mem h);omega
theorem Of{ls:L3}{n:Nat}(h1:1<=ls.length)(h:∀rs∈ls,rs.length<=n):lng ls<=n:=by
 have hm:most (ls.map λrs=>(rs.length:Int))∈ls.map λrs=>(rs.length:Int):=Py (by rw[Qb];omega)
 obtain⟨rs,hr,e⟩:=Qu.mp hm;have:=h rs hr;unfold lng;omega
theorem No(t:Int)(rs:List (List Int)):Zg t rs<=rs.length:=by
 unfold Zg
 split<;>omega
section
variable{cs:List Int}{ls:L3}{ws:LO}
theorem We:oIx (Kg cs ls) (.int 0)=some (.list (cs.map int)):=Zc (j:=0) rfl
theorem XV:oIx (Kg cs ls) (.int 1)=some (.list (ls.map KH)):=Zc (j:=1) rfl
theorem NL{i:Nat}{rs:List (List Int)}(h:ls[i]?=some rs):oIx (.list (ls.map KH)) (.int i)=some (KH rs):=Zc (by rw[Qd,h];rfl)
theorem Gi(rs:List (List Int)):Ka [KH rs]=some (.int rs.length):=by unfold KH;rw[Zd,Qb]
theorem jF(g:Good cs ls):Vl [Kg cs ls]=some (.int (lng ls:Nat)):=by
 refine KZ (Z:=[pb (Kg cs ls)]) rfl ?_;unfold Sa;have hw:=RR g
 have hc:KQ (gN 1) (UQ true) (Zb 1) (ls.map KH) (Kl [pb (Kg cs ls)]++Uu 1 none) []=some ((ls.map λrs=>(rs.length:Int)).map int):=by
  refine Xl (λZ=>∃x,Z=[pb (Kg cs ls),x]) _ _ _ _ (by rw[Qb,Qb,Qb]) ?_ ⟨none,rfl⟩ (by rw[Qb,QE];have:=g.l7;omega);rintro i d e hd he Z ⟨x,rfl⟩;rw[Qd]at hd;rw[Qd,Qd]at he;cases hl:ls[i]? with
  |none=>rw[hl]at hd;cases hd
  |some rs=>
  rw[hl]at hd he;cases hd;cases he;exact⟨_,UR (Qa rfl) rfl,rfl,Zz rfl (Gi rs),_,rfl⟩
 refine Kd (Wq (Kk (UO (UL rfl) UT) rfl hw)) ?_;refine Kw (Zw (UO (KJ (Yg (Zn (Kp rfl UV XV) ZO) hc)) UT) (Hb (by rw[Qb];have:=g.l1;omega))) ?_;rw[OS g.l1]
theorem xc(g:Good cs ls):Vj [Kg cs ls,Kf ws]=some (.list ((Xb cs ws).map int)):=by
 refine KZ (Z:=[pb (Kg cs ls),pb (Kf ws)]) rfl ?_;unfold T8;have hw:=RR g
 have hc:KQ (gT 2 (gNC (gN 2) (gNC (gN 3) (gN0)))) (UQ true) (UN KD (UI 3) (SG (UI 1) (UM (UI 2) (UK)))) (Yl 0 (cs.map int)) (Kl [pb (Kg cs ls),pb (Kf ws)]++Uu 2 none) []=some ((Xb cs ws).map int):=by
  refine Xl (λZ=>∃x y,Z=[pb (Kg cs ls),pb (Kf ws),x,y]) _ _ _ _ (by unfold Xb;rw[Qb,Qb,Qq,Ys,Qb]) ?_ ⟨none,none,rfl⟩ (by rw[Ys,Qb,QE];have:=g.c6;omega);rintro i d e hd he Z ⟨x,y,rfl⟩;obtain⟨z,hz,rfl⟩:=Y2 hd;rw[Qd]at hz;cases hci:cs[i]? with
  |none=>rw[hci]at hz;cases hz
  |some c=>
  rw[hci]at hz;cases hz;have hil:i<cs.length:=(Qg.mp hci).1;unfold Xb at he;rw[Qd,Qd,Qe (by rw[Qq];exact hil),List.getElem_range]at he;cases he;rw[QX];have e:cs.getD i 0=c:=by simp[List.getD,hci]
  dsimp only;rw[e];exact⟨_,Kr rfl (U2 (UR (Qa rfl) rfl) (U2 (UR (Qa rfl) rfl) Ks)),rfl,U1 (UL rfl) (Ha (UL rfl) (UO (UL rfl) UT) Gs) Yw,_,_,rfl⟩
 refine Kd (Wq (Kk (UO (UL rfl) UT) rfl hw)) ?_;exact Kw (KJ (Yg (Xp (UO (Kp rfl UV We) UT) Xo) hc)) rfl
end
theorem Du{d:D}(h1:d.canLay0=true)(h2:d.depth<=60):oNe d d=some false:=by unfold oNe;rw[Qm ⟨h1,h1,h2⟩,LZ _ h1];rfl
theorem Oe{a b:Option Int}:oEq (U3 a) (U3 b)=some (decide (a=b)):=by unfold oEq;rw[if_pos ⟨by cases a<;>rfl,by cases b<;>rfl,by cases a<;>simp[U3,UA]⟩,OT]
theorem EE{a b:Option Int}:oNe (U3 a) (U3 b)=some (!decide (a=b)):=by unfold oNe;rw[if_pos ⟨by cases a<;>rfl,by cases b<;>rfl,by cases a<;>simp[U3,UA]⟩,OT]
theorem ED{xs:List D}{a:Nat}(h:a<=xs.length):DL.cutD xs none (some (a:Int))=xs.take a:=by
 unfold DL.cutD HT.sIx;dsimp only;rw[QB (by omega),QD];have:min a xs.length=a:=by omega
 rw[this];simp
theorem Ap{xs:List D}{a:Nat}(h:a<=xs.length):DL.cutD xs (some (a:Int)) none=xs.drop a:=by
 unfold DL.cutD HT.sIx;dsimp only;rw[QB (by omega),QD];have:min a xs.length=a:=by omega
 rw[this,List.take_of_length_le (by rw[Jh];omega)]
theorem Gr{s:D->UJ->Option UJ}{t:M Bool}{g:M D}(I:UJ->Prop):∀(ds qs:List D)(Z:UJ)(es:List D),qs.length=ds.length ->
  (∀(i:Nat) d e,ds[i]?=some d->qs[i]?=some e->∀Z,I Z->∃Z1,s d Z=some Z1/\t Z1=.ok true Z1/\g Z1=.ok e Z1/\I (Kl Z1))->I Z->es.length+ds.length<=1000000->∃Z',YO s t g ds Z es=some (es++qs,Z')/\I Z'
 |[],[],Z,es,_,_,h0,_=>⟨Z,by rw[YO,Jb],h0⟩
 |d::r,e::q,Z,es,hl,st,h0,hz=>by obtain⟨Z1,e1,e2,e3,h1⟩:=st 0 d e rfl rfl Z h0;rw[QC]at hz;obtain⟨Z',e',h'⟩:=Gr I r q (Kl Z1) (es++[e]) (by simpa using hl) (λi d' e' x y=>st (i+1) d' e' (by simpa using x) (by simpa using y)) h1 (by rw[List.length_append,List.length_singleton];omega);refine⟨Z',?_,h'⟩;rw[YO,e1];dsimp only;rw[e2];dsimp only;rw[Qm rfl,e3];dsimp only;rw[Qm (by omega),e',QY];rfl
theorem Nu{s:D->UJ->Option UJ}{t:M Bool}{f:M (List D)}{Rd:List D->UJ->List D->Option (List D×UJ)}(I:UJ->Prop):∀(ds:List D)(qs:List (List D))(Z:UJ)(es:List D),qs.length=ds.length ->
  (∀(i:Nat) d q,ds[i]?=some d->qs[i]?=some q->∀Z es,I Z->es.length+q.length<=1000000->∃Z1 xs Z2 Z3,s d Z=some Z1/\t Z1=.ok true Z1/\f Z1=.ok xs Z2/\Rd xs (Kl Z2) es=some (es++q,Z3)/\I Z3)->I Z->es.length+qs.flatten.length<=1000000->∃Z',Xk s t f Rd ds Z es=some (es++qs.flatten,Z')/\I Z'
 |[],[],Z,es,_,_,h0,_=>⟨Z,by rw[Xk,List.flatten_nil,Jb],h0⟩
 |d::r,q::qr,Z,es,hl,st,h0,hz=>by rw[QN,Qi]at hz;obtain⟨Z1,xs,Z2,Z3,e1,e2,e3,e4,h1⟩:=st 0 d q rfl rfl Z es h0 (by omega);obtain⟨Z',e',h'⟩:=Nu I r qr Z3 (es++q) (by simpa using hl) (λi d' e' x y=>st (i+1) d' e' (by simpa using x) (by simpa using y)) h1 (by rw[List.length_append];omega);refine⟨Z',?_,h'⟩;rw[Xk,e1];dsimp only;rw[e2];dsimp only;rw[Qm rfl,e3];dsimp only;rw[e4];dsimp only;rw[e',QN,QY]
def Wd(i:Nat)(rs:List (List Int)):LP:=rs.flatten.map λt=>((i:Int),t)
def ZR(k:Nat):L3->LP
 |[]=>[]
 |rs::ls=>Wd k rs++ZR (k+1) ls
def U9(k:Nat):L3->LP
 |[]=>[]
 |rs::ls=>(Z7 rs.flatten).map (λt=>((k:Int),t))++U9 (k+1) ls
theorem SV:∀(ls:L3)(k:Nat),(U9 k ls).Perm (ZR k ls)
 |[],_=>.nil
 |rs::ls,k=>((XT rs.flatten).map _).append (SV ls (k+1))
theorem O1:∀(ls:L3)(k:Nat),∀q∈U9 k ls,(k:Int)<=q.1
 |[],_,q,h=>by cases h
 |rs::ls,k,q,h=>by
  rcases QJ.mp h with h|h
  ·obtain⟨t,_,rfl⟩:=Qu.mp h;exact Q3 _
  ·have:=O1 ls (k+1) q h;omega
theorem VF:∀{ls:L3}{k:Nat}{q:Int×Int},q∈U9 k ls->∃i rs,ls[i]?=some rs/\q.1=((k+i:Nat):Int)/\q.2∈rs.flatten
 |[],_,q,h=>by cases h
 |rs::ls,k,q,h=>by
  rcases QJ.mp h with h|h
  ·obtain⟨t,ht,rfl⟩:=Qu.mp h;exact⟨0,rs,rfl,rfl,(XT _).mem_iff.mp ht⟩
  ·obtain⟨i,rs',h1,h2,h3⟩:=VF h;exact⟨i+1,rs',by simpa using h1,by rw[h2];congr 1;omega,h3⟩
theorem LS:∀{ls:L3}{k i:Nat}{rs:List (List Int)}{t:Int},ls[i]?=some rs->t∈rs.flatten->(((k+i:Nat):Int),t)∈U9 k ls
 |rs::ls,k,0,rs',t,h,ht=>by cases h;exact Q0 _ (Qu.mpr ⟨t,(XT _).mem_iff.mpr ht,rfl⟩)
 |rs::ls,k,i+1,rs',t,h,ht=>by have:=LS (ls:=ls) (k:=k+1) (i:=i) (by simpa using h) ht;rw[show k+1+i=k+(i+1)by omega]at this;exact QL _ this
theorem LR{n:Nat}(hn:n<=6):∀(ls:L3)(k:Nat),(∀rs∈ls,∀t∈rs.flatten,0<=t/\t<n)->(U9 k ls).Pairwise λx y=>Kv x<=Kv y
 |[],_,_=>.nil
 |rs::ls,k,h=>by
  refine List.pairwise_append.mpr ⟨?_,LR hn ls (k+1) λrs' hr=>h rs' (Ql _ hr),λx hx y hy=>?_⟩
  ·rw[List.pairwise_map];refine(Hx rs.flatten).imp λ{a b} hab=>?_
   unfold Kv;dsimp only;omega
  ·obtain⟨t,ht,rfl⟩:=Qu.mp hx;have h1:=O1 ls (k+1) y hy;have h2:=h rs Qn t ((XT _).mem_iff.mp ht);obtain⟨i,rs',g1,g2,g3⟩:=VF hy;have h3:=h rs' (Ql _ (Qr g1)) y.2 g3;unfold Kv;dsimp only;omega
theorem V9.flat{n:Nat}{rs:List (List Int)}(g:V9 n rs):∀t∈rs.flatten,0<=t/\t<n:=λt ht=>by obtain⟨r,h1,h2⟩:=J4.mp ht;exact g.there r h1 t h2
section
variable{cs:List Int}{ls:L3}
theorem O0(n:Nat):∀(ls:L3)(k:Nat),(∀rs∈ls,rs.flatten.length<=n)->(ZR k ls).length<=ls.length*n
 |[],_,_=>by simp[ZR]
 |rs::ls,k,h=>by
  have h1:=O0 n ls (k+1) λr hr=>h r (Ql _ hr);have h2:=h rs Qn
  show(Wd k rs++ZR (k+1) ls).length<=_
  rw[Qi,QC,Nat.succ_mul];unfold Wd;rw[Qb];omega
theorem jE(g:Good cs ls):Wm (ZR 0 ls)=U9 0 ls:=by
 have hf:∀rs∈ls,∀t∈rs.flatten,0<=t/\t<cs.length:=λrs hr=>(g.rk rs hr).flat
 have ok:∀q∈U9 0 ls,okP q:=λq hq=>by obtain⟨i,rs,h1,h2,h3⟩:=VF hq;have:=hf rs (Qr h1) q.2 h3;have:=g.c6;exact⟨by omega,by omega⟩
 exact(O5 ok ((SV ls 0).trans (Gz _).symm) (LR g.c6 ls 0 hf) (HX _)).symm
theorem EC(g:Good cs ls):∀q∈ZR 0 ls,okP q:=λq hq=>by obtain⟨i,rs,h1,h2,h3⟩:=VF ((SV ls 0).mem_iff.mpr hq);have:=(g.rk rs (Qr h1)).flat q.2 h3;have:=g.c6;exact⟨by omega,by omega⟩
theorem Pl(g:Good cs ls):(ZR 0 ls).length<=42:=by
 have h:=O0 6 ls 0 λrs hr=>QR (RK (g.rk rs hr)) g.c6
 have:=g.l7;omega
theorem OR:∀(ls:L3)(k:Nat),((ls.zipIdx k).map λp=>(Wd p.2 p.1).map Kc).flatten=(ZR k ls).map Kc
 |[],_=>rfl
 |rs::ls,k=>by rw[List.zipIdx_cons,Qt,QN,OR ls (k+1)];show _=(Wd k rs++ZR (k+1) ls).map Kc;rw[Qz]
theorem kX(g:Good cs ls):Vk [Kg cs ls]=some (.list ((U9 0 ls).map Kc)):=by
 refine KZ (Z:=[pb (Kg cs ls)]) rfl ?_;unfold T9;refine Kd (Wq (Kk (UO (UL rfl) UT) rfl (RR g))) ?_
 have hc:∃Z',Xk (gT 2 (gNC (gN 1) (gNC (gN 2) (gN0)))) (UQ true) (KL (UI 2)) (Xk (gN 3) (UQ true) (KL (UI 3)) (YO (gN 4) (UQ true) (Kt (UM (UI 1) (UM (UI 4) (UK)))))) (Yl 0 (ls.map KH)) (Kl [pb (Kg cs ls)]++Uu 4 none) []=some ((ZR 0 ls).map Kc,Z'):=by
  have key:=Nu (s:=gT 2 (gNC (gN 1) (gNC (gN 2) (gN0)))) (t:=UQ true) (f:=KL (UI 2)) (Rd:=Xk (gN 3) (UQ true) (KL (UI 3)) (YO (gN 4) (UQ true) (Kt (UM (UI 1) (UM (UI 4) (UK))))))
   (λZ=>∃x1 x2 x3 x4,Z=[pb (Kg cs ls),x1,x2,x3,x4]) (Yl 0 (ls.map KH)) ((ls.zipIdx 0).map λp=>(Wd p.2 p.1).map Kc) (Kl [pb (Kg cs ls)]++Uu 4 none) [] (by rw[Qb,List.length_zipIdx,Ys,Qb]) ?_ ⟨none,none,none,none,rfl⟩ (by rw[OR,Qb,QE];have:=Pl g;omega)
  ·obtain⟨Z',e,_⟩:=key;rw[OR,Q7]at e;exact⟨Z',e⟩
  rintro i d q hd hq Z es ⟨x1,x2,x3,x4,rfl⟩ hlen;obtain⟨z,hz,rfl⟩:=Y2 hd;rw[Qd]at hz;rw[Qd,List.getElem?_zipIdx]at hq;cases hls:ls[i]? with
  |none=>rw[hls]at hz;cases hz
  |some rs=>
  rw[hls]at hz hq;cases hz;cases hq;rw[QX]at *;dsimp only at hlen⊢
  have inner:=Nu (s:=gN 3) (t:=UQ true) (f:=KL (UI 3)) (Rd:=YO (gN 4) (UQ true) (Kt (UM (UI 1) (UM (UI 4) (UK)))))
   (λZ=>∃x3 x4,Z=[pb (Kg cs ls),pb (.int i),pb (KH rs),x3,x4]) (rs.map Zf) (rs.map λr=>r.map λt=>Kc ((i:Int),t)) (Kl [pb (Kg cs ls),pb (.int i),pb (KH rs),x3,x4]) es (by rw[Qb,Qb]) ?_ ⟨YU x3,YU x4,rfl⟩ ?_
  ·obtain⟨Z3,e3,y3,y4,h3⟩:=inner;have ef:(rs.map λr=>r.map λt=>Kc ((i:Int),t)).flatten=(Wd i rs).map Kc:=by unfold Wd;rw[Jl,List.map_flatten];rfl
   rw[ef]at e3;exact⟨_,_,_,Z3,Kr rfl (U2 (UR (Qa rfl) rfl) (U2 (UR (Qa rfl) rfl) Ks)),rfl,Zn (UL rfl) rfl,e3,_,_,_,_,h3⟩
  ·rintro j d q hd hq Z es' ⟨y3,y4,rfl⟩ hlen';rw[Qd]at hd hq;cases hr:rs[j]? with
   |none=>rw[hr]at hd;cases hd
   |some r=>
   rw[hr]at hd hq;cases hd;cases hq
   obtain⟨Z3,e3,z4,h3⟩:=Gr (s:=gN 4) (t:=UQ true) (g:=Kt (UM (UI 1) (UM (UI 4) (UK)))) (λZ=>∃x4,Z=[pb (Kg cs ls),pb (.int i),pb (KH rs),pb (Zf r),x4]) (r.map int) (r.map λt=>Kc ((i:Int),t)) (Kl [pb (Kg cs ls),pb (.int i),pb (KH rs),pb (Zf r),y4]) es' (by rw[Qb,Qb]) (by
    rintro m d e hd he Z ⟨x4,rfl⟩;rw[Qd]at hd he;cases hm:r[m]? with
    |none=>rw[hm]at hd;cases hd
    |some t=>
    rw[hm]at hd he;cases hd;cases he;exact⟨_,UR (Qa rfl) rfl,rfl,YH (UO (UL rfl) (UO (UL rfl) UT)) (Qa rfl),_,rfl⟩) ⟨YU y4,rfl⟩ (by rw[Qb]at hlen'⊢;exact hlen')
   exact⟨_,_,_,Z3,UR (Qa rfl) rfl,rfl,Zn (UL rfl) rfl,e3,_,_,h3⟩
  ·have ef:(rs.map λr=>r.map λt=>Kc ((i:Int),t)).flatten=(Wd i rs).map Kc:=by
    unfold Wd;rw[Jl,List.map_flatten];rfl
   rw[ef];exact hlen
 obtain⟨Z',hc⟩:=hc;have hs:=A8 (qs:=ZR 0 ls) (by have:=Pl g;omega) (EC g);rw[jE g]at hs;exact Kw (Zw (UO (KJ (BH (Xp (UO (Kp rfl UV XV) UT) Xo) hc)) UT) hs) rfl
end
inductive Ord where|firsts|full|lasts
def Ord.tx:Ord->Str
 |.firsts=> "firsts" | .full=> "full" | .lasts=> "lasts"
def Ord.isF:Ord->Bool
 |.firsts=>true|_=>false
def Ord.isU:Ord->Bool
 |.full=>true|_=>false
theorem EB(o:Ord):oEq (.str o.tx) (.str "firsts")=some o.isF:=by cases o<;>decide +kernel
theorem Ml(o:Ord):oEq (.str o.tx) (.str "full")=some o.isU:=by cases o<;>decide +kernel
theorem kW(o:Ord):Vi [.str o.tx]=some (.bool true):=by
 refine KZ (Z:=[pb (.str o.tx)]) rfl ?_;unfold T7;have h:oIn (.str o.tx) (.tuple ((["firsts", "full", "lasts"]:List Str).map Ux))=some true:=by cases o<;>decide +kernel
 exact Kw (Pt (KJ (k:=λd=>Uw (K5 d "str")) (UL rfl)) (λ_=>KJ (ZN rfl UV h))) rfl
theorem Ay(o:Ord):Vh [.str o.tx]=some .none:=by
 refine RA (Z:=[pb (.str o.tx)]) rfl ?_;unfold T6;apply KB
 case h1=>exact Xm (X2 (Kk (UO (UL rfl) UT) rfl (kW o)))
 case h2=>intro h;cases h
 case h3=>exact λ_=>KR ⟨_,rfl⟩
def Y4:Option LO->D
 |none=>.none
 |some ws=>Kf ws
def KS(o:Ord)(old:Option LO)(ts:List Int):D:=.tuple [.str o.tx,Y4 old,.list (ts.map int)]
structure XR(n m:Nat)(old:Option LO)(ts:List Int):Prop where
 len:∀ws,old=some ws->ws.length=m
 old:∀ws t,old=some ws->some t∈ws->0<=t/\t<n
 once:ts.Nodup
 there:∀a∈ts,0<=a/\a<m
theorem XR.few{n m:Nat}{old:Option LO}{ts:List Int}(g:XR n m old ts):ts.length<=m:=SZ m ts g.once g.there
theorem Ax{n m:Nat}{old:Option LO}(h1:∀ws,old=some ws->ws.length=m)(h2:∀ws t,old=some ws->some t∈ws->0<=t/\t<n)(hm:m<=1000):Vg [Y4 old,.int m,.int n]=some (.bool true):=by
 refine KZ (Z:=[pb (Y4 old),pb (.int m),pb (.int n)]) rfl ?_;unfold T5;apply KI;cases old with
 |none=>
  apply KB
  case h1=>exact KJ (UL rfl)
  case h2=>exact λ_=>Kw UV (Wl rfl)
  case h3=>intro hh;cases hh
 |some ws=>
  have hl:=h1 ws rfl;have hlen:Ka [Kf ws]=some (.int m):=by unfold Kf;rw[Zd,Qb,hl]
  apply KB
  case h1=>exact KJ (UL rfl)
  case h2=>intro hh;cases hh
  case h3=>
   intro _;refine KR (KE ?_);apply KI;apply KB
   case h1=>exact XY (Z1:=[pb (Kf ws),pb (.int m),pb (.int n)]) (VN (UL rfl) rfl) (U1 (Zz rfl hlen) (UL rfl) OM)
   case h2=>intro hh;simp at hh
   case h3=>
    intro _;refine KR (KE ?_)
    have hc:KQ (gN 3) (UQ true) (YR (UZ (λd=>.bool (isNon d)) (UI 3)) (UX 2 ZL (UM (UI 3) (UM (UI 2) (UK))))) (ws.map U3) (Kl [pb (Kf ws),pb (.int m),pb (.int n)]++Uu 1 none) []=some (ws.map λ_=>.bool true):=by
     refine Xl (λZ=>∃x,Z=[pb (Kf ws),pb (.int m),pb (.int n),x]) _ _ _ _ (by simp only[Qb]) ?_ ⟨none,rfl⟩ (by rw[Qb,QE];omega);rintro i d e hd he Z ⟨x,rfl⟩;rw[Qd]at hd he;cases hw:ws[i]? with
     |none=>rw[hw]at hd;cases hd
     |some o=>
     rw[hw]at hd he;cases hd;cases he;refine⟨_,UR (Qa rfl) rfl,rfl,?_,_,rfl⟩;cases o with
     |none=>exact Ol (t:=true) (u:=true) (KJ (k:=λd=>Uw (isNon d)) (x:=.none) (UL rfl)) (λh=>nomatch h)
     |some t=>have hb:=h2 ws t rfl (Qr hw);exact Ol (t:=false) (u:=true) (KJ (k:=λd=>Uw (isNon d)) (x:=.int t) (UL rfl)) (λ_=>Kk (UO (UL rfl) (UO (UL rfl) UT)) rfl (PJ hb.1 hb.2))
    exact Kw (Zw (UO (KJ (Yg (Zn (UL rfl) rfl) hc)) UT) (PH ws)) rfl
theorem kB{m:Nat}{ts:List Int}(h1:ts.Nodup)(h2:∀a∈ts,0<=a/\a<m)(hm:m<=1000):Vf [.list (ts.map int),.int m]=some (.bool true):=by
 refine KZ (Z:=[pb (.list (ts.map int)),pb (.int m)]) rfl ?_;unfold T4;have hl:=SZ m ts h1 h2;apply KI
 have hc:KQ (gN 2) (UQ true) (UX 2 ZL (UM (UI 2) (UM (UI 1) (UK)))) (ts.map int) (Kl [pb (.list (ts.map int)),pb (.int m)]++Uu 1 none) []=some (ts.map λ_=>.bool true):=by
  refine Xl (λZ=>∃x,Z=[pb (.list (ts.map int)),pb (.int m),x]) _ _ _ _ (by simp only[Qb]) ?_ ⟨none,rfl⟩ (by rw[Qb,QE];omega);rintro i d e hd he Z ⟨x,rfl⟩;rw[Qd]at hd he;cases hw:ts[i]? with
  |none=>rw[hw]at hd;cases hd
  |some t=>
  rw[hw]at hd he;cases hd;cases he;have hb:=h2 t (Qr hw);exact⟨_,UR (Qa rfl) rfl,rfl,Kk (UO (UL rfl) (UO (UL rfl) UT)) rfl (PJ hb.1 hb.2),_,rfl⟩
 apply KB
 case h1=>exact XY (Z1:=[pb (.list (ts.map int)),pb (.int m)]) (VN (UL rfl) rfl) (Xm (X2 (Zw (UO (KJ (Yg (Zn (UL rfl) ZO) hc)) UT) (PH ts))))
 case h2=>intro hh;cases hh
 case h3=>
  intro _;refine KR (KE ?_);have hs:Ws [.list (ts.map int)]=some (.int ts.length):=by unfold Ws;dsimp only;rw[Rf];dsimp only;rw[Qm (by omega),Gv h1]
  have hlen:Ka [.list (ts.map int)]=some (.int ts.length):=by rw[Zd,Qb]
  refine Kw (KJ (U1 (Zw (UO (UL rfl) UT) hs) (Zz rfl hlen) Y1)) ?_;simp
section
variable{cs:List Int}{ls:L3}{o:Ord}{old:Option LO}{ts:List Int}
theorem EA(g:Good cs ls)(ga:XR cs.length ls.length old ts):Ve [Kg cs ls,KS o old ts]=some .none:=by
 refine RA (Z:=[pb (Kg cs ls),pb (KS o old ts),none,none,none,none,none]) rfl ?_;unfold T3;have l7:=g.l7;have c6:=g.c6;have hll:Ka [.list (ls.map KH)]=some (.int ls.length):=by rw[Zd,Qb]
 have hlc:Ka [.list (cs.map int)]=some (.int cs.length):=by rw[Zd,Qb]
 refine Kd (Wq (Kk (UO (UL rfl) UT) rfl (RR g))) ?_;apply KI;apply KB
 case h1=>exact XY (Z1:=[pb (Kg cs ls),pb (KS o old ts),none,none,none,none,none]) (VN (UL rfl) rfl) (U1 (Zz rfl (show Ka [KS o old ts]=some (.int 3)from rfl)) UV OM)
 case h2=>intro hh;simp at hh
 case h3=>
  intro _;refine KR (KE ?_);refine Kd (Wi (UL rfl) (Kr rfl (U2 (UR (Qa rfl) rfl) (U2 (UR (Qa rfl) rfl) Ks)))) ?_;refine Kd (Wi (UL rfl) (Kr rfl (U2 (UR (Qa rfl) rfl) (U2 (UR (Qa rfl) rfl) (U2 (UR (Qa rfl) rfl) Ks))))) ?_;refine Kd (Wq (Kk (UO (UL rfl) UT) rfl (Ay o))) ?_;apply KI;apply KB
  case h1=>exact Xm (X2 (Kk (UO (UL rfl) (UO (Zz rfl hll) (UO (Zz rfl hlc) UT))) rfl (Ax ga.len ga.old (by omega))))
  case h2=>intro hh;cases hh
  case h3=>
   intro _;refine KR (KE ?_);apply KB
   case h1=>exact Xm (X2 (Kk (UO (UL rfl) (UO (Zz rfl hll) UT)) rfl (kB ga.once ga.there (by omega))))
   case h2=>intro hh;cases hh
   case h3=>exact λ_=>KR ⟨_,rfl⟩
end
theorem OQ{t:Int}{r:List Int}:oIn (.int t) (.list (r.map int))=some (r.contains t):=OU t r
theorem Gh:∀(a b:List Int),a.Nodup->(∀x∈a,x∈b)->a.length<=b.length
 |[],_,_,_=>JR _
 |x::a,b,hn,h=>by
  have hx:=h x Qn;have hn':=List.nodup_cons.mp hn
  have:=Gh a (b.erase x) hn'.2 λy hy=>by
   have hne:y≠x:=λe=>hn'.1 (e ▸ hy)
   exact(List.mem_erase_of_ne hne).mpr (h y (Ql _ hy))
  rw[List.length_erase_of_mem hx]at this;have hp:=List.length_pos_of_mem hx;rw[QC];omega
theorem jD{m:Nat}{T:List Int}(d:Nat)(hl:T.length<m)(hn:T.Nodup):∃k,k<m/\(∀j,j<k->(((d+j) % m:Nat):Int)∈T)/\(((d+k) % m:Nat):Int)∉T:=by
 have ex:∃k,k<m/\(((d+k) % m:Nat):Int)∉T:=by
  refine Classical.byContradiction λhno=>?_;have all:∀k,k<m->(((d+k) % m:Nat):Int)∈T:=λk hk=>Classical.byContradiction λz=>hno ⟨k,hk,z⟩
  have hsub:∀x:Nat,x<m->((x:Nat):Int)∈T:=λx hx=>by
   have h1:=all ((x+m-d % m) % m) (Nat.mod_lt _ (by omega));have e:(d+(x+m-d % m) % m) % m=x:=by have hdm:d % m<m:=Nat.mod_lt _ (by omega);rw[Nat.add_mod_mod,←Nat.mod_add_mod];rw[show d % m+(x+m-d % m)=x+m by omega,Nat.add_mod_right,Nat.mod_eq_of_lt hx]
   rw[e]at h1;exact h1
  have:=Gh ((Ut m).map λx:Nat=>(x:Int)) T (List.Pairwise.map _ (λa b h e=>h (by omega)) List.nodup_range) (λt ht=>by obtain⟨x,hx,rfl⟩:=Qu.mp ht;exact hsub x (Q9.mp hx));rw[Qb,Qq]at this;omega
 obtain⟨k,hk,hkn⟩:=ex;induction k using Nat.strongRecOn with
 |_ k ih=>
  by_cases h:∀j,j<k->(((d+j) % m:Nat):Int)∈T
  ·exact⟨k,hk,h,hkn⟩
  ·obtain⟨j,hj⟩:=Classical.not_forall.mp h;obtain⟨hj1,hj2⟩:=Classical.not_imp.mp hj;exact ih j hj1 (by omega) hj2
theorem Mk{x:D}{m:Nat}(h:m<=1000):Ke (.list [x]) (.int m)=some (.list (Uu m x)):=by
 rw[Nx ⟨by omega,by omega,by show 1*_<=_;omega⟩]
 congr 2
 rw[QD];clear h;induction m with
 |zero=>rfl
 |succ n ih=>rw[QW,QN,ih,QW];rfl
def szA(n m:Nat):List Int:=[3,2,(m:Int)+1]++Uu m ((n:Int)+1)++Uu m (m:Int)
theorem Mu(n m:Nat):(szA n m).length=3+m+m:=by unfold szA;rw[Qi,Qi,Qy,Qy];rfl
theorem Dt{n m j:Nat}(h:j<m):(szA n m)[3+j]?=some ((n:Int)+1):=by
 unfold szA;rw[Qw (by rw[Qi,Qy];show 3+j<3+m;omega),Qx (by show 3<=3+j;omega)]
 show(Uu m ((n:Int)+1))[3+j-3]?=_
 rw[Nat.add_sub_cancel_left,QA,Qm h]
theorem Ao{n m j:Nat}(h:j<m):(szA n m)[3+m+j]?=some (m:Int):=by
 unfold szA;have e:([3,2,(m:Int)+1]++Uu m ((n:Int)+1)).length=3+m:=by rw[Qi,Qy];rfl
 rw[Qx (by rw[e];omega),e,Nat.add_sub_cancel_left,QA,Qm h]
section
variable{cs:List Int}{ls:L3}
def Ri(d:Int):Option Int:=if 0<d then some (d-1)else none
theorem An(d:Int):oIx (.list [.none,.int (d-1)]) (.int (if decide (0<d)=true then 1 else 0))=some (U3 (Ri d)):=by
 unfold Ri;by_cases h:0<d
 ·rw[Jc h,Qm rfl,Qm h];exact Zc (j:=1) rfl
 ·rw[QT h,QB (by decide),QB h];exact Zc (j:=0) rfl
end
theorem Ds{op:Int->Int->Option D}{j:Nat}{f:M D}{Z Z1 Z':UJ}{a b:Int}{d:D}(h0:Z[j]?=some (some (.pub (.int a))))(h1:f Z=.ok (.int b) Z1)(h2:op a b=some d)(h3:j<Z1.length)(h4:Z1.set j (some (.pub d))=Z'):Xr op j f Z=.nx Z':=by unfold Xr;rw[h0];dsimp only[sB];rw[h1];dsimp only;rw[h2];dsimp only;rw[Qm h3,h4]
theorem mulN{i j:Int}(h : -1000<j/\j<1000):Yq i j=some (.int (i*j)):=by unfold Yq;exact Qm (.inr ⟨by omega,by omega⟩)
theorem RJ{b n:Int}(hb : -1000<b/\b<1000)(hn : -1000<=n/\n<=1000):Zs [.int b,.int n]=some (.int (b ^ n.toNat)):=by
 refine KZ (Z:=[pb (.int b),pb (.int n),none,none]) rfl ?_;unfold T2;refine Kd (Kq UV (Qa rfl) rfl) ?_;apply KI;apply Zm (λi Z=>∃x3,Z=[pb (.int b),pb (.int n),pb (.int (b ^ i)),x3])
 case h1=>exact Xj (UO (UL rfl) UT) (Xf (by omega) (by omega))
 case h0=>exact⟨_,by rw[Int.pow_zero];rfl⟩
 case hst=>rintro i d Z hi ⟨x3,rfl⟩;refine⟨_,UR (Qa rfl) rfl,?_⟩;unfold Lb;refine Zv (Ds rfl (UL rfl) (mulN hb) (Qa rfl) rfl) ?_;exact KO ⟨_,by rw[Int.pow_succ];rfl⟩
 case hend=>
  rintro Z ⟨x3,rfl⟩;refine KE (Kw (UL rfl) ?_);rw[Yx]
  congr 4
  omega
def Zl:Ord->Int->Int->Int->Int
 |.firsts,b,M,r=>b ^ (M-r).toNat
 |.full,b,M,r=>b ^ M.toNat+b ^ (M-r).toNat
 |.lasts,b,M,r=>b ^ M.toNat-b ^ (r-1).toNat
theorem kA(o:Ord){b M r:Int}(hb : -1000<b/\b<1000)(hM:0<=M/\M<=100)(hr:0<=r/\r<=100):Vd [.str o.tx,.int b,.int M,.int r]=some (.int (Zl o b M r)):=by
 refine KZ (Z:=[pb (.str o.tx),pb (.int b),pb (.int M),pb (.int r)]) rfl ?_;unfold TZ;have p1:Zs [.int b,.int (M-r)]=some (.int (b ^ (M-r).toNat)):=RJ hb ⟨by omega,by omega⟩;have p2:Zs [.int b,.int M]=some (.int (b ^ M.toNat)):=RJ hb ⟨by omega,by omega⟩;have p3:Zs [.int b,.int (r-1)]=some (.int (b ^ (r-1).toNat)):=RJ hb ⟨by omega,by omega⟩;apply KI;apply KB
 case h1=>exact ZN rfl UV (EB o)
 case h2=>
  intro h;cases o with
  |firsts=>exact Kw (Kk (UO (UL rfl) (UO (U1 (UL rfl) (UL rfl) Yw) UT)) rfl p1) (Wl rfl)
  |full=>cases h
  |lasts=>cases h
 case h3=>
  intro h;refine KR (KE ?_);apply KI;apply KB
  case h1=>exact ZN rfl UV (Ml o)
  case h2=>
   intro h';cases o with
   |full=>exact Kw (U1 (Kk (UO (UL rfl) (UO (UL rfl) UT)) rfl p2) (Kk (UO (UL rfl) (UO (U1 (UL rfl) (UL rfl) Yw) UT)) rfl p1) KM) (Wl rfl)
   |firsts=>cases h
   |lasts=>cases h'
  case h3=>
   intro h';refine KR (KE ?_);cases o with
   |firsts=>cases h
   |full=>cases h'
   |lasts=>exact Kw (U1 (Kk (UO (UL rfl) (UO (UL rfl) UT)) rfl p2) (Kk (UO (UL rfl) (UO (U1 (UL rfl) UV Yw) UT)) rfl p3) Yw) rfl
def Xa(ts:List Int)(b i r:Int):Int:=if i∈ts then(b-r)*b ^ (ts.length-1-ts.idxOf i)else 0
theorem Fa{n:Nat}:∀{xs:List D},(∀x∈xs,PyData.weight x<=n)->PyData.weightAll xs<=xs.length*(n+1)
 |[],_=>by simp[PyData.weightAll]
 |x::xs,h=>by have h1:=h x Qn;have h2:=Fa (xs:=xs) λy hy=>h y (Ql _ hy);rw[PyData.weightAll,QC,Nat.succ_mul];omega
theorem jC{i:Int}(h:0<=i/\i<1000):(int i).weight<=10:=by
 simp only[PyData.weight];split
 ·omega
 ·rename_i hne;have h0:i.natAbs≠0:=by intro e;exact hne (by simpa using e)
  have:=(Nat.log2_lt h0 (k:=10)).mpr (by omega);omega
theorem kO{ts:List Int}(h:∀a∈ts,0<=a/\a<1000)(hl:ts.length<=1000):PyData.layable0 (.list (ts.map int))=true:=by
 unfold PyData.layable0;have h1:(Uv (ts.map int)).canLay0=true:=Ta λx hx=>by obtain⟨y,_,rfl⟩:=Qu.mp hx;rfl
 have h2:(Uv (ts.map int)).depth<=64:=QR (OH (n:=1) (PK λx hx=>by obtain⟨y,_,rfl⟩:=Qu.mp hx;exact Mw y)) (by decide)
 have h3:(Uv (ts.map int)).weight<=2 ^ 20:=by
  have:=Fa (n:=10) (xs:=ts.map int) λx hx=>by obtain⟨y,hy,rfl⟩:=Qu.mp hx;exact jC (h y hy)
  rw[Qb]at this;simp only[PyData.weight];omega
 rw[h1,Jc h2,Jc h3];rfl
theorem Am{ts:List Int}{k:Int}(hb:∀a∈ts,0<=a/\a<1000)(hl:ts.length<=1000)(h:k∈ts):SL (.list (ts.map int)) [.int k]=some (.int (ts.idxOf k:Nat)):=by unfold SL;dsimp only;rw[Rf];dsimp only;exact Qm ⟨kO hb hl,h⟩
theorem Al{t:Int}{r:List Int}:Yi (.int t) (.list (r.map int))=some (!r.contains t):=by unfold Yi;rw[OQ];rfl
theorem j6{ts:List Int}{b i r:Int}(hb : -1000<b/\b<1000)(hr : -1000<r/\r<1000)(hl:ts.length<=100)(ht:∀a∈ts,0<=a/\a<1000):Vc [.list (ts.map int),.int b,.int i,.int r]=some (.int (Xa ts b i r)):=by
 refine KZ (Z:=[pb (.list (ts.map int)),pb (.int b),pb (.int i),pb (.int r),none]) rfl ?_;unfold TY Xa;apply KI;apply KB
 case h1=>exact ZN rfl (UL rfl) Al
 case h2=>
  intro h;have:¬i∈ts:=by simpa using h
  rw[QB this];exact Kw UV (Wl rfl)
 case h3=>
  intro h;have hm:i∈ts:=by simpa using h
  rw[Qm hm];refine KR (KE ?_);have hi:=List.idxOf_lt_length_of_mem hm;have hlen:Ka [.list (ts.map int)]=some (.int ts.length):=by rw[Zd,Qb]
  refine Kd (Kq (U1 (U1 (Zz rfl hlen) UV Yw) (Ab (UL rfl) (UO (UL rfl) UT) (Am ht (by omega) hm)) Yw) (Qa rfl) rfl) ?_;have hp:=RJ (b:=b) (n:=(ts.length:Int)-1-(ts.idxOf i:Nat)) hb ⟨by omega,by omega⟩;have e:((ts.length:Int)-1-(ts.idxOf i:Nat)).toNat=ts.length-1-ts.idxOf i:=by omega
  rw[e]at hp;exact Kw (U1 (U1 (UL rfl) (UL rfl) Yw) (Kk (UO (UL rfl) (UO (UL rfl) UT)) rfl hp) (WA (by omega) (by omega))) rfl
def YI(old:Option LO)(i:Nat)(t:Int):Int:=match old with
 |none=>0
 |some ws=>if ws[i]?=some (some t)then 1 else 0
section
variable{cs:List Int}{ls:L3}{o:Ord}{old:Option LO}{ts:List Int}
def K1(ls:L3)(o:Ord)(old:Option LO)(ts:List Int)(i:Nat)(rs:List (List Int))(t:Int):Int:=
 (Zl o (ls.length+1) (lng ls) (Zg t rs)*(ls.length+1)+YI old i t)*((lng ls:Int)+1) ^ ts.length+Xa ts (lng ls+1) i (Zg t rs)
theorem Gg{b:Int}(h0:0<=b)(h:b<=8):∀{n k:Nat},n<=k->b ^ n<=8 ^ k:=λ{n k} hk=>by
 have e:b=((b.toNat:Nat):Int):=by omega
 rw[e];have h1:b.toNat ^ n<=8 ^ n:=Nat.pow_le_pow_left (by omega) n;have h2:8 ^ n<=8 ^ k:=Nat.pow_le_pow_right (by omega) hk;have h3:((b.toNat ^ n:Nat):Int)<=((8 ^ k:Nat):Int):=by omega
 rw[Int.natCast_pow,Int.natCast_pow]at h3;exact h3
theorem Aw(g:Good cs ls)(ga:XR cs.length ls.length old ts){i:Nat}{rs:List (List Int)}(hi:ls[i]?=some rs)(t:Int):Wa [Kg cs ls,KS o old ts,.int (lng ls:Nat),.int i,.int t]=some (.int (K1 ls o old ts i rs t)):=by
 have l7:=g.l7;have l1:=g.l1;have hL:lng ls<=5:=Of l1 λrs h=>(g.rk rs h).few;have hrk:Zg t rs<=5:=by have:=No t rs;have:=(g.rk rs (Qr hi)).few;omega
 have htl:=ga.few;have hlt:i<ls.length:=(Qg.mp hi).1;refine KZ (Z:=[pb (Kg cs ls),pb (KS o old ts),pb (.int (lng ls:Nat)),pb (.int i),pb (.int t),none,none,none,none,none,none,none,none]) rfl ?_;unfold TX K1;refine Kd (Wi (UL rfl) (Kr rfl (U2 (UR (Qa rfl) rfl) (U2 (UR (Qa rfl) rfl) (U2 (UR (Qa rfl) rfl) Ks))))) ?_;refine Kd (Kq (Kp rfl UV XV) (Qa rfl) rfl) ?_;refine Kd (Kq (Kk (UO (Kp rfl (UL rfl) (NL hi)) (UO (UL rfl) UT)) rfl (jG t rs)) (Qa rfl) rfl) ?_;have hll:Ka [.list (ls.map KH)]=some (.int ls.length):=by rw[Zd,Qb]
 have htl':Ka [.list (ts.map int)]=some (.int ts.length):=by rw[Zd,Qb]
 refine Kd (Kq (U1 (Zz rfl hll) UV KM) (Qa rfl) rfl) ?_
 have hk:∀Z:UJ,Z[6]?=some (some (.pub (Y4 old)))->Z[3]?=some (some (.pub (.int i)))->Z[4]?=some (some (.pub (.int t))) ->
   mIf (KW (UZ (λd=>!isNon d) (UI 6)) (UN oEq (US 6 (UI 3)) (UI 4))) (UQ (int 1)) (UQ (.int 0)) Z=.ok (.int (YI old i t)) Z:=λZ r6 r3 r4=>by
  cases old with
  |none=>exact Oj (SN (KJ (UL r6))) UV
  |some ws=>
   have hw:ws.length=ls.length:=ga.len ws rfl;have hwi:ws[i]?=some ws[i]:=Qe (by omega);have hx:oIx (.list (ws.map U3)) (.int i)=some (U3 ws[i]):=Mn (by omega)
   have ht:(KW (UZ (λd=>!isNon d) (UI 6)) (UN oEq (US 6 (UI 3)) (UI 4))) Z=.ok (decide (ws[i]=some t)) Z:=
    VI (KJ (UL r6)) (U1 (Kp r6 (UL r3) hx) (UL r4) (Oe (b:=some t)))
   rw[FO ht UV UV]
   congr 1
   unfold YI;dsimp only;rw[hwi];by_cases h:ws[i]=some t
   ·rw[Jc h,Qm rfl,Qm (by rw[h])]
   ·rw[QT h,QB (by decide),QB (λe=>h (Q5 e))]
 refine Kd (Kq (hk _ rfl rfl rfl) (Qa rfl) rfl) ?_;have h1:=kA o (b:=(ls.length:Int)+1) (M:=(lng ls:Nat)) (r:=(Zg t rs:Nat)) ⟨by omega,by omega⟩ ⟨by omega,by omega⟩ ⟨by omega,by omega⟩;have h2:=RJ (b:=(lng ls:Int)+1) (n:=(ts.length:Nat)) ⟨by omega,by omega⟩ ⟨by omega,by omega⟩;have h3:=j6 (ts:=ts) (b:=(lng ls:Int)+1) (i:=i) (r:=(Zg t rs:Nat)) ⟨by omega,by omega⟩ ⟨by omega,by omega⟩ (by omega) (λa ha=>by have:=ga.there a ha;omega);rw[QD]at h2;refine Kd (Kq (U1 (U1 (Kk (UO (UL rfl) (UO (UL rfl) (UO (UL rfl) (UO (UL rfl) UT)))) rfl h1) (UL rfl) (X1 (by omega) (by omega))) (UL rfl) KM) (Qa rfl) rfl) ?_;have hp:((lng ls:Int)+1) ^ ts.length<=8 ^ 7:=Gg (by omega) (by omega) (by omega);have hp0:0<=((lng ls:Int)+1) ^ ts.length:=Int.pow_nonneg (by omega);exact Kw (U1 (U1 (UL rfl) (Kk (UO (U1 (UL rfl) UV KM) (UO (Zz rfl htl') UT)) rfl h2) (X1 (by omega) (by omega))) (Kk (UO (UL rfl) (UO (U1 (UL rfl) UV KM) (UO (UL rfl) (UO (UL rfl) UT)))) rfl h3) KM) rfl
end
theorem Nn{s:D->UJ->Option UJ}{t:M Bool}{g:M D}(I:UJ->Prop):∀(ds:List D)(qs:List (Option D))(Z:UJ)(es:List D),qs.length=ds.length ->
  (∀(i:Nat) d e,ds[i]?=some d->qs[i]?=some e->∀Z,I Z->∃Z1,s d Z=some Z1/\t Z1=.ok e.isSome Z1/\(∀x,e=some x->g Z1=.ok x Z1)/\I (Kl Z1))->I Z->es.length+ds.length<=1000000->KQ s t g ds Z es=some (es++qs.filterMap id)
 |[],[],Z,es,_,_,_,_=>by rw[KQ];simp
 |d::r,e::q,Z,es,hl,st,h0,hz=>by
  obtain⟨Z1,e1,e2,e3,h1⟩:=st 0 d e rfl rfl Z h0;rw[QC]at hz;have ih:=λes' hz'=>Nn I r q (Kl Z1) es' (by simpa using hl) (λi d' e' x y=>st (i+1) d' e' (by simpa using x) (by simpa using y)) h1 hz'
  rw[KQ,e1];dsimp only;rw[e2];dsimp only;cases e with
  |none=>rw[if_neg (show ¬(none:Option D).isSome=true by simp),ih es (by omega)];rfl
  |some x=>rw[Qm (show(some x).isSome=true from rfl),e3 x rfl];dsimp only;rw[Qm (by omega),ih (es++[x]) (by rw[Qi,QH];omega),QY];rfl
def Yp(W:Nat->List (List Int)->Int->Int):Nat->L3->LO->LO
 |k,rs::ls,o::r=>(o.map (W k rs))::Yp W (k+1) ls r
 |_,_,_=>[]
theorem LQ{W:Nat->List (List Int)->Int->Int}:∀{k:Nat}{ls:L3}{ws:LO},ws.length=ls.length->(Yp W k ls ws).length=ws.length
 |_,[],[],_=>rfl
 |_,_::_,_::_,h=>by rw[Yp,List.length_cons,LQ (by simpa using h),List.length_cons]
theorem LN{W:Nat->List (List Int)->Int->Int}:∀{k i:Nat}{ls:L3}{ws:LO}{rs:List (List Int)}{o:Option Int},ls[i]?=some rs->ws[i]?=some o->(Yp W k ls ws)[i]?=some (o.map (W (k+i) rs))
 |k,0,r::ls,o::ws,_,_,h1,h2=>by cases h1;cases h2;rfl
 |k,i+1,r::ls,o::ws,rs,o',h1,h2=>by rw[Yp,List.getElem?_cons_succ,LN (k:=k+1) (rs:=rs) (o:=o') (by simpa using h1) (by simpa using h2),Nat.add_right_comm,Nat.add_assoc]
def Zj(l:LO):Int:=(l.filterMap id).sum
theorem Ge{o:Option Int}{l:LO}:Zj (o::l)=o.getD 0+Zj l:=by
 cases o with
 |none=>show Zj l=0+Zj l;omega
 |some x=>show(x::l.filterMap id).sum=_;rw[List.sum_cons];rfl
theorem j4{a b:LO}:Zj (a++b)=Zj a+Zj b:=by unfold Zj;rw[Ua,List.sum_append]
section
variable{cs:List Int}{ls:L3}{o:Ord}{old:Option LO}{ts:List Int}{ws:LO}
def Kx(ls:L3)(o:Ord)(old:Option LO)(ts:List Int)(a t:Int):Int:=K1 ls o old ts a.toNat (ls.getD a.toNat []) t
def K6(V:Int->Int->Int)(q:Int×Int):D:=.tuple [.int q.1,.int q.2,.int (V q.1 q.2)]
theorem kU(g:Good cs ls)(ga:XR cs.length ls.length old ts):Vb [Kg cs ls,KS o old ts]=some (.list ((U9 0 ls).map (K6 (Kx ls o old ts)))):=by
 refine KZ (Z:=[pb (Kg cs ls),pb (KS o old ts),none]) rfl ?_;unfold TV;refine Kd (Wq (Kk (UO (UL rfl) (UO (UL rfl) UT)) rfl (EA g ga))) ?_;refine Kd (Kq (Kk (UO (UL rfl) UT) rfl (jF g)) (Qa rfl) rfl) ?_;have few:(U9 0 ls).length<=42:=by rw[(SV ls 0).length_eq];exact Pl g
 have hc:KQ (gT 2 (gNC (gN 3) (gNC (gN 4) (gN0)))) (UQ true) (Kt (UM (UI 3) (UM (UI 4) (UM (UX 5 Wa (UM (UI 0) (UM (UI 1) (UM (UI 2) (UM (UI 3) (UM (UI 4) (UK))))))) (UK))))) ((U9 0 ls).map Kc) (Kl [pb (Kg cs ls),pb (KS o old ts),pb (.int (lng ls:Nat))]++Uu 2 none) []=some ((U9 0 ls).map (K6 (Kx ls o old ts))):=by
  refine Xl (λZ=>∃x y,Z=[pb (Kg cs ls),pb (KS o old ts),pb (.int (lng ls:Nat)),x,y]) _ _ _ _ (by simp only[Qb]) ?_ ⟨none,none,rfl⟩ (by rw[Qb,QE];omega);rintro i d e hd he Z ⟨x,y,rfl⟩;rw[Qd]at hd he;cases hw:(U9 0 ls)[i]? with
  |none=>rw[hw]at hd;cases hd
  |some q=>
  rw[hw]at hd he;cases hd;cases he;obtain⟨a,t⟩:=q;obtain⟨j,rs,hj,ha,ht⟩:=VF (Qr hw);have ha:a=(j:Int):=by rw[QX]at ha;exact ha
  subst ha;have hv:Kx ls o old ts j t=K1 ls o old ts j rs t:=by unfold Kx;rw[QD,Qo,hj];rfl
  refine⟨_,Kr rfl (U2 (UR (Qa rfl) rfl) (U2 (UR (Qa rfl) rfl) Ks)),rfl,?_,_,_,rfl⟩;unfold K6;dsimp only;rw[hv];exact YH (UO (UL rfl) (UO (UL rfl) (UO (Kk (UO (UL rfl) (UO (UL rfl) (UO (UL rfl) (UO (UL rfl) (UO (UL rfl) UT))))) rfl (Aw g ga hj t)) UT))) (Qa rfl)
 exact Kw (KJ (Yg (Zn (Kk (UO (UL rfl) UT) rfl (kX g)) ZO) hc)) rfl
end
theorem GL{c s w dg x6:Option Sl}{m:Nat}{T:List Int}(hm:0<m):∀(k fuel d:Nat),(∀j,j<k->(((d+j) % m:Nat):Int)∈T)->(((d+k) % m:Nat):Int)∉T->d<m->k<fuel ->
  Xe (VT oIn (UI 7) 6) Po fuel [w,c,s,pb (.int m),dg,x6,some (.own (T.map int)),pb (.int d)]=.nx [w,c,s,pb (.int m),dg,x6,some (.own (T.map int)),pb (.int (((d+k) % m:Nat):Int))]
 |0,fuel+1,d,_,hn,hd,_=>by
  have e0:(d+0) % m=d:=by rw[Nat.add_zero];exact Nat.mod_eq_of_lt hd
  rw[e0]at hn⊢;have e:(T.contains (d:Int))=false:=by simpa using hn
  rw[Xe,O4 (r:=false) (UL rfl) rfl (by rw[OQ,e])];rfl
 |k+1,fuel+1,d,hj,hn,hd,hf=>by
  have h0:=hj 0 (by omega);rw[Nat.add_zero,Nat.mod_eq_of_lt hd]at h0;have e:(T.contains (d:Int))=true:=by simpa using h0
  rw[Xe,O4 (r:=true) (UL rfl) rfl (by rw[OQ,e])];dsimp only;rw[Qm rfl]
  have hst:Po [w,c,s,pb (.int m),dg,x6,some (.own (T.map int)),pb (.int d)]=.nx [w,c,s,pb (.int m),dg,x6,some (.own (T.map int)),pb (.int (((d+1) % m:Nat):Int))]:=by
   unfold Po;refine Kq (U1 (U1 (UL rfl) UV KM) (UL rfl) (VJ (by omega))) (Qa rfl) ?_;have e1:((d+1:Nat):Int)=(d:Int)+1:=by omega
   have:((d:Int)+1) % (m:Int)=(((d+1) % m:Nat):Int):=by rw[Int.natCast_emod,e1]
   rw[this];rfl
  rw[hst];dsimp only;have e2:∀j,((d+1) % m+j) % m=(d+(j+1)) % m:=λj=>by rw[Nat.mod_add_mod];congr 1;omega
  have:=GL (c:=c) (s:=s) (w:=w) (dg:=dg) (x6:=x6) (T:=T) hm k fuel ((d+1) % m) (λj hjk=>by rw[e2];exact hj (j+1) (by omega)) (by rw[e2];exact hn) (Nat.mod_lt _ hm) (by omega);rw[e2]at this;exact this
section
variable{cs:List Int}{ls:L3}
theorem Av(g:Good cs ls)(c s:Int):∃r,WT [Kg cs ls,.int c,.int s]=some r/\∃o old ts,r=KS o old ts/\XR cs.length ls.length old ts:=by
 refine XZ (Z:=[pb (Kg cs ls),pb (.int c),pb (.int s),none,none,none,none,none]) rfl ?_;unfold Tk;have l7:=g.l7;have l1:=g.l1;have c6:=g.c6;have c1:=g.c1;have hll:Ka [.list (ls.map KH)]=some (.int ls.length):=by rw[Zd,Qb]
 have hlc:Ka [.list (cs.map int)]=some (.int cs.length):=by rw[Zd,Qb]
 generalize hm:ls.length=m at *;generalize hn:cs.length=n at *;refine Kd (Kq (Zw (UO (Kp rfl UV XV) UT) hll) (Qa rfl) rfl) ?_;have s1:UW (.list [.int 3,.int 2,.int ((m:Int)+1)]) (.list (Uu m (.int ((n:Int)+1))))=some (.list (([3,2,(m:Int)+1]++Uu m ((n:Int)+1)).map int)):=by rw[Xg (by rw[Qy];show 3+m<=_;omega),Qz,JJ];rfl
 have s2:UW (.list (([3,2,(m:Int)+1]++Uu m ((n:Int)+1)).map int)) (.list (Uu m (.int (m:Int))))=some (.list ((szA n m).map int)):=by rw[Xg (by rw[Qb,Qi,Qy,Qy];show 3+m+m<=_;omega)];unfold szA;rw[Qz (l₂:=Uu m (m:Int)),JJ (n:=m) (a:=(m:Int))]
 obtain⟨r,hF,dg,rfl,hdl,hdb⟩:=PY c s (sizes:=szA n m) (λx hx=>by
  unfold szA at hx;rcases QJ.mp hx with hx|hx
  ·rcases QJ.mp hx with hx|hx
   ·have hx:x=3∨x=2∨x=(m:Int)+1:=by simpa using hx
    omega
   ·rw[(JI.mp hx).2];omega
  ·rw[(JI.mp hx).2];omega) (by rw[Mu];omega)
 rw[Mu]at hdl;refine Kd (Kq (Kk (UO (UL rfl) (UO (UL rfl) (UO (U1 (U1 (Zo (UO UV (UO UV (UO (U1 (UL rfl) UV KM) UT))) (Qa rfl)) (U1 (Zo (UO (U1 (Zw (UO (Kp rfl UV We) UT) hlc) UV KM) UT) (Qa rfl)) (UL rfl) (Mk (by omega))) s1) (U1 (Zo (UO (UL rfl) UT) (Qa rfl)) (UL rfl) (Mk (by omega))) s2) UT))) rfl hF) (Qa rfl) rfl) ?_;have get:∀j,j<3+m+m->∃d,dg[j]?=some d:=λj hj=>⟨dg[j]'(by omega),Qe _⟩
 obtain⟨d0,e0⟩:=get 0 (by omega);obtain⟨d1,e1⟩:=get 1 (by omega);obtain⟨d2,e2⟩:=get 2 (by omega);have b0:=hdb 0 d0 3 e0 rfl;have b1:=hdb 1 d1 2 e1 rfl;have b2:=hdb 2 d2 ((m:Int)+1) e2 rfl;have i0:oIx (.list (dg.map int)) (.int 0)=some (.int d0):=Zc (j:=0) (by rw[Qd,e0];rfl);have i1:oIx (.list (dg.map int)) (.int 1)=some (.int d1):=Zc (j:=1) (by rw[Qd,e1];rfl);have i2:oIx (.list (dg.map int)) (.int 2)=some (.int d2):=Zc (j:=2) (by rw[Qd,e2];rfl);refine Kd (Kq UV (Qa rfl) rfl) ?_
 let ol:List Int:=(dg.drop 3).take m
 have oll:ol.length=m:=by show((dg.drop 3).take m).length=m;rw[QP,Jh];omega
 have olb:∀d∈ol,0<=d/\d<(n:Int)+1:=λd hd=>by
  obtain⟨j,hj,e⟩:=List.mem_iff_getElem.mp hd;have hjm:j<m:=by omega
  refine hdb (3+j) d _ ?_ (Dt hjm);have:ol[j]?=some d:=by rw[Qe hj,e]
  show dg[3+j]?=_;rw[←this];show _=((dg.drop 3).take m)[j]?;rw[List.getElem?_take,Qm hjm,List.getElem?_drop]
 have hcut:DL.cutD (dg.map int) (some 3) (some (3+(m:Int)))=ol.map int:=by
  rw[O8 (by decide) (by omega) (by omega)];have t1:(3:Int).toNat=3:=rfl;have t2:(3+(m:Int)).toNat-(3:Int).toNat=m:=by omega
  rw[t2,t1]
 have step:Ho (sIf (UN oEq (US 4 (UQ (.int 1))) (UQ (.int 1))) (K0 5 (Zu (KL (ZT (UI 4) (U6 (UQ (.int 3)) λx=>U8 (YG x)) (U6 (UN UW (UQ (.int 3)) (UI 3)) λx=>U8 (YG x)))) 1 (gN 8) (UQ true) (UN oIx (Kj (UM (UQ .none) (UM (UN KD (UI 8) (UQ (.int 1))) (UK)))) (K8 Vt (UM (UZ Uw (K7 (oIB λi j=>decide (j<i)) 8 (UQ (.int 0)))) (UK)))))) (sNx))
   [pb (Kg cs ls),pb (.int c),pb (.int s),pb (.int m),pb (.list (dg.map int)),some (.pub .none),none,none]
   (λr=>∃old x6,r=.nx [pb (Kg cs ls),pb (.int c),pb (.int s),pb (.int m),pb (.list (dg.map int)),x6,none,none] /\
    (x6=some (.pub (Y4 old)) ∨ ∃ws,old=some ws/\x6=some (.own (ws.map U3)))/\(∀ws,old=some ws->ws.length=m)/\∀ws t,old=some ws->some t∈ws->0<=t/\t<n):=by
  have hc:∀a b:Option Sl,KQ (gN 8) (UQ true) (UN oIx (Kj (UM (UQ .none) (UM (UN KD (UI 8) (UQ (.int 1))) (UK)))) (K8 Vt (UM (UZ Uw (K7 (oIB λi j=>decide (j<i)) 8 (UQ (.int 0)))) (UK)))) (ol.map int) (Kl [pb (Kg cs ls),pb (.int c),pb (.int s),pb (.int m),pb (.list (dg.map int)),some (.pub .none),none,none]++Uu 1 none) []=some ((ol.map Ri).map U3):=λ_ _=>by
   refine Xl (λZ=>∃x,Z=[pb (Kg cs ls),pb (.int c),pb (.int s),pb (.int m),pb (.list (dg.map int)),some (.pub .none),none,none,x]) _ _ _ _ (by simp only[Qb]) ?_ ⟨none,rfl⟩ (by rw[Qb,QE];omega);rintro i d e hd he Z ⟨x,rfl⟩;rw[Qd]at hd;rw[Qd,Qd]at he;cases hw:ol[i]? with
   |none=>rw[hw]at hd;cases hd
   |some z=>
   rw[hw]at hd he;cases hd;cases he;exact⟨_,UR (Qa rfl) rfl,rfl,U1 (Zo (UO UV (UO (U1 (UL rfl) UV Yw) UT)) (Qa rfl)) (Zw (UO (KJ (ZN rfl UV rfl)) UT) rfl) (An z),_,rfl⟩
  apply KB
  case h1=>exact U1 (Kp rfl UV i1) UV Y1
  case h2=>
   intro _;refine Zv (Ye (Yg (Zn (VE (UL rfl) (Xi UV) (Xi (U1 UV (UL rfl) KM)) (by rw[VH,hcut])) ZO) (hc none none)) (Qa rfl) rfl) ?_;refine⟨some (ol.map Ri),_,rfl,.inr ⟨_,rfl,rfl⟩,λws e=>?_,λws t e ht=>?_⟩
   ·cases e;rw[Qb];exact oll
   ·cases e;obtain⟨d,hd,e⟩:=Qu.mp ht;have:=olb d hd;unfold Ri at e;split at e
    ·cases e;omega
    ·cases e
  case h3=>exact λ_=>KR ⟨none,_,rfl,.inl rfl,(λws e=>by cases e),(λws t e=>by cases e)⟩
 refine KI (MF step λr hr=>?_);obtain⟨old,x6,rfl,hx6,hol,hob⟩:=hr;refine KE ?_;refine Kd (Ye (Wr UT (Qa rfl)) (Qa rfl) rfl) ?_;obtain⟨k2,rfl⟩:∃k:Nat,d2=k:=⟨d2.toNat,by omega⟩
 let tl:List Int:=(dg.drop (3+m)).take k2
 have tll:tl.length=k2:=by show((dg.drop (3+m)).take k2).length=k2;rw[QP,Jh];omega
 have tlb:∀j d,tl[j]?=some d->0<=d/\d<(m:Int):=λj d hj=>by
  have hjl:j<k2:=by have:=(Qg.mp hj).1;omega
  refine hdb (3+m+j) d _ ?_ (Ao (by omega));rw[←hj];show _=((dg.drop (3+m)).take k2)[j]?;rw[List.getElem?_take,Qm hjl,List.getElem?_drop]
 have hcut2:DL.cutD (dg.map int) (some (3+(m:Int))) (some (3+(m:Int)+(k2:Int)))=tl.map int:=by
  rw[O8 (by omega) (by omega) (by omega)];have t1:(3+(m:Int)).toNat=3+m:=by omega
  have t2:(3+(m:Int)+(k2:Int)).toNat-(3+(m:Int)).toNat=k2:=by omega
  rw[t2,t1]
 apply KI;apply Zm (λi Z=>∃(T:List Int)(x8:Option Sl),Z=[pb (Kg cs ls),pb (.int c),pb (.int s),pb (.int m),pb (.list (dg.map int)),x6,some (.own (T.map int)),x8]/\T.length=i/\T.Nodup/\∀a∈T,0<=a/\a<(m:Int))
 case h1=>exact Zn (VE (UL rfl) (Xi (U1 UV (UL rfl) KM)) (Xi (U1 (U1 UV (UL rfl) KM) (Kp rfl UV i2) KM)) (by rw[VH,hcut2])) ZO
 case h0=>exact⟨[],_,rfl,rfl,List.nodup_nil,λ_ h=>by cases h⟩
 case hst=>
  rintro i d Z hi ⟨T,x8,rfl,hT,hTn,hTb⟩;rw[Qd]at hi;cases hw:tl[i]? with
  |none=>rw[hw]at hi;cases hi
  |some z=>
  rw[hw]at hi;cases hi;have hz:=tlb i z hw;have hil:i<k2:=by have:=(Qg.mp hw).1;omega
  obtain⟨zz,rfl⟩:∃k:Nat,z=k:=⟨z.toNat,by omega⟩
  refine⟨_,UR (Qa rfl) rfl,?_⟩;unfold M9;obtain⟨k,hk,hk1,hk2⟩:=jD (m:=m) (T:=T) zz (by omega) hTn;refine Kd (GL (by omega) k 1000 zz hk1 hk2 (by omega) (by omega)) ?_;refine Zv (XQ rfl (UL rfl) rfl (by rw[Qb];omega) rfl) ?_;refine KO ⟨T++[(((zz+k) % m:Nat):Int)],_,by rw[Qz (l₁:=T) (f:=int)];rfl,by rw[Qi,hT];rfl,?_,λa ha=>?_⟩
  ·refine List.nodup_append.mpr ⟨hTn,List.nodup_cons.mpr ⟨(by simp),List.nodup_nil⟩,λa ha b hb e=>?_⟩;rw[Qv.mp hb]at e;exact hk2 (e ▸ ha)
  ·rcases QJ.mp ha with h|h
   ·exact hTb a h
   ·rw[Qv.mp h];have:=Nat.mod_lt (zz+k) (show 0<m by omega);exact⟨by omega,by omega⟩
 case hend=>
  rintro Z ⟨T,x8,rfl,hT,hTn,hTb⟩;refine KE ?_
  obtain⟨o,ho⟩:∃o:Ord,oIx (.list [.str "firsts", .str "full", .str "lasts"]) (.int d0)=some (.str o.tx):=by
   have:d0=0∨d0=1∨d0=2:=by omega
   rcases this with rfl|rfl|rfl
   ·exact⟨.firsts,Zc (j:=0) rfl⟩
   ·exact⟨.full,Zc (j:=1) rfl⟩
   ·exact⟨.lasts,Zc (j:=2) rfl⟩
  have ga:XR n m old T:=⟨hol,hob,hTn,hTb⟩;rcases hx6 with rfl|⟨ws,rfl,rfl⟩
  ·exact Kw (YH (UO (U1 (Zo (UO UV (UO UV (UO UV UT))) (Qa rfl)) (Kp rfl UV i0) ho) (UO (UL rfl) (UO (Yt rfl rfl) UT))) (Qa rfl)) ⟨_,rfl,o,_,T,rfl,ga⟩
  ·exact Kw (YH (UO (U1 (Zo (UO UV (UO UV (UO UV UT))) (Qa rfl)) (Kp rfl UV i0) ho) (UO (Yt rfl rfl) (UO (Yt rfl rfl) UT))) (Qa rfl)) ⟨_,rfl,o,some ws,T,rfl,ga⟩
end
section
variable{cs:List Int}{ls:L3}{ws:LO}
theorem xb(g:Good cs ls):WU [Kg cs ls]=some (.int (lng ls:Nat)):=by
 refine KZ (Z:=[pb (Kg cs ls)]) rfl ?_;unfold Tn
 have hc:KQ (gN 1) (UQ true) (Zb 1) (ls.map KH) (Kl [pb (Kg cs ls)]++Uu 1 none) []=some ((ls.map λrs=>(rs.length:Int)).map int):=by
  refine Xl (λZ=>∃x,Z=[pb (Kg cs ls),x]) _ _ _ _ (by rw[Qb,Qb,Qb]) ?_ ⟨none,rfl⟩ (by rw[Qb,QE];have:=g.l7;omega);rintro i d e hd he Z ⟨x,rfl⟩;rw[Qd]at hd;rw[Qd,Qd]at he;cases hl:ls[i]? with
  |none=>rw[hl]at hd;cases hd
  |some rs=>
  rw[hl]at hd he;cases hd;cases he;exact⟨_,UR (Qa rfl) rfl,rfl,Zz rfl (Gi rs),_,rfl⟩
 refine Kw (Zw (UO (KJ (Yg (Zn (Kp rfl UV XV) ZO) hc)) UT) (Hb (by rw[Qb];have:=g.l1;omega))) ?_;rw[OS g.l1]
theorem jZ{i:Nat}{rs:List (List Int)}(h:ls[i]?=some rs)(t:Int):WV [Kg cs ls,.int i,.int t]=some (.int (Zg t rs:Nat)):=by
 refine KZ (Z:=[pb (Kg cs ls),pb (.int i),pb (.int t),none,none]) rfl ?_;unfold To;apply KI;apply Zm (λi' Z=>(∃x2 x3,Z=[pb (Kg cs ls),pb (.int i),pb (.int t),x2,x3])/\∀j r,j<i'->rs[j]?=some r->r.contains t=false)
 case h1=>exact Xp (UO (U1 (Kp rfl UV XV) (UL rfl) (NL h)) UT) Xo
 case h0=>exact⟨⟨_,_,rfl⟩,λj r h=>absurd h (Js _)⟩
 case hst=>
  rintro k d Z hi ⟨⟨x2,x3,rfl⟩,hb⟩;obtain⟨x,hx,rfl⟩:=Y2 hi;rw[Qd]at hx;cases hr:rs[k]? with
  |none=>rw[hr]at hx;cases hx
  |some r=>
   rw[hr]at hx;cases hx;refine⟨_,Kr rfl (U2 (UR (Qa rfl) rfl) (U2 (UR (Qa rfl) rfl) Ks)),?_⟩;unfold MZ;apply KB
   case h1=>exact ZN rfl (UL rfl) (OU t r)
   case h2=>
    intro hh;refine Kw (U1 (UL rfl) UV KM) (VO ?_);rw[HL hr hh hb];refine⟨?_⟩
    congr 2
    omega
   case h3=>
    intro hh;refine KR (KO ⟨⟨_,_,rfl⟩,λj r' hj e=>?_⟩);rcases JW.mp hj with hj|rfl
    ·exact hb j r' hj e
    ·rw[hr]at e;cases e;exact hh
 case hend=>rintro Z ⟨⟨x2,x3,rfl⟩,hb⟩;refine KE (Kw UV ?_);rw[HK (λj r hj e=>hb j r (by rw[Ys,Qb];exact hj) e)];rfl
end
theorem LM:∀(a b:L3)(k:Nat),U9 k (a++b)=U9 k a++U9 (k+a.length) b
 |[],b,k=>rfl
 |rs::a,b,k=>by show _++U9 (k+1) (a++b)=_;rw[LM a b (k+1)];show _=(_++U9 (k+1) a)++U9 (k+(a.length+1)) b;rw[QY,show k+1+a.length=k+(a.length+1)by omega]
theorem Ak{n:Nat}(ls:L3)(k:Nat)(h:∀rs∈ls,rs.flatten.length<=n):(U9 k ls).length<=ls.length*n:=by rw[(SV ls k).length_eq];exact O0 n ls k h
section
variable{cs:List Int}{ls:L3}{o:Ord}{old:Option LO}{ts:List Int}
theorem Gq{ts:List Int}{b a r x:Int}(hn:(ts++[x]).Nodup):Xa (ts++[x]) b a r=Xa ts b a r*b+if x=a then b-r else 0:=by
 have hx:x∉ts:=λz=>(List.nodup_append.mp hn).2.2 x z x (Qv.mpr rfl) rfl;unfold Xa
 by_cases h:a∈ts
 ·have hxa:¬x=a:=λe=>hx (e ▸ h)
  have hlt:=List.idxOf_lt_length_of_mem h;rw[Qm (Q0 _ h),Qm h,QB hxa,List.idxOf_append,Qm h,Qi,QH,show ts.length+1-1-ts.idxOf a=(ts.length-1-ts.idxOf a)+1 by omega,Int.pow_succ,Int.add_zero,Int.mul_assoc]
 ·rw[QB h,Int.zero_mul,Jt];by_cases e:x=a
  ·subst e;rw[if_pos (by simp),if_pos rfl,List.idxOf_append,if_neg h,List.length_append,List.length_singleton,List.idxOf_cons_self,show ts.length+1-1-(0+ts.length)=0 by omega,Int.pow_zero,Int.mul_one]
  ·rw[if_neg (by simp[h];exact λz=>e z.symm),if_neg e]
def pwL(b:Int)(n:Nat):List Int:=(Ut (n+1)).map λj:Nat=>b ^ j
theorem Mt{b:Int}{n j:Nat}(h:j<=n):(pwL b n)[j]?=some (b ^ j):=by unfold pwL;rw[Qd,QO (by omega)];rfl
theorem Ms{b:Int}{n:Nat}:(pwL b n).length=n+1:=by unfold pwL;rw[Qb,Qq]
theorem Aj{b:Int}{n:Nat}:pwL b (n+1)=pwL b n++[b ^ n*b]:=by unfold pwL;rw[List.range_succ,Qz,←Int.pow_succ];rfl
theorem Od{b:Int}{n:Nat}{k:Int}(h0:0<=k)(h:k<=n):oIx (.list ((pwL b n).map int)) (.int k)=some (.int (b ^ k.toNat)):=by
 have e:k=((k.toNat:Nat):Int):=by omega
 rw[e];refine Zc ?_;rw[Qd,Mt (by omega)];rfl
theorem Ai{ws:LO}{i:Nat}{t:Int}(h:i<ws.length):oEq (U3 ws[i]) (.int t)=some (decide (ws[i]=some t)):=Oe (b:=some t)
def Ord.isL:Ord->Bool
 |.lasts=>true
 |_=>false
theorem Ez(o:Ord):oEq (.str o.tx) (.str "lasts")=some o.isL:=by cases o<;>decide +kernel
theorem GZ(g:Good cs ls)(ga:XR cs.length ls.length old ts){i:Nat}{rs:List (List Int)}(hi:ls[i]?=some rs){t:Int}(ht:t∈rs.flatten):XA [Kg cs ls,KS o old ts,.int i,.int t]=some (.int (K1 ls o old ts i rs t)):=by
 have l7:=g.l7;have l1:=g.l1;have hL:lng ls<=5:=Of l1 λrs h=>(g.rk rs h).few;have hrs:rs∈ls:=Qr hi;have hrl:=Mm hrs;have hrk:Zg t rs<=lng ls:=by have:=No t rs;omega
 have hrp:1<=Zg t rs:=by have:=Gu ht;omega
 have htl:=ga.few;have hlt:i<ls.length:=(Qg.mp hi).1;refine KZ (Z:=[pb (Kg cs ls),pb (KS o old ts),pb (.int i),pb (.int t),none,none,none,none,none,none,none,none,none,none,none]) rfl ?_;unfold Tj;refine Kd (Wi (UL rfl) (Kr rfl (U2 (UR (Qa rfl) rfl) (U2 (UR (Qa rfl) rfl) (U2 (UR (Qa rfl) rfl) Ks))))) ?_;have hll:Ka [.list (ls.map KH)]=some (.int ls.length):=by rw[Zd,Qb]
 refine Kd (Kq (U1 (Zw (UO (Kp rfl UV XV) UT) hll) UV KM) (Qa rfl) rfl) ?_;refine Kd (Kq (Kk (UO (UL rfl) UT) rfl (xb g)) (Qa rfl) rfl) ?_;refine Kd (Kq (Kk (UO (UL rfl) (UO (UL rfl) (UO (UL rfl) UT))) rfl (jZ hi t)) (Qa rfl) rfl) ?_;refine Kd (Ye (Wr (UO UV UT) (Qa rfl)) (Qa rfl) rfl) ?_
 let S0:Option Sl:=some (.pub (Kg cs ls))
 let S1:Option Sl:=some (.pub (KS o old ts))
 let S2:Option Sl:=some (.pub (.int i))
 let S3:Option Sl:=some (.pub (.int t))
 let S4:Option Sl:=some (.pub (.str o.tx))
 let S5:Option Sl:=some (.pub (Y4 old))
 let S6:Option Sl:=some (.pub (.list (ts.map int)))
 let b:Int:=(ls.length:Int)+1
 let M:Nat:=lng ls
 let r:Nat:=Zg t rs
 let S7:Option Sl:=some (.pub (.int b))
 let S8:Option Sl:=some (.pub (.int (M:Int)))
 let S9:Option Sl:=some (.pub (.int (r:Int)))
 apply KI;apply Zm (λj Z=>∃x11,Z=[S0,S1,S2,S3,S4,S5,S6,S7,S8,S9,some (.own ((pwL b j).map int)),x11,none,none,none])
 case h1=>exact Xj (UO (UL rfl) UT) (Xf (by omega) (by omega))
 case h0=>exact⟨_,rfl⟩
 case hst=>
  rintro j d Z hj ⟨x11,rfl⟩;refine⟨_,UR (Qa rfl) rfl,?_⟩;unfold MY;obtain⟨_,hjl⟩:=XS hj
  have hlast:oIx (.list ((pwL b j).map int)) (.int (-1))=some (.int (b ^ j)):=OV (by
   rw[List.getLast?_eq_getElem?,Qb,Ms,Qd,J7,Mt (Qs j)]
   rfl)
  refine Zv (XQ rfl (U1 (Wo rfl (SF UV) rfl hlast) (UL rfl) (X1 (by omega) (by omega))) rfl (by rw[Qb,Ms];omega) rfl) (KO ⟨some (.pub d),?_⟩);rw[Aj,Qz];rfl
 case hend=>
  rintro Z ⟨x11,rfl⟩;have er:(ZY 0 (M:Int)).length=M:=by rw[Yx];omega
  rw[er];refine KE ?_
  let S10:Option Sl:=some (.own ((pwL b M).map int))
  have e1:((M:Int)-(r:Int)).toNat=M-r:=by omega
  have p1:oIx (.list ((pwL b M).map int)) (.int ((M:Int)-(r:Int)))=some (.int (b ^ (M-r))):=by rw[Od (by omega) (by omega),e1]
  have p2:oIx (.list ((pwL b M).map int)) (.int (M:Int))=some (.int (b ^ M)):=by rw[Od (by omega) (by omega)];rfl
  have p3:oIx (.list ((pwL b M).map int)) (.int ((r:Int)-1))=some (.int (b ^ (r-1))):=by rw[Od (by omega) (by omega),show((r:Int)-1).toNat=r-1 by omega]
  refine Kd (Z1:=[S0,S1,S2,S3,S4,S5,S6,S7,S8,S9,S10,x11,pb (.int (b ^ (M-r))),none,none]) (Kq (Wo rfl (U1 (UL rfl) (UL rfl) Yw) rfl p1) (Qa rfl) rfl) ?_
  have eo:Zl o b M r=match o with | .firsts=>b ^ (M-r) | .full=>b ^ (M-r)+b ^ M | .lasts=>b ^ M-b ^ (r-1):=by
   cases o with
   |firsts=>show b ^ ((M:Int)-(r:Int)).toNat=_;rw[e1]
   |full=>show b ^ ((M:Int)).toNat+b ^ ((M:Int)-(r:Int)).toNat=_;rw[e1,Int.add_comm];rfl
   |lasts=>show b ^ ((M:Int)).toNat-b ^ ((r:Int)-1).toNat=_;rw[show((r:Int)-1).toNat=r-1 by omega];rfl
  have done:∀w:Int,w=Zl o b M r->Ho (UP (U0 12 (UN Ke (UI 12) (UI 7)))
    (UP (sIf (KW (UZ (λd=>!isNon d) (UI 5)) (UN oEq (US 5 (UI 2)) (UI 3)))
    (U0 12 (UN UW (UI 12) (UQ (.int 1))))
    (sNx))
    (UP (U0 13 (UQ (.int 0)))
    (UP (Ko (KL (UI 6)) (gN 14) Pq)
    (U4 (UN UW (UI 12) (UI 13))))))) [S0,S1,S2,S3,S4,S5,S6,S7,S8,S9,S10,x11,pb (.int w),none,none] (λo'=>o'=.rt (.int (K1 ls o old ts i rs t))):=by
   rintro w rfl;refine Kd (Z1:=[S0,S1,S2,S3,S4,S5,S6,S7,S8,S9,S10,x11,pb (.int (Zl o b M r*b)),none,none]) (Kq (U1 (UL rfl) (UL rfl) (X1 (by omega) (by omega))) (Qa rfl) rfl) ?_
   have rest:∀v:Int,v=Zl o b M r*b+YI old i t->Ho (UP (U0 13 (UQ (.int 0)))
    (UP (Ko (KL (UI 6)) (gN 14) Pq)
    (U4 (UN UW (UI 12) (UI 13))))) [S0,S1,S2,S3,S4,S5,S6,S7,S8,S9,S10,x11,pb (.int v),none,none] (λo'=>o'=.rt (.int (K1 ls o old ts i rs t))):=by
    intro v hv;refine Kd (Kq UV (Qa rfl) rfl) ?_;apply KI;apply Zm (λj Z=>∃x14,Z=[S0,S1,S2,S3,S4,S5,S6,S7,S8,S9,S10,x11,pb (.int (v*((M:Int)+1) ^ j)),pb (.int (Xa (ts.take j) ((M:Int)+1) i r)),x14])
    case h1=>exact Zn (UL rfl) ZO
    case h0=>exact⟨none,by rw[Int.pow_zero,Int.mul_one];rfl⟩
    case hst=>
     rintro j d Z hj ⟨x14,rfl⟩;rw[Qd]at hj;cases hz:ts[j]? with
     |none=>rw[hz]at hj;cases hj
     |some a=>
     rw[hz]at hj;cases hj;have hjl:j<ts.length:=(Qg.mp hz).1;have ha:ts[j]=a:=(Qg.mp hz).2;have hts:ts.take (j+1)=ts.take j++[a]:=by rw[List.take_succ_eq_append_getElem hjl,ha]
     have hnd:(ts.take j++[a]).Nodup:=by rw[←hts];exact List.Nodup.sublist (List.take_sublist _ _) ga.once
     refine⟨_,UR (Qa rfl) rfl,?_⟩;unfold Pq;refine Kd (Z1:=[S0,S1,S2,S3,S4,S5,S6,S7,S8,S9,S10,x11,pb (.int (v*((M:Int)+1) ^ (j+1))),pb (.int (Xa (ts.take j) ((M:Int)+1) i r)),pb (.int a)]) (Kq (U1 (UL rfl) (U1 (UL rfl) UV KM) (X1 (by omega) (by omega))) (Qa rfl) (by rw[Int.mul_assoc,←Int.pow_succ];rfl)) ?_;refine Kd (Z1:=[S0,S1,S2,S3,S4,S5,S6,S7,S8,S9,S10,x11,pb (.int (v*((M:Int)+1) ^ (j+1))),pb (.int (Xa (ts.take j) ((M:Int)+1) i r*((M:Int)+1))),pb (.int a)]) (Kq (U1 (UL rfl) (U1 (UL rfl) UV KM) (X1 (by omega) (by omega))) (Qa rfl) rfl) ?_;refine KB (ZN rfl (UL rfl) Y1) (λhh=>?_) (λhh=>?_)
     ·have e:a=(i:Int):=by simpa using hh
      refine Zv (Kq (U1 (U1 (U1 (UL rfl) (UL rfl) KM) UV KM) (UL rfl) Yw) (Qa rfl) rfl) (KO ⟨some (.pub (.int a)),?_⟩);rw[hts,Gq hnd,Qm e];have:Xa (ts.take j) ((M:Int)+1) i r*((M:Int)+1)+(M:Int)+1-(r:Int)=Xa (ts.take j) ((M:Int)+1) i r*((M:Int)+1)+((M:Int)+1-(r:Int)):=by omega
      rw[←this];rfl
     ·have e:¬a=(i:Int):=by simpa using hh
      refine KR (KO ⟨some (.pub (.int a)),?_⟩);rw[hts,Gq hnd,QB e,Int.add_zero]
    case hend=>rintro Z ⟨x14,rfl⟩;refine KE (Kw (U1 (UL rfl) (UL rfl) KM) ?_);rw[Qb,Jm,hv];rfl
   have hkk:KW (UZ (λd=>!isNon d) (UI 5)) (UN oEq (US 5 (UI 2)) (UI 3)) [S0,S1,S2,S3,S4,S5,S6,S7,S8,S9,S10,x11,pb (.int (Zl o b M r*b)),none,none]=.ok (decide (YI old i t=1)) [S0,S1,S2,S3,S4,S5,S6,S7,S8,S9,S10,x11,pb (.int (Zl o b M r*b)),none,none]:=by
    cases old with
    |none=>exact SN (KJ (k:=λd=>!isNon d) (x:=PyData.none) (UL rfl))
    |some ws=>
     have hw:ws.length=ls.length:=ga.len ws rfl;have hwi:ws[i]?=some ws[i]:=Qe (by omega);have hx:oIx (.list (ws.map U3)) (.int i)=some (U3 ws[i]):=Mn (by omega)
     have e:decide (YI (some ws) i t=1)=decide (ws[i]=some t):=by
      refine decide_eq_decide.mpr ?_
      show(if ws[i]?=some (some t)then(1:Int)else 0)=1 ↔ _
      rw[hwi];by_cases z:ws[i]=some t
      ·rw[if_pos (by rw[z])];simp[z]
      ·rw[if_neg (λy=>z (Option.some.inj y))];simp[z]
     rw[e];exact VI (KJ (k:=λd=>!isNon d) (x:=Y4 (some ws)) (UL rfl)) (U1 (Kp rfl (UL rfl) hx) (UL rfl) (Ai (by omega)))
   apply KI;refine KB hkk (λhh=>?_) (λhh=>?_)
   ·have e:YI old i t=1:=by simpa using hh
    exact Zv (Kq (U1 (UL rfl) UV KM) (Qa rfl) rfl) (KE (rest _ (by rw[e])))
   ·have e:YI old i t=0:=by
     have hn:¬YI old i t=1:=by simpa using hh
     unfold YI at hn⊢;split at hn
     ·rfl
     ·split at hn
      ·exact absurd rfl hn
      ·rename_i hz;rw[QB hz]
    exact KR (KE (rest _ (by rw[e,Int.add_zero])))
  have f2:=Ez o;apply KI;refine KB (ZN rfl UV (Ml o)) (λhh=>?_) (λhh=>?_)
  ·cases o with
   |full=>refine Zv (Kq (U1 (UL rfl) (Wo rfl (UL rfl) rfl p2) KM) (Qa rfl) rfl) (KE ?_);apply KI;exact KB (b:=false) (ZN rfl UV f2) (λz=>by cases z) λ_=>KR (KE (done _ eo.symm))
   |firsts=>cases hh
   |lasts=>cases hh
  ·refine KR (KE ?_);apply KI;refine KB (ZN rfl UV f2) (λh2=>?_) (λh2=>?_)
   ·cases o with
    |lasts=>exact Zv (Kq (U1 (Wo rfl (UL rfl) rfl p2) (Wo rfl (U1 (UL rfl) UV Yw) rfl p3) Yw) (Qa rfl) rfl) (KE (done _ eo.symm))
    |firsts=>cases h2
    |full=>cases h2
   ·cases o with
    |firsts=>exact KR (KE (done _ eo.symm))
    |full=>cases hh
    |lasts=>cases h2
end
theorem Gp{α β:Type}{f:α->β}(hf:∀a b,f a=f b->a=b){l:List α}(h:l.Nodup):(l.map f).Nodup:=by unfold List.Nodup at h⊢;rw[List.pairwise_map];exact h.imp λhne e=>hne (hf _ _ e)
theorem Go:∀(ls:L3)(k:Nat),(∀rs∈ls,rs.flatten.Nodup)->(U9 k ls).Nodup
 |[],_,_=>List.nodup_nil
 |rs::ls,k,h=>by
  show((Z7 rs.flatten).map (λt=>((k:Int),t))++U9 (k+1) ls).Nodup
  rw[List.nodup_append];refine⟨?_,Go ls (k+1) λr hr=>h r (Ql _ hr),λa ha b hb e=>?_⟩
  ·exact Gp (λx y e=>(Prod.mk.inj e).2) ((XT _).nodup_iff.mpr (h rs Qn))
  ·subst e;obtain⟨t,_,rfl⟩:=Qu.mp ha;have:=O1 ls (k+1) _ hb;simp at this;omega
theorem Mr{zs:List Int}{k:Nat}{v:Int}(h:zs[k]?=some v):oIx (.list (zs.map int)) (.int k)=some (.int v):=Zc (by rw[Qd,h];rfl)
theorem Gd(l:List Int):(l.map int).all flat=true:=by rw[Jj];intro x hx;obtain⟨y,_,rfl⟩:=Qu.mp hx;rfl
def Zh(tm:Int)(as ps:List Int):D:=.tuple [.int tm,.list (as.map int),.list (ps.map int)]
def Rh(ps cs:List Int):List Int:=(ps.zip cs).map λp=>p.1*p.2
def XN(cs as ps:List Int):Int:=as.sum+(Rh ps cs).sum
section
variable{cs:List Int}{ls:L3}{tm:Int}{as ps:List Int}
theorem NK:oIx (Zh tm as ps) (.int 0)=some (.int tm):=Zc (j:=0) rfl
theorem NP:oIx (Zh tm as ps) (.int 1)=some (.list (as.map int)):=Zc (j:=1) rfl
theorem NO:oIx (Zh tm as ps) (.int 2)=some (.list (ps.map int)):=Zc (j:=2) rfl
theorem jY(g:Good cs ls):WY [Kg cs ls,Zh tm as ps]=some (.int (XN cs as ps)):=by
 refine KZ (Z:=[pb (Kg cs ls),pb (Zh tm as ps),none,none,none]) rfl ?_;unfold Ts;refine Kd (Wq (Kk (UO (UL rfl) UT) rfl (RR g))) ?_;refine Kd (Wi (UL rfl) (Kr rfl (U2 (UR (Qa rfl) rfl) (U2 (UR (Qa rfl) rfl) (U2 (UR (Qa rfl) rfl) Ks))))) ?_;have c6:=g.c6
 let S2:Option Sl:=some (.pub (.int tm))
 let S3:Option Sl:=some (.pub (.list (as.map int)))
 let S4:Option Sl:=some (.pub (.list (ps.map int)))
 have hc:KQ (gT 2 (gNC (gN 5) (gNC (gN 6) (gN0)))) (UQ true) (UN Ke (UI 5) (UI 6)) (Yu (ps.map int) (cs.map int)) (Kl [pb (Kg cs ls),pb (Zh tm as ps),S2,S3,S4]++Uu 2 none) []=some ((Rh ps cs).map int):=by
  rw[qh,SX (λ_=>true) (λd=>match d with | .tuple [.int a,.int b]=>.int (a*b)|_=>.none) (λZ=>∃x y,Z=[pb (Kg cs ls),pb (Zh tm as ps),S2,S3,S4,x,y])]
  ·rw[Uc.mpr (λ_ _=>rfl),Q7,Jl];unfold Rh;rw[Jl];rfl
  ·rintro d hm Z ⟨x,y,rfl⟩;obtain⟨p,hp,rfl⟩:=Qu.mp hm;have:=g.c7 p.2 (List.of_mem_zip hp).2;exact⟨_,Kr rfl (U2 (UR (Qa rfl) rfl) (U2 (UR (Qa rfl) rfl) Ks)),rfl,λ_=>U1 (UL rfl) (UL rfl) (X1 (by omega) (by omega)),_,_,rfl⟩
  ·exact⟨none,none,rfl⟩
  ·rw[Qb,QE,JO];omega
 exact Kw (U1 (Zw (UO (UL rfl) UT) L9) (Zw (UO (KJ (Yg (EU (UO (UL rfl) (UO (Kp rfl UV We) UT)) rfl) hc)) UT) L9) KM) rfl
end
theorem Dr{cs:List Int}{ls:L3}(g:Good cs ls):∀q∈U9 0 ls,(0<=q.1/\q.1<ls.length)/\0<=q.2/\q.2<cs.length:=λq hq=>by obtain⟨i,rs,h1,h2,h3⟩:=VF hq;have:=(g.rk rs (Qr h1)).flat q.2 h3;have:=(Qg.mp h1).1;omega
theorem RG{ns:List Int}{k:Int}(h0:0<=k)(h1:k<ns.length):oIx (.list (ns.map int)) (.int k)=some (.int (ns.getD k.toNat 0)):=by
 obtain⟨j,rfl⟩:∃j:Nat,k=j:=⟨k.toNat,by omega⟩
 rw[QD];exact Pn (by omega)
section
variable{cs:List Int}{ls:L3}{o:Ord}{old:Option LO}{ts:List Int}
theorem Ah(g:Good cs ls)(ga:XR cs.length ls.length old ts){q:Int×Int}(hq:q∈U9 0 ls):0<=Kx ls o old ts q.1 q.2/\Kx ls o old ts q.1 q.2<18446744073709551616:=by
 obtain⟨i,rs,h1,h2,h3⟩:=VF hq;have l7:=g.l7;have l1:=g.l1;have hL:lng ls<=5:=Of l1 λrs h=>(g.rk rs h).few;have hrl:=Mm (Qr h1);have hr1:1<=Zg q.2 rs:=by have:=Gu h3;omega
 have hr2:Zg q.2 rs<=lng ls:=by have:=No q.2 rs;omega
 have htl:=ga.few
 have e:Kx ls o old ts q.1 q.2=K1 ls o old ts i rs q.2:=by
  unfold Kx;rw[h2,QX,QD]
  congr 1
  simp[List.getD,h1]
 rw[e];unfold K1;have pw:∀{b:Int}{n k:Nat},1<=b->b<=8->n<=k->1<=b ^ n/\b ^ n<=8 ^ k:=λ{b n k} h0 h8 hk=>⟨Int.pow_pos h0,Gg (by omega) h8 hk⟩
 have hb1:(1:Int)<=(ls.length:Int)+1:=by omega
 have hb8:(ls.length:Int)+1<=8:=by omega
 have hM1:(1:Int)<=(lng ls:Int)+1:=by omega
 have hM8:(lng ls:Int)+1<=8:=by omega
 have a1:=pw hb1 hb8 (n:=lng ls) (k:=5) hL;have a2:=pw hb1 hb8 (n:=((lng ls:Int)-(Zg q.2 rs:Nat)).toNat) (k:=5) (by omega);have a3:=pw hb1 hb8 (n:=((Zg q.2 rs:Nat)-1:Int).toNat) (k:=5) (by omega)
 have a4:((ls.length:Int)+1) ^ ((Zg q.2 rs:Nat)-1:Int).toNat<=((ls.length:Int)+1) ^ lng ls:=by
  have:((Zg q.2 rs:Nat)-1:Int).toNat<=lng ls:=by omega
  obtain⟨k,hk⟩:=Nat.exists_eq_add_of_le this;rw[hk,Int.pow_add];have:=(pw hb1 hb8 (n:=k) (k:=5) (by omega)).1;have hm:=Int.mul_le_mul_of_nonneg_left this (show 0<=((ls.length:Int)+1) ^ ((Zg q.2 rs:Nat)-1:Int).toNat by omega);rw[Int.mul_one]at hm;exact hm
 have b1:0<=Zl o (ls.length+1) (lng ls) (Zg q.2 rs)/\Zl o (ls.length+1) (lng ls) (Zg q.2 rs)<=65536:=by
  cases o with
  |firsts=>show 0<=_ ^ _/\_ ^ _<=65536;omega
  |full=>show 0<=_ ^ ((lng ls:Int)).toNat+_ ^ _/\_ ^ ((lng ls:Int)).toNat+_ ^ _<=65536;rw[QD];omega
  |lasts=>show 0<=_ ^ ((lng ls:Int)).toNat-_ ^ _/\_ ^ ((lng ls:Int)).toNat-_ ^ _<=65536;rw[QD];omega
 have b2:0<=YI old i q.2/\YI old i q.2<=1:=by
  unfold YI;split
  ·omega
  ·split<;>omega
 have b3:=pw hM1 hM8 (n:=ts.length) (k:=7) (by omega)
 have b4:0<=Xa ts ((lng ls:Int)+1) i (Zg q.2 rs)/\Xa ts ((lng ls:Int)+1) i (Zg q.2 rs)<=8*8 ^ 7:=by
  unfold Xa;split
  ·have b5:=pw hM1 hM8 (n:=ts.length-1-ts.idxOf (i:Int)) (k:=7) (by omega);refine⟨Int.mul_nonneg (by omega) (by omega),?_⟩;exact Int.mul_le_mul (by omega) b5.2 (by omega) (by decide)
  ·exact⟨by omega,by decide⟩
 have c1:0<=Zl o (ls.length+1) (lng ls) (Zg q.2 rs)*(ls.length+1)+YI old i q.2/\Zl o (ls.length+1) (lng ls) (Zg q.2 rs)*(ls.length+1)+YI old i q.2<=600000:=by have d1:0<=Zl o (ls.length+1) (lng ls) (Zg q.2 rs)*((ls.length:Int)+1):=Int.mul_nonneg b1.1 (by omega);have d2:Zl o (ls.length+1) (lng ls) (Zg q.2 rs)*((ls.length:Int)+1)<=65536*8:=Int.mul_le_mul b1.2 hb8 (by omega) (by decide);omega
 have d3:0<=(Zl o (ls.length+1) (lng ls) (Zg q.2 rs)*(ls.length+1)+YI old i q.2)*((lng ls:Int)+1) ^ ts.length:=Int.mul_nonneg c1.1 (by omega);have d4:(Zl o (ls.length+1) (lng ls) (Zg q.2 rs)*(ls.length+1)+YI old i q.2)*((lng ls:Int)+1) ^ ts.length<=600000*8 ^ 7:=Int.mul_le_mul c1.2 b3.2 (by omega) (by decide);omega
end
theorem Dq{b:Bool}:oNe (.bool b) (.bool b)=some false:=Du rfl (by simp[UA])
structure OkP(n m:Nat)(V:Int->Int->Int)(qs:LP)(tm:Int)(as ps:List Int):Prop where
 t0:0<=tm
 la:as.length=m
 lp:ps.length=n
 aa:∀a∈as,0<=a
 pp:∀p∈ps,0<=p
 le:∀q∈qs,tm*V q.1 q.2<=as.getD q.1.toNat 0+ps.getD q.2.toNat 0
def pz(ps:List Int)(ws:LO):Int:=(ws.map λo=>match o with|some t=>ps.getD t.toNat 0|none=>0).sum
def K3(n:Nat)(f:Nat->Int):Int:=((Ut n).map f).sum
theorem WB{n:Nat}{f:Nat->Int}:K3 (n+1) f=K3 n f+f n:=by unfold K3;rw[List.range_succ,Qz,List.sum_append];simp
theorem LK{f h:Nat->Int}:∀(n:Nat),K3 n (λk=>f k+h k)=K3 n f+K3 n h
 |0=>rfl
 |n+1=>by rw[WB,WB,WB,LK n];omega
theorem RF{f h:Nat->Int}:∀(n:Nat),(∀k,k<n->f k<=h k)->K3 n f<=K3 n h
 |0,_=>Q3 _
 |n+1,e=>by
  have h1:=RF n λk hk=>e k (by omega)
  have h2:=e n (by omega);rw[WB,WB];omega
theorem Nm:∀(n:Nat)(f:Nat->Int),(∀k,k<n->f k=0)->K3 n f=0
 |0,_,_=>rfl
 |n+1,f,e=>by rw[WB,Nm n f λk hk=>e k (by omega),e n (by omega)];rfl
theorem Hj{p:Nat->Int}{j:Nat}:∀(n:Nat),j<n->K3 n (λk=>if k=j then p k else 0)=p j
 |n+1,h=>by
  rw[WB];by_cases e:n=j
  ·subst e;rw[Qm rfl,Nm n _ λk hk=>QB (by omega)];omega
  ·rw[QB e,Hj n (by omega)];omega
theorem Nt{f h:Nat->Int}{n:Nat}(e:∀k,k<n->f k=h k):K3 n f=K3 n h:=J9 (RF n λk hk=>by rw[e k hk];exact Q3 _) (RF n λk hk=>by rw[e k hk];exact Q3 _)
theorem Nl{ps:List Int}{n:Nat}:∀(ws:LO),(∀t,some t∈ws->0<=t/\t<n)->pz ps ws=K3 n λk=>((ws.count (some (k:Int)):Nat):Int)*ps.getD k 0
 |[],_=>by rw[Nm n _ λk _=>by simp];rfl
 |o::ws,h=>by
  have ih:=Nl (ps:=ps) ws λt ht=>h t (Ql _ ht)
  cases o with
  |none=>
   show((0:Int)::(ws.map λo=>match o with|some t=>ps.getD t.toNat 0|none=>0)).sum=_
   rw[List.sum_cons];unfold pz at ih;rw[ih,Jt];exact Nt λk _=>by rw[List.count_cons];simp
  |some t=>
   have ht:=h t Qn
   show(ps.getD t.toNat 0::(ws.map λo=>match o with|some t=>ps.getD t.toNat 0|none=>0)).sum=_
   rw[List.sum_cons];unfold pz at ih;rw[ih,←Hj (p:=λk=>ps.getD k 0) (j:=t.toNat) n (by omega),←LK];refine Nt λk _=>?_;rw[JP]
   by_cases e:k=t.toNat
   ·subst e;have:(some t==some ((t.toNat:Nat):Int))=true:=by simp;omega
    rw[Qm rfl,Qm this,Int.natCast_add,Int.add_mul];omega
   ·have:¬(some t==some ((k:Nat):Int))=true:=by simp;omega
    rw[QB e,QB this,Jt,Nat.add_zero]
theorem Gn:∀(ps cs:List Int),ps.length=cs.length->(Rh ps cs).sum=K3 cs.length λk=>cs.getD k 0*ps.getD k 0
 |ps,cs,h=>by
  unfold K3 Rh
  congr 1
  apply List.ext_getElem?;intro i;rw[Qd,Qd];by_cases hi:i<cs.length
  ·rw[QO hi];have h1:ps[i]?=some ps[i]:=Qe (by omega);have h2:cs[i]?=some cs[i]:=Qe hi;have hz:(ps.zip cs)[i]?=some (ps[i],cs[i]):=List.getElem?_zip_eq_some.mpr ⟨h1,h2⟩;rw[hz];simp only[Option.map_some,Qo,h1,h2,J0,Int.mul_comm]
  ·rw[Jd (l:=ps.zip cs) (by rw[JO];omega),Jd (l:=Ut cs.length) (by rw[Qq];omega)];rfl
structure Stp where
 a:Nat
 b:Nat
 g:Int
 w:Option Nat
abbrev Tab:=List (Int×List Stp)
def ent(T:Tab)(p:Nat):Int×List Stp:=T.getD p (0,[])
def Yv(W T:Tab)(s:Stp):Tab:=if(ent T s.b).1<(ent W s.a).1+s.g then T.set s.b ((ent W s.a).1+s.g,(ent W s.a).2++[s])else T
def Pj(W:Tab)(S:List Stp):Tab:=S.foldl (Yv W) W
def KG(n:Nat)(S:List Stp):Nat->Tab
 |0=>Uu n (0,[])
 |t+1=>Pj (KG n S t) S
theorem kN{T:Tab}{p:Nat}{x:Int×List Stp}(h:p<T.length):ent (T.set p x) p=x:=by unfold ent;rw[Qo,QI h];rfl
theorem Nr{T:Tab}{p q:Nat}{x:Int×List Stp}(h:p≠q):ent (T.set p x) q=ent T q:=by unfold ent;rw[Qo,Qp h,←Qo]
theorem Au(W T:Tab)(s:Stp):(Yv W T s).length=T.length:=by
 unfold Yv;split
 ·rw[Q6]
 ·rfl
structure SB(W T:Tab)(S:List Stp):Prop where
 len:T.length=W.length
 up:∀p,(ent W p).1<=(ent T p).1
 how:∀p,ent T p=ent W p ∨ ∃s∈S,s.b=p/\ent T p=((ent W s.a).1+s.g,(ent W s.a).2++[s])/\(ent W p).1<(ent T p).1
theorem kM{W T:Tab}{S:List Stp}{s:Stp}(hs:s∈S)(hb:s.b<W.length)(k:SB W T S):SB W (Yv W T s) S/\(∀p,(ent T p).1<=(ent (Yv W T s) p).1)/\(ent W s.a).1+s.g<=(ent (Yv W T s) s.b).1:=by
 have hbT:s.b<T.length:=by rw[k.len];exact hb
 unfold Yv;split
 ·rename_i h;have self:=kN (x:=((ent W s.a).1+s.g,(ent W s.a).2++[s])) hbT;refine⟨⟨by rw[Q6];exact k.len,λp=>?_,λp=>?_⟩,λp=>?_,by rw[self];exact Q3 _⟩
  ·by_cases z:s.b=p
   ·subst z;rw[self];have:=k.up s.b;show _<=(ent W s.a).1+s.g;omega
   ·rw[Nr z];exact k.up p
  ·by_cases z:s.b=p
   ·subst z;right;exact⟨s,hs,rfl,self,by rw[self];have:=k.up s.b;show _<(ent W s.a).1+s.g;omega⟩
   ·rw[Nr z];exact k.how p
  ·by_cases z:s.b=p
   ·subst z;rw[self];show _<=(ent W s.a).1+s.g;omega
   ·rw[Nr z];exact Q3 _
 ·rename_i h;exact⟨k,λp=>Q3 _,by omega⟩
theorem GK{W:Tab}{S:List Stp}(hS:∀s∈S,s.b<W.length):∀(R:List Stp)(T:Tab),(∀s∈R,s∈S)->SB W T S->SB W (R.foldl (Yv W) T) S/\(∀p,(ent T p).1<=(ent (R.foldl (Yv W) T) p).1)/\∀s∈R,(ent W s.a).1+s.g<=(ent (R.foldl (Yv W) T) s.b).1
 |[],T,_,k=>⟨k,λ_=>Q3 _,λs h=>by cases h⟩
 |s::R,T,hR,k=>by
  obtain⟨k1,u1,c1⟩:=kM (hR s Qn) (hS s (hR s Qn)) k;obtain⟨k2,u2,c2⟩:=GK hS R (Yv W T s) (λx hx=>hR x (Ql _ hx)) k1;refine⟨k2,λp=>JS (u1 p) (u2 p),λx hx=>?_⟩;rcases QS.mp hx with rfl|hx
  ·exact JS c1 (u2 x.b)
  ·exact c2 x hx
theorem GX{W:Tab}{S:List Stp}(hS:∀s∈S,s.b<W.length):SB W (Pj W S) S/\∀s∈S,(ent W s.a).1+s.g<=(ent (Pj W S) s.b).1:=by obtain⟨k,_,c⟩:=GK hS S W (λ_ h=>h) ⟨rfl,λ_=>Q3 _,λ_=>.inl rfl⟩;exact⟨k,c⟩
section
variable{n:Nat}{S:List Stp}(hS:∀s∈S,s.a<n/\s.b<n)
include hS
theorem Re:∀t,(KG n S t).length=n
 |0=>by unfold KG;rw[Qy]
 |t+1=>by unfold KG;rw[(GX (λs h=>by rw[Re t];exact(hS s h).2)).1.len,Re t]
theorem V6(t:Nat):SB (KG n S t) (KG n S (t+1)) S/\∀s∈S,(ent (KG n S t) s.a).1+s.g<=(ent (KG n S (t+1)) s.b).1:=
 GX (λs h=>by rw[Re hS t];exact(hS s h).2)
theorem RO(p:Nat):ent (KG n S 0) p=(0,[]):=by
 unfold ent KG;rw[Qo,QA]
 split<;>rfl
theorem P2:∀t,(∀p,(ent (KG n S t) p).2.length<=t)/\(∀p,0<t->ent (KG n S t) p≠ent (KG n S (t-1)) p->(ent (KG n S t) p).2.length=t)
 |0=>⟨λp=>by rw[RO hS];exact Qs _,λp h=>absurd h (Jr _)⟩
 |t+1=>by
  obtain⟨h1,h2⟩:=P2 t;obtain⟨k,c⟩:=V6 hS t
  have key:∀p,ent (KG n S (t+1)) p≠ent (KG n S t) p->(ent (KG n S (t+1)) p).2.length=t+1:=λp hne=>by
   rcases k.how p with e|⟨s,hs,hb,e,lt⟩
   ·exact absurd e hne
   ·rw[e,Qi,QH]
    congr 1
    cases t with
    |zero=>rw[RO hS];rfl
    |succ t=>
     refine h2 s.a (Ug t) λz=>?_
     obtain⟨k0,c0⟩:=V6 hS t;have:=c0 s hs;rw[J7]at z;rw[e,z,←hb]at lt;exact absurd lt (by show ¬_<(ent (KG n S t) s.a).1+s.g;omega)
  refine⟨λp=>?_,λp _ hne=>key p (by rw[J7]at hne;exact hne)⟩;by_cases z:ent (KG n S (t+1)) p=ent (KG n S t) p
  ·rw[z];exact Nat.le_succ_of_le (h1 p)
  ·rw[key p z];exact Qs _
end
inductive Walk(S:List Stp):Nat->List Stp->Prop where
 |nil (p:Nat):Walk S p []
 |snoc {w:List Stp} {s:Stp} (hs:s∈S) (h:Walk S s.a w):Walk S s.b (w++[s])
def Km(w:List Stp):Int:=(w.map Stp.g).sum
theorem Nf:Km []=0:=rfl
theorem Wx(u v:List Stp):Km (u++v)=Km u+Km v:=by unfold Km;rw[Qz,List.sum_append]
theorem Rc(s:Stp):Km [s]=s.g:=by unfold Km;simp
section
variable{n:Nat}{S:List Stp}(hS:∀s∈S,s.a<n/\s.b<n)
include hS
theorem RQ:∀t p,Walk S p (ent (KG n S t) p).2/\Km (ent (KG n S t) p).2=(ent (KG n S t) p).1
 |0,p=>by rw[RO hS];exact⟨.nil p,rfl⟩
 |t+1,p=>by
  rcases(V6 hS t).1.how p with e|⟨s,hs,hb,e,_⟩
  ·rw[e];exact RQ t p
  ·obtain⟨h1,h2⟩:=RQ t s.a;rw[e,←hb];exact⟨.snoc hs h1,by rw[Wx,Rc,h2]⟩
theorem Gc{t u:Nat}(h:t<=u)(p:Nat):(ent (KG n S t) p).1<=(ent (KG n S u) p).1:=by
 induction h with
 |refl=>exact Q3 _
 |step _ ih=>exact JS ih ((V6 hS _).1.up p)
theorem At{p:Nat}{w:List Stp}(h:Walk S p w):∀(t:Nat),w.length<=t->Km w<=(ent (KG n S t) p).1:=by
 induction h with
 |nil p=>intro t _;have:=Gc hS (JR t) p;rw[RO hS]at this;exact this
 |@snoc w s hs h ih=>
  intro t hl;rw[Qi,QH]at hl;obtain⟨u,rfl⟩:∃u,t=u+1:=⟨t-1,by omega⟩
  have:=ih u (by omega);have:=(V6 hS u).2 s hs;rw[Wx,Rc];omega
theorem jB{t:Nat}(h0:0<t)(h:∀p,p<n->(ent (KG n S t) p).2.length≠t):∀s∈S,(ent (KG n S t) s.a).1+s.g<=(ent (KG n S t) s.b).1:=λs hs=>by
 obtain⟨u,rfl⟩:∃u,t=u+1:=⟨t-1,by omega⟩
 have e:ent (KG n S (u+1)) s.a=ent (KG n S u) s.a:=Classical.byContradiction λz=>h s.a (hS s hs).1 ((P2 hS (u+1)).2 s.a h0 z);rw[e]
 exact(V6 hS u).2 s hs
end
inductive Path(S:List Stp):Nat->List Stp->Nat->Prop where
 |nil (p:Nat):Path S p [] p
 |cons {s:Stp} {w:List Stp} {p:Nat} (hs:s∈S) (h:Path S s.b w p):Path S s.a (s::w) p
section
variable{S:List Stp}
theorem Path.append{q m p:Nat}{u v:List Stp}(h1:Path S q u m)(h2:Path S m v p):Path S q (u++v) p:=by
 induction h1 with
 |nil p=>exact h2
 |cons hs h ih=>exact .cons hs (ih h2)
theorem Path.split{p:Nat}{v:List Stp}:∀{u:List Stp}{q:Nat},Path S q (u++v) p->∃m,Path S q u m/\Path S m v p
 |[],q,h=>⟨q,.nil q,h⟩
 |s::u,q,h=>by
  cases h with
  |cons hs h=>obtain⟨m,h1,h2⟩:=Path.split (u:=u) h;exact⟨m,.cons hs h1,h2⟩
theorem Path.mem{q p:Nat}{w:List Stp}(h:Path S q w p):∀s∈w,s∈S:=by
 induction h with
 |nil p=>intro s h;cases h
 |cons hs h ih=>
  intro s hm;rcases QS.mp hm with rfl|hm
  ·exact hs
  ·exact ih s hm
theorem Walk.path{p:Nat}{w:List Stp}(h:Walk S p w):∃q,Path S q w p:=by
 induction h with
 |nil p=>exact⟨p,.nil p⟩
 |snoc hs h ih=>obtain⟨q,hq⟩:=ih;exact⟨q,hq.append (.cons hs (.nil _))⟩
theorem Path.walk{p:Nat}:∀{w:List Stp}{q:Nat},Path S q w p->∀{u:List Stp},Walk S q u->Walk S p (u++w)
 |[],q,h,u,hu=>by cases h;rw[Jb];exact hu
 |s::w,q,h,u,hu=>by
  cases h with
  |cons hs h=>have:=Path.walk h (Walk.snoc hs hu);rw[QY]at this;exact this
theorem Path.head{q p:Nat}{s:Stp}{w:List Stp}(h:Path S q (s::w) p):q=s.a:=by cases h;rfl
theorem Path.step{q p:Nat}{s:Stp}{w:List Stp}(h:Path S q (s::w) p):s∈S/\Path S s.b w p:=by cases h with|cons hs h=>exact⟨hs,h⟩
theorem Path.at{q p:Nat}{w:List Stp}(h:Path S q w p){i:Nat}{s:Stp}(hi:w[i]?=some s):Path S q (w.take i) s.a/\Path S q (w.take (i+1)) s.b/\Path S s.b (w.drop (i+1)) p:=by
 have hl:i<w.length:=(Qg.mp hi).1
 have e:w.drop i=s::w.drop (i+1):=by
  rw[Jo hl]
  congr 1
  exact(Qg.mp hi).2
 have h':Path S q (w.take i++w.drop i) p:=by rw[Ub];exact h
 obtain⟨m,h1,h2⟩:=h'.split;rw[e]at h2;have hm:=h2.head;subst hm;obtain⟨hs,h3⟩:=h2.step;refine⟨h1,?_,h3⟩;rw[JK,hi];exact h1.append (.cons hs (.nil _))
theorem Path.next{q p:Nat}{w:List Stp}(h:Path S q w p){i:Nat}{s t:Stp}(hi:w[i]?=some s)(hj:w[i+1]?=some t):t.a=s.b:=by obtain⟨_,_,h3⟩:=h.at hi;have hl:i+1<w.length:=(Qg.mp hj).1;rw[Jo hl]at h3;rw[←(Qg.mp hj).2];exact h3.head.symm
structure Oz(w:List Stp)(i j:Nat):Prop where
 ij:i<=j
 jl:j<w.length
 same:∀s t,w[i]?=some s->w[j]?=some t->s.a=t.b
 first:∀j'<j,∀i' ≤ j',∀s t,w[i']?=some s->w[j']?=some t->s.a≠t.b
def Oy(w:List Stp):Prop:=∀j<w.length,∀i ≤ j,∀s t,w[i]?=some s->w[j]?=some t->s.a≠t.b
theorem Hi{n:Nat}(hS:∀s∈S,s.a<n/\s.b<n){q p:Nat}{w:List Stp}(h:Path S q w p)(hl:n<=w.length)(h0:0<n):¬Oy w:=λhn=>by
 obtain⟨s0,w0,rfl⟩:∃s0 w0,w=s0::w0:=by
  cases w with
  |nil=>rw[QE]at hl;omega
  |cons a b=>exact⟨a,b,rfl⟩
 let P:List Nat:=s0.a::(s0::w0).map Stp.b
 have key:∀k l:Nat,k<l->∀x y:Nat,P[k]?=some x->P[l]?=some y->x≠y:=λk l hkl x y hx hy=>by
  obtain⟨l,rfl⟩:∃m,l=m+1:=⟨l-1,by omega⟩
  have hy:((s0::w0).map Stp.b)[l]?=some y:=hy;rw[Qd]at hy;cases ht:(s0::w0)[l]? with
  |none=>rw[ht]at hy;cases hy
  |some t=>
  rw[ht]at hy;cases hy;have hll:l<(s0::w0).length:=(Qg.mp ht).1;obtain⟨s,hs⟩:∃s,(s0::w0)[k]?=some s:=⟨_,Qe (by omega)⟩
  have hxs:x=s.a:=by
   cases k with
   |zero=>cases hs;cases hx;rfl
   |succ k=>
    have hx:((s0::w0).map Stp.b)[k]?=some x:=hx;rw[Qd]at hx;obtain⟨r,hr⟩:∃r,(s0::w0)[k]?=some r:=⟨_,Qe (by omega)⟩
    rw[hr]at hx;cases hx;exact(h.next hr hs).symm
  rw[hxs];exact hn l hll k (by omega) s t hs ht
 have nd:P.Nodup:=by rw[List.nodup_iff_pairwise_ne,List.pairwise_iff_getElem];intro k l hk hl2 hkl;exact key k l hkl _ _ (Qe hk) (Qe hl2)
 have bound:∀x∈P,x<n:=λx hx=>by
  rcases QS.mp hx with rfl|hx
  ·exact(hS s0 h.step.1).1
  ·obtain⟨s,hs,rfl⟩:=Qu.mp hx;exact(hS s (h.mem s hs)).2
 have le:P.length<=n:=by
  have:=List.Nodup.length_le_of_subset nd (l₂:=Ut n) λx hx=>Q9.mpr (bound x hx)
  rwa[Qq]at this
 have:P.length=(s0::w0).length+1:=by show((s0::w0).map Stp.b).length+1=_;rw[Qb]
 omega
theorem jA{n:Nat}(hS:∀s∈S,s.a<n/\s.b<n)(h0:0<n){p:Nat}(hw:(ent (KG n S n) p).2.length=n){i j:Nat}(r:Oz (ent (KG n S n) p).2 i j) :
  ∃x,Path S x (((ent (KG n S n) p).2.take (j+1)).drop i) x/\0<Km (((ent (KG n S n) p).2.take (j+1)).drop i):=by
 obtain⟨hwk,hg⟩:=RQ hS n p;generalize hW:(ent (KG n S n) p).2=w at hw r hwk hg⊢;obtain⟨q,hp⟩:=hwk.path;have hij:=r.ij;have hjl:=r.jl;obtain⟨s,hs⟩:∃s,w[i]?=some s:=⟨_,Qe (by omega)⟩
 obtain⟨t,ht⟩:∃t,w[j]?=some t:=⟨_,Qe hjl⟩
 have hst:=r.same s t hs ht;obtain⟨a1,a2,a3⟩:=hp.at hs;obtain⟨b1,b2,b3⟩:=hp.at ht;have e1:w.take (j+1)=w.take i++(w.take (j+1)).drop i:=by have:=(Ub i (w.take (j+1))).symm;rw[List.take_take,Nat.min_eq_left (by omega)]at this;exact this
 rw[e1]at b2;obtain⟨m,c1,c2⟩:=b2.split
 have hm:m=s.a:=by
  have e2:(w.take (j+1)).drop i=s::(w.take (j+1)).drop (i+1):=by
   rw[Jo (by rw[QP];omega)]
   congr 1
   rw[List.getElem_take];exact(Qg.mp hs).2
  rw[e2]at c2;exact c2.head
 subst hm;rw[←hst]at c2 b3;refine⟨s.a,c2,?_⟩;have hsh:Path S q (w.take i++w.drop (j+1)) p:=a1.append b3;have hshw:=hsh.walk (u:=[]) (.nil q);rw[Q7]at hshw;have hlen:(w.take i++w.drop (j+1)).length<=n-1:=by rw[Qi,QP,Jh];omega
 have most:=At hS hshw (n-1) hlen;have hgw:Km w=Km (w.take i)+Km ((w.take (j+1)).drop i)+Km (w.drop (j+1)):=by rw[←Wx,←e1,←Wx,Ub]
 rw[Wx]at most
 have lt:(ent (KG n S (n-1)) p).1<(ent (KG n S n) p).1:=by
  obtain⟨k,_⟩:=V6 hS (n-1);rw[Nat.sub_add_cancel h0]at k;rcases k.how p with e|⟨_,_,_,_,lt⟩
  ·have:=(P2 hS (n-1)).1 p;rw[←e,hW,hw]at this;omega
  ·exact lt
 omega
theorem jX{q p:Nat}{w:List Stp}(h:Path S q w p){i j:Nat}(r:Oz w i j):(((w.take (j+1)).drop i).map Stp.a).Nodup:=by
 rw[List.nodup_iff_pairwise_ne,List.pairwise_iff_getElem];intro k l hk hl hkl;have hij:=r.ij;have hjl:=r.jl;simp only[Qb,Jh,QP]at hk hl;simp only[J5,List.getElem_drop,List.getElem_take];obtain⟨m,rfl⟩:∃m,l=m+1:=⟨l-1,by omega⟩
 have e1:w[i+m]?=some w[i+m]:=Qe (by omega);have e2:w[i+m+1]?=some w[i+(m+1)]:=Qe (by omega);have e3:w[i+k]?=some w[i+k]:=Qe (by omega);rw[h.next e1 e2];exact r.first (i+m) (by omega) (i+k) (by omega) _ _ e3 e1
end
def Kb(f:Int×Int->Int)(i:Nat):Option Int->Int
 |none=>0
 |some t=>f ((i:Int),t)
def plF(n:Nat):Option Int->Nat
 |none=>n
 |some t=>t.toNat
def Yy(n b:Nat):Option Int:=if b=n then none else some (b:Int)
def U7(f:Int×Int->Int)(k:Nat):LO->Int
 |[]=>0
 |o::r=>Kb f k o+U7 f (k+1) r
theorem Hh(f:Int×Int->Int){o':Option Int}:∀{d:LO}{k i:Nat}{o:Option Int},d[i]?=some o->U7 f k (d.set i o')=U7 f k d+Kb f (k+i) o'-Kb f (k+i) o
 |[],_,_,_,h=>by cases h
 |x::d,k,0,o,h=>by cases h;show Kb f k o'+U7 f (k+1) d=Kb f k x+U7 f (k+1) d+Kb f k o'-Kb f k x;omega
 |x::d,k,i+1,o,h=>by rw[List.set_cons_succ];unfold U7;rw[Hh f (d:=d) (k:=k+1) (i:=i) (o:=o) (by simpa using h),show k+1+i=k+(i+1)by omega];omega
theorem Hu{o' x:Option Int}:∀{d:LO}{i:Nat}{o:Option Int},d[i]?=some o->(((d.set i o').count x:Nat):Int)=(d.count x:Nat)+(if o'=x then 1 else 0)-(if o=x then 1 else 0)
 |[],_,_,h=>by cases h
 |y::d,0,o,h=>by cases h;rw[List.set_cons_zero,JP,JP];by_cases h1:o'=x<;>by_cases h2:y=x<;>simp[h1,h2]<;>omega
 |y::d,i+1,o,h=>by have ih:=Hu (o':=o') (x:=x) (d:=d) (i:=i) (o:=o) (by simpa using h);rw[List.set_cons_succ,JP,JP];omega
structure Zt(cs:List Int)(qs:LP)(m:Nat)(ws:LO):Prop where
 len:ws.length=m
 wish:∀(i:Nat) t,ws[i]?=some (some t)->((i:Int),t)∈qs
 cop:∀(k:Nat) c,cs[k]?=some c->((ws.count (some (k:Int)):Nat):Int)<=c
structure Yc(n m:Nat)(qs:LP):Prop where
 nd:qs.Nodup
 lo:∀q∈qs,0<=q.1/\q.1<m/\0<=q.2/\q.2<n
inductive IsSt(cs:List Int)(f:Int×Int->Int)(qs:LP)(ws:LO):Stp->Prop where
 |mv {i:Nat} {o o':Option Int} (h:ws[i]?=some o) (hne:o'≠o) (hq:∀t,o'=some t->((i:Int),t)∈qs):IsSt cs f qs ws ⟨plF cs.length o,plF cs.length o',Kb f i o'-Kb f i o,some i⟩
 |left {t:Nat} {c:Int} (h:cs[t]?=some c) (hl:((ws.count (some (t:Int)):Nat):Int)<c):IsSt cs f qs ws ⟨t,cs.length,0,none⟩
 |give {t:Nat} (h:t<cs.length):IsSt cs f qs ws ⟨cs.length,t,0,none⟩
def app(n:Nat)(d:LO)(s:Stp):LO:=match s.w with
 |some i=>d.set i (Yy n s.b)
 |none=>d
def nIn(t:Nat)(R:List Stp):Nat:=(R.filter λs=>s.w.isSome&&s.b==t).length
def Xw(t:Nat)(R:List Stp):Nat:=(R.filter λs=>s.w.isSome&&s.a==t).length
section
variable{cs:List Int}{f:Int×Int->Int}{qs:LP}{m:Nat}{ws:LO}
theorem F7(hp:Yc cs.length m qs){i:Nat}{o:Option Int}(h:∀t,o=some t->((i:Int),t)∈qs):Yy cs.length (plF cs.length o)=o:=by
 cases o with
 |none=>unfold Yy plF;rw[Qm rfl]
 |some t=>
  have:=hp.lo _ (h t rfl)
  show(if t.toNat=cs.length then none else some ((t.toNat:Nat):Int))=some t
  rw[QB (by omega)]
  congr 1
  omega
theorem Pi(hp:Yc cs.length m qs){i:Nat}{o:Option Int}{t:Nat}(ht:t<cs.length)(h:∀t,o=some t->((i:Int),t)∈qs):plF cs.length o=t ↔ o=some (t:Int):=by
 cases o with
 |none=>exact⟨λe=>by have e:cs.length=t:=e;omega,λe=>by cases e⟩
 |some u=>
  have:=hp.lo _ (h u rfl);show u.toNat=t ↔ _;constructor
  ·intro e;congr 1;omega
  ·intro e;cases e;omega
theorem Px(hp:Yc cs.length m qs)(hd:Zt cs qs m ws):∀(R:List Stp)(d:LO),(∀s∈R,IsSt cs f qs ws s)->(R.map Stp.a).Nodup->(∀s∈R,∀i,s.w=some i->d[i]?=ws[i]?)->d.length=ws.length->(∀(i:Nat) t,d[i]?=some (some t)->((i:Int),t)∈qs) ->
  U7 f 0 (R.foldl (app cs.length) d)=U7 f 0 d+Km R/\(R.foldl (app cs.length) d).length=ws.length/\(∀(i:Nat) t,(R.foldl (app cs.length) d)[i]?=some (some t)->((i:Int),t)∈qs) /\
  ∀t,t<cs.length->(((R.foldl (app cs.length) d).count (some (t:Int)):Nat):Int)=(d.count (some (t:Int)):Nat)+(nIn t R:Nat)-(Xw t R:Nat)
 |[],d,_,_,_,hl,hq=>⟨by show _=_+Km [];rw[Nf];show U7 f 0 d=_;omega,hl,hq,λt _=>by show((d.count _:Nat):Int)=_+((0:Nat):Int)-((0:Nat):Int);omega⟩
 |s::R,d,hR,hn,ha,hl,hq=>by
  rw[Qt,List.nodup_cons]at hn;have hgc:Km (s::R)=s.g+Km R:=by show Km ([s]++R)=_;rw[Wx,Rc]
  rw[J8,hgc];cases hR s Qn with
  |@mv i o o' h hne hq'=>
   have hdi:d[i]?=some o:=(ha _ Qn i rfl).trans h;have ho:∀t,o=some t->((i:Int),t)∈qs:=λt e=>hd.wish i t (by rw[h,e])
   have hil:i<d.length:=(Qg.mp hdi).1;have eapp:app cs.length d ⟨plF cs.length o,plF cs.length o',Kb f i o'-Kb f i o,some i⟩=d.set i o':=by show d.set i (Yy cs.length (plF cs.length o'))=_;rw[F7 hp hq']
   rw[eapp]
   obtain⟨k1,k2,k3,k4⟩:=Px hp hd R (d.set i o') (λs hs=>hR s (Ql _ hs)) hn.2 (λs hs j hj=>by
    have hji:i≠j:=λz=>by
     subst z;cases hR s (Ql _ hs)with
     |@mv i2 o2 o2' h2 _ _=>cases hj;rw[h]at h2;cases h2;exact hn.1 (Qu.mpr ⟨_,hs,rfl⟩)
     |left _ _=>cases hj
     |give _=>cases hj
    rw[Qp hji];exact ha s (Ql _ hs) j hj) (by rw[Q6];exact hl) (λj t e=>by
    by_cases z:i=j
    ·subst z;rw[QI hil]at e;cases e;exact hq' t rfl
    ·rw[Qp z]at e;exact hq j t e)
   refine⟨?_,k2,k3,λt ht=>?_⟩
   ·rw[k1,Hh f hdi,QX];show _=U7 f 0 d+((Kb f i o'-Kb f i o)+Km R);omega
   ·rw[k4 t ht,Hu hdi]
    have e1:(if o'=some (t:Int)then(1:Int)else 0)=if plF cs.length o'=t then 1 else 0:=by
     by_cases z:o'=some (t:Int)
     ·rw[Qm z,Qm ((Pi hp ht hq').mpr z)]
     ·rw[QB z,QB (λy=>z ((Pi hp ht hq').mp y))]
    have e2:(if o=some (t:Int)then(1:Int)else 0)=if plF cs.length o=t then 1 else 0:=by
     by_cases z:o=some (t:Int)
     ·rw[Qm z,Qm ((Pi hp ht ho).mpr z)]
     ·rw[QB z,QB (λy=>z ((Pi hp ht ho).mp y))]
    have e3:∀(x:Nat),((nIn t (⟨plF cs.length o,plF cs.length o',Kb f i o'-Kb f i o,some i⟩::R):Nat):Int)=(if plF cs.length o'=t then 1 else 0)+(nIn t R:Nat):=λx=>by
     unfold nIn;rw[List.filter_cons];by_cases z:plF cs.length o'=t
     ·rw[if_pos z,if_pos (by simp[z]),List.length_cons];omega
     ·rw[if_neg z,if_neg (by simp[z])];omega
    have e4:∀(x:Nat),((Xw t (⟨plF cs.length o,plF cs.length o',Kb f i o'-Kb f i o,some i⟩::R):Nat):Int)=(if plF cs.length o=t then 1 else 0)+(Xw t R:Nat):=λx=>by
     unfold Xw;rw[List.filter_cons];by_cases z:plF cs.length o=t
     ·rw[if_pos z,if_pos (by simp[z]),List.length_cons];omega
     ·rw[if_neg z,if_neg (by simp[z])];omega
    rw[e1,e2,e3 0,e4 0];omega
  |left _ _=>obtain⟨k1,k2,k3,k4⟩:=Px hp hd R d (λs hs=>hR s (Ql _ hs)) hn.2 (λs hs=>ha s (Ql _ hs)) hl hq;refine⟨?_,k2,k3,k4⟩;show U7 f 0 (R.foldl _ d)=U7 f 0 d+(0+Km R);rw[k1];omega
  |give _=>obtain⟨k1,k2,k3,k4⟩:=Px hp hd R d (λs hs=>hR s (Ql _ hs)) hn.2 (λs hs=>ha s (Ql _ hs)) hl hq;refine⟨?_,k2,k3,k4⟩;show U7 f 0 (R.foldl _ d)=U7 f 0 d+(0+Km R);rw[k1];omega
theorem Mj(t:Nat):∀R:List Stp,nIn t R<=(R.map Stp.b).count t
 |[]=>Qs _
 |s::R=>by
  have ih:=Mj t R;unfold nIn at ih⊢;rw[List.filter_cons,Qt,JP];split
  ·rename_i h;rw[Ji]at h;rw[QC,Qm h.2];omega
  ·omega
theorem Hg(hp:Yc cs.length m qs)(hd:Zt cs qs m ws){R:List Stp}(hR:∀s∈R,IsSt cs f qs ws s)(hn:(R.map Stp.a).Nodup)(hb:(R.map Stp.b).Perm (R.map Stp.a)):Zt cs qs m (R.foldl (app cs.length) ws)/\U7 f 0 (R.foldl (app cs.length) ws)=U7 f 0 ws+Km R:=by
 obtain⟨k1,k2,k3,k4⟩:=Px hp hd R ws hR hn (λs hs i e=>rfl) rfl hd.wish;refine⟨⟨by rw[k2];exact hd.len,k3,λt c hc=>?_⟩,k1⟩;have ht:t<cs.length:=(Qg.mp hc).1;rw[k4 t ht];have h0:=hd.cop t c hc;have h1:(R.map Stp.a).count t<=1:=List.nodup_iff_count.mp hn t;have h2:=Mj t R;rw[hb.count_eq]at h2;by_cases z:nIn t R=0
 ·omega
 ·have hin:nIn t R=1:=by omega
  have hmem:t∈R.map Stp.a:=List.count_pos_iff.mp (by omega);obtain⟨s,hs,hst⟩:=Qu.mp hmem;cases hR s hs with
  |@mv i o o' h hne hq'=>
   have:1<=Xw t R:=by unfold Xw;exact List.length_pos_iff.mpr (List.ne_nil_of_mem (List.mem_filter.mpr ⟨hs,by simpa using hst⟩))
   omega
  |@left u c' h hl=>have hst:u=t:=hst;subst hst;rw[h]at hc;cases hc;omega
  |@give u h=>have hst:cs.length=t:=hst;omega
end
theorem Mq{S:List Stp}{q p:Nat}{w:List Stp}(h:Path S q w p):w.map Stp.a++[p]=q::w.map Stp.b:=by
 induction h with
 |nil p=>rfl
 |cons hs h ih=>rw[Qt,Qt,List.cons_append,ih]
theorem Gm{S:List Stp}{x:Nat}{w:List Stp}(h:Path S x w x):(w.map Stp.b).Perm (w.map Stp.a):=by have e:=Mq h;have p1:(w.map Stp.a++[x]).Perm (x::w.map Stp.a):=List.perm_append_comm;rw[e]at p1;exact List.Perm.cons_inv p1
def ZE(f:Int×Int->Int)(V:Nat->Int)(qs:LP)(i:Int):Int:=qs.foldl (λa q=>if q.1=i then max a (f q-V q.2.toNat)else a) 0
theorem P1(f:Int×Int->Int)(V:Nat->Int)(i:Int):∀(qs:LP)(a:Int),a<=qs.foldl (λa q=>if q.1=i then max a (f q-V q.2.toNat)else a) a /\
  (∀q∈qs,q.1=i->f q-V q.2.toNat<=qs.foldl (λa q=>if q.1=i then max a (f q-V q.2.toNat)else a) a) /\
  ∀B,a<=B->(∀q∈qs,q.1=i->f q-V q.2.toNat<=B)->qs.foldl (λa q=>if q.1=i then max a (f q-V q.2.toNat)else a) a<=B
 |[],a=>⟨Q3 _,(λq h=>by cases h),λB h _=>h⟩
 |q::qs,a=>by
  rw[J8];obtain⟨h1,h2,h3⟩:=P1 f V i qs (if q.1=i then max a (f q-V q.2.toNat)else a);have hb:a<=(if q.1=i then max a (f q-V q.2.toNat)else a):=by split<;>omega
  refine⟨JS hb h1,λp hp e=>?_,λB ha hB=>h3 B ?_ λp hp=>hB p (Ql _ hp)⟩
  ·rcases QS.mp hp with rfl|hp
   ·rw[Qm e]at h1⊢;omega
   ·exact h2 p hp e
  ·have:=hB q Qn;split
   ·rename_i e;have:=this e;omega
   ·exact ha
theorem Ht{f:Int×Int->Int}{ps:List Int}:∀(ws:LO)(k:Nat)(A:Nat->Int),(∀(j:Nat) o,ws[j]?=some o->A (k+j)=Kb f (k+j) o-(match o with|some t=>ps.getD t.toNat 0|none=>0))->((List.range' k ws.length).map A).sum=U7 f k ws-pz ps ws
 |[],k,A,_=>by show(0:Int)=0-0;omega
 |o::ws,k,A,h=>by
  rw[QC,List.range'_succ,Qt,List.sum_cons,Ht ws (k+1) A λj o' e=>by have:=h (j+1) o' (by simpa using e);rw[show k+1+j=k+(j+1)by omega];exact this];have h0:=h 0 o rfl;rw[Nat.add_zero]at h0;rw[h0];cases o with
  |none=>show Kb f k none-0+(U7 f (k+1) ws-pz ps ws)=Kb f k none+U7 f (k+1) ws-(0+pz ps ws);omega
  |some t=>show Kb f k (some t)-ps.getD t.toNat 0+(U7 f (k+1) ws-pz ps ws)=Kb f k (some t)+U7 f (k+1) ws-(ps.getD t.toNat 0+pz ps ws);omega
section
variable{cs:List Int}{f:Int×Int->Int}{qs:LP}{m:Nat}{ws:LO}{S:List Stp}
theorem IsSt.lt(hp:Yc cs.length m qs)(hd:Zt cs qs m ws){s:Stp}(h:IsSt cs f qs ws s):s.a<cs.length+1/\s.b<cs.length+1:=by
 have key:∀{i:Nat}{o:Option Int},(∀t,o=some t->((i:Int),t)∈qs)->plF cs.length o<cs.length+1:=λ{i o} h=>by
  cases o with
  |none=>exact JG _
  |some t=>have:=hp.lo _ (h t rfl);show t.toNat<_;omega
 cases h with
 |mv h hne hq=>exact⟨key λt e=>hd.wish _ t (by rw[h,e]),key hq⟩
 |left h hl=>have:=(Qg.mp h).1;exact⟨JT this,JG _⟩
 |give h=>exact⟨JG _,JT h⟩
theorem Ag{V:Nat->Int}(still:∀s∈S,V s.a+s.g<=V s.b){q p:Nat}{w:List Stp}(h:Path S q w p):V q+Km w<=V p:=by
 induction h with
 |nil p=>rw[Nf];omega
 |@cons s w p hs h ih=>
  have:=still s hs;have e:Km (s::w)=s.g+Km w:=by show Km ([s]++w)=_;rw[Wx,Rc]
  omega
theorem As(hp:Yc cs.length m qs)(hd:Zt cs qs m ws){V:Nat->Int}(st:∀s,IsSt cs f qs ws s->V s.a+s.g<=V s.b)(vn:V cs.length=0) :
  OkP cs.length m (λa b=>f (a,b)) qs 1 ((Ut m).map λi:Nat=>ZE f V qs (i:Int)) ((Ut cs.length).map V)/\XN cs ((Ut m).map λi:Nat=>ZE f V qs (i:Int)) ((Ut cs.length).map V)=U7 f 0 ws:=by
 have v0:∀p,p<cs.length->0<=V p:=λp hp'=>by have h3:V cs.length+0<=V p:=st _ (.give hp');omega
 have psD:∀k,k<cs.length->((Ut cs.length).map V).getD k 0=V k:=λk hk=>by rw[Qo,Qd,QO hk];rfl
 have ask:∀(i:Nat) o,ws[i]?=some o->ZE f V qs (i:Int)=Kb f i o-(match o with|some t=>((Ut cs.length).map V).getD t.toNat 0|none=>0):=λi o h=>by
  obtain⟨a1,a2,a3⟩:=P1 f V (i:Int) qs 0;cases o with
  |none=>
   have:ZE f V qs (i:Int)<=0:=a3 0 (Q3 _) λq hq e=>by have h1:=st _ ((.mv (f:=f) h (o':=some q.2) (by intro z;cases z) λt et=>by cases et;rw[←e];exact hq));have h1:V cs.length+(f ((i:Int),q.2)-0)<=V q.2.toNat:=h1;rw[←e]at h1;have:f (q.1,q.2)=f q:=rfl;omega
   show ZE f V qs (i:Int)=0-0;have:0<=ZE f V qs (i:Int):=a1;omega
  |some t=>
   have hq:=hd.wish i t h;have hb:=hp.lo _ hq;have hup:=st _ ((.mv (f:=f) h (o':=none) (by intro z;cases z) λt et=>by cases et));have hup:V t.toNat+(0-f ((i:Int),t))<=V cs.length:=hup;show ZE f V qs (i:Int)=f ((i:Int),t)-((Ut cs.length).map V).getD t.toNat 0;rw[psD t.toNat (by omega)];have lo:f ((i:Int),t)-V t.toNat<=ZE f V qs (i:Int):=a2 _ hq rfl
   have hi:ZE f V qs (i:Int)<=f ((i:Int),t)-V t.toNat:=a3 _ (by omega) λq hq e=>by
    by_cases z:q.2=t
    ·have:q=((i:Int),t):=by rw[←e,←z]
     rw[this];exact Q3 _
    ·have h1:=st _ ((.mv (f:=f) h (o':=some q.2) (by intro y;cases y;exact z rfl) λt et=>by cases et;rw[←e];exact hq));have h1:V t.toNat+(f ((i:Int),q.2)-f ((i:Int),t))<=V q.2.toNat:=h1;have:f (((i:Int)),q.2)=f q:=by rw[←e]
     omega
   omega
 refine⟨⟨by decide,by rw[Qb,Qq],by rw[Qb,Qq],λa ha=>?_,λp hp'=>?_,λq hq=>?_⟩,?_⟩
 ·obtain⟨i,_,rfl⟩:=Qu.mp ha;exact(P1 f V (i:Int) qs 0).1
 ·obtain⟨i,_,rfl⟩:=Qu.mp hp';exact v0 i (Q9.mp (by assumption))
 ·have hb:=hp.lo q hq;rw[psD q.2.toNat (by omega),Qo,Qd,QO (by omega)];have h2:=(P1 f V q.1 qs 0).2.1 q hq rfl;show 1*f q<=ZE f V qs ((q.1.toNat:Nat):Int)+V q.2.toNat;have e:((q.1.toNat:Nat):Int)=q.1:=by omega
  rw[e];have h2:f q-V q.2.toNat<=ZE f V qs q.1:=h2;omega
 ·unfold XN;rw[List.range_eq_range' (n:=m),←hd.len,Ht (f:=f) (ps:=(Ut cs.length).map V) ws 0 (λi:Nat=>ZE f V qs (i:Int)) λj o e=>by rw[QX];exact ask j o e];have hth:∀t,some t∈ws->0<=t/\t<cs.length:=λt ht=>by obtain⟨i,hi⟩:=List.mem_iff_getElem?.mp ht;have:=hp.lo _ (hd.wish i t hi);exact⟨this.2.2.1,this.2.2.2⟩
  rw[Nl ws hth,Gn _ _ (by rw[Qb,Qq])]
  have e:K3 cs.length (λk=>cs.getD k 0*((Ut cs.length).map V).getD k 0)=K3 cs.length λk=>((ws.count (some (k:Int)):Nat):Int)*((Ut cs.length).map V).getD k 0:=Nt λk hk=>by
   rw[psD k hk];have hc:cs[k]?=some (cs.getD k 0):=by rw[Qo,Qe hk];rfl
   have hle:=hd.cop k _ hc;by_cases z:((ws.count (some (k:Int)):Nat):Int)=cs.getD k 0
   ·rw[z]
   ·have h1:=st _ ((.left (f:=f) (qs:=qs) hc (by omega)));have h1:V k+0<=V cs.length:=h1;have:=v0 k hk;have hz:V k=0:=by omega
    rw[hz,Int.mul_zero,Int.mul_zero]
  rw[e];omega
theorem Hf(hp:Yc cs.length m qs)(hd:Zt cs qs m ws)(hin:∀s∈S,IsSt cs f qs ws s)(hall:∀s,IsSt cs f qs ws s->s∈S){V:Nat->Int}(hV:∀p,V p=(ent (KG (cs.length+1) S (cs.length+1)) p).1)
  (still:∀p,p<cs.length+1->(ent (KG (cs.length+1) S (cs.length+1)) p).2.length≠cs.length+1):(∀s∈S,V s.a+s.g<=V s.b)/\V cs.length=0:=by
 have hS:∀s∈S,s.a<cs.length+1/\s.b<cs.length+1:=λs hs=>(hin s hs).lt hp hd;have st:∀s∈S,V s.a+s.g<=V s.b:=λs hs=>by rw[hV,hV];exact jB hS (Ug _) still s hs
 have v0:∀p,0<=V p:=λp=>by have:=Gc hS (JR (cs.length+1)) p;rw[RO hS]at this;rw[hV];exact this
 have vn:V cs.length=0:=by
  obtain⟨hw,hg⟩:=RQ hS (cs.length+1) cs.length;obtain⟨q,hq⟩:=hw.path;have h1:=Ag st hq;rw[hg,←hV]at h1;have h2:=v0 q;by_cases z:q=cs.length
  ·rw[z]at h1 h2;omega
  ·have hql:q<cs.length:=by
    cases hw2:(ent (KG (cs.length+1) S (cs.length+1)) cs.length).2 with
    |nil=>rw[hw2]at hq;cases hq;exact absurd rfl z
    |cons s w=>rw[hw2]at hq;have:=(hS s hq.step.1).1;rw[←hq.head]at this;omega
   have h3:=st _ (hall _ (.give hql));have h3:V cs.length+0<=V q:=h3;have:=v0 cs.length;omega
 exact⟨st,vn⟩
end
def YD:Option Nat->D
 |some i=>.int i
 |none=>.none
def UU(s:Stp):D:=.tuple [.int s.a,.int s.b,.int s.g,YD s.w]
def ZZ(x:Int×List Stp):D:=.tuple [.int x.1,.list (x.2.map UU)]
def UY(V:Int->Int->Int)(q:Int×Int):Int:=V q.1 q.2
def Ze(n:Nat)(f:Int×Int->Int)(ws:LO):List Stp:=(Ut ws.length).filterMap λi=>match ws.getD i none with
 |none=>none
 |some t=>some ⟨t.toNat,n, -(Kb f i (some t)),some i⟩
def KU(n:Nat)(f:Int×Int->Int)(qs:LP)(ws:LO):List Stp:=qs.filterMap λq=>if ws.getD q.1.toNat none≠some q.2 then some ⟨plF n (ws.getD q.1.toNat none),q.2.toNat,f q-Kb f q.1.toNat (ws.getD q.1.toNat none),some q.1.toNat⟩else none
def ZJ(cs:List Int)(ws:LO):List Stp:=(Ut cs.length).filterMap λt=>if 0<cs.getD t 0-((ws.count (some (t:Int)):Nat):Int)then some ⟨t,cs.length,0,none⟩else none
def ZI(n:Nat):List Stp:=(Ut n).map λt=>⟨n,t,0,none⟩
def ZM(cs:List Int)(f:Int×Int->Int)(qs:LP)(ws:LO):List Stp:=Ze cs.length f ws++KU cs.length f qs ws++(ZJ cs ws++ZI cs.length)
theorem Ar{m j:Nat}{h h':Nat->Int}(hj:j<m)(e:∀i,i≠j->h' i=h i):(((Ut m).map h).map int).set j (.int (h' j))=((Ut m).map h').map int:=by
 apply List.ext_getElem?;intro i;by_cases z:j=i
 ·subst z;rw[QI (by rw[Qb,Qb,Qq];exact hj),Qd,Qd,QO hj];rfl
 ·rw[Qp z,Qd,Qd,Qd,Qd];by_cases hi:i<m
  ·rw[QO hi];show some (int (h i))=some (int (h' i));rw[e i λy=>z y.symm]
  ·rw[Jd (by rw[Qq];omega)];rfl
theorem Pw{m:Nat}{h:Nat->Int}{j:Nat}(hj:j<m):oIx (.list (((Ut m).map h).map int)) (.int (j:Int))=some (.int (h j)):=Zc (by rw[Qd,Qd,QO hj];rfl)
section
variable{cs:List Int}{ls:L3}{ws:LO}{V:Int->Int->Int}{qs:LP}
theorem jW{n:Nat}{o:Option Int}(h:∀t,o=some t->0<=t):X9 [.int n,U3 o]=some (.int (plF n o)):=by
 refine KZ (Z:=[pb (.int n),pb (U3 o)]) rfl ?_;unfold TR;cases o with
 |none=>exact Kw (N4 (KJ (k:=isNon) (x:=PyData.none) (UL rfl)) (UL rfl)) rfl
 |some t=>refine Kw (Oj (KJ (k:=isNon) (x:=int t) (UL rfl)) (UL rfl)) ?_;have:=h t rfl;show Out.rt (.int t)=Out.rt (.int ((t.toNat:Nat):Int));rw[show((t.toNat:Nat):Int)=t by omega]
def Yk(V:Int->Int->Int)(ws:LO)(qs:LP)(i:Nat):Int:=match ws.getD i none with
 |none=>0
 |some t=>if((i:Int),t)∈qs then V i t else 0
theorem Ox{k:Int}(h0:0<=k)(h1:k<ws.length):oIx (Kf ws) (.int k)=some (U3 (ws.getD k.toNat none)):=by
 obtain⟨j,rfl⟩:∃j:Nat,k=j:=⟨k.toNat,by omega⟩
 refine Zc ?_;rw[Qd,QD,Qo,Qe (by omega)];rfl
theorem He{i:Nat}{o:Option Int}(h:ws[i]?=some o):ws.getD i none=o:=by rw[Qo,h];rfl
theorem Aq(hp:Yc cs.length ws.length qs)(hd:Zt cs qs ws.length ws)(hm:ws.length<=1000)(hq1:qs.length<=1000):Va [.int (cs.length:Nat),.list (qs.map (K6 V)),Kf ws]=some (.list ((Ze cs.length (UY V) ws++KU cs.length (UY V) qs ws).map UU)):=by
 refine KZ (Z:=[pb (.int (cs.length:Nat)),pb (.list (qs.map (K6 V))),pb (Kf ws),none,none,none,none,none]) rfl ?_;unfold TQ;have hlen:Ka [Kf ws]=some (.int ws.length):=by show Ka [.list (ws.map U3)]=_;rw[Zd,Qb]
 have pos:∀i t,ws.getD i none=some t->i<ws.length/\((i:Int),t)∈qs:=λi t e=>by
  by_cases hi:i<ws.length
  ·rw[Qo,Qe hi]at e;exact⟨hi,hd.wish i t (by rw[Qe hi];exact JX some e)⟩
  ·rw[Qo,Jd (by omega)]at e;cases e
 refine Kd (Ye (MD (n:=ws.length) (Zo (UO UV UT) (Qa rfl)) (Zz rfl hlen) hm) (Qa rfl) rfl) ?_;apply KI;apply Zm (λk Z=>∃x4 x5 x6,Z=[pb (.int (cs.length:Nat)),pb (.list (qs.map (K6 V))),pb (Kf ws),some (.own (((Ut ws.length).map (Yk V ws (qs.take k))).map int)),x4,x5,x6,none])
 case h1=>exact Zn (UL rfl) ZO
 case h0=>
  refine⟨none,none,none,?_⟩
  have e:((Ut ws.length).map (Yk V ws (qs.take 0))).map int=Uu ws.length (.int 0):=by
   rw[List.eq_replicate_iff];refine⟨by rw[Qb,Qb,Qq],λb hb=>?_⟩;obtain⟨x,hx,rfl⟩:=Qu.mp hb;obtain⟨i,_,rfl⟩:=Qu.mp hx;unfold Yk;split
   ·rfl
   ·rw[if_neg (by rw[List.take_zero];simp)]
  rw[e];rfl
 case hst=>
  rintro k d Z hk ⟨x4,x5,x6,rfl⟩;rw[Qd]at hk;cases hq:qs[k]? with
  |none=>rw[hq]at hk;cases hk
  |some q=>
  rw[hq]at hk;cases hk;have hb:=hp.lo q (Qr hq);refine⟨_,Kr rfl (U2 (UR (Qa rfl) rfl) (U2 (UR (Qa rfl) rfl) (U2 (UR (Qa rfl) rfl) Ks))),?_⟩;unfold MJ;have hta:qs.take (k+1)=qs.take k++[q]:=by rw[JK,hq];rfl
  apply KB
  case h1=>exact U1 (Kp rfl (UL rfl) (Ox hb.1 hb.2.1)) (UL rfl) (Oe (b:=some q.2))
  case h2=>
   intro hh;have hh:ws.getD q.1.toNat none=some q.2:=Qa hh;refine Zv (RD (UL rfl) rfl (UL rfl) rfl ⟨hb.1,by rw[Qb,Qb,Qq];exact hb.2.1⟩ rfl) (KO ⟨some (.pub (.int q.1)),pb (.int q.2),pb (.int (V q.1 q.2)),?_⟩)
   have e:=Ar (m:=ws.length) (j:=q.1.toNat) (h:=Yk V ws (qs.take k)) (h':=Yk V ws (qs.take (k+1))) (by omega) λi hne=>by
    unfold Yk;cases ws.getD i none with
    |none=>rfl
    |some t=>
     dsimp only;rw[hta];by_cases z:((i:Int),t)∈qs.take k
     ·rw[Qm z,Qm (Q0 _ z)]
     ·rw[QB z,QB];intro y;rcases QJ.mp y with y|y
      ·exact z y
      ·have:=Qv.mp y;rw[←this]at hne;exact hne (by show i=((i:Int)).toNat;rw[QD])
   have ev:Yk V ws (qs.take (k+1)) q.1.toNat=V q.1 q.2:=by
    unfold Yk;rw[hh];have ei:((q.1.toNat:Nat):Int)=q.1:=by omega
    dsimp only;rw[ei,if_pos (by rw[hta];exact List.mem_append_right _ (by simp))]
   rw[ev]at e;rw[←e];rfl
  case h3=>
   intro hh;have hh:¬ws.getD q.1.toNat none=some q.2:=Ja hh;refine KR (KO ⟨some (.pub (.int q.1)),pb (.int q.2),pb (.int (V q.1 q.2)),?_⟩)
   have e:(Ut ws.length).map (Yk V ws (qs.take (k+1)))=(Ut ws.length).map (Yk V ws (qs.take k)):=List.map_congr_left λi _=>by
    unfold Yk;cases hw:ws.getD i none with
    |none=>rfl
    |some t=>
     dsimp only;rw[hta];by_cases z:((i:Int),t)∈qs.take k
     ·rw[Qm z,Qm (Q0 _ z)]
     ·rw[QB z,QB];intro y;rcases QJ.mp y with y|y
      ·exact z y
      ·have y:=Qv.mp y;rw[←y]at hh;exact hh (by show ws.getD ((i:Int)).toNat none=some t;rw[QD];exact hw)
   rw[e];rfl
 case hend=>
  rintro Z ⟨x4,x5,x6,rfl⟩;refine KE ?_;have hth:qs.take (qs.map (K6 V)).length=qs:=by rw[Qb,Jm]
  rw[hth]
  have hadE:∀i,Yk V ws qs i=Kb (UY V) i (ws.getD i none):=λi=>by
   unfold Yk;cases hw:ws.getD i none with
   |none=>rfl
   |some t=>exact Qm (pos i t hw).2
  have hc:∀y4 y5 y6 y7:Option Sl,KQ (gT 2 (gNC (gN 8) (gNC (gN 9) (gN0)))) (UZ (λd=>!isNon d) (UI 9)) (Kt (UM (UI 9) (UM (UI 0) (UM (ZU (US 3 (UI 8))) (UM (UI 8) (UK)))))) (Yl 0 (ws.map U3)) ([pb (.int (cs.length:Nat)),pb (.list (qs.map (K6 V))),pb (Kf ws),pb (.list (((Ut ws.length).map (Yk V ws qs)).map int)),y4,y5,y6,y7]++Uu 2 none) []=some ((Ze cs.length (UY V) ws).map UU):=by
   intro y4 y5 y6 y7
   have em:(Ze cs.length (UY V) ws).map UU=((Ut ws.length).map λi=>(match ws.getD i none with|none=>none|some t=>some (UU ⟨t.toNat,cs.length, -(Kb (UY V) i (some t)),some i⟩):Option D)).filterMap id:=by
    unfold Ze;rw[List.map_filterMap,List.filterMap_map]
    congr 1
    funext i;dsimp only[Function.comp,id];cases ws.getD i none<;>rfl
   rw[em];refine Nn (λZ=>∃z4 z5 z6 z7 x y,Z=[pb (.int (cs.length:Nat)),pb (.list (qs.map (K6 V))),pb (Kf ws),pb (.list (((Ut ws.length).map (Yk V ws qs)).map int)),z4,z5,z6,z7,x,y]) _ _ _ _ (by rw[Qb,Qq,Ys,Qb]) ?_ ⟨y4,y5,y6,y7,none,none,rfl⟩ (by rw[Ys,Qb,QE];omega);rintro i d e hdd he Z ⟨z4,z5,z6,z7,x,y,rfl⟩;obtain⟨z,hz,rfl⟩:=Y2 hdd;rw[Qd]at hz;cases hw:ws[i]? with
   |none=>rw[hw]at hz;cases hz
   |some o=>
   rw[hw]at hz;cases hz;have hil:i<ws.length:=(Qg.mp hw).1;have hg:=He hw;rw[Qd,QO hil]at he;have he:some (match ws.getD i none with|none=>none|some t=>some (UU ⟨t.toNat,cs.length, -(Kb (UY V) i (some t)),some i⟩):Option D)=some e:=he;rw[hg]at he;cases he;rw[QX];refine⟨_,Kr rfl (U2 (UR (Qa rfl) rfl) (U2 (UR (Qa rfl) rfl) Ks)),?_,?_,_,_,_,_,_,_,rfl⟩
   ·cases o with
    |none=>exact KJ (k:=λd=>!isNon d) (x:=PyData.none) (UL rfl)
    |some t=>exact KJ (k:=λd=>!isNon d) (x:=int t) (UL rfl)
   ·intro v hv;cases o with
    |none=>cases hv
    |some t=>
     cases hv;have hb:=hp.lo _ (pos i t hg).2;have et:((t.toNat:Nat):Int)=t:=by have:=hb.2.2.1;omega
     show _=Res.ok (PyData.tuple [.int ((t.toNat:Nat):Int),.int ((cs.length:Nat):Int),.int (-(Kb (UY V) i (some t))),.int (i:Nat)]) _;rw[et,show Kb (UY V) i (some t)=Yk V ws qs i by rw[hadE,hg]];exact YH (UO (UL rfl) (UO (UL rfl) (UO (SF (Kp rfl (UL rfl) (Pw hil))) (UO (UL rfl) UT)))) (Qa rfl)
  have nlS:∀S:List Stp,(S.map UU).all nl0=true:=λS=>Jj.mpr λd hd=>by obtain⟨s,_,rfl⟩:=Qu.mp hd;obtain⟨a,b,g,w⟩:=s;cases w<;>rfl
  have hcl:∀x4 x5 x6:Option Sl,Wh (Zu (YJ (UM (UI 2) (UK))) 2 (gT 2 (gNC (gN 8) (gNC (gN 9) (gN0)))) (UZ (λd=>!isNon d) (UI 9)) (Kt (UM (UI 9) (UM (UI 0) (UM (ZU (US 3 (UI 8))) (UM (UI 8) (UK))))))) [pb (.int (cs.length:Nat)),pb (.list (qs.map (K6 V))),pb (Kf ws),some (.own (((Ut ws.length).map (Yk V ws qs)).map int)),x4,x5,x6,none]=.ok ((Ze cs.length (UY V) ws).map UU) [pb (.int (cs.length:Nat)),pb (.list (qs.map (K6 V))),pb (Kf ws),some (.own (((Ut ws.length).map (Yk V ws qs)).map int)),x4,x5,x6,none]:=λx4 x5 x6=>
   B2 (Z':=ZG [pb (.int (cs.length:Nat)),pb (.list (qs.map (K6 V))),pb (Kf ws),some (.own (((Ut ws.length).map (Yk V ws qs)).map int)),x4,x5,x6,none]) (Yg (Xp (UO (UL rfl) UT) Xo) (hc _ _ _ _)) (nlS _)
  refine Kd (Ye (hcl _ _ _) (Qa rfl) rfl) ?_;apply KI;apply Zm (λk Z=>∃x4 x5 x6,Z=[pb (.int (cs.length:Nat)),pb (.list (qs.map (K6 V))),pb (Kf ws),some (.own (((Ut ws.length).map (Yk V ws qs)).map int)),x4,x5,x6,some (.own ((Ze cs.length (UY V) ws++KU cs.length (UY V) (qs.take k) ws).map UU))])
  case h1=>exact Zn (UL rfl) ZO
  case h0=>exact⟨_,_,_,by rw[JY];show _=[_,_,_,_,_,_,_,some (Sl.own ((Ze cs.length (UY V) ws++[]).map UU))];rw[Jb];rfl⟩
  case hst=>
   rintro k d Z hk ⟨x4,x5,x6,rfl⟩;rw[Qd]at hk;cases hq:qs[k]? with
   |none=>rw[hq]at hk;cases hk
   |some q=>
   rw[hq]at hk;cases hk;have hb:=hp.lo q (Qr hq);have hta:qs.take (k+1)=qs.take k++[q]:=by rw[JK,hq];rfl
   have hkl:k<qs.length:=(Qg.mp hq).1
   have hsz:((Ze cs.length (UY V) ws++KU cs.length (UY V) (qs.take k) ws).map UU).length<1000000:=by
    rw[Qb,Qi];have h1:(Ze cs.length (UY V) ws).length<=ws.length:=by unfold Ze;have:=Q8 (λi=>match ws.getD i none with|none=>none|some t=>some (⟨t.toNat,cs.length, -(Kb (UY V) i (some t)),some i⟩:Stp)) (Ut ws.length);rw[Qq]at this;exact this
    have h2:(KU cs.length (UY V) (qs.take k) ws).length<=qs.length:=by unfold KU;refine QR (Q8 _ _) ?_;rw[QP];omega
    omega
   refine⟨_,Kr rfl (U2 (UR (Qa rfl) rfl) (U2 (UR (Qa rfl) rfl) (U2 (UR (Qa rfl) rfl) Ks))),?_⟩;unfold MK;have e2:∀r:List Stp,KU cs.length (UY V) [q] ws=r->KU cs.length (UY V) (qs.take (k+1)) ws=KU cs.length (UY V) (qs.take k) ws++r:=λr hr=>by rw[hta];unfold KU at hr⊢;rw[Ua,hr]
   apply KB
   case h1=>exact U1 (Kp rfl (UL rfl) (Ox hb.1 hb.2.1)) (UL rfl) (EE (b:=some q.2))
   case h2=>
    intro hh;have hh:¬ws.getD q.1.toNat none=some q.2:=by simpa using hh
    have hpl:X9 [.int (cs.length:Nat),U3 (ws.getD q.1.toNat none)]=some (.int (plF cs.length (ws.getD q.1.toNat none))):=jW λt e=>by have:=hp.lo _ (pos _ t e).2;exact this.2.2.1
    refine Zv (XQ rfl (YH (UO (Kk (UO (UL rfl) (UO (Kp rfl (UL rfl) (Ox hb.1 hb.2.1)) UT)) rfl hpl) (UO (UL rfl) (UO (U1 (UL rfl) (Wo rfl (UL rfl) rfl (show oIx _ (.int q.1)=some (.int (Yk V ws qs q.1.toNat))from by have:=Pw (m:=ws.length) (h:=Yk V ws qs) (j:=q.1.toNat) (by omega);rw[show((q.1.toNat:Nat):Int)=q.1 by omega]at this;exact this)) Yw) (UO (UL rfl) UT)))) (Qa rfl)) rfl hsz rfl) (KO ⟨some (.pub (.int q.1)),pb (.int q.2),pb (.int (V q.1 q.2)),?_⟩);have er:KU cs.length (UY V) [q] ws=[⟨plF cs.length (ws.getD q.1.toNat none),q.2.toNat,UY V q-Kb (UY V) q.1.toNat (ws.getD q.1.toNat none),some q.1.toNat⟩]:=by unfold KU;rw[Jx,Qm hh];rfl
    rw[e2 _ er,←QY,Qz (l₂:=[_])];show _=[_,_,_,_,_,_,_,some (Sl.own (_++[PyData.tuple [_,.int ((q.2.toNat:Nat):Int),.int (UY V q-Kb (UY V) q.1.toNat (ws.getD q.1.toNat none)),.int ((q.1.toNat:Nat):Int)]]))];rw[show((q.2.toNat:Nat):Int)=q.2 by omega,show((q.1.toNat:Nat):Int)=q.1 by omega,←hadE];rfl
   case h3=>
    intro hh;have hh:ws.getD q.1.toNat none=some q.2:=by simpa using hh
    refine KR (KO ⟨some (.pub (.int q.1)),pb (.int q.2),pb (.int (V q.1 q.2)),?_⟩);have er:KU cs.length (UY V) [q] ws=[]:=by unfold KU;rw[List.filterMap_cons,if_neg (by rw[hh];simp)];rfl
    rw[e2 _ er,Jb];rfl
  case hend=>rintro Z ⟨x4,x5,x6,rfl⟩;rw[hth];exact KE (Kw (Yt rfl rfl) rfl)
end
section
variable{cs:List Int}{ls:L3}{ws:LO}{V:Int->Int->Int}{qs:LP}
theorem AW(g:Good cs ls)(hm:ws.length=ls.length):W9 [Kg cs ls,Kf ws]=some (.list ((ZJ cs ws++ZI cs.length).map UU)):=by
 refine KZ (Z:=[pb (Kg cs ls),pb (Kf ws),none,none,none]) rfl ?_;unfold TN;have c6:=g.c6;have hlc:Ka [.list (cs.map int)]=some (.int cs.length):=by rw[Zd,Qb]
 refine Kd (Kq (Zw (UO (Kp rfl UV We) UT) hlc) (Qa rfl) rfl) ?_;refine Kd (Kq (Kk (UO (UL rfl) (UO (UL rfl) UT)) rfl (xc g)) (Qa rfl) rfl) ?_;have hll:(Xb cs ws).length=cs.length:=by unfold Xb;rw[Qb,Qq]
 have hc:KQ (gT 2 (gNC (gN 5) (gNC (gN 6) (gN0)))) (K7 (oIB λi j=>decide (j<i)) 6 (UQ (.int 0))) (Kt (UM (UI 5) (UM (UI 2) (UM (UQ (.int 0)) (UM (UQ .none) (UK)))))) (Yl 0 ((Xb cs ws).map int)) (Kl [pb (Kg cs ls),pb (Kf ws),pb (.int cs.length),pb (.list ((Xb cs ws).map int)),none]++Uu 2 none) []=some ((ZJ cs ws).map UU):=by
  have em:(ZJ cs ws).map UU=((Ut cs.length).map λt=>(if 0<cs.getD t 0-((ws.count (some (t:Int)):Nat):Int)then some (UU ⟨t,cs.length,0,none⟩)else none:Option D)).filterMap id:=by
   unfold ZJ;rw[List.map_filterMap,List.filterMap_map]
   congr 1
   funext i;dsimp only[Function.comp,id]
   split<;>rfl
  rw[em];refine Nn (λZ=>∃x y,Z=[pb (Kg cs ls),pb (Kf ws),pb (.int cs.length),pb (.list ((Xb cs ws).map int)),none,x,y]) _ _ _ _ (by rw[Qb,Qq,Ys,Qb,hll]) ?_ ⟨none,none,rfl⟩ (by rw[Ys,Qb,hll,QE];omega);rintro i d e hd he Z ⟨x,y,rfl⟩;obtain⟨z,hz,rfl⟩:=Y2 hd;rw[Qd]at hz
  have hil:i<cs.length:=by
   rw[←hll];cases hw:(Xb cs ws)[i]? with
   |none=>rw[hw]at hz;cases hz
   |some v=>exact(Qg.mp hw).1
  have hlv:(Xb cs ws)[i]?=some (cs.getD i 0-((ws.count (some (i:Int)):Nat):Int)):=by unfold Xb;rw[Qd,QO hil];rfl
  rw[hlv]at hz;cases hz;rw[Qd,QO hil]at he;cases he;rw[QX];refine⟨_,Kr rfl (U2 (UR (Qa rfl) rfl) (U2 (UR (Qa rfl) rfl) Ks)),?_,?_,_,_,rfl⟩
  ·have e:(if 0<cs.getD i 0-((ws.count (some (i:Int)):Nat):Int)then some (UU ⟨i,cs.length,0,none⟩)else none:Option D).isSome=decide (0<cs.getD i 0-((ws.count (some (i:Int)):Nat):Int)):=by
    by_cases h:0<cs.getD i 0-((ws.count (some (i:Int)):Nat):Int)
    ·rw[Qm h,Jc h];rfl
    ·rw[QB h,QT h];rfl
   rw[e];exact ZN rfl UV rfl
  ·intro v hv;dsimp only at hv;split at hv
   ·cases hv;exact YH (UO (UL rfl) (UO (UL rfl) (UO UV (UO UV UT)))) (Qa rfl)
   ·cases hv
 refine Kd (Ye (Yg (Xp (UO (UL rfl) UT) Xo) hc) (Qa rfl) rfl) ?_;have hrl:(ZY 0 (cs.length:Int)).length=cs.length:=by rw[Yx];omega
 have hc2:∀x4:Option Sl,KQ (gN 5) (UQ true) (Kt (UM (UI 2) (UM (UI 5) (UM (UQ (.int 0)) (UM (UQ .none) (UK)))))) (ZY 0 (cs.length:Int)) (Kl [pb (Kg cs ls),pb (Kf ws),pb (.int cs.length),pb (.list ((Xb cs ws).map int)),x4]++Uu 1 none) []=some ((ZI cs.length).map UU):=λx4=>by refine Xl (λZ=>∃z x,Z=[pb (Kg cs ls),pb (Kf ws),pb (.int cs.length),pb (.list ((Xb cs ws).map int)),z,x]) _ _ _ _ (by unfold ZI;rw[Qb,Qb,Qq,hrl]) ?_ ⟨_,none,rfl⟩ (by rw[hrl,QE];omega);rintro i d e hd he Z ⟨z,x,rfl⟩;obtain⟨rfl,hlt⟩:=XS hd;unfold ZI at he;rw[Qd,Qd,QO (by omega)]at he;cases he;rw[Jt];exact⟨_,UR (Qa rfl) rfl,rfl,YH (UO (UL rfl) (UO (UL rfl) (UO UV (UO UV UT)))) (Qa rfl),_,_,rfl⟩
 have h1:(ZJ cs ws).length<=cs.length:=by unfold ZJ;have:=Q8 (λt=>if 0<cs.getD t 0-((ws.count (some (t:Int)):Nat):Int)then some (⟨t,cs.length,0,none⟩:Stp)else none) (Ut cs.length);rw[Qq]at this;exact this
 have h2:(ZI cs.length).length=cs.length:=by unfold ZI;rw[Qb,Qq]
 refine Kw (U1 (Yt rfl rfl) (KJ (Yg (Xj (UO (UL rfl) UT) (Xf (by omega) (by omega))) (hc2 _))) (Xg (by rw[Qb,Qb];omega))) ?_;rw[Qz]
theorem NB(g:Good cs ls)(hm:ws.length=ls.length)(hp:Yc cs.length ws.length qs)(hd:Zt cs qs ws.length ws)(hq1:qs.length<=1000):Yr [Kg cs ls,.list (qs.map (K6 V)),Kf ws]=some (.list ((ZM cs (UY V) qs ws).map UU)):=by
 refine KZ (Z:=[pb (Kg cs ls),pb (.list (qs.map (K6 V))),pb (Kf ws)]) rfl ?_;unfold TM;have c6:=g.c6;have l7:=g.l7;have hlc:Ka [.list (cs.map int)]=some (.int (cs.length:Nat)):=by rw[Zd,Qb]
 have h1:(Ze cs.length (UY V) ws).length<=ws.length:=by unfold Ze;have:=Q8 (λi=>match ws.getD i none with|none=>none|some t=>some (⟨t.toNat,cs.length, -(Kb (UY V) i (some t)),some i⟩:Stp)) (Ut ws.length);rw[Qq]at this;exact this
 have h2:(KU cs.length (UY V) qs ws).length<=qs.length:=by unfold KU;exact Q8 _ _
 have h3:(ZJ cs ws).length<=cs.length:=by unfold ZJ;have:=Q8 (λt=>if 0<cs.getD t 0-((ws.count (some (t:Int)):Nat):Int)then some (⟨t,cs.length,0,none⟩:Stp)else none) (Ut cs.length);rw[Qq]at this;exact this
 have h4:(ZI cs.length).length=cs.length:=by unfold ZI;rw[Qb,Qq]
 refine Kw (U1 (Kk (UO (Zw (UO (Kp rfl UV We) UT) hlc) (UO (UL rfl) (UO (UL rfl) UT))) rfl (Aq hp hd (by omega) hq1)) (Kk (UO (UL rfl) (UO (UL rfl) UT)) rfl (AW g hm)) (Xg (by rw[Qb,Qb,Qi,Qi];omega))) ?_;unfold ZM;rw[Qz (l₁:=Ze cs.length (UY V) ws++KU cs.length (UY V) qs ws)]
theorem AV(hm:ws.length<=100)(hc:cs.length<=100)(hq1:qs.length<=500){f:Int×Int->Int}:(ZM cs f qs ws).length<=1000:=by
 have h1:(Ze cs.length f ws).length<=ws.length:=by unfold Ze;have:=Q8 (λi=>match ws.getD i none with|none=>none|some t=>some (⟨t.toNat,cs.length, -(Kb f i (some t)),some i⟩:Stp)) (Ut ws.length);rw[Qq]at this;exact this
 have h2:(KU cs.length f qs ws).length<=qs.length:=by unfold KU;exact Q8 _ _
 have h3:(ZJ cs ws).length<=cs.length:=by unfold ZJ;have:=Q8 (λt=>if 0<cs.getD t 0-((ws.count (some (t:Int)):Nat):Int)then some (⟨t,cs.length,0,none⟩:Stp)else none) (Ut cs.length);rw[Qq]at this;exact this
 have h4:(ZI cs.length).length=cs.length:=by unfold ZI;rw[Qb,Qq]
 unfold ZM;rw[Qi,Qi,Qi];omega
theorem Wy{m:Nat}{f:Int×Int->Int}(hp:Yc cs.length m qs)(hd:Zt cs qs m ws):∀s∈ZM cs f qs ws,IsSt cs f qs ws s:=λs hs=>by
 have gt:∀{i:Nat}{o:Option Int},i<ws.length->ws.getD i none=o->ws[i]?=some o:=λ{i o} hi e=>by rw[Qo,Qe hi]at e;rw[Qe hi];exact JX some e
 unfold ZM at hs;rcases QJ.mp hs with hs|hs
 ·rcases QJ.mp hs with hs|hs
  ·unfold Ze at hs;obtain⟨i,hi,e⟩:=Jk.mp hs;have hi:=Q9.mp hi;cases hw:ws.getD i none with
   |none=>rw[hw]at e;cases e
   |some t=>
    rw[hw]at e;have e:=Q5 e;subst e;have:=IsSt.mv (cs:=cs) (f:=f) (qs:=qs) (gt hi hw) (o':=none) (by intro z;cases z) (λt e=>by cases e);have e2:Kb f i none-Kb f i (some t) = -(Kb f i (some t)):=by show 0-_=_;omega
    rw[e2]at this;exact this
  ·unfold KU at hs;obtain⟨q,hq,e⟩:=Jk.mp hs;have hb:=hp.lo q hq;split at e
   ·rename_i hne;have e:=Q5 e;subst e;have hi:q.1.toNat<ws.length:=by rw[hd.len];omega
    have ei:((q.1.toNat:Nat):Int)=q.1:=by omega
    have:=IsSt.mv (cs:=cs) (f:=f) (qs:=qs) (gt hi rfl) (o':=some q.2) (λz=>hne z.symm) (λt e=>by cases e;rw[ei];exact hq);have e2:Kb f q.1.toNat (some q.2)=f q:=by show f (((q.1.toNat:Nat):Int),q.2)=_;rw[ei]
    rw[e2]at this;exact this
   ·cases e
 ·rcases QJ.mp hs with hs|hs
  ·unfold ZJ at hs;obtain⟨t,ht,e⟩:=Jk.mp hs;have ht:=Q9.mp ht;split at e
   ·rename_i hl;have e:=Q5 e;subst e;exact .left (c:=cs.getD t 0) (by rw[Qo,Qe ht];rfl) (by omega)
   ·cases e
  ·unfold ZI at hs;obtain⟨t,ht,rfl⟩:=Qu.mp hs;exact .give (Q9.mp ht)
theorem Nk{m:Nat}{f:Int×Int->Int}(hp:Yc cs.length m qs)(hd:Zt cs qs m ws):∀s,IsSt cs f qs ws s->s∈ZM cs f qs ws:=λs hs=>by
 unfold ZM;cases hs with
 |@mv i o o' h hne hq=>
  have hi:i<ws.length:=(Qg.mp h).1;have hg:=He h;refine Q0 _ ?_;cases o' with
  |none=>
   refine Q0 _ ?_;cases o with
   |none=>exact absurd rfl hne
   |some t=>unfold Ze;refine Jk.mpr ⟨i,Q9.mpr hi,?_⟩;rw[hg];show some (⟨t.toNat,cs.length, -(Kb f i (some t)),some i⟩:Stp)=some ⟨t.toNat,cs.length,0-Kb f i (some t),some i⟩;rw[show(0:Int)-Kb f i (some t) = -(Kb f i (some t))by omega]
  |some t=>refine QL _ ?_;have hqt:=hq t rfl;have hb:=hp.lo _ hqt;unfold KU;refine Jk.mpr ⟨((i:Int),t),hqt,?_⟩;dsimp only;rw[QD,hg,Qm (λz=>hne z.symm)];rfl
 |@left t c h hl=>
  refine QL _ (Q0 _ ?_);have ht:t<cs.length:=(Qg.mp h).1;unfold ZJ;refine Jk.mpr ⟨t,Q9.mpr ht,?_⟩;have e:cs.getD t 0=c:=by rw[Qo,h];rfl
  rw[e,Qm (by omega)]
 |@give t h=>refine QL _ (QL _ ?_);unfold ZI;exact Qu.mpr ⟨t,Q9.mpr h,rfl⟩
end
theorem MB{W:Tab}{p:Nat}(h:p<W.length):oIx (.list (W.map ZZ)) (.int (p:Int))=some (ZZ (ent W p)):=by refine Zc ?_;unfold ent;rw[Qd,Qo,Qe h];rfl
theorem AU{W:Tab}{S:List Stp}(hS:∀s∈S,s.a<W.length/\s.b<W.length)(hW:∀p,(ent W p).2.length<=1000)(hl:W.length<=1000):W8 [.list (W.map ZZ),.list (S.map UU)]=some (.list ((Pj W S).map ZZ)):=by
 refine KZ (Z:=[pb (.list (W.map ZZ)),pb (.list (S.map UU)),none,none,none,none,none,none,none,none]) rfl ?_;unfold TL;refine Kd (Ye (O9 rfl (show XH [.list (W.map ZZ)]=some (W.map ZZ)from rfl)) (Qa rfl) rfl) ?_;apply KI;apply Zm (λk Z=>∃x3 x4 x5 x6 x7 x8 x9,Z=[pb (.list (W.map ZZ)),pb (.list (S.map UU)),some (.own (((S.take k).foldl (Yv W) W).map ZZ)),x3,x4,x5,x6,x7,x8,x9])
 case h1=>exact Zn (UL rfl) ZO
 case h0=>exact⟨_,_,_,_,_,_,_,rfl⟩
 case hst=>
  rintro k d Z hk ⟨x3,x4,x5,x6,x7,x8,x9,rfl⟩;rw[Qd]at hk;cases hq:S[k]? with
  |none=>rw[hq]at hk;cases hk
  |some s=>
  rw[hq]at hk;cases hk;have hs:=hS s (Qr hq);have hta:S.take (k+1)=S.take k++[s]:=by rw[JK,hq];rfl
  have hfl:(S.take (k+1)).foldl (Yv W) W=Yv W ((S.take k).foldl (Yv W) W) s:=by rw[hta,List.foldl_append];rfl
  have hTl:∀(R:List Stp)(T:Tab),(R.foldl (Yv W) T).length=T.length:=λR=>by
   induction R with
   |nil=>intro T;rfl
   |cons x R ih=>intro T;rw[J8,ih,Au]
  generalize hT:(S.take k).foldl (Yv W) W=T at hfl⊢;have hTlen:T.length=W.length:=by rw[←hT,hTl]
  refine⟨_,UR (Qa rfl) rfl,?_⟩;unfold Lg;refine Kd (Wi (UL rfl) (Kr rfl (U2 (UR (Qa rfl) rfl) (U2 (UR (Qa rfl) rfl) (U2 (UR (Qa rfl) rfl) (U2 (UR (Qa rfl) rfl) Ks)))))) ?_;refine Kd (Wi (Kp rfl (UL rfl) (MB hs.1)) (Kr rfl (U2 (UR (Qa rfl) rfl) (U2 (UR (Qa rfl) rfl) Ks)))) ?_;have i0:oIx (ZZ (ent T s.b)) (.int 0)=some (.int (ent T s.b).1):=Zc (j:=0) rfl;apply KB
  case h1=>exact U1 (U1 (UL rfl) (UL rfl) KM) (U1 (Wo rfl (UL rfl) rfl (MB (by rw[hTlen];exact hs.2))) UV i0) rfl
  case h2=>
   intro hh;have hh:(ent T s.b).1<(ent W s.a).1+s.g:=Qa hh;have hadd:UW (.list ((ent W s.a).2.map UU)) (.list [UU s])=some (.list (((ent W s.a).2++[s]).map UU)):=by rw[Xg (by rw[Qb];have:=hW s.a;show _+1<=_;omega),Qz];rfl
   refine Zv (RD (YH (UO (U1 (UL rfl) (UL rfl) KM) (UO (U1 (UL rfl) (Zo (UO (UL rfl) UT) (Qa rfl)) hadd) UT)) (Qa rfl)) rfl (UL rfl) rfl ⟨Int.natCast_nonneg _,by rw[Qb,hTlen];have:=hs.2;omega⟩ rfl) (KO ⟨some (.pub (UU s)),pb (.int s.a),pb (.int s.b),pb (.int s.g),pb (YD s.w),pb (.int (ent W s.a).1),pb (.list ((ent W s.a).2.map UU)),?_⟩);rw[hfl];unfold Yv;rw[Qm hh,List.map_set];show [_,_,some (Sl.own ((T.map ZZ).set ((s.b:Int)).toNat _)),_,_,_,_,_,_,_]=_;rw[QD];rfl
  case h3=>intro hh;have hh:¬(ent T s.b).1<(ent W s.a).1+s.g:=Ja hh;refine KR (KO ⟨some (.pub (UU s)),pb (.int s.a),pb (.int s.b),pb (.int s.g),pb (YD s.w),pb (.int (ent W s.a).1),pb (.list ((ent W s.a).2.map UU)),?_⟩);rw[hfl];unfold Yv;rw[QB hh];rfl
 case hend=>rintro Z ⟨x3,x4,x5,x6,x7,x8,x9,rfl⟩;refine KE (Kw (Yt rfl rfl) ?_);rw[Qb,Jm];rfl
theorem Hs{n:Nat}{S:List Stp}(hS:∀s∈S,s.a<n/\s.b<n)(hn:n<=100):XE [.int (n:Nat),.list (S.map UU)]=some (.list ((KG n S n).map ZZ)):=by
 refine KZ (Z:=[pb (.int (n:Nat)),pb (.list (S.map UU)),none,none]) rfl ?_;unfold TK;have hmul:Ke (.list [.tuple [.int 0,.list []]]) (.int (n:Nat))=some (.list ((KG n S 0).map ZZ)):=by rw[Pm (by omega)];unfold KG;rw[JJ];rfl
 refine Kd (Kq (U1 (Zo (UO (YH (UO UV (UO (Zo UT (Qa rfl)) UT)) (Qa rfl)) UT) (Qa rfl)) (UL rfl) hmul) (Qa rfl) rfl) ?_;apply KI;apply Zm (λk Z=>k<=n/\∃x3,Z=[pb (.int (n:Nat)),pb (.list (S.map UU)),pb (.list ((KG n S k).map ZZ)),x3])
 case h1=>exact Xj (UO (UL rfl) UT) (Xf (by omega) (by omega))
 case h0=>exact⟨JR _,_,rfl⟩
 case hst=>rintro k d Z hk ⟨_,x3,rfl⟩;obtain⟨rfl,hlt⟩:=XS hk;refine⟨_,UR (Qa rfl) rfl,?_⟩;unfold Lf;have hl:=Re hS k;have hlo:=AU (W:=KG n S k) (S:=S) (by rw[hl];exact hS) (λp=>QR ((P2 hS k).1 p) (by omega)) (by rw[hl];omega);exact Zv (Kq (Kk (UO (UL rfl) (UO (UL rfl) UT)) rfl hlo) (Qa rfl) rfl) (KO ⟨by omega,_,rfl⟩)
 case hend=>rintro Z ⟨_,x3,rfl⟩;refine KE (Kw (UL rfl) ?_);rw[Yx,show((n:Int)-0).toNat=n by omega]
theorem E4{xs:List D}{i j:Nat}(hij:i<=j)(hj:j<=xs.length):DL.cutD xs (some (i:Int)) (some (j:Int))=(xs.take j).drop i:=by unfold DL.cutD HT.sIx;dsimp only;rw[QB (by omega),QB (by omega),QD,QD,Nat.min_eq_left hj,Nat.min_eq_left (show i<=xs.length by omega),List.drop_take]
theorem xk{w:List Stp}(hl:w.length<=1000):∃d,W7 [.list (w.map UU)]=some d/\∃r,d=.list (r.map UU)/\((Oy w/\r=[]) ∨ ∃i j,Oz w i j/\r=(w.take (j+1)).drop i):=by
 refine XZ (Z:=[pb (.list (w.map UU)),none,none,none]) rfl ?_;unfold TJ;apply KI;apply Zm (λk Z=>(∃x1 x2 x3,Z=[pb (.list (w.map UU)),x1,x2,x3])/\∀j'<k,∀i' ≤ j',∀s t,w[i']?=some s->w[j']?=some t->s.a≠t.b)
 case h1=>exact Xp (UO (UL rfl) UT) Xo
 case h0=>exact⟨⟨_,_,_,rfl⟩,λj' h=>absurd h (Js _)⟩
 case hst=>
  rintro k d Z hk ⟨⟨x1,x2,x3,rfl⟩,hb⟩;obtain⟨z,hz,rfl⟩:=Y2 hk;rw[Qd]at hz;cases ht:w[k]? with
  |none=>rw[ht]at hz;cases hz
  |some t=>
  rw[ht]at hz;cases hz;have hkl:k<w.length:=(Qg.mp ht).1;rw[QX];refine⟨_,Kr rfl (U2 (UR (Qa rfl) rfl) (U2 (UR (Qa rfl) rfl) Ks)),?_⟩;unfold Ld;apply Zm (λl Z=>(∃x3,Z=[pb (.list (w.map UU)),pb (.int (k:Nat)),pb (UU t),x3])/\∀i'<l,∀s,w[i']?=some s->s.a≠t.b)
  case h1=>exact Xj (UO (U1 (UL rfl) UV KM) UT) (Xf (by omega) (by omega))
  case h0=>exact⟨⟨_,rfl⟩,λi' h=>absurd h (Js _)⟩
  case hst=>
   rintro l d Z hl2 ⟨⟨x3,rfl⟩,hc⟩;obtain⟨rfl,hlt⟩:=XS hl2;have hlk:l<=k:=by omega
   obtain⟨s,hs⟩:∃s,w[l]?=some s:=⟨_,Qe (by omega)⟩
   refine⟨_,UR (Qa rfl) rfl,?_⟩;have zl:(0:Int)+(l:Int)=l:=by omega
   rw[zl];unfold Le;have il:oIx (.list (w.map UU)) (.int (l:Int))=some (UU s):=Zc (by rw[Qd,hs];rfl);have i0:oIx (UU s) (.int 0)=some (.int s.a):=Zc (j:=0) rfl;have i1:oIx (UU t) (.int 1)=some (.int t.b):=Zc (j:=1) rfl;apply KB
   case h1=>exact U1 (U1 (Kp rfl (UL rfl) il) UV i0) (Kp rfl UV i1) Y1
   case h2=>
    intro hh;have hh:(s.a:Int)=(t.b:Int):=Qa hh;have hcut:YQ (.list (w.map UU)) (some (l:Int)) (some ((k:Int)+1))=some (.list (((w.take (k+1)).drop l).map UU)):=by rw[VH,show((k:Int)+1)=((k+1:Nat):Int)by omega,E4 (by omega) (by rw[Qb];omega),List.map_drop,List.map_take]
    refine Kw (VE (UL rfl) (Xi (UL rfl)) (Xi (U1 (UL rfl) UV KM)) hcut) (VO (VO (Wl ⟨_,rfl,_,rfl,.inr ⟨l,k,⟨hlk,hkl,λs' t' e1 e2=>?_,hb⟩,rfl⟩⟩)));rw[hs]at e1;rw[ht]at e2;cases e1;cases e2;omega
   case h3=>
    intro hh;have hh:¬(s.a:Int)=(t.b:Int):=Ja hh;refine KR (KO ⟨⟨_,rfl⟩,λi' hi' s' e=>?_⟩);rcases JW.mp hi' with hi'|rfl
    ·exact hc i' hi' s' e
    ·rw[hs]at e;cases e;omega
  case hend=>
   rintro Z ⟨⟨x3,rfl⟩,hc⟩;refine KO ⟨⟨_,_,_,rfl⟩,λj' hj' i' hi' s' t' e1 e2=>?_⟩;rcases JW.mp hj' with hj'|rfl
   ·exact hb j' hj' i' hi' s' t' e1 e2
   ·rw[ht]at e2;cases e2;exact hc i' (by rw[Yx];omega) s' e1
 case hend=>rintro Z ⟨⟨x1,x2,x3,rfl⟩,hb⟩;refine KE (Kw (Zo UT (Qa rfl)) ⟨_,rfl,[],rfl,.inl ⟨λj hj=>hb j (by rw[Ys,Qb];exact hj),rfl⟩⟩)
def Xd(n:Nat)(s:Stp):Option (Nat×Option Int):=s.w.map λi=>(i,Yy n s.b)
def ZQ(p:Nat×Option Int):D:=.tuple [.int (p.1:Nat),U3 p.2]
def rot(b:Nat)(r:List Stp):List Stp:=r.drop b++r.take b
theorem Pv(b:Nat)(r:List Stp):(rot b r).Perm r:=by unfold rot;have:=List.perm_append_comm (l₁:=r.drop b) (l₂:=r.take b);rw[Ub]at this;exact this
theorem GY{n:Nat}{r:List Stp}(hl:r.length<=1000):∃b,b<=r.length/\((∃s,r[b]?=some s/\s.a=n)∨(b=0/\∀s∈r,s.a≠n))/\Y9 [.int (n:Nat),.list (r.map UU)]=some (.list (((rot b r).filterMap (Xd n)).map ZQ)):=by
 have key:∃d,Y9 [.int (n:Nat),.list (r.map UU)]=some d/\∃b,b<=r.length/\((∃s,r[b]?=some s/\s.a=n)∨(b=0/\∀s∈r,s.a≠n))/\d=.list (((rot b r).filterMap (Xd n)).map ZQ):=by
  refine XZ (Z:=[pb (.int (n:Nat)),pb (.list (r.map UU)),none,none,none,none,none,none,none,none]) rfl ?_;unfold TH;refine Kd (Kq UV (Qa rfl) rfl) ?_;apply KI;apply Zm (λk Z=>∃(b:Nat)(x3 x4:Option Sl),Z=[pb (.int (n:Nat)),pb (.list (r.map UU)),pb (.int (b:Nat)),x3,x4,none,none,none,none,none]/\b<=r.length/\((∃s,r[b]?=some s/\s.a=n)∨(b=0/\∀s∈r.take k,s.a≠n)))
  case h1=>exact Xp (UO (UL rfl) UT) Xo
  case h0=>exact⟨0,_,_,rfl,JR _,.inr ⟨rfl,λs h=>by rw[JY]at h;cases h⟩⟩
  case hst=>
   rintro k d Z hk ⟨b,x3,x4,rfl,hbl,hb⟩;obtain⟨z,hz,rfl⟩:=Y2 hk;rw[Qd]at hz;cases ht:r[k]? with
   |none=>rw[ht]at hz;cases hz
   |some t=>
   rw[ht]at hz;cases hz;have hkl:k<r.length:=(Qg.mp ht).1;rw[QX];refine⟨_,Kr rfl (U2 (UR (Qa rfl) rfl) (U2 (UR (Qa rfl) rfl) Ks)),?_⟩;unfold MR;have i0:oIx (UU t) (.int 0)=some (.int t.a):=Zc (j:=0) rfl;apply KB
   case h1=>exact U1 (Kp rfl UV i0) (UL rfl) Y1
   case h2=>intro hh;have hh:(t.a:Int)=(n:Int):=Qa hh;exact Zv (Kq (UL rfl) (Qa rfl) rfl) (KO ⟨k,_,_,rfl,by omega,.inl ⟨t,ht,by omega⟩⟩)
   case h3=>
    intro hh;have hh:¬(t.a:Int)=(n:Int):=Ja hh;refine KR (KO ⟨b,_,_,rfl,hbl,?_⟩);rcases hb with hb|⟨hb,hc⟩
    ·exact .inl hb
    ·refine .inr ⟨hb,λs hs=>?_⟩;rw[JK,ht]at hs;rcases QJ.mp hs with hs|hs
     ·exact hc s hs
     ·rw[Qv.mp hs];omega
  case hend=>
   rintro Z ⟨b,x3,x4,rfl,hbl,hb⟩;refine KE ?_;have hb':(∃s,r[b]?=some s/\s.a=n)∨(b=0/\∀s∈r,s.a≠n):=by rw[Ys,Qb,Jm]at hb;exact hb
   refine Kd (Ye (Wr UT (Qa rfl)) (Qa rfl) rfl) ?_;have c1:YQ (.list (r.map UU)) (some (b:Int)) none=some (.list ((r.drop b).map UU)):=by rw[VH,Ap (by rw[Qb];exact hbl),List.map_drop]
   have c2:YQ (.list (r.map UU)) none (some (b:Int))=some (.list ((r.take b).map UU)):=by rw[VH,ED (by rw[Qb];exact hbl),List.map_take]
   have c3:UW (.list ((r.drop b).map UU)) (.list ((r.take b).map UU))=some (.list ((rot b r).map UU)):=by rw[Xg (by rw[Qb,Qb,Jh,QP];omega)];unfold rot;rw[Qz]
   apply KI;apply Zm (λk Z=>∃x6 x7 x8 x9,Z=[pb (.int (n:Nat)),pb (.list (r.map UU)),pb (.int (b:Nat)),x3,x4,some (.own ((((rot b r).take k).filterMap (Xd n)).map ZQ)),x6,x7,x8,x9])
   case h1=>exact Zn (U1 (VE (UL rfl) (Xi (UL rfl)) UV c1) (VE (UL rfl) UV (Xi (UL rfl)) c2) c3) ZO
   case h0=>exact⟨_,_,_,_,rfl⟩
   case hst=>
    rintro k d Z hk ⟨x6,x7,x8,x9,rfl⟩;rw[Qd]at hk;cases hq:(rot b r)[k]? with
    |none=>rw[hq]at hk;cases hk
    |some s=>
    rw[hq]at hk;cases hk;have hkl:k<(rot b r).length:=(Qg.mp hq).1;have hrl:(rot b r).length=r.length:=(Pv b r).length_eq;have hta:(rot b r).take (k+1)=(rot b r).take k++[s]:=by rw[JK,hq];rfl
    refine⟨_,Kr rfl (U2 (UR (Qa rfl) rfl) (U2 (UR (Qa rfl) rfl) (U2 (UR (Qa rfl) rfl) (U2 (UR (Qa rfl) rfl) Ks)))),?_⟩;unfold MS;have hsz:((((rot b r).take k).filterMap (Xd n)).map ZQ).length<1000000:=by rw[Qb];have:=Q8 (Xd n) ((rot b r).take k);rw[QP]at this;omega
    cases hw:s.w with
    |none=>
     apply KB
     case h1=>exact KJ (k:=λd=>!isNon d) (x:=YD none) (UL rfl)
     case h2=>intro hh;cases hh
     case h3=>
      intro _;refine KR (KO ⟨some (.pub (.int s.a)),pb (.int s.b),pb (.int s.g),pb (YD none),?_⟩);rw[hta,Ua];have:[s].filterMap (Xd n)=[]:=by unfold Xd;rw[Jx,hw];rfl
      rw[this,Jb];rfl
    |some i=>
     apply KB
     case h1=>exact KJ (k:=λd=>!isNon d) (x:=YD (some i)) (UL rfl)
     case h3=>intro hh;cases hh
     case h2=>
      intro _
      have htest:∀Z:UJ,Z[7]?=some (some (.pub (.int (s.b:Int))))->Z[0]?=some (some (.pub (.int (n:Int))))->mIf (K7 oEq 7 (UI 0)) (UQ .none) (UI 7) Z=.ok (U3 (Yy n s.b)) Z:=λZ h7 h0=>by
       unfold Yy;by_cases z:s.b=n
       ·rw[Qm z];exact N4 (ZN h7 (UL h0) (by rw[Y1,Jc (by rw[z])])) UV
       ·rw[QB z];exact Oj (ZN h7 (UL h0) (by rw[Y1,QT (by omega)])) (UL h7)
      refine Zv (XQ rfl (YH (UO (UL rfl) (UO (htest _ rfl rfl) UT)) (Qa rfl)) rfl hsz rfl) (KO ⟨some (.pub (.int s.a)),pb (.int s.b),pb (.int s.g),pb (YD (some i)),?_⟩);rw[hta,Ua];have:[s].filterMap (Xd n)=[(i,Yy n s.b)]:=by unfold Xd;rw[Jx,hw];rfl
      rw[this,Qz];rfl
   case hend=>rintro Z ⟨x6,x7,x8,x9,rfl⟩;refine KE (Kw (Yt rfl rfl) ⟨_,rfl,b,hbl,hb',?_⟩);rw[Qb,Jm]
 obtain⟨d,e,b,h1,h2,rfl⟩:=key;exact⟨b,h1,h2,e⟩
theorem PV(n:Nat):∀(R:List Stp)(d:LO),(R.filterMap (Xd n)).foldl (λd p=>d.set p.1 p.2) d=R.foldl (app n) d
 |[],d=>rfl
 |s::R,d=>by
  rw[J8,Jx];unfold Xd app;cases s.w with
  |none=>exact PV n R d
  |some i=>exact PV n R (d.set i (Yy n s.b))
theorem Hr{ws:LO}{tk:List (Nat×Option Int)}(h:∀p∈tk,p.1<ws.length):XF [Kf ws,.list (tk.map ZQ)]=some (Kf (tk.foldl (λd p=>d.set p.1 p.2) ws)):=by
 refine KZ (Z:=[pb (Kf ws),pb (.list (tk.map ZQ)),none,none,none]) rfl ?_;unfold TU;refine Kd (Ye (O9 rfl (show XH [Kf ws]=some (ws.map U3)from rfl)) (Qa rfl) rfl) ?_
 have hlen:∀(R:List (Nat×Option Int))(d:LO),(R.foldl (λd p=>d.set p.1 p.2) d).length=d.length:=λR=>by
  induction R with
  |nil=>intro d;rfl
  |cons p R ih=>intro d;rw[J8,ih,Q6]
 apply KI;apply Zm (λk Z=>∃x3 x4,Z=[pb (Kf ws),pb (.list (tk.map ZQ)),some (.own (((tk.take k).foldl (λd p=>d.set p.1 p.2) ws).map U3)),x3,x4])
 case h1=>exact Zn (UL rfl) ZO
 case h0=>exact⟨_,_,rfl⟩
 case hst=>
  rintro k d Z hk ⟨x3,x4,rfl⟩;rw[Qd]at hk;cases hq:tk[k]? with
  |none=>rw[hq]at hk;cases hk
  |some p=>
  rw[hq]at hk;cases hk;have hpl:=h p (Qr hq);have hta:tk.take (k+1)=tk.take k++[p]:=by rw[JK,hq];rfl
  refine⟨_,Kr rfl (U2 (UR (Qa rfl) rfl) (U2 (UR (Qa rfl) rfl) Ks)),?_⟩;unfold MQ;refine Zv (RD (UL rfl) rfl (UL rfl) rfl ⟨Int.natCast_nonneg _,by rw[Qb,hlen];omega⟩ rfl) (KO ⟨some (.pub (.int (p.1:Nat))),pb (U3 p.2),?_⟩);rw[hta,List.foldl_append];show [_,_,some (Sl.own ((((tk.take k).foldl (λd p=>d.set p.1 p.2) ws).map U3).set ((p.1:Int)).toNat (U3 p.2))),_,_]=[_,_,some (Sl.own ((((tk.take k).foldl (λd p=>d.set p.1 p.2) ws).set p.1 p.2).map U3)),_,_];rw[QD,List.map_set]
 case hend=>rintro Z ⟨x3,x4,rfl⟩;refine KE (Kw (Yt rfl rfl) ?_);rw[Qb,Jm];rfl
def SA(cs:List Int)(f:Int×Int->Int)(qs:LP)(ws:LO):Prop:=∀p,p<cs.length+1->(ent (KG (cs.length+1) (ZM cs f qs ws) (cs.length+1)) p).2.length≠cs.length+1
structure RV(cs:List Int)(f:Int×Int->Int)(qs:LP)(ws:LO)(r:List Stp)(b:Nat):Prop where
 rnd:∃x,Path (ZM cs f qs ws) x r x
 nd:(r.map Stp.a).Nodup
 pos:0<Km r
 bl:b<=r.length
 bat:(∃s,r[b]?=some s/\s.a=cs.length)∨(b=0/\∀s∈r,s.a≠cs.length)
def ZP(n b:Nat)(r:List Stp):List (Nat×Option Int):=(rot b r).filterMap (Xd n)
theorem V8(s:Stp)(R:List Stp):Km (s::R)=s.g+Km R:=by show Km ([s]++R)=_;rw[Wx,Rc]
theorem Hq{u v:List Stp}(h:u.Perm v):Km u=Km v:=by
 induction h with
 |nil=>rfl
 |cons x _ ih=>rw[V8,V8,ih]
 |swap x y l=>rw[V8,V8,V8,V8];omega
 |trans _ _ ih1 ih2=>rw[ih1,ih2]
theorem AT{R:List Stp}(h:∀s∈R,s.g=0):Km R=0:=by
 induction R with
 |nil=>rfl
 |cons s R ih=>
  have e:Km (s::R)=s.g+Km R:=by show Km ([s]++R)=_;rw[Wx,Rc]
  rw[e,h s Qn,ih λx hx=>h x (Ql _ hx)];rfl
section
variable{cs:List Int}{ls:L3}{ws:LO}{V:Int->Int->Int}{qs:LP}{f:Int×Int->Int}{m:Nat}
theorem RV.does(hp:Yc cs.length m qs)(hd:Zt cs qs m ws){r:List Stp}{b:Nat}(h:RV cs f qs ws r b):Zt cs qs m ((ZP cs.length b r).foldl (λd p=>d.set p.1 p.2) ws)/\U7 f 0 ((ZP cs.length b r).foldl (λd p=>d.set p.1 p.2) ws)=U7 f 0 ws+Km r/\ZP cs.length b r≠[]/\∀p∈ZP cs.length b r,p.1<ws.length:=by
 obtain⟨x,hx⟩:=h.rnd;have hin:∀s∈r,IsSt cs f qs ws s:=λs hs=>Wy hp hd s (hx.mem s hs);have pr:=Pv b r;have hinR:∀s∈rot b r,IsSt cs f qs ws s:=λs hs=>hin s (pr.mem_iff.mp hs);have ndR:((rot b r).map Stp.a).Nodup:=(pr.map Stp.a).nodup_iff.mpr h.nd;have pbR:((rot b r).map Stp.b).Perm ((rot b r).map Stp.a):=((pr.map Stp.b).trans (Gm hx)).trans (pr.map Stp.a).symm
 obtain⟨h1,h2⟩:=Hg hp hd hinR ndR pbR;unfold ZP;rw[PV];refine⟨h1,by rw[h2,Hq pr],λz=>?_,λp hpm=>?_⟩
 ·have:Km r=0:=AT λs hs=>by
   have hw:Xd cs.length s=none:=by have:=List.filterMap_eq_nil_iff.mp z s (pr.mem_iff.mpr hs);exact this
   cases hin s hs with
   |mv _ _ _=>cases hw
   |left _ _=>rfl
   |give _=>rfl
  have:=h.pos;omega
 ·obtain⟨s,hs,e⟩:=Jk.mp hpm;cases hinR s hs with
  |@mv i o o' hw _ _=>cases e;exact(Qg.mp hw).1
  |left _ _=>cases e
  |give _=>cases e
theorem Gk(g:Good cs ls)(hm:ws.length=ls.length)(hp:Yc cs.length ws.length qs)(hd:Zt cs qs ws.length ws)(hq1:qs.length<=500):∃d,X8 [Kg cs ls,.list (qs.map (K6 V)),Kf ws]=some d/\((d=.list []/\SA cs (UY V) qs ws) ∨ ∃r b,d=.list ((ZP cs.length b r).map ZQ)/\RV cs (UY V) qs ws r b):=by
 refine XZ (Z:=[pb (Kg cs ls),pb (.list (qs.map (K6 V))),pb (Kf ws),none,none,none]) rfl ?_;unfold TF;have c6:=g.c6;have l7:=g.l7;have hlc:Ka [.list (cs.map int)]=some (.int cs.length):=by rw[Zd,Qb]
 have hS:∀s∈ZM cs (UY V) qs ws,s.a<cs.length+1/\s.b<cs.length+1:=λs hs=>(Wy hp hd s hs).lt hp hd;have hwd:=Hs hS (by omega)
 have hsteps:=NB (V:=V) g hm hp hd (by omega);refine Kd (Kq (Zw (UO (Kp rfl UV We) UT) hlc) (Qa rfl) rfl) ?_;have hadd:UW (.int (cs.length:Int)) (.int 1)=some (.int ((cs.length+1:Nat):Int)):=by rw[KM];rfl
 apply KI;apply Zm (λk Z=>(∃x4 x5,Z=[pb (Kg cs ls),pb (.list (qs.map (K6 V))),pb (Kf ws),pb (.int cs.length),x4,x5])/\∀p<k,(ent (KG (cs.length+1) (ZM cs (UY V) qs ws) (cs.length+1)) p).2.length≠cs.length+1)
 case h1=>exact Zn (Kk (UO (U1 (UL rfl) UV hadd) (UO (Kk (UO (UL rfl) (UO (UL rfl) (UO (UL rfl) UT))) rfl hsteps) UT)) rfl hwd) ZO
 case h0=>exact⟨⟨_,_,rfl⟩,λp h=>absurd h (Js _)⟩
 case hst=>
  rintro k d Z hk ⟨⟨x4,x5,rfl⟩,hb⟩;rw[Qd]at hk;cases hq:(KG (cs.length+1) (ZM cs (UY V) qs ws) (cs.length+1))[k]? with
  |none=>rw[hq]at hk;cases hk
  |some e=>
  rw[hq]at hk;cases hk;have he:ent (KG (cs.length+1) (ZM cs (UY V) qs ws) (cs.length+1)) k=e:=by unfold ent;rw[Qo,hq];rfl
  refine⟨_,Kr rfl (U2 (UR (Qa rfl) rfl) (U2 (UR (Qa rfl) rfl) Ks)),?_⟩;unfold Lc;have hlw:Ka [.list (e.2.map UU)]=some (.int e.2.length):=by rw[Zd,Qb]
  apply KB
  case h1=>exact U1 (Zz rfl hlw) (U1 (UL rfl) UV hadd) Y1
  case h2=>
   intro hh;have hh:((e.2.length:Nat):Int)=((cs.length+1:Nat):Int):=Qa hh;have hlen:e.2.length=cs.length+1:=by omega
   obtain⟨d,hrw,r,rfl,hr⟩:=xk (w:=e.2) (by omega);have hwk:=RQ hS (cs.length+1) k;rw[he]at hwk;obtain⟨q,hpath⟩:=hwk.1.path;rcases hr with ⟨hno,rfl⟩|⟨i,j,hra,rfl⟩
   ·exact absurd hno (Hi hS hpath (by omega) (Ug _))
   ·have hlr:((e.2.take (j+1)).drop i).length<=1000:=by rw[Jh,QP];omega
    obtain⟨b,hbl,hbat,hway⟩:=GY (n:=cs.length) hlr;have hrg:=jA hS (Ug _) (p:=k) (by rw[he];exact hlen) (by rw[he];exact hra);rw[he]at hrg;obtain⟨x,hx,hgp⟩:=hrg;exact Kw (Kk (UO (UL rfl) (UO (Kk (UO (UL rfl) UT) rfl hrw) UT)) rfl hway) (VO (Wl ⟨_,rfl,.inr ⟨_,b,rfl,⟨⟨x,hx⟩,jX hpath hra,hgp,hbl,hbat⟩⟩⟩))
  case h3=>
   intro hh;have hh:¬((e.2.length:Nat):Int)=((cs.length+1:Nat):Int):=Ja hh;refine KR (KO ⟨⟨_,_,rfl⟩,λp hpk=>?_⟩);rcases JW.mp hpk with hpk|rfl
   ·exact hb p hpk
   ·rw[he];omega
 case hend=>rintro Z ⟨⟨x4,x5,rfl⟩,hb⟩;refine KE (Kw (Zo UT (Qa rfl)) ⟨_,rfl,.inl ⟨rfl,λp hpn=>hb p ?_⟩⟩);rw[Qb,Re hS];exact hpn
theorem MA{M:Int}(hM0:0<=M)(hM:∀q∈qs,f q<=M):∀(ws:LO)(k:Nat),(∀(i:Nat) t,ws[i]?=some (some t)->(((k+i:Nat):Int),t)∈qs)->U7 f k ws<=ws.length*M
 |[],k,_=>by show(0:Int)<=((0:Nat):Int)*M;rw[show(((0:Nat)):Int)=0 from rfl,Int.zero_mul];exact Q3 _
 |o::ws,k,h=>by
  have ih:=MA hM0 hM ws (k+1) λi t e=>by have:=h (i+1) t (by simpa using e);rw[show k+1+i=k+(i+1)by omega];exact this
  have h0:Kb f k o<=M:=by
   cases o with
   |none=>exact hM0
   |some t=>exact hM _ (by have:=h 0 t rfl;rw[Nat.add_zero]at this;exact this)
  rw[QC];show Kb f k o+U7 f (k+1) ws<=_;rw[show(((ws.length+1:Nat)):Int)=(ws.length:Int)+1 by omega,Int.add_mul,Int.one_mul];omega
theorem Hn(g:Good cs ls)(hm:m=ls.length)(hp:Yc cs.length m qs)(hq1:qs.length<=500){M:Int}(hM0:0<=M)(hM:∀q∈qs,UY V q<=M):∀(N:Nat)(ws:LO)(d:D),Zt cs qs m ws->((d=.list []/\SA cs (UY V) qs ws) ∨ ∃r b,d=.list ((ZP cs.length b r).map ZQ)/\RV cs (UY V) qs ws r b) ->
  (m*M-U7 (UY V) 0 ws<N)->∃ws',Zt cs qs m ws'/\SA cs (UY V) qs ws'/\Xe (RI (UI 3)) Pp N [pb (Kg cs ls),pb (.list (qs.map (K6 V))),pb (Kf ws),pb d]=.nx [pb (Kg cs ls),pb (.list (qs.map (K6 V))),pb (Kf ws'),pb (.list [])]
 |0,ws,d,hd,_,hN=>by have:=MA hM0 hM ws 0 (λi t e=>by rw[QX];exact hd.wish i t e);rw[hd.len]at this;exact absurd hN (by omega)
 |N+1,ws,d,hd,hg,hN=>by
  rcases hg with ⟨rfl,hst⟩|⟨r,b,rfl,hgr⟩
  ·refine⟨ws,hd,hst,?_⟩;unfold Xe;rw[HP (ds:=[]) (UL rfl)];rfl
  ·obtain⟨h1,h2,h3,h4⟩:=hgr.does hp hd;generalize hws':(ZP cs.length b r).foldl (λd p=>d.set p.1 p.2) ws=ws' at h1 h2;have hbe:=Hr h4;rw[hws']at hbe;obtain⟨d',hgw,hg'⟩:=Gk (V:=V) (ws:=ws') g (by rw[h1.len,hm]) (by rw[h1.len];exact hp) (by rw[h1.len];exact h1) hq1;obtain⟨ws2,k1,k2,k3⟩:=Hn g hm hp hq1 hM0 hM N ws' d' h1 hg' (by have:=hgr.pos;omega);refine⟨ws2,k1,k2,?_⟩;unfold Xe;rw[HP (ds:=(ZP cs.length b r).map ZQ) (UL rfl)]
   have hne:(!((ZP cs.length b r).map ZQ).isEmpty)=true:=by
    cases hw:ZP cs.length b r with
    |nil=>exact absurd hw h3
    |cons _ _=>rfl
   dsimp only;rw[Qm hne];have hb:Ho Pp [pb (Kg cs ls),pb (.list (qs.map (K6 V))),pb (Kf ws),pb (.list ((ZP cs.length b r).map ZQ))] (λo=>o=.nx [pb (Kg cs ls),pb (.list (qs.map (K6 V))),pb (Kf ws'),pb d']):=by unfold Pp;refine Kd (Kq (Kk (UO (UL rfl) (UO (UL rfl) UT)) rfl hbe) (Qa rfl) rfl) ?_;exact Zv (Kq (Kk (UO (UL rfl) (UO (UL rfl) (UO (UL rfl) UT))) rfl hgw) (Qa rfl) rfl) rfl
   rw[hb.out];exact k3
theorem jz(g:Good cs ls)(hp:Yc cs.length ls.length qs)(hq1:qs.length<=500){M:Int}(hM0:0<=M)(hM:∀q∈qs,UY V q<=M)(hF:ls.length*M<10 ^ 60):∃d,W6 [Kg cs ls,.list (qs.map (K6 V))]=some d/\∃ws,d=Kf ws/\Zt cs qs ls.length ws/\SA cs (UY V) qs ws:=by
 refine XZ (Z:=[pb (Kg cs ls),pb (.list (qs.map (K6 V))),none,none]) rfl ?_;unfold TD;have l7:=g.l7;have hll:Ka [.list (ls.map KH)]=some (.int (ls.length:Nat)):=by rw[Zd,Qb]
 let ws0:LO:=Uu ls.length none
 have hmul:Ke (.list [.none]) (.int (ls.length:Nat))=some (Kf ws0):=by rw[Pm (by omega)];show _=some (Uv ((Uu ls.length none).map U3));rw[JJ];rfl
 have hd0:Zt cs qs ls.length ws0:=⟨by show(Uu _ _).length=_;rw[Qy],(λi t h=>by
  have h:(Uu ls.length (none:Option Int))[i]?=some (some t):=h;rw[QA]at h;split at h
  ·cases h
  ·cases h),λk c e=>by
  have h0:ws0.count (some (k:Int))=0:=List.count_eq_zero.mpr λh=>by cases (JI.mp h).2
  rw[h0];have:=g.c7 c (Qr e)
  show(0:Int)<=c
  omega⟩
 refine Kd (Kq (U1 (Zo (UO UV UT) (Qa rfl)) (Zw (UO (Kp rfl UV XV) UT) hll) hmul) (Qa rfl) rfl) ?_;obtain⟨d',hgw,hg'⟩:=Gk (V:=V) (ws:=ws0) g hd0.len (by rw[hd0.len];exact hp) (by rw[hd0.len];exact hd0) hq1;refine Kd (Kq (Kk (UO (UL rfl) (UO (UL rfl) (UO (UL rfl) UT))) rfl hgw) (Qa rfl) rfl) ?_
 have h0:∀(n k:Nat),U7 (UY V) k (Uu n none)=0:=λn=>by
  induction n with
  |zero=>intro k;rfl
  |succ n ih=>intro k;rw[QW];show 0+U7 (UY V) (k+1) (Uu n none)=0;rw[ih];rfl
 have hfu:ls.length*M-U7 (UY V) 0 ws0<(Wc:Nat):=by
  have e:U7 (UY V) 0 ws0=0:=h0 _ _;have e2:((Wc:Nat):Int)=10 ^ 60:=by unfold Wc;rfl
  rw[e,e2];omega
 obtain⟨ws',k1,k2,k3⟩:=Hn g rfl hp hq1 hM0 hM Wc ws0 d' hd0 hg' hfu;refine Kd k3 ?_;exact Kw (UL rfl) ⟨_,rfl,ws',rfl,k1,k2⟩
end
section
variable{cs:List Int}{ls:L3}{as ps:List Int}
theorem Dp(g:Good cs ls):(U9 0 ls).length<=42:=by rw[(SV ls 0).length_eq];exact Pl g
end
section
variable{cs:List Int}{ls:L3}{ws:LO}{qs:LP}{V:Int->Int->Int}
def prW(cs:List Int)(f:Int×Int->Int)(qs:LP)(ws:LO)(p:Nat):Int:=(ent (KG (cs.length+1) (ZM cs f qs ws) (cs.length+1)) p).1
theorem AS(g:Good cs ls)(hp:Yc cs.length ls.length qs)(hd:Zt cs qs ls.length ws)(hq1:qs.length<=500):W5 [Kg cs ls,.list (qs.map (K6 V)),Kf ws]=some (.list (((Ut cs.length).map (prW cs (UY V) qs ws)).map int)):=by
 refine KZ (Z:=[pb (Kg cs ls),pb (.list (qs.map (K6 V))),pb (Kf ws),none,none]) rfl ?_;unfold TC;have c6:=g.c6;have hS:∀s∈ZM cs (UY V) qs ws,s.a<cs.length+1/\s.b<cs.length+1:=λs hs=>(Wy hp hd s hs).lt hp hd;have hlc:Ka [.list (cs.map int)]=some (.int cs.length):=by rw[Zd,Qb]
 have has:Yr [Kg cs ls,.list (qs.map (K6 V)),Kf ws]=some (.list ((ZM cs (UY V) qs ws).map UU)):=NB g hd.len (by rw[hd.len];exact hp) (by rw[hd.len];exact hd) (by omega);have hwd:=Hs hS (by omega);generalize hT:KG (cs.length+1) (ZM cs (UY V) qs ws) (cs.length+1)=T at hwd;have hTl:T.length=cs.length+1:=by rw[←hT];exact Re hS _
 refine Kd (Kq (Zw (UO (Kp rfl UV We) UT) hlc) (Qa rfl) rfl) ?_;refine Kd (Kq (Kk (UO (U1 (UL rfl) UV KM) (UO (Kk (UO (UL rfl) (UO (UL rfl) (UO (UL rfl) UT))) rfl has) UT)) rfl hwd) (Qa rfl) rfl) ?_
 have hcd:DL.cutD (T.map ZZ) none (some (cs.length:Int))=(T.take cs.length).map ZZ:=by
  have h2:HT.sIx (T.map ZZ).length (T.map ZZ).length (some (cs.length:Int))=cs.length:=by rw[Qb,hTl];unfold HT.sIx;simp;omega
  unfold DL.cutD;rw[h2,show HT.sIx (T.map ZZ).length 0 none=0 from rfl,List.drop_zero,Nat.sub_zero,List.map_take]
 have hcut:YQ (.list (T.map ZZ)) none (some (cs.length:Int))=some (.list ((T.take cs.length).map ZZ)):=by rw[VH,hcd]
 have hc:KQ (gT 2 (gNC (gN 5) (gNC (gN 6) (gN0)))) (UQ true) (UI 5) ((T.take cs.length).map ZZ) (Kl [pb (Kg cs ls),pb (.list (qs.map (K6 V))),pb (Kf ws),pb (.int cs.length),pb (.list (T.map ZZ))]++Uu 2 none) []=some ([]++((Ut cs.length).map (prW cs (UY V) qs ws)).map int):=by
  refine Xl (λZ=>∃x y,Z=[pb (Kg cs ls),pb (.list (qs.map (K6 V))),pb (Kf ws),pb (.int cs.length),pb (.list (T.map ZZ)),x,y]) _ _ _ _ ?_ ?_ ⟨none,none,rfl⟩ ?_
  ·rw[Qb,Qb,Qb,QP,Qq];omega
  ·rintro i d e hd' he Z ⟨x,y,rfl⟩;rw[Qd,Qd]at he;have hil:i<cs.length:=by have:=(Qg.mp hd').1;rw[Qb,QP]at this;omega
   rw[QO hil]at he;cases he;rw[Qd,List.getElem?_take_of_lt hil,Qe (by omega)]at hd';cases hd';have hv:prW cs (UY V) qs ws i=T[i].1:=by unfold prW ent;rw[hT,Qo,Qe (by omega)];rfl
   rw[hv];exact⟨_,Kr rfl (U2 (UR (Qa rfl) rfl) (U2 (UR (Qa rfl) rfl) Ks)),rfl,UL rfl,_,_,rfl⟩
  ·rw[QE,Qb,QP];omega
 exact Kw (KJ (Yg (Zn (VE (UL rfl) UV (Xi (UL rfl)) hcut) ZO) hc)) rfl
theorem Do{n m:Nat}(hp:Yc n m qs)(hm:m<=1000)(P:Nat->Int):W4 [.int (m:Nat),.list (qs.map (K6 V)),.list (((Ut n).map P).map int)]=some (.list (((Ut m).map λi:Nat=>ZE (UY V) P qs (i:Int)).map int)):=by
 refine KZ (Z:=[pb (.int (m:Nat)),pb (.list (qs.map (K6 V))),pb (.list (((Ut n).map P).map int)),none,none,none,none]) rfl ?_;unfold TB;refine Kd (Ye (MD (n:=m) (Zo (UO UV UT) (Qa rfl)) (UL rfl) hm) (Qa rfl) rfl) ?_;apply KI;apply Zm (λk Z=>∃x4 x5 x6,Z=[pb (.int (m:Nat)),pb (.list (qs.map (K6 V))),pb (.list (((Ut n).map P).map int)),some (.own (((Ut m).map λi:Nat=>ZE (UY V) P (qs.take k) (i:Int)).map int)),x4,x5,x6])
 case h1=>exact Zn (UL rfl) ZO
 case h0=>
  refine⟨none,none,none,?_⟩
  have e:(Uu m (int 0))=((Ut m).map λi:Nat=>ZE (UY V) P (qs.take 0) (i:Int)).map int:=by
   rw[Jl];apply List.ext_getElem
   ·rw[Qy,Qb,Qq]
   ·intro i h1 h2;rw[List.getElem_replicate,J5];rfl
  rw[←e];rfl
 case hst=>
  rintro k d Z hk ⟨x4,x5,x6,rfl⟩;rw[Qd]at hk;cases hq:qs[k]? with
  |none=>rw[hq]at hk;cases hk
  |some q=>
  rw[hq]at hk;cases hk;have hb:=hp.lo q (Qr hq);obtain⟨⟨a,ha⟩,⟨t,ht⟩⟩:(∃a:Nat,q.1=a)/\∃t:Nat,q.2=t:=⟨⟨q.1.toNat,by omega⟩,⟨q.2.toNat,by omega⟩⟩
  have ham:a<m:=by omega
  have htn:t<n:=by omega
  refine⟨_,Kr rfl (U2 (UR (Qa rfl) rfl) (U2 (UR (Qa rfl) rfl) (U2 (UR (Qa rfl) rfl) Ks))),?_⟩;unfold MN;have h1:oIx (.list (((Ut m).map λi:Nat=>ZE (UY V) P (qs.take k) (i:Int)).map int)) (.int q.1)=some (.int (ZE (UY V) P (qs.take k) (a:Int))):=by rw[ha];exact Zc (by rw[Qd,Qd,QO ham];rfl)
  have h2:oIx (.list (((Ut n).map P).map int)) (.int q.2)=some (.int (P t)):=by rw[ht];exact Zc (by rw[Qd,Qd,QO htn];rfl)
  refine Zv (RD (Zw (UO (Wo rfl (UL rfl) rfl h1) (UO (U1 (UL rfl) (Kp rfl (UL rfl) h2) Yw) UT)) MG) rfl (UL rfl) rfl ⟨hb.1,by rw[Qb,Qb,Qq];exact hb.2.1⟩ rfl) (KO ⟨some (.pub (.int q.1)),pb (.int q.2),pb (.int (V q.1 q.2)),?_⟩);have e:∀i:Nat,ZE (UY V) P (qs.take (k+1)) (i:Int)=if q.1=(i:Int)then max (ZE (UY V) P (qs.take k) (i:Int)) (UY V q-P q.2.toNat)else ZE (UY V) P (qs.take k) (i:Int):=λi=>by unfold ZE;rw[List.take_add_one,hq,List.foldl_append];rfl
  have e2:((((Ut m).map λi:Nat=>ZE (UY V) P (qs.take k) (i:Int)).map int).set q.1.toNat (.int (if V q.1 q.2-P t > ZE (UY V) P (qs.take k) (a:Int)then V q.1 q.2-P t else ZE (UY V) P (qs.take k) (a:Int))))=((Ut m).map λi:Nat=>ZE (UY V) P (qs.take (k+1)) (i:Int)).map int:=by
   apply List.ext_getElem
   ·rw[Q6,Qb,Qb,Qb,Qb]
   ·intro i h1 h2;have hi:i<m:=by rw[Qb,Qb,Qq]at h2;exact h2
    rw[List.getElem_set,J5,J5,J5,J5,List.getElem_range,e];by_cases hia:a=i
    ·subst hia;rw[Qm (by omega),Qm ha,show q.2.toNat=t by omega]
     congr 1
     show _=max _ (V q.1 q.2-P t)
     split<;>omega
    ·rw[QB (by omega),QB (by omega)]
  rw[←e2];rfl
 case hend=>rintro Z ⟨x4,x5,x6,rfl⟩;refine KE (Kw (Yt rfl rfl) ?_);rw[Qb,Jm]
abbrev askL(m:Nat)(f:Int×Int->Int)(P:Nat->Int)(qs:LP):List Int:=(Ut m).map λi:Nat=>ZE f P qs (i:Int)
theorem Nq(g:Good cs ls):Yc cs.length ls.length (U9 0 ls) where
 nd:=Go ls 0 λrs hr=>(g.rk rs hr).once
 lo:=λq hq=>by have:=Dr g q hq;exact⟨this.1.1,this.1.2,this.2.1,this.2.2⟩
end
section
variable{cs:List Int}{ls:L3}{ws:LO}{o:Ord}{old:Option LO}{ts:List Int}
theorem AR(h:Zt cs (U9 0 ls) ls.length ws):Deal cs ls ws where
 len:=h.len
 wish:=λi t rs hw hrs=>by
  obtain⟨i',rs',h1,h2,h3⟩:=VF (h.wish i t hw);have h2:(i:Int)=((0+i':Nat):Int):=h2;have hii:i=i':=by omega
  subst hii;rw[hrs]at h1;cases h1;exact h3
 cop:=h.cop
theorem Mz(ls:L3):∀(ws:LO)(l2:L3)(k:Nat),(∀(j:Nat) rs,l2[j]?=some rs->ls.getD (k+j) []=rs)->ws.length=l2.length->U7 (UY (Kx ls o old ts)) k ws=Zj (Yp (K1 ls o old ts) k l2 ws)
 |[],[],_,_,_=>rfl
 |[],_::_,_,_,h=>by cases h
 |_::_,[],_,_,h=>by cases h
 |x::ws,rs::l2,k,hj,hl=>by
  have ih:=Mz ls ws l2 (k+1) (λj r h=>by rw[show k+1+j=k+(j+1)by omega];exact hj (j+1) r h) (by simpa using hl);show Kb _ k x+U7 _ (k+1) ws=Zj (x.map (K1 ls o old ts k rs)::Yp _ (k+1) l2 ws);rw[Ge,ih]
  congr 1
  cases x with
  |none=>rfl
  |some t=>show Kx ls o old ts (k:Int) t=K1 ls o old ts k rs t;unfold Kx;rw[QD,show ls.getD k []=rs from hj 0 rs rfl]
end
section
variable{cs:List Int}{ls:L3}{o:Ord}{old:Option LO}{ts:List Int}{ws:LO}
theorem Hd(du:Deal cs ls ws):Zt cs (U9 0 ls) ls.length ws:=⟨du.len,λi t h=>by
 have hil:i<ls.length:=by have:=(Qg.mp h).1;have:=du.len;omega
 have hrs:ls[i]?=some ls[i]:=Qe hil;have:=LS (k:=0) hrs (du.wish i t _ h hrs);rwa[QX]at this,du.cop⟩
end
theorem My{f h:Nat->Int}:∀(n:Nat),(∀k,k<n->f k<=h k)->(K3 n f=K3 n h ↔ ∀k,k<n->f k=h k)
 |0,_=>⟨λ_ k hk=>absurd hk (Js _),λ_=>rfl⟩
 |n+1,h0=>by
  have ih:=My n λk hk=>h0 k (by omega)
  have l:=RF n λk hk=>h0 k (JT hk);have ln:=h0 n (JG _);rw[WB,WB]
  refine⟨λe k hk=>?_,λe=>?_⟩
  ·by_cases z:k=n
   ·subst z;omega
   ·exact ih.mp (by omega) k (by omega)
  ·rw[ih.mpr λk hk=>e k (by omega),e n (JG _)]
theorem Hc{f:Int×Int->Int}{ps:List Int}{tm:Int}:∀(ws:LO)(as:List Int)(k:Nat),as.length=ws.length->(∀a∈as,0<=a)->(∀(i:Nat) t,ws[i]?=some (some t)->tm*f (((k+i:Nat):Int),t)<=as.getD i 0+ps.getD t.toNat 0) ->
  tm*U7 f k ws<=as.sum+pz ps ws/\(tm*U7 f k ws=as.sum+pz ps ws ↔ (∀(i:Nat) t,ws[i]?=some (some t)->tm*f (((k+i:Nat):Int),t)=as.getD i 0+ps.getD t.toNat 0)/\∀i:Nat,ws[i]?=some none->as.getD i 0=0)
 |[],[],k,_,_,_=>⟨by show tm*0<=0+0;omega,λ_=>⟨λi t h=>by simp at h,λi h=>by simp at h⟩,λ_=>by show tm*0=0+0;omega⟩
 |[],_::_,_,h,_,_=>by cases h
 |_::_,[],_,h,_,_=>by cases h
 |o::ws,a::as,k,hl,ha,h=>by
  obtain⟨ih1,ih2⟩:=Hc (f:=f) (ps:=ps) (tm:=tm) ws as (k+1) (by simpa using hl) (λx hx=>ha x (List.mem_cons_of_mem _ hx)) λi t e=>by have:=h (i+1) t (by simpa using e);rw[show k+(i+1)=k+1+i by omega]at this;simpa using this
  have e2:(a::as).sum=a+as.sum:=by simp
  have ga:∀i:Nat,(a::as).getD (i+1) 0=as.getD i 0:=λi=>by simp
  have a0:=ha a Qn;rw[e2];cases o with
  |none=>
   have e1:U7 f k (none::ws)=0+U7 f (k+1) ws:=rfl;have e3:pz ps (none::ws)=0+pz ps ws:=rfl;rw[e1,e3,Jt,Jt];refine⟨by omega,λe=>?_,λ⟨e4,e5⟩=>?_⟩
   ·obtain⟨c1,c2⟩:=ih2.mp (by omega);refine⟨λi t hi=>?_,λi hi=>?_⟩
    ·cases i with
     |zero=>cases hi
     |succ i=>have:=c1 i t (by simpa using hi);rw[show k+(i+1)=k+1+i by omega,ga];exact this
    ·cases i with
     |zero=>show a=0;omega
     |succ i=>rw[ga];exact c2 i (by simpa using hi)
   ·have h0:a=0:=e5 0 rfl;have:=ih2.mpr ⟨λi t hi=>by have:=e4 (i+1) t (by simpa using hi);rw[show k+(i+1)=k+1+i by omega,ga]at this;exact this,λi hi=>by have:=e5 (i+1) (by simpa using hi);rwa[ga]at this⟩;omega
  |some t=>
   have e1:U7 f k (some t::ws)=f ((k:Int),t)+U7 f (k+1) ws:=rfl;have e3:pz ps (some t::ws)=ps.getD t.toNat 0+pz ps ws:=rfl;have h0:=h 0 t rfl;have h0:tm*f ((k:Int),t)<=a+ps.getD t.toNat 0:=h0;rw[e1,e3,Int.mul_add];refine⟨by omega,λe=>?_,λ⟨e4,e5⟩=>?_⟩
   ·obtain⟨c1,c2⟩:=ih2.mp (by omega);refine⟨λi u hi=>?_,λi hi=>?_⟩
    ·cases i with
     |zero=>cases hi;show tm*f ((k:Int),t)=a+ps.getD t.toNat 0;omega
     |succ i=>have:=c1 i u (by simpa using hi);rw[show k+(i+1)=k+1+i by omega,ga];exact this
    ·cases i with
     |zero=>cases hi
     |succ i=>rw[ga];exact c2 i (by simpa using hi)
   ·have h0:tm*f ((k:Int),t)=a+ps.getD t.toNat 0:=e4 0 t rfl;have:=ih2.mpr ⟨λi t hi=>by have:=e4 (i+1) t (by simpa using hi);rw[show k+(i+1)=k+1+i by omega,ga]at this;exact this,λi hi=>by have:=e5 (i+1) (by simpa using hi);rwa[ga]at this⟩;omega
structure Oh(cs:List Int)(f:Int×Int->Int)(tm:Int)(as ps:List Int)(ws:LO):Prop where
 got:∀(i:Nat) t,ws[i]?=some (some t)->tm*f ((i:Int),t)=as.getD i 0+ps.getD t.toNat 0
 non:∀i:Nat,ws[i]?=some none->as.getD i 0=0
 all:∀k,k<cs.length->ps.getD k 0=0∨((ws.count (some (k:Int)):Nat):Int)=cs.getD k 0
section
variable{cs:List Int}{f:Int×Int->Int}{qs:LP}{m:Nat}{ws:LO}{tm:Int}{as ps:List Int}
theorem Hm(hp:Yc cs.length m qs)(hd:Zt cs qs m ws)(ok:OkP cs.length m (λa b=>f (a,b)) qs tm as ps):tm*U7 f 0 ws<=XN cs as ps/\(tm*U7 f 0 ws=XN cs as ps ↔ Oh cs f tm as ps ws):=by
 obtain⟨h1,h2⟩:=Hc (f:=f) (ps:=ps) (tm:=tm) ws as 0 (by rw[ok.la,hd.len]) ok.aa λi t e=>by rw[QX];exact ok.le _ (hd.wish i t e)
 simp only[QX]at h2;have hth:∀t,some t∈ws->0<=t/\t<cs.length:=λt ht=>by obtain⟨i,hi⟩:=List.mem_iff_getElem?.mp ht;have:=hp.lo _ (hd.wish i t hi);exact⟨this.2.2.1,this.2.2.2⟩
 have hpk:∀k,k<cs.length->0<=ps.getD k 0:=λk hk=>by rw[Qo,Qe (by rw[ok.lp];exact hk)];exact ok.pp _ (JB _)
 have hcop:∀k,k<cs.length->((ws.count (some (k:Int)):Nat):Int)<=cs.getD k 0:=λk hk=>hd.cop k _ (by rw[Qo,Qe hk];rfl)
 have hle:∀k,k<cs.length->((ws.count (some (k:Int)):Nat):Int)*ps.getD k 0<=cs.getD k 0*ps.getD k 0:=λk hk=>Int.mul_le_mul_of_nonneg_right (hcop k hk) (hpk k hk);have s1:=RF cs.length hle;have s2:=My cs.length hle;have ec:XN cs as ps=as.sum+K3 cs.length λk=>cs.getD k 0*ps.getD k 0:=by unfold XN;rw[Gn _ _ ok.lp]
 rw[ec];rw[Nl ws hth]at h1 h2;refine⟨by omega,λe=>?_,λh=>?_⟩
 ·obtain⟨c1,c2⟩:=h2.mp (by omega);refine⟨c1,c2,λk hk=>?_⟩;have e3:=s2.mp (by omega) k hk;by_cases z:ps.getD k 0=0
  ·exact .inl z
  ·exact .inr (Int.eq_of_mul_eq_mul_right z e3)
 ·have e1:=h2.mpr ⟨h.got,h.non⟩
  have e3:=s2.mpr λk hk=>by
   rcases h.all k hk with z|z
   ·rw[z,Int.mul_zero,Int.mul_zero]
   ·rw[z]
  omega
end
abbrev Za:=List (Nat×List Stp)
def Ki(R:Za)(p:Nat):Bool:=R.any λx=>x.1==p
def Xc(R:Za)(p:Nat):List Stp:=((R.find? λx=>x.1==p).map (·.2)).getD []
def KY(R:Za)(s:Stp):Za:=if Ki R s.a && !Ki R s.b then R++[(s.b,Xc R s.a++[s])]else R
def Zy(T:List Stp)(q:Nat):Nat->Za
 |0=>[(q,[])]
 |t+1=>T.foldl KY (Zy T q t)
theorem RN{R:Za}{p:Nat}:Ki R p=true ↔ ∃w,(p,w)∈R:=by
 unfold Ki;rw[List.any_eq_true];constructor
 ·rintro⟨⟨a,w⟩,h1,h2⟩;have:a=p:=by simpa using h2
  subst this;exact⟨w,h1⟩
 ·rintro⟨w,h⟩;exact⟨_,h,by simp⟩
theorem P0{R:Za}{p:Nat}(h:Ki R p=true):(p,Xc R p)∈R:=by
 obtain⟨w,hw⟩:=RN.mp h;unfold Xc;cases e:R.find? λx=>x.1==p with
 |none=>have:=List.find?_eq_none.mp e _ hw;simp at this
 |some x=>
  have h1:=List.mem_of_find?_eq_some e;have h2:=List.find?_some e;have h2:x.1=p:=by simpa using h2
  obtain⟨a,w'⟩:=x;have h2:a=p:=h2;subst h2;exact h1
structure RdOk(T:List Stp)(q:Nat)(R:Za):Prop where
 pth:∀x∈R,Path T q x.2 x.1
 nd:∀x∈R,(q::x.2.map Stp.b).Nodup
 cl:∀x∈R,∀y∈q::x.2.map Stp.b,Ki R y=true
theorem Nd{R:Za}{x:Nat×List Stp}{p:Nat}:Ki (R++[x]) p=(Ki R p || x.1==p):=by unfold Ki;rw[List.any_append];simp
theorem Dm{T:List Stp}{q:Nat}{R:Za}{s:Stp}(hs:s∈T)(k:RdOk T q R):RdOk T q (KY R s)/\(∀p,Ki R p=true->Ki (KY R s) p=true)/\(Ki R s.a=true->Ki (KY R s) s.b=true):=by
 unfold KY;by_cases c:(Ki R s.a && !Ki R s.b)=true
 ·rw[Qm c];obtain⟨c1,c2⟩:=JV.mp c;have c2:Ki R s.b=false:=by simpa using c2
  have hm:=P0 c1;have k1:=k.pth _ hm;have k2:=k.nd _ hm;have k3:=k.cl _ hm;have up:∀p,Ki R p=true->Ki (R++[(s.b,Xc R s.a++[s])]) p=true:=λp h=>by rw[Nd,h];rfl
  have e:q::((Xc R s.a++[s]).map Stp.b)=(q::(Xc R s.a).map Stp.b)++[s.b]:=by rw[Qz];rfl
  refine⟨⟨λx hx=>?_,λx hx=>?_,λx hx y hy=>?_⟩,up,λ_=>by rw[Nd];simp⟩
  ·rcases QJ.mp hx with h|h
   ·exact k.pth x h
   ·cases Qv.mp h;exact k1.append (.cons hs (.nil _))
  ·rcases QJ.mp hx with h|h
   ·exact k.nd x h
   ·cases Qv.mp h
    show(q::((Xc R s.a++[s]).map Stp.b)).Nodup
    rw[e];refine List.nodup_append.mpr ⟨k2,by simp,λa ha b hb z=>?_⟩;rw[Qv.mp hb]at z;rw[z]at ha;have:=k3 _ ha;rw[c2]at this;cases this
  ·rcases QJ.mp hx with h|h
   ·exact up y (k.cl x h y hy)
   ·cases Qv.mp h;have hy:y∈q::((Xc R s.a++[s]).map Stp.b):=hy;rw[e]at hy;rcases QJ.mp hy with hy|hy
    ·exact up y (k3 y hy)
    ·rw[Nd,List.mem_singleton.mp hy];simp
 ·rw[QB c];refine⟨k,λ_ h=>h,λh=>?_⟩;cases z:Ki R s.b with
  |true=>rfl
  |false=>rw[h,z]at c;exact absurd rfl c
theorem Ow{T:List Stp}{q:Nat}:∀(X:List Stp)(R:Za),(∀s∈X,s∈T)->RdOk T q R->RdOk T q (X.foldl KY R)/\(∀p,Ki R p=true->Ki (X.foldl KY R) p=true)/\∀s∈X,Ki R s.a=true->Ki (X.foldl KY R) s.b=true
 |[],R,_,k=>⟨k,λ_ h=>h,λs hs=>by cases hs⟩
 |s::X,R,h,k=>by
  obtain⟨k1,k2,k3⟩:=Dm (h s Qn) k;obtain⟨f1,f2,f3⟩:=Ow X (KY R s) (λx hx=>h x (Ql _ hx)) k1;refine⟨f1,λp hp=>f2 p (k2 p hp),λx hx ha=>?_⟩;rcases QS.mp hx with rfl|hx
  ·exact f2 _ (k3 ha)
  ·exact f3 x hx (k2 _ ha)
theorem PU(T:List Stp)(q:Nat):∀t,RdOk T q (Zy T q t)/\∀w p,Path T q w p->w.length<=t->Ki (Zy T q t) p=true
 |0=>by
  refine⟨⟨λx hx=>?_,λx hx=>?_,λx hx y hy=>?_⟩,λw p h hl=>?_⟩
  ·cases Qv.mp hx;exact .nil q
  ·cases List.mem_singleton.mp hx;simp
  ·cases Qv.mp hx;cases Qv.mp hy;exact RN.mpr ⟨[],Qv.mpr rfl⟩
  ·have:w=[]:=List.eq_nil_of_length_eq_zero (by omega);subst this;cases h;exact RN.mpr ⟨[],Qv.mpr rfl⟩
 |t+1=>by
  obtain⟨k,ih⟩:=PU T q t;obtain⟨f1,f2,f3⟩:=Ow T (Zy T q t) (λ_ h=>h) k;refine⟨f1,λw p h hl=>?_⟩;by_cases c:w.length<=t
  ·exact f2 p (ih w p h c)
  ·obtain⟨u,s,rfl⟩:∃u s,w=u++[s]:=⟨w.dropLast,w.getLast (by intro z;rw[z]at c;simp at c),(List.dropLast_concat_getLast _).symm⟩
   obtain⟨mm,h1,h2⟩:=h.split;have hs:=h2.step.1;have ha:=h2.head;have hb:Path T s.b [] p:=h2.step.2;have hp:p=s.b:=by generalize s.b=x at hb;cases hb;rfl
   subst ha;rw[hp];exact f3 s hs (ih u s.a h1 (by rw[Qi,QH]at hl;omega))
theorem GJ{T:List Stp}{n:Nat}(hT:∀s∈T,s.a<n/\s.b<n)(h0:0<n){q p:Nat}:∀(N:Nat)(w:List Stp),w.length<=N->Path T q w p->∃w',Path T q w' p/\w'.length<n
 |0,w,hl,h=>⟨w,h,by omega⟩
 |N+1,w,hl,h=>by
  by_cases c:w.length<n
  ·exact⟨w,h,c⟩
  ·have hr:=Hi hT h (by omega) h0;unfold Oy at hr;have:∃j,j<w.length/\∃i,i<=j/\∃s t,w[i]?=some s/\w[j]?=some t/\s.a=t.b:=by refine Classical.byContradiction λz=>hr λj hj i hi s t e1 e2 e3=>z ⟨j,hj,i,hi,s,t,e1,e2,e3⟩
   obtain⟨j,hj,i,hi,s,t,e1,e2,e3⟩:=this;have p1:=(h.at e1).1;have p2:=(h.at e2).2.2;rw[←e3]at p2;refine GJ hT h0 N (w.take i++w.drop (j+1)) ?_ (p1.append p2);rw[Qi,QP,Jh];omega
def VQ(T:List Stp)(q p:Nat):Prop:=∃w,Path T q w p
theorem Nj{T:List Stp}{n:Nat}(hT:∀s∈T,s.a<n/\s.b<n)(h0:0<n){q p:Nat}:Ki (Zy T q n) p=true ↔ VQ T q p:=by
 obtain⟨k,c⟩:=PU T q n;constructor
 ·intro h;exact⟨_,k.pth _ (P0 h)⟩
 ·rintro⟨w,h⟩;obtain⟨w',h',hl⟩:=GJ hT h0 w.length w (Qs _) h;exact c w' p h' (by omega)
def ZK(T:List Stp)(n p:Nat):Nat:=(Ut n).countP λq=>Ki (Zy T q n) p
theorem E3(T:List Stp)(n p:Nat):ZK T n p<=n:=by have:=List.countP_le_length (p:=λq=>Ki (Zy T q n) p) (l:=Ut n);rwa[Qq]at this
theorem C3{T:List Stp}{n:Nat}(hT:∀s∈T,s.a<n/\s.b<n){s:Stp}(hs:s∈T):ZK T n s.a<=ZK T n s.b:=by
 have h0:0<n:=by have:=(hT s hs).1;omega
 refine List.countP_mono_left λq _ h=>?_
 obtain⟨w,hw⟩:=(Nj hT h0).mp h;exact(Nj hT h0).mpr ⟨_,hw.append (.cons hs (.nil _))⟩
def XX(S:List Stp)(V:Nat->Int):List Stp:=S.filter λs=>decide (V s.a+s.g=V s.b)
def Zi(T:List Stp)(V:Nat->Int)(n:Nat)(p:Nat):Int:=((n+1:Nat):Int)*V p+(ZK T (n+1) p:Int)-(ZK T (n+1) n:Int)
theorem AQ{S:List Stp}{V:Nat->Int}{n:Nat}(hS:∀s∈S,s.a<n+1/\s.b<n+1)(st:∀s∈S,V s.a+s.g<=V s.b)(s:Stp)(hs:s∈S):Zi (XX S V) V n s.a+((n+1:Nat):Int)*s.g<=Zi (XX S V) V n s.b:=by
 have hT:∀s∈XX S V,s.a<n+1/\s.b<n+1:=λs h=>hS s (Jz.mp h).1;have h1:=st s hs;unfold Zi
 by_cases c:V s.a+s.g=V s.b
 ·have:=C3 hT (List.mem_filter.mpr ⟨hs,Jc c⟩);rw[←c,Int.mul_add];omega
 ·have l1:=E3 (XX S V) (n+1) s.a;have h2:((n+1:Nat):Int)*(V s.a+s.g+1)<=((n+1:Nat):Int)*V s.b:=Int.mul_le_mul_of_nonneg_left (by omega) (by omega);rw[Int.mul_add,Int.mul_add]at h2;omega
section
variable{cs:List Int}{f:Int×Int->Int}{qs:LP}{m:Nat}{ws:LO}
theorem Ly(c:Int):∀(ws:LO)(k:Nat),U7 (λq=>c*f q) k ws=c*U7 f k ws
 |[],k=>by show(0:Int)=c*0;omega
 |o::ws,k=>by
  show Kb (λq=>c*f q) k o+U7 (λq=>c*f q) (k+1) ws=c*(Kb f k o+U7 f (k+1) ws);rw[Ly c ws (k+1),Int.mul_add];cases o with
  |none=>show 0+_=c*0+_;omega
  |some t=>rfl
theorem IsSt.mul{c:Int}{s:Stp}(h:IsSt cs (λq=>c*f q) qs ws s):∃s',IsSt cs f qs ws s'/\s.a=s'.a/\s.b=s'.b/\s.g=c*s'.g:=by
 cases h with
 |@mv i o o' h hne hq=>
  refine⟨_,.mv h hne hq,rfl,rfl,?_⟩
  have e:∀o:Option Int,Kb (λq=>c*f q) i o=c*Kb f i o:=λo=>by
   cases o with
   |none=>show(0:Int)=c*0;omega
   |some t=>rfl
  show Kb (λq=>c*f q) i o'-Kb (λq=>c*f q) i o=c*(Kb f i o'-Kb f i o);rw[e,e,Int.mul_sub]
 |left h hl=>exact⟨_,.left h hl,rfl,rfl,by show(0:Int)=c*0;omega⟩
 |give h=>exact⟨_,.give h,rfl,rfl,by show(0:Int)=c*0;omega⟩
theorem AO(hp:Yc cs.length m qs)(hd:Zt cs qs m ws)(sw:SA cs f qs ws){T:List Stp}(hT:T=XX (ZM cs f qs ws) (prW cs f qs ws)) :
  OkP cs.length m (λa b=>f (a,b)) qs ((cs.length+1:Nat):Int) ((Ut m).map λi:Nat=>ZE (λq=>((cs.length+1:Nat):Int)*f q) (Zi T (prW cs f qs ws) cs.length) qs (i:Int)) ((Ut cs.length).map (Zi T (prW cs f qs ws) cs.length)) /\
  XN cs ((Ut m).map λi:Nat=>ZE (λq=>((cs.length+1:Nat):Int)*f q) (Zi T (prW cs f qs ws) cs.length) qs (i:Int)) ((Ut cs.length).map (Zi T (prW cs f qs ws) cs.length))=((cs.length+1:Nat):Int)*U7 f 0 ws:=by
 obtain⟨st,vn⟩:=Hf (V:=prW cs f qs ws) hp hd (Wy hp hd) (Nk hp hd) (λp=>rfl) sw;have hS:∀s∈ZM cs f qs ws,s.a<cs.length+1/\s.b<cs.length+1:=λs hs=>(Wy hp hd s hs).lt hp hd
 obtain⟨ok,cl⟩:=As (f:=λq=>((cs.length+1:Nat):Int)*f q) (V:=Zi T (prW cs f qs ws) cs.length) hp hd (λs hs=>by obtain⟨s',h1,h2,h3,h4⟩:=hs.mul;rw[h2,h3,h4,hT];exact AQ hS st s' (Nk hp hd s' h1)) (by unfold Zi;rw[vn,Int.mul_zero];omega);refine⟨⟨by omega,ok.la,ok.lp,ok.aa,ok.pp,λq hq=>?_⟩,by rw[cl,Ly]⟩;have:=ok.le q hq;rwa[Int.one_mul]at this
end
def YX(R:Za):D:=.dict (R.map λx=>(.int (x.1:Nat),.list (x.2.map UU)))
theorem Ov{p:Nat}:Z6 (.int (p:Nat))=some (.inl (p:Int)):=rfl
theorem Ou(a p:Nat):decide (Z6 (.int (a:Nat))=some (.inl (p:Int)))=(a==p):=by
 rw[Ov];by_cases h:a=p
 ·subst h;simp
 ·have:¬((some (.inl (a:Int)):Option Key)=some (.inl (p:Int))):=λz=>by injection z with z;injection z with z;omega
  rw[QT this];simpa using h
theorem Wv{R:Za}{p:Nat}:ZC (.int (p:Nat)) (YX R)=some (Ki R p):=by
 unfold ZC YX;rw[Ov];dsimp only;rw[Qm (Jj.mpr λx hx=>by obtain⟨y,_,rfl⟩:=Qu.mp hx;rfl)]
 congr 1
 unfold Ki;rw[List.any_map]
 congr 1
 funext x;exact Ou x.1 p
theorem Lx{R:Za}{p:Nat}(h:Ki R p=true):Vy (YX R) (.int (p:Nat))=some (.list ((Xc R p).map UU)):=by
 unfold Vy YX;rw[Ov];dsimp only;rw[List.find?_map];have e:((λx:D×D=>decide (Z6 x.1=some (.inl (p:Int)))) ∘ λx:Nat×List Stp=>((.int (x.1:Nat),.list (x.2.map UU)):D×D))=λx=>x.1==p:=by funext x;exact Ou x.1 p
 rw[e];unfold Xc;cases z:R.find? λx=>x.1==p with
 |none=>obtain⟨w,hw⟩:=RN.mp h;have:=List.find?_eq_none.mp z _ hw;simp at this
 |some x=>rfl
theorem C2{R:Za}{p:Nat}{w:List Stp}(h:Ki R p=false):Xs (R.map λx=>((.int (x.1:Nat),.list (x.2.map UU)):D×D)) (.inl (p:Int)) (.list (w.map UU))=(R++[(p,w)]).map λx=>(.int (x.1:Nat),.list (x.2.map UU)):=by
 unfold Xs
 have e:((R.map λx=>((.int (x.1:Nat),.list (x.2.map UU)):D×D)).any λx=>decide (Z6 x.1=some (.inl (p:Int))))=false:=by
  rw[List.any_map];have:((λx:D×D=>decide (Z6 x.1=some (.inl (p:Int)))) ∘ λx:Nat×List Stp=>((.int (x.1:Nat),.list (x.2.map UU)):D×D))=λx=>x.1==p:=by funext x;exact Ou x.1 p
  rw[this];exact h
 rw[if_neg (by rw[e];simp),List.map_append];rfl
theorem Hl{n:Nat}{l:List Nat}(h:l.Nodup)(hl:∀x∈l,x<n):l.length<=n:=by
 have:=SZ n (l.map λk:Nat=>(k:Int)) (Gp (λa b e=>by omega) h) λx hx=>by obtain⟨k,hk,rfl⟩:=Qu.mp hx;have:=hl k hk;omega
 rwa[Qb]at this
structure RdK(n:Nat)(R:Za):Prop where
 nd:(R.map Prod.fst).Nodup
 lt:∀x∈R,x.1<n
theorem E2{n:Nat}{R:Za}{s:Stp}(hs:s.b<n)(k:RdK n R):RdK n (KY R s):=by
 unfold KY;by_cases c:(Ki R s.a && !Ki R s.b)=true
 ·rw[Qm c];have c2:Ki R s.b=false:=by simpa using(Bool.and_eq_true_iff.mp c).2
  refine⟨?_,λx hx=>?_⟩
  ·rw[Qz];refine List.nodup_append.mpr ⟨k.nd,by simp,λa ha b hb z=>?_⟩;have hb:b=s.b:=by simpa using hb
   obtain⟨x,hx,rfl⟩:=Qu.mp ha;have:Ki R s.b=true:=RN.mpr ⟨x.2,by rw[←hb,←z];exact hx⟩;rw[c2]at this;cases this
  ·rcases QJ.mp hx with h|h
   ·exact k.lt x h
   ·cases Qv.mp h;exact hs
 ·rw[QB c];exact k
theorem Og{n:Nat}:∀(X:List Stp)(R:Za),(∀s∈X,s.b<n)->RdK n R->RdK n (X.foldl KY R)
 |[],R,_,k=>k
 |s::X,R,h,k=>Og X (KY R s) (λx hx=>h x (Ql _ hx)) (E2 (h s Qn) k)
theorem Lw{T:List Stp}{n q:Nat}(hT:∀s∈T,s.a<n/\s.b<n)(hq:q<n):∀t,RdK n (Zy T q t)
 |0=>⟨by show [q].Nodup;simp,λx hx=>by cases List.mem_singleton.mp hx;exact hq⟩
 |t+1=>Og T _ (λs hs=>(hT s hs).2) (Lw hT hq t)
theorem Lv{T:List Stp}{n q:Nat}{R:Za}(hT:∀s∈T,s.a<n/\s.b<n)(hq:q<n)(k:RdOk T q R):∀x∈R,x.2.length<n:=λx hx=>by
 have h:=Hl (n:=n) (k.nd x hx) λy hy=>by
  rcases QS.mp hy with rfl|hy
  ·exact hq
  ·obtain⟨s,hs,rfl⟩:=Qu.mp hy;exact(hT s ((k.pth x hx).mem s hs)).2
 rw[QC,Qb]at h;omega
theorem Rj(s:Stp):oIx (UU s) (.int 0)=some (.int (s.a:Nat)):=Zc (j:=0) rfl
theorem RU(s:Stp):oIx (UU s) (.int 1)=some (.int (s.b:Nat)):=Zc (j:=1) rfl
theorem F6(s:Stp):oIx (UU s) (.int 2)=some (.int s.g):=Zc (j:=2) rfl
section
variable{n:Nat}{T:List Stp}{q:Nat}
theorem C1(hT:∀s∈T,s.a<n/\s.b<n)(hn:n<=100)(hq:q<n):W2 [.int (q:Nat),.int (n:Nat),.list (T.map UU)]=some (YX (Zy T q n)):=by
 refine KZ (Z:=[pb (.int (q:Nat)),pb (.int (n:Nat)),pb (.list (T.map UU)),none,none,none]) rfl ?_;unfold Tx
 let S0:Option Sl:=some (.pub (.int (q:Nat)))
 let S1:Option Sl:=some (.pub (.int (n:Nat)))
 let S2:Option Sl:=some (.pub (.list (T.map UU)))
 refine Kd (Z1:=[S0,S1,S2,some (.deep .dic (YX (Zy T q 0))),none,none]) (Co (d:=YX (Zy T q 0)) (KP (x:=[(.int (q:Nat),.list [])]) rfl (Yj rfl)) (Qa rfl) rfl) ?_;apply KI;apply Zm (λt Z=>∃x4 x5,Z=[S0,S1,S2,some (.deep .dic (YX (Zy T q t))),x4,x5])
 case h1=>exact Xj (UO (UL rfl) UT) (Xf (by omega) (by omega))
 case h0=>exact⟨_,_,rfl⟩
 case hst=>
  rintro t d Z ht ⟨x4,x5,rfl⟩;refine⟨_,UR (Qa rfl) rfl,?_⟩;unfold ML;apply Zm (λj Z=>∃x4 x5,Z=[S0,S1,S2,some (.deep .dic (YX ((T.take j).foldl KY (Zy T q t)))),x4,x5])
  case h1=>exact Zn (UL rfl) ZO
  case h0=>exact⟨_,_,rfl⟩
  case hst=>
   rintro j d Z hj ⟨x4,x5,rfl⟩;rw[Qd]at hj;cases hs:T[j]? with
   |none=>rw[hs]at hj;cases hj
   |some s=>
   rw[hs]at hj;cases hj;have hsT:=Qr hs;have hsub:∀x∈T.take j,x∈T:=λx hx=>JU hx;have kR:=(Ow (T.take j) (Zy T q t) hsub (PU T q t).1).1;have kK:=Og (n:=n) (T.take j) (Zy T q t) (λx hx=>(hT x (hsub x hx)).2) (Lw hT hq t)
   have eT:(T.take (j+1)).foldl KY (Zy T q t)=KY ((T.take j).foldl KY (Zy T q t)) s:=by rw[List.take_add_one,hs,List.foldl_append];rfl
   generalize (T.take j).foldl KY (Zy T q t)=R at kR kK eT;refine⟨_,UR (Qa rfl) rfl,?_⟩;unfold MM
   have hlen:R.length<=n:=by
    have:=Hl (n:=n) kK.nd λx hx=>by obtain⟨y,hy,rfl⟩:=Qu.mp hx;exact kK.lt y hy
    rwa[Qb]at this
   by_cases ca:Ki R s.a=true
   ·by_cases cb:Ki R s.b=true
    ·refine KB (b:=false) (VI (RH (t:=true) (Kp rfl UV (Rj s)) rfl (Wv.trans (JX some ca))) (RH (t:=true) (Kp rfl UV (RU s)) rfl (Wv.trans (JX some cb)))) (λz=>by cases z) λ_=>KR (KO ⟨x4,pb (UU s),?_⟩)
     rw[eT];unfold KY;rw[if_neg (by rw[ca,cb];simp)];rfl
    ·have cb:Ki R s.b=false:=by simpa using cb
     refine KB (b:=true) (VI (RH (t:=true) (Kp rfl UV (Rj s)) rfl (Wv.trans (JX some ca))) (RH (t:=false) (Kp rfl UV (RU s)) rfl (Wv.trans (JX some cb)))) (λ_=>?_) λz=>by cases z
     have hl:=Lv hT hq kR _ (P0 ca);have hl:(Xc R s.a).length<n:=hl;have hadd:UW (.list ((Xc R s.a).map UU)) (.list [UU s])=some (.list ((Xc R s.a++[s]).map UU)):=by rw[Xg (by rw[Qb,QH];omega),Qz];rfl
     refine Zv (EL (k:=.inl ((s.b:Nat):Int)) (kvs:=R.map λx=>(.int (x.1:Nat),.list (x.2.map UU))) (U1 (CP rfl (Kp rfl UV (Rj s)) rfl (Lx ca)) (Zo (UO (UL rfl) UT) (Qa rfl)) hadd) rfl (Kp rfl UV (RU s)) rfl rfl (by rw[Qb];omega) rfl) (KO ⟨x4,pb (UU s),?_⟩);rw[C2 cb,eT];unfold KY;rw[Qm (by rw[ca,cb];rfl)];rfl
   ·have ca:Ki R s.a=false:=by simpa using ca
    refine KB (b:=false) (SN (RH (t:=false) (Kp rfl UV (Rj s)) rfl (Wv.trans (JX some ca)))) (λz=>by cases z) λ_=>KR (KO ⟨x4,pb (UU s),?_⟩)
    rw[eT];unfold KY;rw[if_neg (by rw[ca];simp)];rfl
  case hend=>rintro Z ⟨x4,x5,rfl⟩;refine KO ⟨x4,x5,?_⟩;rw[Qb,Jm];rfl
 case hend=>rintro Z ⟨x4,x5,rfl⟩;refine KE (Kw (CN rfl rfl) ?_);rw[Yx];simp
abbrev YN(T:List Stp)(n:Nat):List D:=(Ut n).map λq=>YX (Zy T q n)
theorem kg(hT:∀s∈T,s.a<n/\s.b<n)(hn:n<=100):W1 [.int (n:Nat),.list (T.map UU)]=some (.list (YN T n)):=by
 refine KZ (Z:=[pb (.int (n:Nat)),pb (.list (T.map UU))]) rfl ?_;unfold Tw;refine Kw (KJ (Yg (Xj (UO (UL rfl) UT) (Xf (by omega) (by omega))) (Xl (λZ=>∃x,Z=[pb (.int (n:Nat)),pb (.list (T.map UU)),x]) _ (YN T n) _ [] ?_ ?_ ⟨none,rfl⟩ ?_))) rfl
 ·rw[Yx,List.length_map,List.length_range];simp
 ·rintro i d e hd he Z ⟨x,rfl⟩;obtain⟨rfl,hi⟩:=XS hd;have hin:i<n:=by omega
  rw[Qd,QO hin]at he;cases he;rw[Jt];exact⟨_,UR (Qa rfl) rfl,rfl,Kk (UO (UL rfl) (UO (UL rfl) (UO (UL rfl) UT))) rfl (C1 hT hn hin),_,rfl⟩
 ·rw[QE,Yx];omega
end
theorem V7{α:Type}{s:D->UJ->Option UJ}{t:M Bool}{g:M D}(f:α->D)(p:α->Bool)(e:α->D)(I:UJ->Prop):∀(xs:List α)(Z:UJ)(es:List D),(∀a∈xs,∀Z,I Z->∃Z1,s (f a) Z=some Z1/\t Z1=.ok (p a) Z1/\(p a=true->g Z1=.ok (e a) Z1)/\I (Kl Z1))->I Z->es.length+xs.length<=1000000->KQ s t g (xs.map f) Z es=some (es++(xs.filter p).map e)
 |[],Z,es,_,_,_=>by rw[List.map_nil,KQ];simp
 |a::xs,Z,es,h,h0,hl=>by
  rw[QC]at hl;obtain⟨Z1,h1,h2,h3,h4⟩:=h a Qn Z h0;have h':=λb hb=>h b (Ql _ hb);rw[Qt,KQ,h1];dsimp only;rw[h2];dsimp only
  cases c:p a with
  |true=>rw[Qm rfl,h3 c];dsimp only;rw[Qm (by omega),V7 f p e I xs _ _ h' h4 (by rw[Qi,QH];omega),List.filter_cons_of_pos c,QY];rfl
  |false=>rw[if_neg (by decide),V7 f p e I xs _ _ h' h4 (by omega),List.filter_cons_of_neg (by rw[c];simp)]
theorem C0{S:List Stp}{n:Nat}{V:Nat->Int}(hS:∀s∈S,s.a<n+1/\s.b<n+1)(vn:V n=0)(hn:n<=100)(hl:S.length<=1000):W3 [.list (S.map UU),.list (((Ut n).map V).map int)]=some (.list ((XX S V).map UU)):=by
 refine KZ (Z:=[pb (.list (S.map UU)),pb (.list (((Ut n).map V).map int)),none]) rfl ?_;unfold Tz;have hadd:UW (.list (((Ut n).map V).map int)) (.list [.int 0])=some (.list (((Ut (n+1)).map V).map int)):=by rw[Xg (by rw[Qb,Qb,Qq,QH];omega),List.range_succ,Qz,Qz];show _=some (Uv (_++[int (V n)]));rw[vn]
 refine Kd (Kq (U1 (UL rfl) (Zo (UO UV UT) (Qa rfl)) hadd) (Qa rfl) rfl) ?_;have hix:∀p,p<n+1->oIx (.list (((Ut (n+1)).map V).map int)) (.int (p:Nat))=some (.int (V p)):=λp hp=>Pw hp
 let R:UJ:=[pb (.list (S.map UU)),pb (.list (((Ut n).map V).map int)),pb (.list (((Ut (n+1)).map V).map int))]
 have hc:KQ (gN 3) (UN oEq (UN UW (US 2 (US 3 (UQ (.int 0)))) (US 3 (UQ (.int 2)))) (US 2 (US 3 (UQ (.int 1))))) (UI 3) (S.map UU) (Kl R++Uu 1 none) []=some ((XX S V).map UU):=by refine(V7 UU (λs=>decide (V s.a+s.g=V s.b)) UU (λZ=>∃x,Z=R++[x]) S _ [] ?_ ⟨none,rfl⟩ (by rw[QE];omega)).trans (by rw[Q7];rfl);rintro s hs Z ⟨x,rfl⟩;have hs:=hS s hs;exact⟨R++[pb (UU s)],UR (Qa rfl) rfl,U1 (U1 (Kp rfl (Kp rfl UV (Rj s)) (hix _ hs.1)) (Kp rfl UV (F6 s)) KM) (Kp rfl (Kp rfl UV (RU s)) (hix _ hs.2)) Y1,λ_=>UL rfl,_,rfl⟩
 exact Kw (KJ (Yg (Zn (UL rfl) ZO) hc)) rfl
section
variable{cs:List Int}{ls:L3}{ws:LO}{qs:LP}{V:Int->Int->Int}{T:List Stp}{n m:Nat}{P:Nat->Int}
theorem xa(hn:n<=100):W0 [.list (((Ut n).map P).map int),.list (YN T (n+1))]=some (.list (((Ut n).map (Zi T P n)).map int)):=by
 refine KZ (Z:=[pb (.list (((Ut n).map P).map int)),pb (.list (YN T (n+1))),none,none]) rfl ?_;unfold Tv
 let S0:Option Sl:=some (.pub (.list (((Ut n).map P).map int)))
 let S1:Option Sl:=some (.pub (.list (YN T (n+1))))
 let S2:Option Sl:=some (.pub (.int ((n+1:Nat):Int)))
 have hlen:Ka [.list (YN T (n+1))]=some (.int ((n+1:Nat):Int)):=by rw[Zd,Qb,Qq]
 refine Kd (Z1:=[S0,S1,S2,none]) (Kq (Zz rfl hlen) (Qa rfl) rfl) ?_
 let L:List D:=((Ut (n+1)).map λp=>((ZK T (n+1) p:Nat):Int)).map int
 have hc1:KQ (gN 4) (UQ true) (K8 Ka (UM (UZ Uv (Zu (KL (UI 1)) 1 (gN 5) (K7 ZC 4 (UI 5)) (UI 5))) UK)) (ZY 0 ((n+1:Nat):Int)) (Kl [S0,S1,S2,none]++Uu 1 none) []=some L:=by
  refine(Xl (λZ=>∃x,Z=[S0,S1,S2,none,x]) _ L _ [] ?_ ?_ ⟨none,rfl⟩ ?_).trans (by rw[Q7])
  ·rw[Yx];show(List.map _ _).length=_;rw[List.length_map,List.length_map,List.length_range];simp
  ·rintro i d e hd he Z ⟨x,rfl⟩;obtain⟨rfl,hi⟩:=XS hd;have hin:i<n+1:=by omega
   have he:(((Ut (n+1)).map λp=>((ZK T (n+1) p:Nat):Int)).map int)[i]?=some e:=he;rw[Qd,Qd,QO hin]at he;cases he;rw[Jt];refine⟨_,UR (Qa rfl) rfl,rfl,?_,_,rfl⟩;have hin2:KQ (gN 5) (K7 ZC 4 (UI 5)) (UI 5) (YN T (n+1)) (Kl [S0,S1,S2,none,pb (.int (i:Nat))]++Uu 1 none) []=some (((Ut (n+1)).filter λq=>Ki (Zy T q (n+1)) i).map λq=>YX (Zy T q (n+1))):=by refine(V7 (λq=>YX (Zy T q (n+1))) (λq=>Ki (Zy T q (n+1)) i) (λq=>YX (Zy T q (n+1))) (λZ=>∃x,Z=[S0,S1,S2,none,pb (.int (i:Nat)),x]) (Ut (n+1)) _ [] ?_ ⟨none,rfl⟩ (by rw[QE,Qq];omega)).trans (by rw[Q7]);rintro q hq Z ⟨x,rfl⟩;exact⟨[S0,S1,S2,none,pb (.int (i:Nat)),pb (YX (Zy T q (n+1)))],UR (Qa rfl) rfl,ZN rfl (UL rfl) Wv,λ_=>UL rfl,_,rfl⟩
   refine Zw (UO (KJ (Yg (Zn (UL rfl) ZO) hin2)) UT) ?_;rw[Zd,Qb];show _=some (int ((ZK T (n+1) i:Nat):Int));unfold ZK;rw[List.countP_eq_length_filter]
  ·rw[QE,Yx];omega
 refine Kd (Z1:=[S0,S1,S2,some (.own L)]) (Ye (Yg (Xj (UO (UL rfl) UT) (Xf (by omega) (by omega))) hc1) (Qa rfl) rfl) ?_;have hixL:∀p,p<n+1->oIx (.list L) (.int (p:Nat))=some (.int (ZK T (n+1) p:Nat)):=λp hp=>Pw (h:=λp=>((ZK T (n+1) p:Nat):Int)) hp
 have hlast:oIx (.list L) (.int (-1))=some (.int (ZK T (n+1) n:Nat)):=by
  refine OV ?_
  show(((Ut (n+1)).map λp=>((ZK T (n+1) p:Nat):Int)).map int).getLast?=_
  rw[List.range_succ,Qz,Qz];simp
 let R:UJ:=[S0,S1,S2,pb (.list L)]
 have hc2:KQ (gT 2 (gNC (gN 4) (gNC (gN 5) gN0))) (UQ true) (UN KD (UN UW (UN Ke (UI 2) (UI 5)) (US 3 (UI 4))) (US 3 (ZU (UQ (.int 1))))) (Yl 0 (((Ut n).map P).map int)) (ZG [S0,S1,S2,some (.own L)]++Uu 2 none) []=some (((Ut n).map (Zi T P n)).map int):=by
  refine(Xl (λZ=>∃x y,Z=[S0,S1,S2,pb (.list L),x,y]) _ (((Ut n).map (Zi T P n)).map int) _ [] ?_ ?_ ⟨none,none,rfl⟩ ?_).trans (by rw[Q7])
  ·rw[Ys,Qb,Qb,Qb,Qb]
  ·rintro i d e hd he Z ⟨x,y,rfl⟩;obtain⟨z,hz,rfl⟩:=Y2 hd;have hin:i<n:=by have:=(Qg.mp hz).1;rwa[Qb,Qb,Qq]at this
   rw[Qd,Qd,QO hin]at he hz;cases he;cases hz;rw[QX];exact⟨_,Kr rfl (U2 (UR (Qa rfl) rfl) (U2 (UR (Qa rfl) rfl) Ks)),rfl,U1 (U1 (U1 (UL rfl) (UL rfl) (WA (by omega) (by omega))) (Kp rfl (UL rfl) (hixL i (by omega))) KM) (Kp rfl (SF UV) hlast) Yw,_,_,rfl⟩
  ·rw[QE,Ys,Qb,Qb,Qq];omega
 exact Kw (KJ (LV (Xp (UO (UL rfl) UT) Xo) hc2 (Gd _))) rfl
theorem xj(hp:Yc n m qs)(hn:n<=100)(hm:m<=1000)(hq1:qs.length<=500):WZ [.int (m:Nat),.list (qs.map (K6 V)),.list (((Ut n).map P).map int),.list (YN T (n+1))]=some (Zh ((n+1:Nat):Int) (askL m (λq=>((n+1:Nat):Int)*UY V q) (Zi T P n) qs) ((Ut n).map (Zi T P n))):=by
 refine KZ (Z:=[pb (.int (m:Nat)),pb (.list (qs.map (K6 V))),pb (.list (((Ut n).map P).map int)),pb (.list (YN T (n+1))),none,none,none]) rfl ?_;unfold Tu
 let S0:Option Sl:=some (.pub (.int (m:Nat)))
 let S1:Option Sl:=some (.pub (.list (qs.map (K6 V))))
 let S2:Option Sl:=some (.pub (.list (((Ut n).map P).map int)))
 let S3:Option Sl:=some (.pub (.list (YN T (n+1))))
 let S4:Option Sl:=some (.pub (.int ((n+1:Nat):Int)))
 let S5:Option Sl:=some (.pub (.list (((Ut n).map (Zi T P n)).map int)))
 have hlen:Ka [.list (YN T (n+1))]=some (.int ((n+1:Nat):Int)):=by rw[Zd,Qb,Qq]
 refine Kd (Z1:=[S0,S1,S2,S3,S4,none,none]) (Kq (Zz rfl hlen) (Qa rfl) rfl) ?_;refine Kd (Z1:=[S0,S1,S2,S3,S4,S5,none]) (Kq (Kk (UO (UL rfl) (UO (UL rfl) UT)) rfl (xa hn)) (Qa rfl) rfl) ?_
 have hc:KQ (gT 3 (gNC (gN 7) (gNC (gN 8) (gNC (gN 9) gN0)))) (UQ true) (Kt (UM (UI 7) (UM (UI 8) (UM (UN Ke (UI 4) (UI 9)) UK)))) (qs.map (K6 V)) (Kl [S0,S1,S2,S3,S4,S5,none]++Uu 3 none) []=some (qs.map (K6 λa b=>((n+1:Nat):Int)*V a b)):=by
  refine(Xl (λZ=>∃x y z,Z=[S0,S1,S2,S3,S4,S5,none,x,y,z]) _ (qs.map (K6 λa b=>((n+1:Nat):Int)*V a b)) _ [] ?_ ?_ ⟨none,none,none,rfl⟩ ?_).trans (by rw[Q7])
  ·rw[Qb,Qb]
  ·rintro i d e hd he Z ⟨x,y,z,rfl⟩;rw[Qd]at hd he;cases hq:qs[i]? with
   |none=>rw[hq]at hd;cases hd
   |some q=>
   rw[hq]at hd he;cases hd;cases he;exact⟨_,Kr rfl (U2 (UR (Qa rfl) rfl) (U2 (UR (Qa rfl) rfl) (U2 (UR (Qa rfl) rfl) Ks))),rfl,YH (UO (UL rfl) (UO (UL rfl) (UO (U1 (UL rfl) (UL rfl) (WA (by omega) (by omega))) UT))) (Qa rfl),_,_,_,rfl⟩
  ·rw[QE,Qb];omega
 refine Kd (Kq (Kk (UO (UL rfl) (UO (KJ (Yg (Zn (UL rfl) ZO) hc)) (UO (UL rfl) UT))) rfl (Do hp hm _)) (Qa rfl) rfl) ?_;exact Kw (YH (UO (UL rfl) (UO (UL rfl) (UO (UL rfl) UT))) (Qa rfl)) rfl
theorem Nc:∀(us vs:LO),PyData.eqvAll (us.map U3) (vs.map U3)=decide (us=vs)
 |[],[]=>rfl
 |[],_::_=>by simp[PyData.eqvAll]
 |_::_,[]=>by simp[PyData.eqvAll]
 |u::us,v::vs=>by
  show(UB (U3 u) (U3 v)&&PyData.eqvAll (us.map U3) (vs.map U3))=_
  have e:UB (U3 u) (U3 v)=decide (u=v):=by
   cases u with
   |none=>cases v<;>simp[U3,UB]
   |some a=>
    cases v with
    |none=>simp[U3,UB]
    |some b=>by_cases h:a=b<;>simp[U3,UB,h]
  rw[Nc us vs,e];by_cases h1:u=v<;>by_cases h2:us=vs<;>simp[h1,h2]
theorem CZ(us:LO)(L:List LO):oIn (Kf us) (.list (L.map Kf))=some (decide (us∈L)):=by
 have hlay:Uz (L.map Kf)=true:=Ta λx hx=>by obtain⟨y,_,rfl⟩:=Qu.mp hx;exact O2 y
 have hd:=BR us
 show(if(Kf us).canLay0=true/\Uz (L.map Kf)=true/\(Kf us).depth<=60 then some ((L.map Kf).any λy=>UB y (Kf us))else none)=_
 rw[Qm ⟨O2 us,hlay,by omega⟩]
 congr 1
 rw[JN,List.any_eq_true,JF];constructor
 ·rintro⟨y,hy,e⟩;obtain⟨v,hv,rfl⟩:=Qu.mp hy;have e:PyData.eqvAll (v.map U3) (us.map U3)=true:=e;rw[Nc]at e;rw[←Qa e];exact hv
 ·intro h;refine⟨Kf us,Qu.mpr ⟨us,h,rfl⟩,?_⟩;show PyData.eqvAll (us.map U3) (us.map U3)=true;rw[Nc];simp
theorem AN(us:LO)(L:List LO):∃b,Yi (Kf us) (.list (L.map Kf))=some b/\(b=false->us∈L):=by refine⟨!decide (us∈L),?_,λh=>by simpa using h⟩;unfold Yi;rw[CZ];rfl
def Vs(n:Nat)(ws:LO)(r:List Stp)(us:LO):Prop:=∃b,us=(rot b r).foldl (app n) ws
theorem AM(hp:Yc cs.length m qs){f:Int×Int->Int}(hd:Zt cs qs m ws){U:Nat->Int}(hT:T=XX (ZM cs f qs ws) U){x:Nat}{r:List Stp}(hr:Path T x r x)(hn:(r.map Stp.a).Nodup){us:LO}(h:Vs cs.length ws r us):Zt cs qs m us/\U7 f 0 us=U7 f 0 ws:=by
 obtain⟨b,rfl⟩:=h;have hin:∀s∈r,IsSt cs f qs ws s:=λs hs=>by have:=hr.mem s hs;rw[hT]at this;exact Wy hp hd s (Jz.mp this).1
 have pr:=Pv b r;obtain⟨h1,h2⟩:=Hg hp hd (λs hs=>hin s (pr.mem_iff.mp hs)) ((pr.map Stp.a).nodup_iff.mpr hn) (((pr.map Stp.b).trans (Gm hr)).trans (pr.map Stp.a).symm);refine⟨h1,?_⟩
 have hg:∀{q p:Nat}{w:List Stp},Path T q w p->U q+Km w=U p:=λh=>by
  induction h with
  |nil p=>rw[Nf];omega
  |@cons s w p hs h ih=>rw[hT]at hs;have e1:=Qa (Jz.mp hs).2;rw[V8];omega
 have:=hg hr;rw[h2,Hq pr];omega
theorem kf{s:Stp}{w:List Stp}(hs:s∈T)(h:Path T s.b w s.a)(hn:(s.b::w.map Stp.b).Nodup):Path T s.a (s::w) s.a/\((s::w).map Stp.a).Nodup:=by
 refine⟨.cons hs h,?_⟩;have e:=Mq h;have p:((s::w).map Stp.a).Perm (s.b::w.map Stp.b):=by rw[←e,Qt];exact(List.perm_append_comm (l₁:=[s.a]))
 exact p.nodup_iff.mpr hn
theorem CY(g:Good cs ls)(hp:Yc cs.length ls.length qs){f:Int×Int->Int}(hd:Zt cs qs ls.length ws){U:Nat->Int}(hT:T=XX (ZM cs f qs ws) U)(hl:T.length<=1000):∃L:List LO,X7 [Kf ws,.list (T.map UU),.list (YN T (cs.length+1))]=some (.list (L.map Kf)) /\
  ws∈L/\L.length<=1001/\(∀us∈L,Zt cs qs ls.length us/\U7 f 0 us=U7 f 0 ws)/\∀s∈T,VQ T s.b s.a->¬(s.w=none/\s.b=cs.length)->∃us∈L,∃w,Path T s.b w s.a/\(s.b::w.map Stp.b).Nodup/\Vs cs.length ws (s::w) us:=by
 have c6:=g.c6;have l7:=g.l7;have hTs:∀s∈T,IsSt cs f qs ws s:=λs hs=>by rw[hT]at hs;exact Wy hp hd s (Jz.mp hs).1
 have hTl:∀s∈T,s.a<cs.length+1/\s.b<cs.length+1:=λs hs=>(hTs s hs).lt hp hd
 have main:∃d,X7 [Kf ws,.list (T.map UU),.list (YN T (cs.length+1))]=some d/\∃L:List LO,d=.list (L.map Kf)/\ws∈L/\L.length<=1+T.length/\(∀us∈L,Zt cs qs ls.length us/\U7 f 0 us=U7 f 0 ws)/\∀s∈T,VQ T s.b s.a->¬(s.w=none/\s.b=cs.length)->∃us∈L,∃w,Path T s.b w s.a/\(s.b::w.map Stp.b).Nodup/\Vs cs.length ws (s::w) us:=by
  refine XZ (Z:=[pb (Kf ws),pb (.list (T.map UU)),pb (.list (YN T (cs.length+1))),none,none,none,none,none,none,none,none,none]) rfl ?_;unfold Tt
  let S0:Option Sl:=some (.pub (Kf ws))
  let S1:Option Sl:=some (.pub (.list (T.map UU)))
  let S2:Option Sl:=some (.pub (.list (YN T (cs.length+1))))
  let S3:Option Sl:=some (.pub (.int (cs.length:Nat)))
  have hlen:Ka [.list (YN T (cs.length+1))]=some (.int ((cs.length+1:Nat):Int)):=by rw[Zd,Qb,Qq]
  have hsub:KD (.int ((cs.length+1:Nat):Int)) (.int 1)=some (.int (cs.length:Nat)):=by rw[Yw];congr 2;omega
  refine Kd (Z1:=[S0,S1,S2,S3,none,none,none,none,none,none,none,none]) (Kq (U1 (Zz rfl hlen) UV hsub) (Qa rfl) rfl) ?_;have hls:XH [Kf ws]=some (ws.map U3):=rfl;refine Kd (Z1:=[S0,S1,S2,S3,some (.own ([ws].map Kf)),none,none,none,none,none,none,none]) (Ye (Wr (UO (KJ (O9 rfl hls)) UT) (Qa rfl)) (Qa rfl) rfl) ?_;apply KI;apply Zm (λj Z=>∃(L:List LO)(x5 x6 x7 x8 x9 x10 x11:Option Sl),Z=[S0,S1,S2,S3,some (.own (L.map Kf)),x5,x6,x7,x8,x9,x10,x11]/\ws∈L/\L.length<=1+j/\(∀us∈L,Zt cs qs ls.length us/\U7 f 0 us=U7 f 0 ws)/\∀s∈T.take j,VQ T s.b s.a->¬(s.w=none/\s.b=cs.length)->∃us∈L,∃w,Path T s.b w s.a/\(s.b::w.map Stp.b).Nodup/\Vs cs.length ws (s::w) us)
  case h1=>exact Zn (UL rfl) ZO
  case h0=>exact⟨[ws],_,_,_,_,_,_,_,rfl,Qv.mpr rfl,Qs _,λus hu=>by cases Qv.mp hu;exact⟨hd,rfl⟩,λs hs=>by rw[JY]at hs;cases hs⟩
  case hst=>
   rintro j d Z hj ⟨L,x5,x6,x7,x8,x9,x10,x11,rfl,hw,hL,hb,hsh⟩;have hjl:j<T.length:=by have:=(Qg.mp hj).1;rwa[Qb]at this
   rw[Qd]at hj;cases hs:T[j]? with
   |none=>rw[hs]at hj;cases hj
   |some s=>
   rw[hs]at hj;cases hj;have hsT:=Qr hs;have hab:=hTl s hsT;refine⟨_,UR (Qa rfl) rfl,?_⟩;unfold MP
   let S5:Option Sl:=some (.pub (UU s))
   let S6:Option Sl:=some (.pub (.int (s.a:Nat)))
   let S7:Option Sl:=some (.pub (.int (s.b:Nat)))
   let S8:Option Sl:=some (.pub (.int s.g))
   let S9:Option Sl:=some (.pub (YD s.w))
   refine Kd (Z1:=[S0,S1,S2,S3,some (.own (L.map Kf)),S5,S6,S7,S8,S9,x10,x11]) (Wi (UL rfl) (Kr rfl (U2 (UR (Qa rfl) rfl) (U2 (UR (Qa rfl) rfl) (U2 (UR (Qa rfl) rfl) (U2 (UR (Qa rfl) rfl) Ks)))))) ?_;have hnon:isNon (YD s.w)=s.w.isNone:=by cases s.w<;>rfl
   let c10:Bool:=s.w.isNone&&decide ((s.b:Int)=(cs.length:Nat))
   refine Kd (Z1:=[S0,S1,S2,S3,some (.own (L.map Kf)),S5,S6,S7,S8,S9,pb (.bool c10),x11]) (Kq (Pt (t:=s.w.isNone) (u:=decide ((s.b:Int)=(cs.length:Nat))) (by rw[←hnon];exact KJ (UL rfl)) λ_=>KJ (ZN rfl (UL rfl) Y1)) (Qa rfl) rfl) ?_;have hrd:oIx (.list (YN T (cs.length+1))) (.int (s.b:Nat))=some (YX (Zy T s.b (cs.length+1))):=Zc (by rw[Qd,QO hab.2];rfl)
   have hnext:∀(L':List LO),(∀us∈L,us∈L')->(VQ T s.b s.a->¬(s.w=none/\s.b=cs.length)->∃us∈L',∃w,Path T s.b w s.a/\(s.b::w.map Stp.b).Nodup/\Vs cs.length ws (s::w) us)->∀x∈T.take (j+1),VQ T x.b x.a->¬(x.w=none/\x.b=cs.length)->∃us∈L',∃w,Path T x.b w x.a/\(x.b::w.map Stp.b).Nodup/\Vs cs.length ws (x::w) us:=λL' hsub hn x hx=>by
    rw[List.take_add_one,hs]at hx;rcases QJ.mp hx with hx|hx
    ·intro h1 h2;obtain⟨us,h3,h4⟩:=hsh x hx h1 h2;exact⟨us,hsub us h3,h4⟩
    ·have:x=s:=by simpa using hx
     subst this;exact hn
   have hkey:=Nj (q:=s.b) (p:=s.a) hTl (Ug _);by_cases c:Ki (Zy T s.b (cs.length+1)) s.a=true/\c10=false
   ·obtain⟨c1,c2⟩:=c;have kR:=(PU T s.b (cs.length+1)).1;have hm:=P0 c1;have hpw:=kR.pth _ hm;have hnw:=kR.nd _ hm;have hlw:=Lv hTl hab.2 kR _ hm;generalize hw0:Xc (Zy T s.b (cs.length+1)) s.a=w at hm hpw hnw hlw;have hpw:Path T s.b w s.a:=hpw;have hnw:(s.b::w.map Stp.b).Nodup:=hnw;have hlw:w.length<cs.length+1:=hlw;obtain⟨r1,r2⟩:=kf hsT hpw hnw;have hadd:UW (.list [UU s]) (.list (w.map UU))=some (.list ((s::w).map UU)):=by rw[Xg (by rw[Qb,QH];omega)];rfl
    have hget:=Lx c1;rw[hw0]at hget;obtain⟨b,hbl,hbat,hway⟩:=GY (n:=cs.length) (r:=s::w) (by rw[QC];omega)
    have hall:∀p∈(rot b (s::w)).filterMap (Xd cs.length),p.1<ws.length:=λp hpm=>by
     obtain⟨x,hx,e⟩:=Jk.mp hpm;have hxr:x∈s::w:=(Pv b (s::w)).mem_iff.mp hx;cases hTs x (r1.mem x hxr)with
     |@mv i o o' hw' _ _=>cases e;exact(Qg.mp hw').1
     |left _ _=>cases e
     |give _=>cases e
    have hbeh:=Hr hall;rw[PV]at hbeh;generalize hus:(rot b (s::w)).foldl (app cs.length) ws=us at hbeh;have hgone:Vs cs.length ws (s::w) us:=⟨b,hus.symm⟩;have hbest:=AM hp hd hT r1 r2 hgone;refine KB (b:=true) (VI (by rw[←c1];exact ZN rfl (Kp rfl (UL rfl) hrd) Wv) ((Xm (t:=c10) (X2 (UL rfl))).trans (JX (λb=>Res.ok b _) (by rw[c2];rfl)))) (λ_=>?_) λz=>by cases z
    refine Kd (Z1:=[S0,S1,S2,S3,some (.own (L.map Kf)),S5,S6,S7,S8,S9,pb (.bool c10),pb (Kf us)]) (Kq (Kk (UO (UL rfl) (UO (Kk (UO (UL rfl) (UO (U1 (Zo (UO (UL rfl) UT) (Qa rfl)) (U1 (Kp rfl (UL rfl) hrd) (UL rfl) hget) hadd) UT)) rfl hway) UT)) rfl hbeh) (Qa rfl) rfl) ?_;obtain⟨bb,hnin,hnb⟩:=AN us L;refine KB (b:=bb) (O4 (UL rfl) rfl hnin) (λ_=>?_) λhb0=>?_
    ·have e:(L++[us]).map Kf=L.map Kf++[Kf us]:=by rw[Qz];rfl
     refine Zv (XQ rfl (UL rfl) rfl (by rw[Qb];omega) rfl) (KO ⟨L++[us],S5,S6,S7,S8,S9,_,_,by rw[e];rfl,Q0 _ hw,by rw[Qi,QH];omega,λv hv=>?_,?_⟩)
     ·rcases QJ.mp hv with hv|hv
      ·exact hb v hv
      ·cases Qv.mp hv;exact hbest
     ·exact hnext _ (λv hv=>Q0 _ hv) λ_ _=>⟨us,QL _ (Qv.mpr rfl),w,hpw,hnw,hgone⟩
    ·exact KR (KO ⟨L,S5,S6,S7,S8,S9,_,_,rfl,hw,by omega,hb,hnext _ (λv hv=>hv) λ_ _=>⟨us,hnb hb0,w,hpw,hnw,hgone⟩⟩)
   ·have hf:(KW (K7 ZC 6 (US 2 (UI 7))) (KN (Z9 (UI 10)))) [S0,S1,S2,S3,some (.own (L.map Kf)),S5,S6,S7,S8,S9,pb (.bool c10),x11]=.ok false [S0,S1,S2,S3,some (.own (L.map Kf)),S5,S6,S7,S8,S9,pb (.bool c10),x11]:=by
     cases c1:Ki (Zy T s.b (cs.length+1)) s.a with
     |false=>exact SN (by rw[←c1];exact ZN rfl (Kp rfl (UL rfl) hrd) Wv)
     |true=>
      have c2:c10=true:=by
       cases c2:c10 with
       |true=>rfl
       |false=>exact absurd ⟨c1,c2⟩ c
      exact VI (by rw[←c1];exact ZN rfl (Kp rfl (UL rfl) hrd) Wv) ((Xm (t:=c10) (X2 (UL rfl))).trans (JX (λb=>Res.ok b _) (by rw[c2];rfl)))
    refine KB (b:=false) hf (λz=>by cases z) λ_=>KR (KO ⟨L,S5,S6,S7,S8,S9,_,_,rfl,hw,by omega,hb,hnext _ (λv hv=>hv) λh1 h2=>?_⟩)
    refine absurd ⟨hkey.mpr h1,?_⟩ c;cases c2:c10 with
    |false=>rfl
    |true=>obtain⟨d1,d2⟩:=JV.mp c2;exact absurd ⟨by simpa using d1,by have:=of_decide_eq_true d2;omega⟩ h2
  case hend=>rintro Z ⟨L,x5,x6,x7,x8,x9,x10,x11,rfl,hw,hL,hb,hsh⟩;rw[Qb]at hL hsh;rw[Jm]at hsh;exact KE (Kw (Yt rfl rfl) ⟨_,rfl,L,rfl,hw,hL,hb,hsh⟩)
 obtain⟨d,h1,L,rfl,h2,h3,h4,h5⟩:=main;exact⟨L,h1,h2,by omega,h4,h5⟩
structure WebQ(cs:List Int)(f:Int×Int->Int)(qs:LP)(m:Nat)(ws:LO)(T:List Stp)(as ps:List Int)(L:List LO):Prop where
 dl:Zt cs qs m ws
 st:SA cs f qs ws
 tt:T=XX (ZM cs f qs ws) (prW cs f qs ws)
 ea:as=askL m (λq=>((cs.length+1:Nat):Int)*f q) (Zi T (prW cs f qs ws) cs.length) qs
 ep:ps=(Ut cs.length).map (Zi T (prW cs f qs ws) cs.length)
 ok:OkP cs.length m (λa b=>f (a,b)) qs ((cs.length+1:Nat):Int) as ps
 cl:XN cs as ps=((cs.length+1:Nat):Int)*U7 f 0 ws
 len:L.length<=1001
 fst:ws∈L
 best:∀us∈L,Zt cs qs m us/\U7 f 0 us=U7 f 0 ws
 shw:∀s∈T,VQ T s.b s.a->¬(s.w=none/\s.b=cs.length)->∃us∈L,∃w,Path T s.b w s.a/\(s.b::w.map Stp.b).Nodup/\Vs cs.length ws (s::w) us
theorem AL{o:Ord}{old:Option LO}{ts:List Int}(g:Good cs ls)(ga:XR cs.length ls.length old ts):∃ws T as ps L,WX [Kg cs ls,KS o old ts]=some (.tuple [Zh ((cs.length+1:Nat):Int) as ps,.list (L.map Kf)])/\WebQ cs (UY (Kx ls o old ts)) (U9 0 ls) ls.length ws T as ps L:=by
 have c6:=g.c6;have l7:=g.l7;have hp:=Nq g;have hq:=Dp g;obtain⟨M,hM0,hM,hF⟩:∃M:Int,0<=M/\(∀q∈U9 0 ls,UY (Kx ls o old ts) q<=M)/\ls.length*M<10 ^ 60:=⟨18446744073709551616,by decide,λq hq=>by have:=Ah (o:=o) g ga hq;show Kx ls o old ts q.1 q.2<=_;omega,by omega⟩
 obtain⟨d,hbb,ws,rfl,hd,st⟩:=jz (V:=Kx ls o old ts) g hp (by omega) hM0 hM hF;have hS:∀s∈ZM cs (UY (Kx ls o old ts)) (U9 0 ls) ws,s.a<cs.length+1/\s.b<cs.length+1:=λs hs=>(Wy hp hd s hs).lt hp hd;have vn:=(Hf (V:=prW cs (UY (Kx ls o old ts)) (U9 0 ls) ws) hp hd (Wy hp hd) (Nk hp hd) (λp=>rfl) st).2;have has:Yr [Kg cs ls,.list ((U9 0 ls).map (K6 (Kx ls o old ts))),Kf ws]=some (.list ((ZM cs (UY (Kx ls o old ts)) (U9 0 ls) ws).map UU)):=NB g hd.len (by rw[hd.len];exact hp) (by rw[hd.len];exact hd) (by omega)
 have hdl:=hd.len;have hal:=AV (f:=UY (Kx ls o old ts)) (ws:=ws) (cs:=cs) (qs:=U9 0 ls) (by omega) (by omega) (by omega);have hti:=C0 hS vn (by omega) hal;generalize hT:XX (ZM cs (UY (Kx ls o old ts)) (U9 0 ls) ws) (prW cs (UY (Kx ls o old ts)) (U9 0 ls) ws)=T at hti;have hTl:T.length<=1000:=by rw[←hT];exact QR (JL _ _) hal
 have hTs:∀s∈T,s.a<cs.length+1/\s.b<cs.length+1:=λs hs=>by rw[←hT]at hs;exact hS s (Jz.mp hs).1
 obtain⟨L,hsh,h1,h2,h3,h4⟩:=CY g hp hd hT.symm hTl;obtain⟨ok,cl⟩:=AO hp hd st hT.symm;have hroads:=kg (n:=cs.length+1) hTs (by omega);refine⟨ws,T,_,_,L,?_,hd,st,hT.symm,rfl,rfl,ok,cl,h2,h1,h3,h4⟩;refine KZ (Z:=[pb (Kg cs ls),pb (KS o old ts),none,none,none,none,none]) rfl ?_;unfold Tr;refine Kd (Kq (Kk (UO (UL rfl) (UO (UL rfl) UT)) rfl (kU g ga)) (Qa rfl) rfl) ?_;refine Kd (Kq (Kk (UO (UL rfl) (UO (UL rfl) UT)) rfl hbb) (Qa rfl) rfl) ?_;refine Kd (Kq (Kk (UO (UL rfl) (UO (UL rfl) (UO (UL rfl) UT))) rfl (AS g hp hd (by omega))) (Qa rfl) rfl) ?_;refine Kd (Kq (Kk (UO (Kk (UO (UL rfl) (UO (UL rfl) (UO (UL rfl) UT))) rfl has) (UO (UL rfl) UT)) rfl hti) (Qa rfl) rfl) ?_;have hlp:Ka [.list (((Ut cs.length).map (prW cs (UY (Kx ls o old ts)) (U9 0 ls) ws)).map int)]=some (.int (cs.length:Nat)):=by rw[Zd,Qb,Qb,Qq]
 have hld:Ka [Kf ws]=some (.int (ls.length:Nat)):=by unfold Kf;rw[Zd,Qb,hd.len]
 refine Kd (Kq (Kk (UO (U1 (Zz rfl hlp) UV KM) (UO (UL rfl) UT)) rfl hroads) (Qa rfl) rfl) ?_;exact Kw (YH (UO (Kk (UO (Zz rfl hld) (UO (UL rfl) (UO (UL rfl) (UO (UL rfl) UT)))) rfl (xj hp (by omega) (by omega) (by omega))) (UO (Kk (UO (UL rfl) (UO (UL rfl) (UO (UL rfl) UT))) rfl hsh) UT)) (Qa rfl)) rfl
end
def ZX(f:Int×Int->Int)(qs:LP)(tm:Int)(as ps:List Int):LP:=qs.filter λq=>decide (as.getD q.1.toNat 0+ps.getD q.2.toNat 0=tm*f q)
section
variable{cs:List Int}{ls:L3}{o:Ord}{old:Option LO}{ts:List Int}{tm:Int}{as ps:List Int}{ws:LO}
theorem ke(g:Good cs ls)(ga:XR cs.length ls.length old ts)(htm:0<=tm/\tm<=1000)(hla:as.length=ls.length)(hlp:ps.length=cs.length):WR [Kg cs ls,KS o old ts,Zh tm as ps]=some (.list ((ZX (UY (Kx ls o old ts)) (U9 0 ls) tm as ps).map Kc)):=by
 have l7:=g.l7;have c6:=g.c6
 let F:=UY (Kx ls o old ts)
 refine KZ (Z:=[pb (Kg cs ls),pb (KS o old ts),pb (Zh tm as ps),none,none,none]) rfl ?_;unfold Th
 let S0:Option Sl:=some (.pub (Kg cs ls))
 let S1:Option Sl:=some (.pub (KS o old ts))
 let S2:Option Sl:=some (.pub (Zh tm as ps))
 refine Kd (Z1:=[S0,S1,S2,some (.own []),none,none]) (Ye (Wr UT (Qa rfl)) (Qa rfl) rfl) ?_;apply KI;apply Zm (λi Z=>∃x4 x5,Z=[S0,S1,S2,some (.own ((ZX F (U9 0 (ls.take i)) tm as ps).map Kc)),x4,x5])
 case h1=>exact Xj (UO (Zw (UO (Kp rfl UV XV) UT) Zd) UT) (Xf (by rw[Qb];omega) (by omega))
 case h0=>exact⟨_,_,rfl⟩
 case hst=>
  rintro i d Z hi ⟨x4,x5,rfl⟩;obtain⟨rfl,hlt⟩:=XS hi;rw[Qb]at hlt;have hil:i<ls.length:=by omega
  have hls:ls[i]?=some ls[i]:=Qe hil;have gr:=g.rk _ (Qr hls);have hfl:=RK gr;refine⟨_,UR (Qa rfl) rfl,?_⟩;unfold MV;rw[Jt];have hw:=HJ (cs:=cs) hls (by omega)
  let W:=Z7 ls[i].flatten
  have hWl:W.length<=6:=by show(Z7 _).length<=6;rw[(XT _).length_eq];omega
  have ha:(ZX F (U9 0 (ls.take i)) tm as ps).length<=42:=by
   have h1:=Ak (n:=6) (ls.take i) 0 λrs hrs=>by have:=RK (g.rk rs (JU hrs));omega
   rw[QP]at h1;have h2:(ZX F (U9 0 (ls.take i)) tm as ps).length<=(U9 0 (ls.take i)).length:=JL _ _;have:min i ls.length<=7:=by omega
   omega
  apply Zm (λj Z=>∃x5,Z=[S0,S1,S2,some (.own (((ZX F (U9 0 (ls.take i)) tm as ps)++ZX F ((W.take j).map λt=>((i:Int),t)) tm as ps).map Kc)),pb (.int (i:Nat)),x5])
  case h1=>exact Zn (Kk (UO (UL rfl) (UO (UL rfl) UT)) rfl hw) ZO
  case h0=>exact⟨x5,by show _=[S0,S1,S2,some (.own (((ZX F (U9 0 (ls.take i)) tm as ps)++[]).map Kc)),_,_];rw[Jb];rfl⟩
  case hst=>
   rintro j d Z hj ⟨x5,rfl⟩;rw[Qd]at hj;cases hz:W[j]? with
   |none=>rw[show(Z7 ls[i].flatten)[j]?=none from hz]at hj;cases hj
   |some t=>
   rw[show(Z7 ls[i].flatten)[j]?=some t from hz]at hj;cases hj;have htf:t∈ls[i].flatten:=(XT _).mem_iff.mp (Qr hz);obtain⟨r,hr,htr⟩:=J4.mp htf;have htb:=gr.there r hr t htr;have hwo:=GZ (o:=o) g ga hls htf;have hF:F ((i:Int),t)=K1 ls o old ts i ls[i] t:=by show K1 ls o old ts (i:Int).toNat (ls.getD (i:Int).toNat []) t=_;rw[QD,Qo,hls];rfl
   rw[←hF]at hwo;have hia:oIx (.list (as.map int)) (.int (i:Nat))=some (.int (as.getD i 0)):=RG (k:=(i:Int)) (by omega) (by omega);have hip:oIx (.list (ps.map int)) (.int t)=some (.int (ps.getD t.toNat 0)):=RG htb.1 (by omega);have eT:ZX F ((W.take (j+1)).map λt=>((i:Int),t)) tm as ps=ZX F ((W.take j).map λt=>((i:Int),t)) tm as ps++ZX F [((i:Int),t)] tm as ps:=by unfold ZX;rw[List.take_add_one,hz,Qz,List.filter_append];rfl
   have hlen:((ZX F (U9 0 (ls.take i)) tm as ps++ZX F ((W.take j).map λt=>((i:Int),t)) tm as ps).map Kc).length<1000000:=by rw[Qb,Qi];have h2:(ZX F ((W.take j).map λt=>((i:Int),t)) tm as ps).length<=((W.take j).map λt=>((i:Int),t)).length:=JL _ _;rw[Qb,QP]at h2;omega
   refine⟨_,UR (Qa rfl) rfl,?_⟩;unfold MW;refine KB (b:=decide (as.getD i 0+ps.getD t.toNat 0=tm*F ((i:Int),t))) (Z1:=[S0,S1,S2,some (.own (((ZX F (U9 0 (ls.take i)) tm as ps)++ZX F ((W.take j).map λt=>((i:Int),t)) tm as ps).map Kc)),pb (.int (i:Nat)),pb (.int t)]) (U1 (U1 (U1 (Kp rfl UV NP) (UL rfl) hia) (U1 (Kp rfl UV NO) (UL rfl) hip) KM) (U1 (Kp rfl UV NK) (Kk (UO (UL rfl) (UO (UL rfl) (UO (UL rfl) (UO (UL rfl) UT)))) rfl hwo) (WA (by omega) (by omega))) Y1) (λh=>?_) λh=>?_
   ·have h:as.getD i 0+ps.getD t.toNat 0=tm*F ((i:Int),t):=Qa h;refine Zv (XQ rfl (YH (UO (UL rfl) (UO (UL rfl) UT)) (Qa rfl)) rfl hlen rfl) (KO ⟨some (.pub (.int t)),?_⟩);rw[eT,show ZX F [((i:Int),t)] tm as ps=[((i:Int),t)]from List.filter_cons_of_pos (by rw[QD];exact Jc h),←QY,Qz (l₂:=[((i:Int),t)])];rfl
   ·have h:¬as.getD i 0+ps.getD t.toNat 0=tm*F ((i:Int),t):=Ja h;refine KR (KO ⟨some (.pub (.int t)),?_⟩);rw[eT,show ZX F [((i:Int),t)] tm as ps=[]from List.filter_cons_of_neg (by rw[Int.toNat_natCast];simpa using h),List.append_nil]
  case hend=>
   rintro Z ⟨x5,rfl⟩;refine KO ⟨some (.pub (.int (i:Nat))),x5,?_⟩;have e:U9 0 (ls.take (i+1))=U9 0 (ls.take i)++W.map λt=>((i:Int),t):=by rw[List.take_succ_eq_append_getElem (by omega),LM,QP,Nat.min_eq_left (by omega),QX];show _++((Z7 ls[i].flatten).map (λt=>((i:Int),t))++[])=_;rw[Jb]
   have e2:ZX F (U9 0 (ls.take (i+1))) tm as ps=ZX F (U9 0 (ls.take i)) tm as ps++ZX F (W.map λt=>((i:Int),t)) tm as ps:=by rw[e];exact List.filter_append ..
   rw[e2,Qb,Jm]
 case hend=>rintro Z ⟨x4,x5,rfl⟩;rw[Yx,Qb];refine KE (Kw (Yt rfl rfl) ?_);rw[show((ls.length:Int)-0).toNat=ls.length by omega,Jm]
theorem Mx{q:Int×Int}{L:LP}:oIn (Kc q) (.list (L.map Kc))=some (decide (q∈L)):=by
 have hlq:∀q:Int×Int,(Kc q).canLay0=true:=λq=>rfl;have hlay:Uz (L.map Kc)=true:=Ta λx hx=>by obtain⟨y,_,rfl⟩:=Qu.mp hx;rfl
 show(if(Kc q).canLay0=true/\Uz (L.map Kc)=true/\(Kc q).depth<=60 then some ((L.map Kc).any λy=>UB y (Kc q))else none)=_
 rw[if_pos ⟨rfl,hlay,by show(PyData.tuple [.int q.1,.int q.2]).depth<=60;simp[UA,PyData.depthAll]⟩]
 congr 1
 have e:∀p:Int×Int,UB (Kc p) (Kc q)=decide (p=q):=λp=>by
  show(p.1==q.1&&(p.2==q.2&&true))=_
  obtain⟨a,b⟩:=p;obtain⟨c,d⟩:=q;by_cases h1:a=c<;>by_cases h2:b=d<;>simp[h1,h2]
 rw[JN,List.any_eq_true,JF];constructor
 ·rintro⟨y,hy,h⟩;obtain⟨p,hp,rfl⟩:=Qu.mp hy;rw[e]at h;rw[←Qa h];exact hp
 ·intro h;exact⟨Kc q,List.mem_map.mpr ⟨q,h,rfl⟩,by rw[e];simp⟩
theorem Hk(g:Good cs ls)(ok:OkP cs.length ls.length (Kx ls o old ts) (U9 0 ls) tm as ps)(dl:Deal cs ls ws):∃b,Y8 [Kg cs ls,Zh tm as ps,.list ((ZX (UY (Kx ls o old ts)) (U9 0 ls) tm as ps).map Kc),Kf ws]=some (.bool b)/\(b=true ↔ Oh cs (UY (Kx ls o old ts)) tm as ps ws):=by
 have l7:=g.l7;have c6:=g.c6;have hla:=ok.la;have hlp:=ok.lp;have hdl:=dl.len
 let F:=UY (Kx ls o old ts)
 let TW:=ZX F (U9 0 ls) tm as ps
 have hqs:=Hd dl
 have main:∃d,Y8 [Kg cs ls,Zh tm as ps,.list (TW.map Kc),Kf ws]=some d/\∃b,d=.bool b/\(b=true ↔ Oh cs F tm as ps ws):=by
  refine XZ (Z:=[pb (Kg cs ls),pb (Zh tm as ps),pb (.list (TW.map Kc)),pb (Kf ws),none,none]) rfl ?_;unfold Tg
  let S0:Option Sl:=some (.pub (Kg cs ls))
  let S1:Option Sl:=some (.pub (Zh tm as ps))
  let S2:Option Sl:=some (.pub (.list (TW.map Kc)))
  let S3:Option Sl:=some (.pub (Kf ws))
  apply KI;apply Zm (λi Z=>(∃x4 x5,Z=[S0,S1,S2,S3,x4,x5])/\(∀(j:Nat) t,j<i->ws[j]?=some (some t)->tm*F ((j:Int),t)=as.getD j 0+ps.getD t.toNat 0)/\∀j:Nat,j<i->ws[j]?=some none->as.getD j 0=0)
  case h1=>exact Xp (UO (UL rfl) UT) Xo
  case h0=>exact⟨⟨_,_,rfl⟩,λj t h=>absurd h (Js _),λj h=>absurd h (Js _)⟩
  case hst=>
   rintro i d Z hi ⟨⟨x4,x5,rfl⟩,k1,k2⟩;obtain⟨x,hx,rfl⟩:=Y2 hi;rw[Qd]at hx;cases hw:ws[i]? with
   |none=>rw[hw]at hx;cases hx
   |some ot=>
   rw[hw]at hx;cases hx;have hil:i<ws.length:=(Qg.mp hw).1;refine⟨_,Kr rfl (U2 (UR (Qa rfl) rfl) (U2 (UR (Qa rfl) rfl) Ks)),?_⟩;rw[QX];unfold M0;have hia:oIx (.list (as.map int)) (.int (i:Nat))=some (.int (as.getD i 0)):=RG (k:=(i:Int)) (by omega) (by omega);cases ot with
   |none=>
    refine KB (b:=decide (0<as.getD i 0)) (Z1:=[S0,S1,S2,S3,pb (.int (i:Nat)),some (.pub .none)]) (XY (SN (Sv (UL rfl) rfl)) (VI (Z1:=[S0,S1,S2,S3,pb (.int (i:Nat)),some (.pub .none)]) rfl (U1 (U1 (Kp rfl UV NP) (UL rfl) hia) UV SE))) (λh=>?_) λh=>?_
    ·refine Kw UV (VO (Wl ⟨_,rfl,false,rfl,λz=>(by cases z),λz=>?_⟩));have:=z.non i hw;have h:=Qa h;omega
    ·have h:=Ja h;have h0:0<=as.getD i 0:=by rw[Qo,Qe (by omega)];exact ok.aa _ (JB _)
     refine KR (KO ⟨⟨_,_,rfl⟩,λj t hj e=>?_,λj hj e=>?_⟩)
     ·by_cases z:j=i
      ·subst z;rw[hw]at e;cases e
      ·exact k1 j t (by omega) e
     ·by_cases z:j=i
      ·subst z;omega
      ·exact k2 j (by omega) e
   |some t=>
    have hq:=hqs.wish i t hw
    have hin:decide (((i:Int),t)∈TW)=decide (as.getD i 0+ps.getD t.toNat 0=tm*F ((i:Int),t)):=by
     rw[JN,JF,JF]
     show((i:Int),t)∈List.filter _ _ ↔ _
     rw[List.mem_filter,JF,QD];exact⟨λh=>h.2,λh=>⟨hq,h⟩⟩
    have hnin:Yi (Kc ((i:Int),t)) (.list (TW.map Kc))=some (!decide (as.getD i 0+ps.getD t.toNat 0=tm*F ((i:Int),t))):=by unfold Yi;rw[Mx,hin];rfl
    refine KB (b:=(!decide (as.getD i 0+ps.getD t.toNat 0=tm*F ((i:Int),t)))) (Z1:=[S0,S1,S2,S3,pb (.int (i:Nat)),pb (.int t)]) ?_ (λh=>?_) λh=>?_
    ·have ha:=VI (g:=UN Yi (Kt (UM (UI 4) (UM (UI 5) UK))) (UI 2)) (f:=UZ (λd=>!isNon d) (UI 5)) (Z:=[S0,S1,S2,S3,pb (.int (i:Nat)),pb (.int t)]) (Sv (UL rfl) rfl) (U1 (YH (UO (UL rfl) (UO (UL rfl) UT)) (Qa rfl)) (UL rfl) hnin);generalize (!decide (as.getD i 0+ps.getD t.toNat 0=tm*F ((i:Int),t)))=bb at ha;cases bb with
     |true=>exact EV ha
     |false=>exact XY ha (SN rfl)
    ·refine Kw UV (VO (Wl ⟨_,rfl,false,rfl,λz=>(by cases z),λz=>?_⟩));have h:¬as.getD i 0+ps.getD t.toNat 0=tm*F ((i:Int),t):=by simpa using h
     exact absurd (z.got i t hw).symm h
    ·have h:as.getD i 0+ps.getD t.toNat 0=tm*F ((i:Int),t):=by simpa using h
     refine KR (KO ⟨⟨_,_,rfl⟩,λj u hj e=>?_,λj hj e=>?_⟩)
     ·by_cases z:j=i
      ·subst z;rw[hw]at e;cases e;exact h.symm
      ·exact k1 j u (by omega) e
     ·by_cases z:j=i
      ·subst z;rw[hw]at e;cases e
      ·exact k2 j (by omega) e
  case hend=>
  rintro Z ⟨⟨x4,x5,rfl⟩,k1,k2⟩;rw[Ys,Qb]at k1 k2;refine KE ?_;apply KI;have hlc:Ka [.list (cs.map int)]=some (.int (cs.length:Nat)):=by rw[Zd,Qb]
  apply Zm (λk Z=>(∃x5,Z=[S0,S1,S2,S3,x4,x5])/\∀j:Nat,j<k->ps.getD j 0=0∨((ws.count (some (j:Int)):Nat):Int)=cs.getD j 0)
  case h1=>exact Xj (UO (Zw (UO (Kp rfl UV We) UT) hlc) UT) (Xf (by omega) (by omega))
  case h0=>exact⟨⟨_,rfl⟩,λj h=>absurd h (Js _)⟩
  case hst=>
   rintro k d Z hk ⟨⟨x5,rfl⟩,k3⟩;obtain⟨rfl,hlt⟩:=XS hk;have hkl:k<cs.length:=by omega
   refine⟨_,UR (Qa rfl) rfl,?_⟩;rw[Jt];unfold M4;have hip:oIx (.list (ps.map int)) (.int (k:Nat))=some (.int (ps.getD k 0)):=RG (k:=(k:Int)) (by omega) (by omega);have hic:oIx (.list (cs.map int)) (.int (k:Nat))=some (.int (cs.getD k 0)):=RG (k:=(k:Int)) (by omega) (by omega);have hp0:0<=ps.getD k 0:=by rw[Qo,Qe (by omega)];exact ok.pp _ (JB _)
   have hcop:=dl.cop k (cs.getD k 0) (by rw[Qo,Qe hkl];rfl);refine KB (b:=decide (0<ps.getD k 0)&&decide (((ws.count (some (k:Int)):Nat):Int)<cs.getD k 0)) (Z1:=[S0,S1,S2,S3,x4,pb (.int (k:Nat))]) (N5 (U1 (U1 (Kp rfl UV NO) (UL rfl) hip) UV SE) λ_=>U1 (Ha (UL rfl) (UO (UL rfl) UT) Gs) (U1 (Kp rfl UV We) (UL rfl) hic) SE) (λh=>?_) λh=>?_
   ·refine Kw UV (VO (Wl ⟨_,rfl,false,rfl,λz=>(by cases z),λz=>?_⟩));obtain⟨h1,h2⟩:=JV.mp h;have h1:=Qa h1;have h2:=Qa h2;rcases z.all k hkl with y|y<;>omega
   ·refine KR (KO ⟨⟨_,rfl⟩,λj hj=>?_⟩);by_cases z:j=k
    ·subst z;by_cases y:0<ps.getD j 0
     ·refine .inr ?_;rw[Jc y,Bool.true_and]at h;have:=Ja h;omega
     ·exact .inl (by omega)
    ·exact k3 j (by omega)
  case hend=>rintro Z ⟨⟨x5,rfl⟩,k3⟩;rw[Yx,show((cs.length:Int)-0).toNat=cs.length by omega]at k3;refine KE (Kw UV ⟨_,rfl,true,rfl,λ_=>⟨λi t e=>k1 i t (Qg.mp e).1 e,λi e=>k2 i (Qg.mp e).1 e,k3⟩,λ_=>rfl⟩)
 obtain⟨d,h1,b,rfl,h2⟩:=main;exact⟨b,h1,h2⟩
end
section
variable{cs:List Int}{ls:L3}{ws:LO}{W:List (Nat×Option Int)}{o:Ord}{old:Option LO}{ts:List Int}
theorem AK(g:Good cs ls)(ga:XR cs.length ls.length old ts)(dl:Deal cs ls ws):WS [Kg cs ls,KS o old ts,Kf ws]=some (.int (Zj (Yp (K1 ls o old ts) 0 ls ws))):=by
 let S0:Option Sl:=some (.pub (Kg cs ls))
 let S1:Option Sl:=some (.pub (KS o old ts))
 let S2:Option Sl:=some (.pub (Kf ws))
 have hl:=dl.len
 let G:=Yp (K1 ls o old ts) 0 ls ws
 refine KZ (Z:=[S0,S1,S2,none,none,none]) rfl ?_;unfold Ti;refine Kd (Kq UV (Qa rfl) rfl) ?_;apply KI;apply Zm (λk Z=>∃x4 x5,Z=[S0,S1,S2,pb (.int (Zj (G.take k))),x4,x5])
 case h1=>exact Xp (UO (UL rfl) UT) Xo
 case h0=>exact⟨_,_,rfl⟩
 case hst=>
  rintro k d Z hk ⟨x4,x5,rfl⟩;obtain⟨x,hx,rfl⟩:=Y2 hk;rw[QX];rw[Qd]at hx;cases hp:ws[k]? with
  |none=>rw[hp]at hx;cases hx
  |some w=>
  rw[hp]at hx;cases hx;have hkl:k<ls.length:=by have:=(Qg.mp hp).1;omega
  have hs:ls[k]?=some ls[k]:=Qe hkl;have hG:G[k]?=some (w.map (K1 ls o old ts k ls[k])):=by have:=LN (W:=K1 ls o old ts) (k:=0) hs hp;rw[QX]at this;exact this
  have hsum:Zj (G.take (k+1))=Zj (G.take k)+(w.map (K1 ls o old ts k ls[k])).getD 0:=by
   rw[JK,hG,j4]
   congr 1
   exact(Ge (l:=[])).trans (Int.add_zero _)
  refine⟨_,Kr rfl (U2 (UR (Qa rfl) rfl) (U2 (UR (Qa rfl) rfl) Ks)),?_⟩;unfold MX;cases w with
  |none=>
   refine KB (b:=false) (Sv (d:=.none) (UL rfl) rfl) (λz=>by cases z) λ_=>KR (KO ⟨some (.pub (.int (k:Nat))),some (.pub .none),?_⟩)
   rw[hsum];show _=[S0,S1,S2,pb (.int (Zj (G.take k)+0)),_,_];rw[Int.add_zero];rfl
  |some t=>
   refine KB (b:=true) (Sv (d:=.int t) (UL rfl) rfl) (λ_=>Zv (Kq (U1 (UL rfl) (Kk (UO (UL rfl) (UO (UL rfl) (UO (UL rfl) (UO (UL rfl) UT)))) rfl (GZ g ga hs (dl.wish k t _ hp hs))) KM) (Qa rfl) rfl) (KO ⟨some (.pub (.int (k:Nat))),pb (.int t),?_⟩)) λz=>by cases z
   rw[hsum];rfl
 case hend=>rintro Z ⟨x4,x5,rfl⟩;refine KE (Kw (UL rfl) ?_);rw[Ys,Qb,List.take_of_length_le (by rw[LQ hl];omega)]
end
section
variable{cs:List Int}{ls:L3}
theorem E1(b:Bool):Vt [.bool b]=some (.int (if b then 1 else 0)):=by cases b<;>rfl
def Vr(b:Bool):LO:=if b then [none]else []
theorem CW(b:Bool):Ke (.list [.none]) (.int (if b then 1 else 0))=some (.list ((Vr b).map U3)):=by cases b<;>rfl
def WG(cs:List Int)(ls:L3)(TW:LP)(dg:List Int)(i:Nat)(Z:UJ):Prop:=∃(lf:List Int)(ws:LO)(x5 x6 x7:Option Sl),
 Z=[pb (Kg cs ls),pb (.list (TW.map Kc)),pb (.list (dg.map int)),some (.own (lf.map int)),some (.own (ws.map U3)),x5,x6,x7]/\ws.length=i/\V3 cs ls lf ws
theorem jy{TW:LP}{dg:List Int}{i:Nat}{d:D}{Z:UJ}{Q:Out->Prop}(g:Good cs ls)(hdl:dg.length=ls.length+1)(hd0:∀x∈dg,0<=x)(hi:(ZY 0 ls.length)[i]?=some d)(h:WG cs ls TW dg i Z) :
  ∃Z2,gN 5 d Z=some Z2/\Ho OL Z2 (Vz (WG cs ls TW dg (i+1)) Q):=by
 obtain⟨lf,ws,x5,x6,x7,rfl,hw,dl⟩:=h;obtain⟨rfl,hlt⟩:=XS hi;have c6:=g.c6;have l7:=g.l7;have hil:i<ls.length:=by omega
 have hls:ls[i]?=some ls[i]:=Qe hil;have gr:=g.rk _ (Qr hls);have hfl:=RK gr;refine⟨_,UR (Qa rfl) rfl,?_⟩;unfold OL;rw[Jt];generalize hrs:ls[i]=rs at *;have hmem:∀t∈Z7 rs.flatten,t∈rs.flatten:=λt ht=>(XT _).mem_iff.mp ht
 have hthere:∀t∈rs.flatten,0<=t/\t<lf.length:=λt ht=>by obtain⟨r,hr,htr⟩:=J4.mp ht;have:=gr.there r hr t htr;rw[dl.len];exact this
 let S0:Option Sl:=some (.pub (Kg cs ls))
 let S1:Option Sl:=some (.pub (.list (TW.map Kc)))
 let S2:Option Sl:=some (.pub (.list (dg.map int)))
 let S5:Option Sl:=some (.pub (.int (i:Int)))
 let L1:=(Z7 rs.flatten).filter λt=>decide (0<lf.getD t.toNat 0)
 have hc:KQ (gN 8) (UN (oIB λi j=>decide (j<i)) (US 3 (UI 8)) (UQ (.int 0))) (UI 8) ((Z7 rs.flatten).map int) (ZG [S0,S1,S2,some (.own (lf.map int)),some (.own (ws.map U3)),S5,x6,x7]++Uu 1 none) []=some (L1.map int):=by
  refine(V7 int (λt=>decide (0<lf.getD t.toNat 0)) int (λZ=>∃x y6 y7,Z=[S0,S1,S2,pb (.list (lf.map int)),pb (.list (ws.map U3)),S5,y6,y7,x]) (Z7 rs.flatten) _ [] ?_ ⟨none,P3 x6,P3 x7,rfl⟩ (by rw[QE,(XT _).length_eq];omega)).trans (by rw[Q7]);rintro t ht Z ⟨x,y6,y7,rfl⟩;obtain⟨h0,h1⟩:=hthere t (hmem t ht);obtain⟨k,rfl⟩:∃k:Nat,t=k:=⟨t.toNat,by omega⟩
  exact⟨_,UR (Qa rfl) rfl,U1 (Kp rfl (UL rfl) (Pn (by omega))) UV rfl,λ_=>UL rfl,pb (.int k),YU y6,YU y7,rfl⟩
 have hLl:L1.length<=6:=by have:L1.length<=(Z7 rs.flatten).length:=JL _ _;rw[(XT _).length_eq]at this;omega
 refine Kd (Ye (LV (Zn (Kk (UO (UL rfl) (UO (UL rfl) UT)) rfl (HJ hls (by omega))) ZO) hc (Gd _)) (Qa rfl) rfl) ?_;obtain⟨k0,hk0,hdk⟩:∃v,dg[0]?=some v/\True:=⟨dg[0]'(by omega),Qe (by omega),trivial⟩
 obtain⟨k1,hk1⟩:∃v,dg[1+i]?=some v:=⟨dg[1+i]'(by omega),Qe (by omega)⟩
 have hk1n:=hd0 k1 (Qr hk1);have ix0:oIx (.list (dg.map int)) (.int 0)=some (.int k0):=Mr (k:=0) hk0;have ix1:oIx (.list (dg.map int)) (.int (1+(i:Int)))=some (.int k1):=by have:=Mr (k:=1+i) hk1;rwa[show(((1+i:Nat):Int))=1+(i:Int)by omega]at this
 have rest:∀(L:List Int),L.length<=6->(∀t∈L,t∈L1)->Ho (UP (U0 6 (UN UW (UI 6) (UN Ke (Kj (UM (UQ .none) (UK))) (K8 Vt (UM (YR (UZ Uw (UN (oIB λi j=>decide (j<i)) (US 2 (UN UW (UQ (.int 1)) (UI 5))) (UQ (.int 40)))) (UZ Uw (K7 oEq 6 (Kj (UK))))) (UK))))))
   (UP (U0 7 (US 6 (UN ZS (US 2 (UN UW (UQ (.int 1)) (UI 5))) (Zb 6))))
   (UP (sIf (UZ (λd=>!isNon d) (UI 7))
   (Wn 3 (UI 7) (UN KD (US 3 (UI 7)) (UQ (.int 1))))
   (sNx))
   (Zk 4 (UI 7))))) [S0,S1,S2,some (.own (lf.map int)),some (.own (ws.map U3)),S5,some (.own (L.map int)),x7] (Vz (WG cs ls TW dg (i+1)) Q):=λL hL hsub=>by
  let bb:Bool:=decide (40<k1) || decide (L=[])
  have heq:oEq (.list (L.map int)) (.list [])=some (decide (L=[])):=by
   cases L with
   |nil=>decide +kernel
   |cons a r=>
    have e:oEq (.list ((a::r).map int)) (.list [])=some (UB (.list ((a::r).map int)) (.list [])):=by unfold oEq;rw[Qm ⟨Ta λx hx=>by obtain⟨t,_,rfl⟩:=Qu.mp hx;rfl,rfl,by have:=LY (a::r);unfold Zf at this;omega⟩]
    rw[e];rfl
  let P:=L.map some++Vr bb
  have hP:P≠[]:=λz=>by
   have z1:L.map some=[]:=(List.append_eq_nil_iff.mp z).1;have z2:=(List.append_eq_nil_iff.mp z).2;have:L=[]:=by cases L with|nil=>rfl|cons a r=>cases z1
   have hb:bb=true:=by show(_ || decide (L=[]))=true;rw[this];simp
   rw[hb]at z2;cases z2
  have hPl:P.length<=7:=by
   show(L.map some++Vr bb).length<=7
   rw[Qi,Qb];unfold Vr;split
   ·rw[QH];omega
   ·rw[QE];omega
  have hadd:UW (.list (L.map int)) (.list ((Vr bb).map U3))=some (.list (P.map U3)):=by
   have e:P.map U3=L.map int++(Vr bb).map U3:=by show(L.map some++Vr bb).map U3=_;rw[Qz,Jl];rfl
   rw[e,Xg (by rw[←Qi,←e,Qb];omega)]
  have hor:YR (UZ Uw (UN (oIB λi j=>decide (j<i)) (US 2 (UN UW (UQ (.int 1)) (UI 5))) (UQ (.int 40)))) (UZ Uw (K7 oEq 6 (Kj (UK)))) [S0,S1,S2,some (.own (lf.map int)),some (.own (ws.map U3)),S5,pb (.list (L.map int)),x7]=.ok (.bool bb) [S0,S1,S2,some (.own (lf.map int)),some (.own (ws.map U3)),S5,pb (.list (L.map int)),x7]:=
   Ol (KJ (U1 (Kp rfl (U1 UV (UL rfl) KM) ix1) UV SE)) λ_=>KJ (ZN rfl (Zo UT (Qa rfl)) heq)
  refine Kd (Z1:=[S0,S1,S2,some (.own (lf.map int)),some (.own (ws.map U3)),S5,pb (.list (P.map U3)),x7]) (Kq (U1 (Yt rfl rfl) (U1 (Zo (UO UV UT) (Qa rfl)) (Zw (UO hor UT) (E1 bb)) (CW bb)) hadd) (Qa rfl) rfl) ?_;have hP0:0<P.length:=List.length_pos_iff.mpr hP;have hlen:Ka [.list (P.map U3)]=some (.int (P.length:Nat)):=by rw[Zd,Qb]
  have hm0:=Int.emod_nonneg k1 (b:=(P.length:Int)) (by omega);have hm1:=Int.emod_lt_of_pos k1 (b:=(P.length:Int)) (by omega);obtain⟨k,hk⟩:∃k:Nat,k1 % (P.length:Int)=k:=⟨(k1 % (P.length:Int)).toNat,by omega⟩
  have hkl:k<P.length:=by omega
  have hpick:oIx (.list (P.map U3)) (.int (k1 % (P.length:Int)))=some (U3 P[k]):=by rw[hk];exact Zc (by rw[Qd,Qe hkl];rfl)
  have hPm:=JB hkl;generalize P[k]=o at hpick hPm;refine Kd (Z1:=[S0,S1,S2,some (.own (lf.map int)),some (.own (ws.map U3)),S5,pb (.list (P.map U3)),pb (U3 o)]) (Kq (Kp rfl (U1 (Kp rfl (U1 UV (UL rfl) KM) ix1) (Zz rfl hlen) (VJ (by omega))) hpick) (Qa rfl) rfl) ?_;have hwl:(ws.map U3).length<1000000:=by rw[Qb];omega
  have hls':ls[ws.length]?=some rs:=by rw[hw];exact hls
  cases o with
  |none=>
   apply KI;refine KB (b:=false) (Sv (UL rfl) rfl) (λz=>by cases z) λ_=>KR (KE ?_)
   refine Zv (XQ rfl (UL rfl) rfl hwl rfl) ?_;exact KO ⟨lf,ws++[none],_,_,_,by rw[LU (ws:=ws)];rfl,by rw[Qi,hw];rfl,dl.none hls'⟩
  |some t=>
   have htL:t∈L:=by
    rcases QJ.mp hPm with z|z
    ·obtain⟨t',h1,h2⟩:=Qu.mp z;cases h2;exact h1
    ·unfold Vr at z;split at z
     ·cases Qv.mp z
     ·cases z
   obtain⟨htm,htp⟩:=Jz.mp (hsub t htL);have htf:=hmem t htm;obtain⟨h0,h1⟩:=hthere t htf;have hv:lf[t.toNat]?=some lf[t.toNat]:=Qe (by omega);have hvd:lf.getD t.toNat 0=lf[t.toNat]:=by simp[List.getD,hv]
   have hpos:0<lf[t.toNat]:=by rw[hvd]at htp;simpa using htp
   have hvx:oIx (.list (lf.map int)) (.int t)=some (.int lf[t.toNat]):=Ee h0 (by rw[Qd,hv];rfl);apply KI;refine KB (b:=true) (Sv (UL rfl) rfl) (λ_=>?_) λz=>by cases z
   refine Zv (RD (U1 (Wo rfl (UL rfl) rfl hvx) UV Yw) rfl (UL rfl) rfl ⟨h0,by rw[Qb];exact h1⟩ rfl) (KE ?_);refine Zv (XQ rfl (UL rfl) rfl hwl rfl) ?_;exact KO ⟨lf.set t.toNat (lf[t.toNat]-1),ws++[some t],_,_,_,by rw[LU (ws:=ws),←Ae];rfl,by rw[Qi,hw];rfl,dl.give hls' htf h0 hv hpos⟩
 apply KI;refine KB (b:=decide (0<k0)) (Z1:=[S0,S1,S2,some (.own (lf.map int)),some (.own (ws.map U3)),S5,some (.own (L1.map int)),x7]) (U1 (Kp rfl UV ix0) UV SE) (λ_=>?_) λ_=>KR (KE (rest L1 hLl λt ht=>ht))
 let L2:=L1.filter λt=>decide (((i:Int),t)∈TW)
 have hc2:KQ (gN 8) (UN oIn (Kt (UM (UI 5) (UM (UI 8) (UK)))) (UI 1)) (UI 8) (L1.map int) (Kl [S0,S1,S2,some (.own (lf.map int)),some (.own (ws.map U3)),S5,pb (.list (L1.map int)),x7]++Uu 1 none) []=some (L2.map int):=by refine(V7 int (λt=>decide (((i:Int),t)∈TW)) int (λZ=>∃x y6 y7,Z=[S0,S1,S2,none,none,S5,y6,y7,x]) L1 _ [] ?_ ⟨none,_,YU x7,rfl⟩ (by rw[QE];omega)).trans (by rw[Q7]);rintro t ht Z ⟨x,y6,y7,rfl⟩;exact⟨_,UR (Qa rfl) rfl,U1 (YH (UO (UL rfl) (UO (UL rfl) UT)) (Qa rfl)) (UL rfl) (Mx (q:=((i:Int),t))),λ_=>UL rfl,pb (.int t),YU y6,YU y7,rfl⟩
 refine Zv (Ye (Yg (Zn (Yt rfl rfl) ZO) hc2) (Qa rfl) rfl) (KE (rest L2 (QR (JL _ _) hLl) λt ht=>(Jz.mp ht).1))
theorem jx{TW:LP}{dg:List Int}(g:Good cs ls)(hdl:dg.length=ls.length+1)(hd0:∀x∈dg,0<=x):∃r,WQ [Kg cs ls,.list (TW.map Kc),.list (dg.map int)]=some r/\∃ws,r=Kf ws/\Deal cs ls ws:=by
 refine XZ (Z:=[pb (Kg cs ls),pb (.list (TW.map Kc)),pb (.list (dg.map int)),none,none,none,none,none]) rfl ?_;unfold Tf;have hlen:Ka [.list (ls.map KH)]=some (.int ls.length):=by rw[Zd,Qb]
 refine Kd (Ye (KP (UO (Kp rfl UV We) UT) (Yj (show XH [.list (cs.map int)]=some (cs.map int)from rfl))) (Qa rfl) rfl) ?_;refine Kd (Ye (Wr UT (Qa rfl)) (Qa rfl) rfl) ?_;apply KI;apply Zm (WG cs ls TW dg)
 case h1=>exact Xj (UO (Zw (UO (Kp rfl UV XV) UT) hlen) UT) (Xf (by have:=g.l7;omega) (by omega))
 case h0=>exact⟨cs,[],_,_,_,rfl,rfl,⟨λ_ _ _ h=>(by cases h),rfl,λk c e=>by have:=g.c7 c (Qr e);simp only[List.count_nil];exact⟨by rw[e];congr 1;omega,by omega⟩⟩⟩
 case hst=>exact λi d Z e h=>jy g hdl hd0 e h
 case hend=>rintro Z ⟨lf,ws,x5,x6,x7,rfl,hw,dl⟩;rw[Yx]at hw;refine KE (Kw (Yt rfl rfl) ⟨_,rfl,ws,rfl,⟨by omega,dl.wish,λk c e=>by have:=(dl.cop k c e).2;omega⟩⟩)
end
theorem CV:∀ns:List Int,ns.length<=63->WP [.list (ns.map int)]=some (.bool true):=by
 intro ns hns;refine KZ (Z:=[pb (.list (ns.map int)),none,none,none,none,none,none,none,none,none,none,none,none]) rfl ?_;unfold Te;obtain⟨r,hr,cs,ls,rfl,g,_⟩:=kJ (ns:=ns) (T:=6) (A:=7) (R:=5) (by omega) 0;have l7:=g.l7;have c6:=g.c6;obtain⟨v8,hv8⟩:=PX ns 8 (by omega);obtain⟨v0,hv0⟩:=PX ns 0 (by omega);obtain⟨r,ha,o,old,ts,rfl,ga⟩:=Av g v8 8;obtain⟨ws,T,as,ps,L,hweb,wq⟩:=AL (o:=o) g ga
 let F:=UY (Kx ls o old ts)
 let tm:Int:=((cs.length+1:Nat):Int)
 have ok:OkP cs.length ls.length (Kx ls o old ts) (U9 0 ls) tm as ps:=wq.ok;refine Kd (Kq (Kk (UO (UL rfl) (UO UV (UO UV (UO UV (UO UV UT))))) rfl hr) (Qa rfl) rfl) ?_;refine Kd (Kq (Kk (UO (UL rfl) (UO (Kk (UO (UL rfl) (UO UV UT)) rfl hv8) (UO UV UT))) rfl ha) (Qa rfl) rfl) ?_
 let S0:Option Sl:=some (.pub (.list (ns.map int)))
 let S1:Option Sl:=some (.pub (Kg cs ls))
 let S2:Option Sl:=some (.pub (KS o old ts))
 let S3:Option Sl:=some (.pub (Zh tm as ps))
 let S4:Option Sl:=some (.pub (.list (L.map Kf)))
 let S5:Option Sl:=some (.pub (.int (XN cs as ps)))
 let TW:=ZX F (U9 0 ls) tm as ps
 let S6:Option Sl:=some (.pub (.list (TW.map Kc)))
 refine Kd (Z1:=[S0,S1,S2,S3,S4,none,none,none,none,none,none,none,none]) (Wi (Kk (UO (UL rfl) (UO (UL rfl) UT)) rfl hweb) (Kr rfl (U2 (UR (Qa rfl) rfl) (U2 (UR (Qa rfl) rfl) Ks)))) ?_;refine Kd (Z1:=[S0,S1,S2,S3,S4,S5,none,none,none,none,none,none,none]) (Kq (Kk (UO (UL rfl) (UO (UL rfl) UT)) rfl (jY g)) (Qa rfl) rfl) ?_;refine Kd (Z1:=[S0,S1,S2,S3,S4,S5,S6,none,none,none,none,none,none]) (Kq (Kk (UO (UL rfl) (UO (UL rfl) (UO (UL rfl) UT))) rfl (ke g ga ⟨by omega,by omega⟩ ok.la ok.lp)) (Qa rfl) rfl) ?_
 have hadd:UW (.list [.int v0]) (.list (DL.cutD (ns.map int) (some 9) (some 49)))=some (.list (.int v0::DL.cutD (ns.map int) (some 9) (some 49))):=by
  rw[Xg]
  ·rfl
  ·unfold DL.cutD;rw[QP,Jh,Qb,QH];omega
 have val:∀us:LO,Deal cs ls us->Zj (Yp (K1 ls o old ts) 0 ls us)=U7 F 0 us:=λus du=>(Mz ls us ls 0 (λj rs h=>by rw[QX,Qo,h];rfl) du.len).symm
 apply KI;apply Zm (λ_ Z=>∃x7 x8 x9 x10 x11 x12,Z=[S0,S1,S2,S3,S4,S5,S6,x7,x8,x9,x10,x11,x12])
 case h1=>exact Xp (UO (U1 (Zo (UO (Kk (UO (UL rfl) (UO UV UT)) rfl hv0) UT) (Qa rfl)) (VE (UL rfl) (Xi UV) (Xi UV) VH) hadd) UT) Xo
 case h0=>exact⟨_,_,_,_,_,_,rfl⟩
 case hst=>
  rintro i d Z hi ⟨x7,x8,x9,x10,x11,x12,rfl⟩;obtain⟨x,hx,rfl⟩:=Y2 hi
  obtain⟨c,rfl⟩:∃c:Int,x=.int c:=by
   rcases QS.mp (Qr hx)with h|h
   ·exact⟨_,h⟩
   ·unfold DL.cutD at h;obtain⟨c,_,rfl⟩:=Qu.mp (List.mem_of_mem_drop (JU h));exact⟨c,rfl⟩
  refine⟨_,Kr rfl (U2 (UR (Qa rfl) rfl) (U2 (UR (Qa rfl) rfl) Ks)),?_⟩;rw[QX];unfold M8;have hlen:Ka [.list (ls.map KH)]=some (.int ls.length):=by rw[Zd,Qb]
  have hmul:Ke (.list [.int 61]) (.int ls.length)=some (.list ((Uu ls.length (61:Int)).map int)):=by
   rw[Nx ⟨by omega,by omega,by show 1*_<=_;omega⟩]
   congr 2
   rw[QD];generalize ls.length=n;induction n with
   |zero=>rfl
   |succ n ih=>rw[QW,QN,ih,QW,Qt];rfl
  have hsz:UW (.list [.int 4]) (.list ((Uu ls.length (61:Int)).map int))=some (.list (((4:Int)::Uu ls.length 61).map int)):=by rw[Xg (by rw[Qb,Qy,QH];omega)];rfl
  obtain⟨r,hF,dg,rfl,hdl,hdb⟩:=PY c (20+(i:Int)) (sizes:=(4:Int)::Uu ls.length 61) (λx hx=>by
   rcases QS.mp hx with rfl|hx
   ·decide
   ·rw[(JI.mp hx).2];decide) (by rw[QC,Qy];omega)
  rw[QC,Qy]at hdl
  have hd0:∀x∈dg,0<=x:=λx hx=>by
   obtain⟨j,hj,e⟩:=List.mem_iff_getElem.mp hx;have hjs:j<((4:Int)::Uu ls.length 61).length:=by rw[QC,Qy];omega
   exact(hdb j x _ (by rw[Qe hj,e]) (Qe hjs)).1
  obtain⟨r,ht,us,rfl,du⟩:=jx (TW:=TW) g hdl hd0;refine Kd (Kq (Kk (UO (UL rfl) (UO (U1 UV (UL rfl) KM) (UO (U1 (Zo (UO UV UT) (Qa rfl)) (U1 (Zo (UO UV UT) (Qa rfl)) (Zw (UO (Kp rfl UV XV) UT) hlen) hmul) hsz) UT))) rfl hF) (Qa rfl) rfl) ?_;refine Kd (Kq (Kk (UO (UL rfl) (UO (UL rfl) (UO (UL rfl) UT))) rfl ht) (Qa rfl) rfl) ?_;refine Kd (Kq (U1 (Kp rfl UV NK) (Kk (UO (UL rfl) (UO (UL rfl) (UO (UL rfl) UT))) rfl (AK g ga du)) (WA (by omega) (by omega))) (Qa rfl) rfl) ?_;obtain⟨b,hwi,hb⟩:=Hk g ok du;refine Kd (Kq (Kk (UO (UL rfl) (UO (UL rfl) (UO (UL rfl) (UO (UL rfl) UT)))) rfl hwi) (Qa rfl) rfl) ?_;obtain⟨t1,t2⟩:=Hm (Nq g) (Hd du) wq.ok;rw[val us du];have hgt:decide (XN cs as ps<((cs.length+1:Nat):Int)*U7 F 0 us)=false:=QT (Int.not_lt.mpr t1);have hbe:decide (((cs.length+1:Nat):Int)*U7 F 0 us=XN cs as ps)=b:=by rw[JN,JF,hb];exact t2
  refine KB (b:=false) (XY ((ZN rfl (UL rfl) SE).trans (JX (λb=>Res.ok b _) hgt)) (U1 ((KJ (ZN rfl (UL rfl) Y1)).trans (JX (λb=>Res.ok (Uw b) _) hbe)) (UL rfl) Dq)) (λz=>by cases z) λ_=>KR (KO ⟨_,_,_,_,_,_,rfl⟩)
 case hend=>
  rintro Z ⟨x7,x8,x9,x10,x11,x12,rfl⟩;refine KE ?_;have hc:KQ (gN 13) (KN (Z9 (UX 4 Y8 (UM (UI 1) (UM (UI 3) (UM (UI 6) (UM (UI 13) (UK)))))))) (UI 13) (L.map Kf) (Kl [S0,S1,S2,S3,S4,S5,S6,x7,x8,x9,x10,x11,x12]++Uu 1 none) []=some []:=by have hl:=wq.len;refine(V7 Kf (λ_=>false) Kf (λZ=>∃x y7 y8 y9 y10 y11 y12,Z=[S0,S1,S2,S3,S4,S5,S6,y7,y8,y9,y10,y11,y12,x]) L _ [] ?_ ⟨none,_,_,_,_,_,_,rfl⟩ (by rw[List.length_nil];omega)).trans (by rw[List.filter_eq_nil_iff.mpr (λ_ _=>by simp)];rfl);rintro us hu Z ⟨x,y7,y8,y9,y10,y11,y12,rfl⟩;obtain⟨b1,b2⟩:=wq.best us hu;have du:=AR b1;obtain⟨b,hwi,hb⟩:=Hk g ok du;obtain⟨t1,t2⟩:=Hm (Nq g) b1 wq.ok;have hbt:b=true:=hb.mpr (t2.mp (by rw[b2,wq.cl]));subst hbt;exact⟨_,UR (Qa rfl) rfl,Xm (t:=true) (X2 (Kk (UO (UL rfl) (UO (UL rfl) (UO (UL rfl) (UO (UL rfl) UT)))) rfl hwi)),λz=>(by cases z),_,_,_,_,_,_,_,rfl⟩
  exact Kw (KJ (U1 (KJ (Yg (Zn (UL rfl) ZO) hc)) (Zo UT (Qa rfl)) (show oEq (.list []) (.list [])=some true by decide +kernel))) rfl
end W
open PySem PySem.W PyProof.Rows
set_option maxRecDepth 100000 in
set_option maxHeartbeats 0 in
theorem PySem.Challenge.cw_wishdeal_k61_whole_best_or_not_holds : PySem.Challenge.rw_wishdeal_k61_whole_best_or_not.Holds := by
 w_on;o_law
 refine holds_open (q:=W.q0) (loose:=[]) (Xt:=λs=>xlAt W.q0 [] s&&recOk [] s) (XP:=XL W.q0 []) (Yf:=Hook.obs .none) (Ya:=Hook.val .none) (YP:=Hook.says .none) (N:=5236) (d:=W.d_cc) (kwd:=[])
  W.EX (Hook.of .none) (Hook.keeps .none) (λs e=>xl_of s (JV.mp e).1) XL.keeps (by rfl) (by rfl) (by rfl)
  (λs e=>recFacts_of (JV.mp e).2) (by rfl) (by assumption) (by decide +kernel) ⟨rfl,rfl,rfl,rfl,rfl,by decide +kernel⟩ ?hw (W.walk W.CV)
 case hw=>w_witness2


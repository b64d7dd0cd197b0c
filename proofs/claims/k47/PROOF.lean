import PyProof.Rows.All
import Wide.All
import OpenK.AllK
import Wide.FinOn
import Lean
import PyProof.EqAt
import PyProof.EqKinds
import PyProof.TupleCall
import PyProof.EnumMake
import PyProof.ZipIter
import PyProof.ExcClass2
import PyProof.ExcInit
import PyProof.ExcBaseAll.ValueError
import PyProof.FString2
import PyProof.ExcArgsOwn
import PyProof.InstStoreFacts
import ObjForm.Fk.InstStore
import ObjForm.Fk.InstLoad
import PyProof.StationsW
import PyProof.RulesAs
import PyProof.NsDelKeeps
import OpenK.KMore
import PyProof.IsiBase
import OpenK.KNot
import PyProof.Rows.RuleN_isinstance
import PyProof.NeData
import PyProof.P3In
import PyProof.StrWalks
import PyProof.ConsumeWalk
import PyProof.SliceStr2
import PyProof.MeetsStr
import KE.KItem
import KE.KUnpack
import KE.KRevSl
import PyProof.Rows.SetFrom
import PyProof.SetRoads
import PyProof.Rows.Range3
import PyProof.CallType
import PyProof.Rows.CallKwBuiltin
import PyProof.Rows.MinMaxN
import PyProof.SumWalkG
import PyProof.Rows.SeqMore
import PyProof.Rows.SortWalk
import PyProof.Rows.SumAny
import PyProof.Rows.SeqMore2
import KE.KSortTup
import PyProof.Rows.SortShellK
import PyProof.ReprRoads
import PyProof.ReprBulk
import PyProof.CallFns
import PyProof.NeKinds
import PyProof.Rows.StrJoinMade
import PyProof.StrCalls
import KE.KIntText
import PyProof.ReprDict
import PyProof.DictIter
import PyProof.Rows.DictUnroll
import PySem.Challenge.RW_wishdeal_k47_orders_beside_one_another
set_option compiler.extract_closed false
set_option Elab.async false
set_option linter.all false
set_option maxRecDepth 100000
set_option maxHeartbeats 4000000
theorem Qa:type_of% @of_decide_eq_true:=@of_decide_eq_true
theorem Qm:type_of% @if_pos:=@if_pos
theorem Qu:type_of% @if_neg:=@if_neg
theorem QH:type_of% @decide_eq_false:=@decide_eq_false
theorem Q3:type_of% @decide_eq_true_eq:=@decide_eq_true_eq
theorem Q7:type_of% @decide_eq_true:=@decide_eq_true
theorem Jf:type_of% @of_decide_eq_false:=@of_decide_eq_false
open List renaming length_map→Qb,getElem?_eq_getElem→Qd,getElem?_map→Qe,getElem?_eq_some_iff→Qg,getD_eq_getElem?_getD→Qh,mem_cons_of_mem→Qk,length_append→Ql,mem_cons_self→Qo,mem_of_getElem?→Qp,length_range→Qq,getElem?_set_ne→Qr,getElem?_append_left→Qs,mem_map→Qt,getElem?_append_right→Qw,map_cons→Qx,map_append→Qz,getElem?_replicate→QA,getElem?_eq_none→QB,length_cons→QC,getElem?_set_self→QF,size_toArray→QG,mem_append_right→QI,flatten_cons→QM,length_nil→QN,mem_cons→QO,getElem?_range→QQ,drop_eq_getElem_cons→QR,length_replicate→QU,replicate_succ→QX,lookup_cons→QY,length_take→Q0,mem_append→Q2,map_map→Q4,append_nil→Q5,length_set→Q6,mem_range→Q8,length_reverse→Q9,sum_cons→Ja,mem_append_left→Jd,mem_singleton→Je,length_singleton→Jh,length_filterMap_le→Ji,append_assoc→Jk,mem_filterMap→Jl,nil_append→Jm,all_eq_true→Jn,ext_getElem?→Jq,count_cons→Jt,pairwise_cons→Ju,length_drop→Jw,filterMap_cons→Jz,map_congr_left→JB,take_succ→JG,sum_append→JI,map_nil→JJ,getElem_mem→JK,take_length→JL,getElem?_zip_eq_some→JN,take_zero→JS,getElem_map→JU,getElem_range→JW,drop_eq_nil_of_le→JX,foldl_cons→JZ,length_zip→J0,length_filter_le→J6,getElem?_reverse→J7,take_append_drop→J8,mem_flatten→Ud,length_pos_iff→Ue,mem_filter→Uf,range_succ→Uh,map_take→Ui,range→Uv,replicate→Uw,Pairwise→UG
open PySem renaming wpAny_bind→Qf,wpAny_pure→Qn,wpAny_loadPart_at→QJ,wpAny_mono→QK,wpAny_truthy_bool→QZ,wpAny_standAt→Jj,wpAny_isSubtype_exc→Jp,wpAny_passesOwn→Jr,wpAny_holding→Jy,codeAny_builtin→JE,wpAny_pyIter_list→JH,mem_of_lookup→JR,Value→Uk,Shared→Ul,Program→Um,Addr→Uo,FuncData→Up,Expr→Uq,sizeLine→Ur,wpAny→Us,starEach→Ut,compareOp→Uu,assignEach→UI,foldedSetIterable→UJ
open PySem.Heap renaming lt_size→Qi,get?_push_of_some→Qj,get?_push_size→QD
open Nat renaming le_refl→Qv,lt_of_lt_of_le→QE,ne_of_lt→QL,le_trans→QP,zero_add→QS,le_of_not_lt→Jb,lt_irrefl→Js,ne_of_gt→JO,lt_succ_iff_lt_or_eq→JQ,le_succ→JV,not_lt_zero→J5,lt_succ_of_lt→J9,zero_le→Ua,lt_succ_self→Ub
open Int renaming toNat_natCast→Qy,le_refl→QW,mul_le_mul_of_nonneg_right→Jo,le_trans→JP,le_antisymm→J4,zero_add→Uc,not_lt→Uj
open Option.some renaming inj→QT
open Bool renaming and_eq_true→Jc,eq_iff_iff→JD,false_ne_true→JF,false_eq_true→JY
open Array renaming getD_eq_getD_getElem?→Jg,length_toList→JA,getElem?_eq_getElem→JM
open PySem.W.Fast renaming te1987589406359920131→Jv
open PyProof.Rows renaming callWith_type1→Jx
open PySem.W renaming kia_one→JC
open Option renaming getD_some→JT
open Array.Perm renaming refl→Ug
open PySem.PyData renaming list→Ux,bool→Uy,str→Uz,strOk→UA,canLayAll0→UB,depth→UC,eqv→UD,shown→UH
open PySem.PassesOwn renaming never→UE
open PySem.Str renaming ofString→UF
abbrev L3:=List (List (List Int))
abbrev LO:=List (Option Int)
abbrev LP:=List (Int×Int)
open PySem.W (Frag)
open PySem.PyData (int)
open List (replicate)
namespace DL
open PySem PySem.Spec PySem.W PyProof.Rows
def topRunT(tb:String->Option Builtin)(p:Um)(w:World)(m:Nat)(ann:Option Uk):Nat->SharedT->Thread->Option SharedT
 |0,_,_=>none
 |n+1,s,t=>match through t,stepOk m ann t with
  |true,_=>some s
  |false,false=>none
  |false,true=>match stepT (denote tb) p w s t with
   |some x=>topRunT tb p w m ann n x.1 x.2
   |none=>none
theorem Hu{tb:String->Option Builtin}{p:Um}{w:World}{m:Nat}{ann:Option Uk}:∀{n:Nat}{s s':SharedT}{t:Thread},topRunT tb p w m ann n s t=some s'->topRun tb p w m ann n s.abs t=some s'.abs
 |0,_,_,_,h=>by cases h
 |n+1,s,s',t,h=>by
  rw[topRunT]at h;rw[topRun];cases ht:through t with
  |true=>rw[ht]at h;cases h;rfl
  |false=>
   rw[ht]at h;cases hk:stepOk m ann t with
   |false=>rw[hk]at h;cases h
   |true=>
    rw[hk]at h;dsimp only at h⊢;cases hs:stepT (denote tb) p w s t with
    |none=>rw[hs]at h;cases h
    |some x=>rw[hs]at h;rw[stepT_spec hs];exact Hu h
def btOf(l:List Obj):BT:=(l.foldl (λ(x:BT×Nat) o=>(x.1.ins x.2 o,x.2+1)) (.nil,0)).1
noncomputable def T0 (w:World) (os:OsState):SharedT:=⟨btOf (boot_heap w.params).objs.toList,11,(boot_heap w.params).life,#[],boot_drawn,boot_toks,os⟩
theorem Bq(w:World)(os:OsState):(T0 w os).abs=⟨boot_heap w.params,#[],boot_drawn,boot_toks,os⟩:=by kernel_rfl
theorem Ab(w:World):((boot_heap w.params).isNs mainGlobals&&(#[]:Array GenState).size==0,(boot_heap w.params).objs.size,(boot_heap w.params).nsMap mainGlobals "__annotations__")=(true,11,some (.ref 6)):=by kernel_rfl
noncomputable abbrev Fc (p q:Um) (loose:List Str) (Xt:Ul->Bool) (w:World) (t:SharedT):=
 ((staticsOk (importedModules p.main.body) (boot_heap w.params) t.abs.heap&&namesBound p t.abs.heap&&gensDone t.abs&&laidKept (boot_heap w.params) t.abs.heap),openSeen q loose (importedModules p.main.body) Xt true t.abs)
theorem DQ{p q:Um}{loose:List Str}{Xt:Ul->Bool}{N M:Nat}(e:opening p=plainProg p.main.scope.names)(hN:Nat.ble 600 N=true)(f:∀s,fenceModules? p s=some s)(le:Nat.ble M N=true)
  (run:∀(w:World)(os:OsState),(topRunT treeTable p w 11 (some (.ref 6)) M (T0 w os) (topStub p)).map (Fc p q loose Xt w)=some (true,openGood q loose)):LeftO p q loose Xt (Hook.obs .none) (Hook.val .none) N:=λw=>by
 obtain⟨⟨h,gs,d,k,os⟩,e0,e'⟩:=Option.map_eq_some_iff.mp (boot_open e hN f w);have e':(h,gs,d,k)=(boot_heap w.params,#[],boot_drawn,boot_toks):=e';obtain⟨rfl,rfl,rfl,rfl⟩:h=boot_heap w.params/\gs=#[]/\d=boot_drawn/\k=boot_toks:=by simpa only[Prod.mk.injEq]using e'
 obtain⟨t,ht,l⟩:=Option.map_eq_some_iff.mp (run w os);have hr:=Hu ht;rw[Bq]at hr;have r:=topRun_mono (N-M) _ _ _ _ hr;rw[show M+(N-M)=N by have:=Nat.le_of_ble_eq_true le;omega]at r;obtain⟨l1,l2⟩:=Prod.mk.inj l;have z:=Ab w;obtain⟨z1,z2,z3⟩:_/\_/\_:=by simpa only[Prod.mk.injEq]using z
 have tf:topFrom treeTable p w N ⟨boot_heap w.params,#[],boot_drawn,boot_toks,os⟩=some t.abs:=by
  unfold topFrom;dsimp only;rw[z1,z2,z3,r]
  show(match staticsOk (importedModules p.main.body) (boot_heap w.params) t.abs.heap&&namesBound p t.abs.heap&&gensDone t.abs&&laidKept (boot_heap w.params) t.abs.heap with|true=>some t.abs|false=>none)=_
  rw[l1]
 unfold openEnds;rw[e0]
 show(topFrom treeTable p w N _).map _=_
 rw[tf];exact congrArg some (Prod.ext l2 rfl)
end DL
open PySem in
lay_quick PySem.Challenge.pw_wishdeal_k47_orders_beside_one_another DL.topRunT PySem.W.openGood PySem.W.staticsOk PySem.W.namesBound PySem.W.laidKept PySem.W.xlAt
namespace W
open PySem PySem.Spec DL
abbrev p0:Um:=PySem.Challenge.pw_wishdeal_k47_orders_beside_one_another
def Xp:List Nat:=[1,2,4,5,6,8,9,10,11,12,13,14,15,16,17,18,19,21,23,24,25,27,28,29,31,32,33,34,35,37,39,40,41,42,43,44,45,46,47,48,49,50,51,53,55,56,57,58,59,60,61,62,63,64,65,66,67]
def ixL:List Nat:=[1,2,12,13,14,15,16,17,18,19,21,24,25,27,28,29,31,32,33,34,35,37,39,40,41,42,43,44,45,46,47,48,49,50,51,53,55,56,57,58,59,60,61,62,63,64,65,66,67]
abbrev q0:Um:=PySem.W.view p0 Xp
theorem Fb:∀(w:World)(os:OsState),(PySem.W.Fast.tw10708255244068714335 PySem.W.Fast.tw14364793385576792824 PySem.W.Fast.tw13300339340996017643 w 11 (some (.ref 6)) 2455 (T0 w os) (PySem.W.topStub PySem.W.Fast.tw13300339340996017643)).map (λt=>((PySem.W.Fast.tw13471830651028734593 (PySem.W.Fast.tw5923862056798008813 (Program.main PySem.W.Fast.tw13300339340996017643).body) (PySem.W.boot_heap w.params) t.abs.heap&&PySem.W.Fast.tw4683006035507612052 PySem.W.Fast.tw13300339340996017643 t.abs.heap&&PySem.W.gensDone t.abs&&PySem.W.Fast.tw16898566250750103049 (PySem.W.boot_heap w.params) t.abs.heap),PySem.W.Fast.tw4187177175401517315 (PySem.W.view PySem.W.Fast.tw13300339340996017643 Xp) [] (PySem.W.Fast.tw5923862056798008813 (Program.main PySem.W.Fast.tw13300339340996017643).body) (λs=>PySem.W.Fast.tw4757257242682413121 (PySem.W.view PySem.W.Fast.tw13300339340996017643 Xp) [] s&&PySem.W.recOk [] s) true t.abs))=some (true,PySem.W.Fast.tw3486900944545009338 (PySem.W.view PySem.W.Fast.tw13300339340996017643 Xp) []):=by intro w os;kernel_rfl
theorem Fa:PySem.W.LeftO p0 q0 [] (λs=>PySem.W.xlAt q0 [] s&&PySem.W.recOk [] s) (PySem.W.Hook.obs .none) (PySem.W.Hook.val .none) 4810:=by
 refine DQ (M:=2455) (by kernel_rfl) rfl (λs=>by kernel_rfl) rfl λw os=>?_
 have h:=Fb w os;rw[←PySem.W.Fast.te10708255244068714335,←PySem.W.Fast.te14364793385576792824,←PySem.W.Fast.te4187177175401517315,←PySem.W.Fast.te5923862056798008813,←PySem.W.Fast.te13471830651028734593,←PySem.W.Fast.te4683006035507612052,←PySem.W.Fast.te16898566250750103049,←PySem.W.Fast.te4757257242682413121,←PySem.W.Fast.te3486900944545009338,←PySem.W.Fast.te13300339340996017643]at h;exact h
end W
namespace L2
open PySem PySem.Spec PyProof.Rows
abbrev Key:=Sum Int Str
def OP:Key->Uk->Bool
 |.inl k,v=>Value.isInt k v
 |.inr x,v=>Value.isStrOf x v
def keyH(w:World):Key->Int
 |.inl k=>hashInt k
 |.inr x=>hashStr w x
theorem Wh:∀{k:Key}{v:Uk},OP k v=true->(∃i t,k=Sum.inl i/\v=Value.int i t)∨(∃x t,k=Sum.inr x/\v=Value.str x t)
 |.inl i,v,h=>by obtain⟨t,e⟩:=Value.isInt_shape (k:=i) (v:=v) h;exact .inl ⟨i,t,rfl,e⟩
 |.inr x,v,h=>by obtain⟨t,e⟩:=Value.isStrOf_shape (x:=x) (v:=v) h;exact .inr ⟨x,t,rfl,e⟩
theorem FR(a b:Int):decide ((Sum.inl a:Key)=Sum.inl b)=(a==b):=by
 by_cases e:a=b
 ·subst e;simp
 ·have h:¬(Sum.inl a:Key)=Sum.inl b:=λq=>e (Sum.inl.inj q)
  rw[QH h];exact(beq_eq_false_iff_ne.mpr e).symm
theorem FQ(a b:Str):decide ((Sum.inr a:Key)=Sum.inr b)=decide (a=b):=by
 by_cases e:a=b
 ·subst e;simp
 ·have h:¬(Sum.inr a:Key)=Sum.inr b:=λq=>e (Sum.inr.inj q)
  rw[QH h,QH e]
theorem FP(a:Int)(b:Str):decide ((Sum.inl a:Key)=Sum.inr b)=false:=QH (λq=>nomatch q)
theorem FO(a:Str)(b:Int):decide ((Sum.inr a:Key)=Sum.inl b)=false:=QH (λq=>nomatch q)
def PQ(prog:Um)(w:World):PySem.KeyKind prog w Key where
 is:=OP
 hash:=keyH w
 inj:=λv a b ha hb=>by
  rcases Wh ha with ⟨i,t,rfl,rfl⟩|⟨x,t,rfl,rfl⟩
  ·rcases Wh hb with ⟨j,u,rfl,e⟩|⟨y,u,rfl,e⟩
   ·injection e with e1 _;rw[e1]
   ·exact nomatch e
  ·rcases Wh hb with ⟨j,u,rfl,e⟩|⟨y,u,rfl,e⟩
   ·exact nomatch e
   ·injection e with e1 _;rw[e1]
 byValue:=λk v h=>by rcases Wh h with ⟨i,t,rfl,rfl⟩|⟨x,t,rfl,rfl⟩<;>rfl
 pyHash:=λhv h=>by
  rcases Wh hv with ⟨i,t,rfl,rfl⟩|⟨x,t,rfl,rfl⟩
  ·exact wpAny_pyHash_int h
  ·exact wpAny_pyHash_str h
 eqBool:=λhu hv h=>by
  rcases Wh hu with ⟨i,t,rfl,rfl⟩|⟨x,t,rfl,rfl⟩
  ·rcases Wh hv with ⟨j,u,rfl,rfl⟩|⟨y,u,rfl,rfl⟩
   ·rw[FR]at h;exact wpAny_eqBool_int h
   ·rw[FP]at h;exact SeqAt.EqAt.int_str i t y u _ _ _ _ h
  ·rcases Wh hv with ⟨j,u,rfl,rfl⟩|⟨y,u,rfl,rfl⟩
   ·rw[FO]at h;exact SeqAt.EqAt.str_int x t j u _ _ _ _ h
   ·rw[FQ]at h;exact wpAny_eqBool_str h
 «strs»:=λk x t v h=>by
  rcases Wh h with ⟨i,u,rfl,e⟩|⟨y,u,rfl,e⟩
  ·exact nomatch e
  ·injection e with e1 _
   subst e1;cases v<;>rfl
inductive V where
 |non|bl (b:Bool)|int (i:Int)|str (x:Str)|byt (b:Array UInt8)|flt (b:UInt64)|ref (a:Uo)|ty (n:String)
 deriving DecidableEq
def RelV:V->Uk->Prop
 |.non,u=>u=Value.none
 |.bl b,u=>u=Value.bool b
 |.int i,u=>∃t,u=Value.int i t
 |.str x,u=>∃t,u=Value.str x t
 |.byt b,u=>∃t,u=Value.bytes b t
 |.flt b,u=>∃t,u=Value.float b t
 |.ref a,u=>u=Value.ref a
 |.ty n,u=>u=Value.type n
abbrev Vals:List V->List Uk->Prop:=Paired RelV
theorem Vals.length{xs:List V}{us:List Uk}(r:Vals xs us):xs.length=us.length:=Paired.length r
theorem Vals.get:∀{xs:List V}{us:List Uk}{i:Nat}{x:V},Vals xs us->xs[i]?=some x->∃u,us[i]?=some u/\RelV x u
 |_,_,_,_,.nil,e=>by simp at e
 |_,_,0,_,.cons r _,e=>by simp at e;subst e;exact⟨_,rfl,r⟩
 |_,_,i+1,x,.cons _ t,e=>by obtain⟨u,h1,h2⟩:=Vals.get (i:=i) (x:=x) t (by simpa using e);exact⟨u,by simpa using h1,h2⟩
theorem Vals.set{x:V}{u:Uk}(r:RelV x u):∀{xs:List V}{us:List Uk}(i:Nat),Vals xs us->Vals (xs.set i x) (us.set i u)
 |_,_,_,.nil=>.nil
 |_,_,0,.cons _ t=>.cons r t
 |_,_,i+1,.cons q t=>.cons q (Vals.set r i t)
theorem Vals.append:∀{xs ys:List V}{us ws:List Uk},Vals xs us->Vals ys ws->Vals (xs++ys) (us++ws)
 |_,_,_,_,.nil,s=>s
 |_,_,_,_,.cons r t,s=>.cons r (Vals.append t s)
theorem Vals.take:∀{xs:List V}{us:List Uk}(n:Nat),Vals xs us->Vals (xs.take n) (us.take n)
 |_,_,0,_=>.nil
 |_,_,_+1,.nil=>.nil
 |_,_,n+1,.cons r t=>.cons r (Vals.take n t)
theorem Vals.drop:∀{xs:List V}{us:List Uk}(n:Nat),Vals xs us->Vals (xs.drop n) (us.drop n)
 |_,_,0,r=>r
 |_,_,_+1,.nil=>.nil
 |_,_,n+1,.cons _ t=>Vals.drop n t
def TK:Option V->Option Uk->Prop
 |some v,some u=>RelV v u
 |none,none=>True
 |_,_=>False
def KV{κ:Type}:List (κ×V)->List (κ×Uk)->Prop:=Paired λ(p:κ×V) (q:κ×Uk)=>p.1=q.1/\RelV p.2 q.2
def kV:Key->V
 |.inl i=>.int i
 |.inr x=>.str x
inductive HO where
  |lst (xs:List V)
  |tup (xs:List V)
  |dK (kvs:List (Key×V))|dT (kvs:List (List Key×V))
  |set (S:Int->Bool) (n:Nat)
  |ins (C dx:Uo) (fs:List (Str×V))
  |own (x:Uo)
  |xd (fs:List (Str×V))
  |met (f x:Uo)
  |rng (lo hi:Int)
  |frz (o:Obj) (u:HO)
  |tbl (ps:Array Uk)
  |ext (φ:Heap->Prop)
abbrev Hp:=Uo->Option HO
def upd(H:Hp)(a:Uo)(o:HO):Hp:=λb=>if b=a then some o else H b
theorem Zu{H:Hp}{a:Uo}{o:HO}:upd H a o a=some o:=by unfold upd;rw[Qm rfl]
theorem KY{H:Hp}{a b:Uo}{o:HO}(h:b≠a):upd H a o b=H b:=by unfold upd;rw[Qu h]
theorem YV{H:Hp}{a b:Uo}{o:HO}(h:H a=some o)(h':H b=none):a≠b:=by intro e;subst e;rw[h]at h';cases h'
section
variable(P:Um)(w:World)
def Yb(H:Hp)(h:Heap)(a:Uo):HO->Prop
 |.lst xs=>xs.length<=Ur/\∃(its:List Uk)(n:Nat),Vals xs its/\h.get? a=some {cls:=.type "list", data:=.seq its.toArray n}
 |.tup xs=>xs.length<=Ur/\∃its:List Uk,Vals xs its/\IsTup h a its.toArray
 |.dK kvs=>kvs.length<=Ur/\(a==sysModules)=false/\∃vs,KV kvs vs/\h.DictOf (PQ P w) a vs
 |.dT kvs=>kvs.length<=Ur/\(a==sysModules)=false/\∃xs:List (List Key×Uo×Uk),
   Paired (λ(p:List Key×V) (q:List Key×Uo×Uk)=>p.1=q.1/\H q.2.1=some (.tup (p.1.map kV))/\RelV p.2 q.2.2) kvs xs /\
   ∃o es ep,h.get? a=some o/\o.ExactDict/\o.data=.dict es ep/\es.toList=xs.map (entryOfKey (tupleKind (PQ P w)))/\(xs.map (·.1)).Nodup
 |.set S n=>h.SetOf (intKind P w) a S n
 |.ins C dx fs=>H dx=some (.own a)/\fs.length<=1000/\dx≠a/\h.get? a=some (PySem.W.instObj C dx) /\
   ∃mA,h.Ns1 dx mA/\(∀f,TK (fs.lookup f) (mA f))/\PySem.Within mA (fs.map (·.1))
 |.own _=>∃o,h.get? a=some o
 |.xd fs=>∃mA,h.Ns1 a mA/\∀f,TK (fs.lookup f) (mA f)
 |.rng lo hi=>∃t u v,h.get? a=some {cls:=.type "range", data:=.fields #[.int lo t,.int hi u,.int 1 v]}
 |.frz o u=>h.get? a=some o/\Yb H h a u
 |.tbl ps=>h.get? a=some {cls:=.none,data:=.fields ps}
 |.met f x=>h.get? a=some (PySem.W.methodObj (.ref f) (.ref x))
 |.ext φ=>φ h/\(∃o,h.get? a=some o)/\∀h1 h2:Heap,φ h1->(∀o,h1.get? a=some o->h2.get? a=some o)->φ h2
def HOk(H:Hp)(h:Heap):Prop:=∀a o,H a=some o->Yb P w H h a o
end
section
variable{P:Um}{w:World}{H H':Hp}{h h':Heap}{a:Uo}{o:HO}
theorem Yb.lt(x:Yb P w H h a o):a<h.objs.size:=by
 cases o with
 |lst xs=>obtain⟨_,_,_,_,e⟩:=x;exact Qi e
 |tup xs=>obtain⟨_,_,_,p⟩:=x;exact p.lt
 |dK kvs=>obtain⟨_,_,_,_,o,_,_,e,_⟩:=x;exact Qi e
 |dT kvs=>obtain⟨_,_,_,_,o,_,_,e,_⟩:=x;exact Qi e
 |set S n=>obtain⟨o,_,_,_,e,_⟩:=x;exact Qi e
 |ins C dx fs=>obtain⟨_,_,_,e,_⟩:=x;exact Qi e
 |own y=>obtain⟨_,e⟩:=x;exact Qi e
 |xd fs=>obtain⟨_,⟨_,_,_,e,_⟩,_⟩:=x;exact Qi e
 |rng lo hi=>obtain⟨_,_,_,e⟩:=x;exact Qi e
 |frz ob u=>obtain⟨e,_⟩:=x;exact Qi e
 |tbl ps=>exact Qi (show h.get? a=some _ from x)
 |met f y=>exact Qi (show h.get? a=some _ from x)
 |ext φ=>obtain⟨_,⟨_,e⟩,_⟩:=x;exact Qi e
theorem Paired.mapP{α β:Type}{F G:α->β->Prop}:∀{l₁:List α}{l₂:List β},Paired F l₁ l₂->(∀a b,F a b->G a b)->Paired G l₁ l₂
 |_,_,.nil,_=>.nil
 |_,_,.cons r t,f=>.cons (f _ _ r) (Paired.mapP t f)
theorem Yb.stay(x:Yb P w H h a o)(k:∀b u,(b=a∨H b=some (.own a))->h.get? b=some u->h'.get? b=some u)
  (ho:∀b,H b=some (.own a)->H' b=some (.own a)) (ht:∀b xs,H b=some (.tup xs)->H' b=some (.tup xs)):Yb P w H' h' a o:=by
 induction o with
 |lst xs=>obtain⟨z,its,n,r,e⟩:=x;exact⟨z,its,n,r,k _ _ (.inl rfl) e⟩
 |tup xs=>obtain⟨z,its,r,ob,e,c⟩:=x;exact⟨z,its,r,ob,k _ _ (.inl rfl) e,c⟩
 |dK kvs=>obtain⟨z,y,vs,r,ob,es,ep,e,c⟩:=x;exact⟨z,y,vs,r,ob,es,ep,k _ _ (.inl rfl) e,c⟩
 |dT kvs=>obtain⟨z,y,xs,r,ob,es,ep,e,c⟩:=x;exact⟨z,y,xs,Paired.mapP r λp q z=>⟨z.1,ht _ _ z.2.1,z.2.2⟩,ob,es,ep,k _ _ (.inl rfl) e,c⟩
 |set S n=>obtain⟨ob,es,ep,t,e,c⟩:=x;exact⟨ob,es,ep,t,k _ _ (.inl rfl) e,c⟩
 |ins C dx fs=>obtain⟨d,z,ne,e,mA,⟨od,es,ep,e2,c⟩,r⟩:=x;exact⟨ho _ d,z,ne,k _ _ (.inl rfl) e,mA,⟨od,es,ep,k _ _ (.inr d) e2,c⟩,r⟩
 |own y=>obtain⟨ob,e⟩:=x;exact⟨ob,k _ _ (.inl rfl) e⟩
 |xd fs=>obtain⟨mA,⟨od,es,ep,e,c⟩,r⟩:=x;exact⟨mA,⟨od,es,ep,k _ _ (.inl rfl) e,c⟩,r⟩
 |rng lo hi=>obtain⟨t,u,v,e⟩:=x;exact⟨t,u,v,k _ _ (.inl rfl) e⟩
 |frz ob u ih=>obtain⟨e,q⟩:=x;exact⟨k _ _ (.inl rfl) e,ih q⟩
 |tbl ps=>have e:h.get? a=some {cls:=.none,data:=.fields ps}:=x;show h'.get? a=some {cls:=.none,data:=.fields ps};exact k a _ (.inl rfl) e
 |met f y=>have e:h.get? a=some (PySem.W.methodObj (.ref f) (.ref y)):=x;show h'.get? a=some (PySem.W.methodObj (.ref f) (.ref y));exact k a _ (.inl rfl) e
 |ext φ=>obtain⟨p,⟨o,e⟩,st⟩:=x;exact⟨st _ _ p λo q=>k _ _ (.inl rfl) q,⟨o,k _ _ (.inl rfl) e⟩,st⟩
theorem HOk.lt(x:HOk P w H h)(e:H a=some o):a<h.objs.size:=(x a o e).lt
theorem HOk.fresh(x:HOk P w H h)(e:h.objs.size<=a):H a=none:=by
 cases q:H a with
 |none=>rfl
 |some u=>exact absurd (QE (x.lt q) e) (Js _)
theorem HOk.kept(x:HOk P w H h)(k:∀b u,h.get? b=some u->h'.get? b=some u):HOk P w H h':=λa o e=>
 (x a o e).stay (λb u _ q=>k b u q) (λ_ q=>q) λ_ _ q=>q
theorem HOk.laid(x:HOk P w H h)(k:∀b u,h.get? b=some u->h'.get? b=some u)(hp:h.objs.size<=a)(new:Yb P w (upd H a o) h' a o):HOk P w (upd H a o) h':=λb u e=>by
 have hn:=x.fresh hp;by_cases hb:b=a
 ·subst hb;rw[Zu]at e;cases e;exact new
 ·rw[KY hb]at e;exact(x b u e).stay (λc v _ q=>k c v q) (λc q=>by rw[KY (YV q hn)];exact q) λc xs q=>by rw[KY (YV q hn)];exact q
end
def Rd(H:Hp)(a:Uo)(u:HO):Prop:=H a=some u ∨ ∃o,H a=some (.frz o u)
theorem Rd.ok{P:Um}{w:World}{H:Hp}{h:Heap}{a:Uo}{u:HO}(r:Rd H a u)(x:HOk P w H h):Yb P w H h a u:=by
 rcases r with r|⟨o,r⟩
 ·exact x a u r
 ·obtain⟨_,q⟩:=x a _ r;exact q
def Mut:Option HO->Prop
 |some (.lst _)=>True
 |some (.dK _)=>True
 |some (.dT _)=>True
 |some (.set _ _)=>True
 |some (.ins _ _ _)=>True
 |some (.ext _)=>True
 |_=>False
section
variable{P:Um}{w:World}{H:Hp}{h h':Heap}{x e:Uo}{o':HO}
theorem HOk.write(ok:HOk P w H h)(mu:Mut (H x))(he:e=x∨H e=some (.own x))(k:∀b u,b≠e->h.get? b=some u->h'.get? b=some u)(heo:∃u,h'.get? e=some u)
  (new:Yb P w (upd H x o') h' x o'):HOk P w (upd H x o') h':=λb u q=>by
 have nown:∀c y,H c=some (.own y)->c≠x:=λc y r z=>by subst z;rw[r]at mu;exact mu
 have ntup:∀c xs,H c=some (.tup xs)->c≠x:=λc xs r z=>by subst z;rw[r]at mu;exact mu
 by_cases hb:b=x
 ·subst hb;rw[Zu]at q;cases q;exact new
 ·rw[KY hb]at q;by_cases hbe:b=e
  ·have q':H b=some (.own x):=by
    rcases he with z|z
    ·exact absurd (hbe.trans z) hb
    ·rw[hbe];exact z
   rw[q]at q';cases q';obtain⟨v,hv⟩:=heo;exact⟨v,by rw[hbe];exact hv⟩
  ·refine(ok b u q).stay (λc v hc r=>k c v ?_ r) (λc r=>by rw[KY (nown c b r)];exact r) λc xs r=>by rw[KY (ntup c xs r)];exact r
   rcases hc with rfl|hc
   ·exact hbe
   ·rintro rfl;rcases he with z|z
    ·exact nown c b hc z
    ·rw[hc]at z;cases z;exact hb rfl
end
structure Un(fs ex:List Uo)(H H':Hp)(h h':Heap):Prop where
 keep:∀b o,h.get? b=some o->H b=none->b∉fs->b∉ex->h'.get? b=some o
 slot:∀b o,h.get? b=some o->H b=none->b∈fs->b∉ex->∃sl,h'.get? b=some {o with slots:=sl}
 free:∀b o,h.get? b=some o->H b=none->b∉ex->H' b=none
 there:∀b o,h.get? b=some o->b∉ex->∃o',h'.get? b=some o'
 tups:∀b xs,H b=some (.tup xs)->H' b=some (.tup xs)
 frzs:∀b o u,H b=some (.frz o u)->H' b=some (.frz o u)
 tbls:∀b ps,H b=some (.tbl ps)->∃more,H' b=some (.tbl (ps++more))
section
variable{fs fs' ex ex':List Uo}{H H1 H2:Hp}{h h1 h2 h':Heap}{a x e:Uo}{o:HO}
theorem Un.any(u:Un fs ex H H1 h h1){b:Uo}{ob:Obj}(q:h.get? b=some ob)(n:H b=none)(hx:b∉ex):∃sl,h1.get? b=some {ob with slots:=sl}:=by
 by_cases hb:b∈fs
 ·exact u.slot b ob q n hb hx
 ·exact⟨ob.slots,u.keep b ob q n hb hx⟩
theorem Un.kept(k:∀b u,h.get? b=some u->h'.get? b=some u):Un fs ex H H h h':=
 ⟨λb ob q _ _ _=>k b ob q,λb ob q _ _ _=>⟨ob.slots,k b ob q⟩,λ_ _ _ n _=>n,λb ob q _=>⟨ob,k b ob q⟩,λ_ _ q=>q,λ_ _ _ q=>q,λ_ ps q=>⟨#[],by rw[q];simp⟩⟩
theorem Un.refl:Un fs ex H H h h:=Un.kept λ_ _ q=>q
theorem Un.laid(k:∀b u,h.get? b=some u->h'.get? b=some u)(hp:h.objs.size<=a)(hn:H a=none):Un fs ex H (upd H a o) h h' where
 keep:=λb u q _ _ _=>k b u q
 slot:=λb u q _ _ _=>⟨u.slots,k b u q⟩
 free:=λb u q n _=>by rw[KY (QL (QE (Qi q) hp))];exact n
 there:=λb u q _=>⟨u,k b u q⟩
 tups:=λb xs q=>by rw[KY (YV q hn)];exact q
 frzs:=λb u xs q=>by rw[KY (YV q hn)];exact q
 tbls:=λb ps q=>⟨#[],by rw[KY (YV q hn),q];simp⟩
theorem Un.write(mu:Mut (H x))(he:e=x∨H e=some (.own x))(k:∀b u,b≠e->h.get? b=some u->h'.get? b=some u)(heo:∃u,h'.get? e=some u):Un fs ex H (upd H x o) h h':=by
 have hx:∀b,H b=none->b≠x:=λb n z=>by subst z;rw[n]at mu;exact mu
 have hb:∀b,H b=none->b≠e:=λb n z=>by
  subst z;rcases he with r|r
  ·exact hx b n r
  ·rw[n]at r;cases r
 have hm:∀b u,H b=some u->¬Mut (some u)->b≠x:=λb u q nm z=>by subst z;rw[q]at mu;exact nm mu
 refine⟨λb u q n _ _=>k b u (hb b n) q,λb u q n _ _=>⟨u.slots,k b u (hb b n) q⟩,λb u q n _=>by rw[KY (hx b n)];exact n,λb u q _=>?_,
  λb xs q=>by rw[KY (hm b _ q λz=>z)];exact q,λb u xs q=>by rw[KY (hm b _ q λz=>z)];exact q,λb ps q=>⟨#[],by rw[KY (hm b _ q λz=>z),q];simp⟩⟩
 by_cases hbe:b=e
 ·subst hbe;exact heo
 ·exact⟨u,k b u hbe q⟩
end
def trk(h:Heap)(H:Hp):List Uo:=(Uv h.objs.size).filter λa=>(H a).isSome
def Ys(h:Heap)(H:Hp):Heap:=PySem.W.hideAll h (trk h H)
theorem Aa(h:Heap)(H:Hp):(Ys h H).objs.size=h.objs.size:=PySem.W.hideAll_size _ _
theorem Bp{h:Heap}{H:Hp}{b:Uo}{o:Obj}(e:h.get? b=some o)(n:H b=none):(Ys h H).get? b=some o:=
 PySem.W.hideAll_get _ e λhm=>by have q:(H b).isSome=true:=(Uf.mp hm).2;rw[n]at q;simp at q
theorem DP{h:Heap}{H:Hp}{b:Uo}{o:Obj}(e:(Ys h H).get? b=some o):h.get? b=some o/\H b=none:=by
 have e':h.get? b=some o:=PySem.W.of_hideAll (trk h H) e;refine⟨e',?_⟩;cases q:H b with
 |none=>rfl
 |some x=>have hm:b∈trk h H:=List.mem_filter.mpr ⟨List.mem_range.mpr (Heap.lt_size e'),by simp[q]⟩;have z:(Ys h H).get? b=none:=PySem.W.hideAll_none (trk h H) hm;rw[z]at e;cases e
structure Mod(K:Frag)(mg:Str->Option Uk)(base:Heap):Prop where
 kin:K.In base
 glob:base.Ns mainGlobals mg
 blt:∃mb,base.Ns builtinsNs mb/\∀x:Str,x ≠ "__name__" -> mb x=bootBuiltins x
 nolimit:base.NoLimit
structure Cx where
 prog:Um
 w:World
 K:Frag
 mg:Str->Option Uk
 base:Heap
 A:Around
 N:List Str
 s₀:Ul
 H₀:Hp
 env:Env
 outer:List Env
 stack:List Env
 ex:List Uo
 fn:Str->Bool
 calm:Bool
 pn:List (Uo×Obj)
 xe:Uk->Ul->Prop
def frs(l:List Env):List Uo:=l.filterMap (·.frame)
abbrev Cx.fs(X:Cx):List Uo:=frs X.outer
def Vis(sc:Scope)(x:Str):Prop:=sc.names.lookup x=some .local∨sc.names.lookup x=some .cell∨sc.names.lookup x=some .free
def Loc(sc:Scope)(x:Str):Prop:=sc.names.lookup x=some .local∨sc.names.lookup x=some .cell
def Look(env:Env)(h:Heap)(m:Str->Option Uk)(x:Str)(u:Uk):Prop:=
 (env.kindOf x=some .local/\m x=some u)∨((env.kindOf x=some .cell∨env.kindOf x=some .free)/\∃c,env.cells.lookup x=some c/\h.IsCell c (some u))
structure Cx.Ok(X:Cx):Prop where
 mod:Mod X.K X.mg X.base
 kind:X.env.scope.kind=.function
 glob:X.env.globals=mainGlobals
 blt:X.env.builtins=builtinsNs
 above:X.s₀.heap.objs.size<=X.env.locals
 inj:∀x y c,X.env.cells.lookup x=some c->X.env.cells.lookup y=some c->x=y
 has:∀x,(X.env.kindOf x=some .cell∨X.env.kindOf x=some .free)->∃c,X.env.cells.lookup x=some c
 cab:∀x c,X.fn x=true->X.env.cells.lookup x=some c->X.s₀.heap.objs.size<=c
 hd:X.calm=true->X.A.handled=none
 frames:X.A.frames=some X.stack
 stk:X.stack=X.outer∨(X.stack=X.env::X.outer/\X.env.frame=some X.env.locals)
 exf:∀b∈X.ex,b≠X.env.locals/\∀x c,X.env.cells.lookup x=some c->c≠b
 bs:∀b o,X.base.get? b=some o->X.s₀.heap.get? b=some o/\X.H₀ b=none
 bsz:X.base.objs.size<=X.s₀.heap.objs.size
 noex:∀b o,X.base.get? b=some o->b∉X.ex
 exfs:∀b∈X.ex,b∉X.fs
 funs:X.s₀.heap.FunFrames X.base X.outer
 frf:∀b∈X.fs,X.H₀ b=none
structure Inv(X:Cx)(pins:List (Uo×Obj))(σ:List (Option V))(H:Hp)(s:Ul):Prop where
 ok:X.Ok
 os:s.os=X.s₀.os
 bare:AllBare s.gens
 base:Un X.fs X.ex X.H₀ H X.s₀.heap s.heap
 loc:∃m,s.heap.Ns X.env.locals m/\∀(i:Nat)(x:Str)(v:V),X.N[i]?=some x->σ[i]?=some (some v)->Vis X.env.scope x->∃u,RelV v u/\Look X.env s.heap m x u
 cell:∀x c,X.env.cells.lookup x=some c->∃v,s.heap.IsCell c v
 free:H X.env.locals=none
 freeC:∀x c,X.env.cells.lookup x=some c->H c=none
 pin:∀p∈X.pn++pins,s.heap.get? p.1=some p.2/\H p.1=none/\p.1≠X.env.locals/\p.1∉X.fs/\∀v,p.2.data≠.cell v
 hok:HOk X.prog X.w H s.heap
 len:σ.length=X.N.length
section
variable{X:Cx}{pins:List (Uo×Obj)}{σ:List (Option V)}{H H':Hp}{s:Ul}{h':Heap}
theorem Cx.Ok.nofr(ok:X.Ok){b:Uo}{o:Obj}(e:X.base.get? b=some o):b∉X.fs:=λhb=>by have:=(ok.funs.mem hb).1;rw[e]at this;cases this
theorem Inv.bs(I:Inv X pins σ H s):∀b o,X.base.get? b=some o->s.heap.get? b=some o/\H b=none:=λb o e=>
 ⟨I.base.keep b o (I.ok.bs b o e).1 (I.ok.bs b o e).2 (I.ok.nofr e) (I.ok.noex b o e),I.base.free b o (I.ok.bs b o e).1 (I.ok.bs b o e).2 (I.ok.noex b o e)⟩
theorem Inv.bk(I:Inv X pins σ H s):∀b o,X.base.get? b=some o->s.heap.get? b=some o:=λb o e=>(I.bs b o e).1
theorem Inv.mod(I:Inv X pins σ H s):Mod X.K X.mg X.base:=I.ok.mod
theorem Inv.kIn(I:Inv X pins σ H s):X.K.In s.heap:=I.ok.mod.kin.keeps I.bk
theorem Inv.lt(I:Inv X pins σ H s):X.env.locals<s.heap.objs.size:=let ⟨_,hn,_⟩:=I.loc;hn.lt
theorem Inv.sz(I:Inv X pins σ H s):X.s₀.heap.objs.size<=s.heap.objs.size:=QP I.ok.above (Nat.le_of_lt I.lt)
theorem Inv.nofs(I:Inv X pins σ H s){a:Uo}(h:s.heap.objs.size<=a):a∉X.fs:=λhb=>by obtain⟨_,o,ho,_⟩:=I.ok.funs.mem hb;exact absurd (QE (Qi ho) (QP I.sz h)) (Js _)
theorem Inv.cne(I:Inv X pins σ H s):∀x c,X.env.cells.lookup x=some c->c≠X.env.locals:=λx c e z=>by obtain⟨v,o,ho,hd⟩:=I.cell x c e;obtain⟨m,⟨o',es,ep,ho',hd',_⟩,_⟩:=I.loc;rw[z,ho']at ho;cases ho;rw[hd']at hd;cases hd
theorem Inv.funs(I:Inv X pins σ H s):s.heap.FunFrames X.base X.outer:=by
 have all:∀(l:List Env),(∀b∈frs l,b∈X.fs)->X.s₀.heap.FunFrames X.base l->s.heap.FunFrames X.base l:=by
  intro l;induction l with
  |nil=>intro _ _;trivial
  |cons env r ih=>
   intro hs hl;obtain⟨hk,⟨L,o,hf,hn,ho,hd⟩,hr⟩:=hl;have hL:L∈X.fs:=hs L (by unfold frs;rw[Jz,hf];exact Qo);obtain⟨sl,e⟩:=I.base.slot L o ho (I.ok.frf L hL) hL λz=>I.ok.exfs L z hL
   exact⟨hk,⟨L,_,hf,hn,e,hd⟩,ih (λb hb=>hs b (by unfold frs;rw[Jz,hf];exact Qk _ hb)) hr⟩
 exact all X.outer (λ_ hb=>hb) I.ok.funs
theorem Inv.stack(I:Inv X pins σ H s):s.heap.FunFrames X.base X.stack:=by
 rcases I.ok.stk with e|⟨e,hf⟩
 ·rw[e];exact I.funs
 ·rw[e];obtain⟨m,hn,_⟩:=I.loc;refine .cons (by rw[I.ok.kind];decide) hf hn ?_ I.funs;exact Heap.get?_none_of_le (QP I.ok.bsz I.ok.above)
theorem Inv.stkSub(I:Inv X pins σ H s):∀b∈frs X.stack,b∈X.env.locals::X.fs:=λb hb=>by
 rcases I.ok.stk with e|⟨e,hf⟩
 ·rw[e]at hb;exact Qk _ hb
 ·rw[e]at hb;unfold frs at hb;rw[Jz,hf]at hb;exact hb
theorem Inv.stkFree(I:Inv X pins σ H s):∀b∈frs X.stack,H b=none:=λb hb=>by
 rcases QO.mp (I.stkSub b hb)with e|hb
 ·rw[e];exact I.free
 ·obtain⟨_,o,ho,_⟩:=I.ok.funs.mem hb;exact I.base.free b o ho (I.ok.frf b hb) λz=>I.ok.exfs b z hb
theorem Inv.step{g':Array GenState}{t':Nat}{d':Drawn}{ch:List Uo}(I:Inv X pins σ H s)
  (hch:∀b∈ch,(b∈X.ex∨X.s₀.heap.objs.size<=b)/\b≠X.env.locals/\(∀x c,X.env.cells.lookup x=some c->c≠b)/\∀p∈X.pn++pins,p.1≠b)
  (keep:∀b o,b≠X.env.locals->b∉X.fs->b∉ch->s.heap.get? b=some o->H b=none->h'.get? b=some o)
  (slot:∀b o,b≠X.env.locals->b∈X.fs->b∉ch->s.heap.get? b=some o->H b=none->∃sl,h'.get? b=some {o with slots:=sl}) (free:∀b o,b∉ch->s.heap.get? b=some o->H b=none->H' b=none)
  (there:∀b o,b∉ch->s.heap.get? b=some o->∃o',h'.get? b=some o')
  (tups:∀b xs,H b=some (.tup xs)->H' b=some (.tup xs)) (frzs:∀b o u,H b=some (.frz o u)->H' b=some (.frz o u)) (tbls:∀b ps,H b=some (.tbl ps)->∃more,H' b=some (.tbl (ps++more)))
  (ns:∀m,s.heap.Ns X.env.locals m->h'.Ns X.env.locals m) (hok:HOk X.prog X.w H' h') (hg:AllBare g') :
  Inv X pins σ H' {s with heap:=h',gens:=g',drawn:=d',toks:=t'}:=by
 have neL:∀b o,X.s₀.heap.get? b=some o->b≠X.env.locals:=λb o e=>QL (QE (Qi e) I.ok.above)
 have neC:∀b o,X.s₀.heap.get? b=some o->b∉X.ex->b∉ch:=λb o e hx hb=>by
  rcases(hch b hb).1 with z|z
  ·exact hx z
  ·exact absurd (QE (Qi e) z) (Js _)
 have cellK:∀x c,X.env.cells.lookup x=some c->∀v,s.heap.IsCell c v->h'.IsCell c v:=λx c e v ⟨o,ho,hd⟩=>by
  have nch:c∉ch:=λz=>(hch c z).2.2.1 x c e rfl
  by_cases hc:c∈X.fs
  ·obtain⟨sl,q⟩:=slot c o (I.cne x c e) hc nch ho (I.freeC x c e);exact⟨_,q,hd⟩
  ·exact⟨o,keep c o (I.cne x c e) hc nch ho (I.freeC x c e),hd⟩
 refine⟨I.ok,I.os,hg,⟨λb o e n hb hx=>?_,λb o e n hb hx=>?_,λb o e n hx=>?_,λb o e hx=>?_,λb xs e=>tups b xs (I.base.tups b xs e),λb o xs e=>frzs b o xs (I.base.frzs b o xs e),λb ps e=>?_⟩,?_,λx c e=>?_,?_,λx c e=>?_,λp hp=>?_,hok,I.len⟩
 ·exact keep b o (neL b o e) hb (neC b o e hx) (I.base.keep b o e n hb hx) (I.base.free b o e n hx)
 ·obtain⟨sl,e1⟩:=I.base.slot b o e n hb hx;obtain⟨sl',e2⟩:=slot b _ (neL b o e) hb (neC b o e hx) e1 (I.base.free b o e n hx);exact⟨sl',e2⟩
 ·obtain⟨o',e1⟩:=I.base.there b o e hx;exact free b o' (neC b o e hx) e1 (I.base.free b o e n hx)
 ·obtain⟨o',e1⟩:=I.base.there b o e hx;exact there b o' (neC b o e hx) e1
 ·obtain⟨m1,e1⟩:=I.base.tbls b ps e;obtain⟨m2,e2⟩:=tbls b _ e1;exact⟨m1++m2,by rw[e2,Array.append_assoc]⟩
 ·obtain⟨m,hn,hl⟩:=I.loc;refine⟨m,ns m hn,λi x v e1 e2 e3=>?_⟩;obtain⟨u,r,l⟩:=hl i x v e1 e2 e3;refine⟨u,r,?_⟩;rcases l with l|⟨k,c,e,z⟩
  ·exact .inl l
  ·exact .inr ⟨k,c,e,cellK x c e _ z⟩
 ·obtain⟨v,z⟩:=I.cell x c e;exact⟨v,cellK x c e v z⟩
 ·obtain⟨m,⟨o,_,_,ho,_⟩,_⟩:=I.loc;exact free _ o (λz=>(hch _ z).2.1 rfl) ho I.free
 ·obtain⟨v,o,ho,hd⟩:=I.cell x c e;exact free c o (λz=>(hch c z).2.2.1 x c e rfl) ho (I.freeC x c e)
 ·obtain⟨e,n,ne,nf,d⟩:=I.pin p hp;have nch:p.1∉ch:=λz=>(hch p.1 z).2.2.2 p hp rfl
  exact⟨keep p.1 p.2 ne nf nch e n,free p.1 p.2 nch e n,ne,nf,d⟩
theorem Inv.un{t':Nat}(I:Inv X pins σ H s)(u:Un X.fs [] H H' s.heap h')(hok:HOk X.prog X.w H' h'):Inv X pins σ H' {s with heap:=h',toks:=t'}:=by obtain⟨m,⟨o,es,ep,ho,r⟩,_⟩:=id I.loc;obtain⟨sl,hL⟩:=u.any ho I.free (by simp);exact I.step (g':=s.gens) (d':=s.drawn) (ch:=[]) (λ_ z=>nomatch z) (λb o _ hb _ e n=>u.keep b o e n hb (by simp)) (λb o _ hb _ e n=>u.slot b o e n hb (by simp)) (λb o _ e n=>u.free b o e n (by simp)) (λb o _ e=>u.there b o e (by simp)) u.tups u.frzs u.tbls (λm' hm=>by obtain⟨o',es',ep',ho',r'⟩:=hm;rw[ho]at ho';cases ho';exact⟨_,es',ep',hL,r'⟩) hok I.bare
theorem Inv.call{g':Array GenState}{t':Nat}{d':Drawn}{ch:List Uo}(I:Inv X pins σ H s)(u:Un (frs X.stack) ch H H' s.heap h')(hok:HOk X.prog X.w H' h')(hg:AllBare g')
  (hch:∀b∈ch,(b∈X.ex∨X.s₀.heap.objs.size<=b)/\b≠X.env.locals/\(∀x c,X.env.cells.lookup x=some c->c≠b)/\∀p∈X.pn++pins,p.1≠b) :
  Inv X pins σ H' {s with heap:=h',gens:=g',drawn:=d',toks:=t'}:=by
 obtain⟨m,⟨o,es,ep,ho,r⟩,_⟩:=id I.loc;obtain⟨sl,hL⟩:=u.any ho I.free λz=>(hch _ z).2.1 rfl
 exact I.step (ch:=ch) hch (λb o hL hb hc e n=>u.keep b o e n (λz=>(QO.mp (I.stkSub b z)).elim hL hb) hc) (λb o _ _ hc e n=>u.any e n hc) (λb o hc e n=>u.free b o e n hc) (λb o hc e=>u.there b o e hc) u.tups u.frzs u.tbls (λm' hm=>by obtain⟨o',es',ep',ho',r'⟩:=hm;rw[ho]at ho';cases ho';exact⟨_,es',ep',hL,r'⟩) hok hg
theorem Inv.turned{t':Nat}{it:Uo}(I:Inv X pins σ H s)(k:∀b o,b≠it->s.heap.get? b=some o->h'.get? b=some o)(hn:H it=none)(hL:it≠X.env.locals)
  (h1:it∈X.ex∨X.s₀.heap.objs.size<=it) (h2:∀x c,X.env.cells.lookup x=some c->c≠it) (h3:∀p∈X.pn++pins,p.1≠it):Inv X pins σ H {s with heap:=h',toks:=t'}:=by
 have nit:∀b u,H b=some u->b≠it:=λb u e z=>by rw[z,hn]at e;cases e
 refine I.step (g':=s.gens) (d':=s.drawn) (ch:=[it]) (λb hb=>?_) (λb o _ _ hc e _=>k b o (λz=>hc (by simp[z])) e) (λb o _ _ hc e _=>⟨o.slots,k b o (λz=>hc (by simp[z])) e⟩) (λ_ _ _ _ n=>n)
  (λb o hc e=>⟨o,k b o (λz=>hc (by simp[z])) e⟩) (λ_ _ e=>e) (λ_ _ _ e=>e) (λb ps e=>⟨#[],by rw[e];simp⟩) (λm hm=>?_) (λb u e=>?_) I.bare
 ·have e:b=it:=by simpa using hb
  subst e;exact⟨h1,hL,h2,h3⟩
 ·obtain⟨o,es,ep,ho,r⟩:=hm;exact⟨o,es,ep,k _ o (Ne.symm hL) ho,r⟩
 ·refine(I.hok b u e).stay (λc v hc q=>k c v ?_ q) (λ_ q=>q) λ_ _ q=>q
  rcases hc with z|z
  ·rw[z];exact nit b u e
  ·exact nit c _ z
theorem Inv.tok(I:Inv X pins σ H s)(t:Nat):Inv X pins σ H {s with toks:=t}:=I.un (h':=s.heap) (t':=t) Un.refl I.hok
theorem Inv.kept{t':Nat}(I:Inv X pins σ H s)(k:∀b u,s.heap.get? b=some u->h'.get? b=some u):Inv X pins σ H {s with heap:=h',toks:=t'}:=I.un (Un.kept k) (I.hok.kept k)
theorem Inv.laid{a:Uo}{o:HO}{t':Nat}(I:Inv X pins σ H s)(k:∀b u,s.heap.get? b=some u->h'.get? b=some u)(hp:s.heap.objs.size<=a)(new:Yb X.prog X.w (upd H a o) h' a o) :
  Inv X pins σ (upd H a o) {s with heap:=h',toks:=t'}:=I.un (Un.laid k hp (I.hok.fresh hp)) (I.hok.laid k hp new)
theorem Inv.write{x e:Uo}{o:HO}{t':Nat}(I:Inv X pins σ H s)(mu:Mut (H x))(he:e=x∨H e=some (.own x))(k:∀b u,b≠e->s.heap.get? b=some u->h'.get? b=some u)(heo:∃u,h'.get? e=some u)
  (new:Yb X.prog X.w (upd H x o) h' x o):Inv X pins σ (upd H x o) {s with heap:=h',toks:=t'}:=I.un (Un.write mu he k heo) (I.hok.write mu he k heo new)
theorem Inv.pins_of{pins':List (Uo×Obj)}(I:Inv X pins σ H s)(h:∀p∈pins',s.heap.get? p.1=some p.2/\H p.1=none/\p.1≠X.env.locals/\p.1∉X.fs/\∀v,p.2.data≠.cell v):Inv X pins' σ H s:=
 ⟨I.ok,I.os,I.bare,I.base,I.loc,I.cell,I.free,I.freeC,λp hp=>(Q2.mp hp).elim (λz=>I.pin p (Jd _ z)) (h p),I.hok,I.len⟩
theorem MV{N:List Str}(hN:N.Nodup){i j:Nat}{x:Str}(a:N[i]?=some x)(b:N[j]?=some x):i=j:=by obtain⟨h1,e1⟩:=Qg.mp a;obtain⟨h2,e2⟩:=Qg.mp b;exact(List.getElem_inj hN).mp (e1.trans e2.symm)
theorem OH{M:Model}{A:Around}{E:Uk->Ul->Prop}{i:Nat}{x:Str}{v:V}{u:Uk}{Q:Unit->Ul->Prop}(I:Inv X pins σ H s)(hN:X.N.Nodup)(hi:X.N[i]?=some x)(hx:Loc X.env.scope x)(r:RelV v u)
  (h:∀s',Inv X pins (σ.set i (some v)) H s'->(∃a,Heap.SameBut a s.heap s'.heap/\(a=X.env.locals∨X.env.cells.lookup x=some a))->Q () s') (hf:X.fn x=true∨X.env.scope.names.lookup x=some .local:=by first|exact .inl rfl|exact .inr rfl|assumption):Us M A (storeName X.env x u) Q E s:=by
 obtain⟨m,hn,hl⟩:=id I.loc;have hcls:(X.env.scope.kind==.class || (X.env.scope.kind==.module&&X.env.locals != X.env.globals))=false:=by rw[I.ok.kind];rfl
 have hiσ:i<σ.length:=by rw[I.len];exact(Qg.mp hi).1
 have cne:=I.cne
 have tracked:∀{a:Uo}{h':Heap},(∃o,s.heap.get? a=some o/\H a=none)->Heap.SameBut a s.heap h'->HOk X.prog X.w H h':=λ{a h'} ha hs b ob e=>by
  obtain⟨_,_,hfree⟩:=ha;refine(I.hok b ob e).stay (λc w' hc q=>(hs.2 c ?_).trans q) (λ_ q=>q) λ_ _ q=>q
  rintro rfl;rcases hc with rfl|hc
  ·rw[hfree]at e;cases e
  ·rw[hfree]at hc;cases hc
 rcases hx with hk|hk
 ·refine wpAny_storeName_local hk hn (λh' hn' hs=>?_) hcls;obtain⟨oL,_,_,hoL,_⟩:=id hn;refine h _ ⟨I.ok,I.os,I.bare,⟨λb o e n hb hx=>?_,λb o e n hb hx=>?_,I.base.free,λb o e hx=>?_,I.base.tups,I.base.frzs,I.base.tbls⟩,⟨_,hn',λj y v' e1 e2 e3=>?_⟩,λy c e=>?_,I.free,I.freeC,λp hp=>?_,tracked ⟨oL,hoL,I.free⟩ hs,by simpa using I.len⟩ ⟨_,hs,.inl rfl⟩
  ·exact(hs.2 b (QL (QE (Qi e) I.ok.above))).trans (I.base.keep b o e n hb hx)
  ·obtain⟨sl,e1⟩:=I.base.slot b o e n hb hx;exact⟨sl,(hs.2 b (QL (QE (Qi e) I.ok.above))).trans e1⟩
  ·obtain⟨o',e1⟩:=I.base.there b o e hx;exact⟨o',(hs.2 b (QL (QE (Qi e) I.ok.above))).trans e1⟩
  ·by_cases hj:j=i
   ·subst hj;rw[hi]at e1;cases e1;rw[QF hiσ]at e2;cases e2;exact⟨u,r,.inl ⟨hk,by simp⟩⟩
   ·rw[Qr (Ne.symm hj)]at e2;obtain⟨u',r',q⟩:=hl j y v' e1 e2 e3;refine⟨u',r',?_⟩;rcases q with ⟨k,e⟩|⟨k,c,e,z⟩
    ·refine .inl ⟨k,?_⟩;have:y≠x:=λe=>hj (MV hN e1 (e ▸ hi))
     simp[this,e]
    ·exact .inr ⟨k,c,e,z.sameBut hs (cne y c e)⟩
  ·obtain⟨w',z⟩:=I.cell y c e;exact⟨w',z.sameBut hs (cne y c e)⟩
  ·obtain⟨e,n,ne,nf,d⟩:=I.pin p hp;exact⟨(hs.2 p.1 ne).trans e,n,ne,nf,d⟩
 ·have hfn:X.fn x=true:=by
   rcases hf with z|z
   ·exact z
   ·rw[z]at hk;cases hk
  obtain⟨c,hc⟩:=I.ok.has x (.inl hk);obtain⟨w',z⟩:=I.cell x c hc;refine wpAny_storeName_cell I.ok.kind hk hc z (λh' hc' hs=>?_);obtain⟨oc,hoc,hocd⟩:=id z;refine h {s with heap:=h'} ⟨I.ok,I.os,I.bare,⟨λb o e n hb hx=>?_,λb o e n hb hx=>?_,I.base.free,λb o e hx=>?_,I.base.tups,I.base.frzs,I.base.tbls⟩,⟨m,hn.sameBut hs (Ne.symm (cne x c hc)),λj y v' e1 e2 e3=>?_⟩,λy c' e=>?_,I.free,I.freeC,λp hp=>?_,tracked ⟨oc,hoc,I.freeC x c hc⟩ hs,by simpa using I.len⟩ ⟨c,hs,.inr hc⟩
  ·exact(hs.2 b (QL (QE (Qi e) (I.ok.cab x c hfn hc)))).trans (I.base.keep b o e n hb hx)
  ·obtain⟨sl,e1⟩:=I.base.slot b o e n hb hx;exact⟨sl,(hs.2 b (QL (QE (Qi e) (I.ok.cab x c hfn hc)))).trans e1⟩
  ·obtain⟨o',e1⟩:=I.base.there b o e hx;exact⟨o',(hs.2 b (QL (QE (Qi e) (I.ok.cab x c hfn hc)))).trans e1⟩
  ·by_cases hj:j=i
   ·subst hj;rw[hi]at e1;cases e1;rw[QF hiσ]at e2;cases e2;exact⟨u,r,.inr ⟨.inl hk,c,hc,hc'⟩⟩
   ·rw[Qr (Ne.symm hj)]at e2;obtain⟨u',r',q⟩:=hl j y v' e1 e2 e3;refine⟨u',r',?_⟩;rcases q with q|⟨k,c',e,z'⟩
    ·exact .inl q
    ·refine .inr ⟨k,c',e,z'.sameBut hs ?_⟩;rintro rfl;exact hj (MV hN e1 (I.ok.inj _ _ _ e hc ▸ hi))
  ·by_cases hcc:c'=c
   ·subst hcc;exact⟨_,hc'⟩
   ·obtain⟨w2,z2⟩:=I.cell y c' e;exact⟨w2,z2.sameBut hs hcc⟩
  ·obtain⟨e,n,ne,nf,d⟩:=I.pin p hp;refine⟨(hs.2 p.1 ?_).trans e,n,ne,nf,d⟩;intro q;rw[q,hoc]at e;have q':oc=p.2:=QT e;exact d w' (by rw[←q'];exact hocd)
theorem Oa{M:Model}{A:Around}{E:Uk->Ul->Prop}{i:Nat}{x:Str}{v:V}{u:Uk}{Q:Unit->Ul->Prop}(I:Inv X pins σ H s)(hN:X.N.Nodup)(hi:X.N[i]?=some x)(hx:Loc X.env.scope x)(r:RelV v u)
  (h:∀s',Inv X pins (σ.set i (some v)) H s'->Q () s') (hf:X.fn x=true∨X.env.scope.names.lookup x=some .local:=by first|exact .inl rfl|exact .inr rfl|assumption):Us M A (storeName X.env x u) Q E s:=
 OH I hN hi hx r (λs' I' _=>h s' I') hf
theorem Inv.call'{s':Ul}{ch:List Uo}(I:Inv X pins σ H s)(ho:s'.os=s.os)(u:Un (frs X.stack) ch H H' s.heap s'.heap)(hok:HOk X.prog X.w H' s'.heap)(hg:AllBare s'.gens)
  (hch:∀b∈ch,(b∈X.ex∨X.s₀.heap.objs.size<=b)/\b≠X.env.locals/\(∀x c,X.env.cells.lookup x=some c->c≠b)/\∀p∈X.pn++pins,p.1≠b):Inv X pins σ H' s':=by
 obtain⟨h',g',d',t',o'⟩:=s';have e:o'=s.os:=ho;subst e;exact I.call (g':=g') (t':=t') (d':=d') u hok hg hch
end
abbrev XK:=Uk->Option Uo->Hp->Prop
abbrev St:=List (Option V)
abbrev VK:=V->Hp->Prop
abbrev TE:=St->Hp->VK->Prop
abbrev TT:=St->Hp->(Bool->Hp->Prop)->Prop
abbrev TA:=St->Hp->(List V->Hp->Prop)->Prop
structure Ends where
 nx:St->Hp->Prop
 rt:VK
 bk:St->Hp->Prop:=λ_ _=>False
 ct:St->Hp->Prop:=λ_ _=>False
abbrev TS:=Ends->St->Hp->Prop
def EP(X:Cx)(pins:List (Uo×Obj))(σ:St)(Q:VK)(u:Uk)(s':Ul):Prop:=∃v H',Inv X pins σ H' s'/\RelV v u/\Q v H'
def TP(X:Cx)(pins:List (Uo×Obj))(σ:St)(Q:Bool->Hp->Prop)(b:Bool)(s':Ul):Prop:=∃H',Inv X pins σ H' s'/\Q b H'
def AP(X:Cx)(pins:List (Uo×Obj))(σ:St)(Q:List V->Hp->Prop)(us:List Uk)(s':Ul):Prop:=∃vs H',Inv X pins σ H' s'/\Vals vs us/\Q vs H'
def SP(X:Cx)(pins:List (Uo×Obj))(D:Ends)(f:Flow)(s':Ul):Prop:=
 match f with
 |.next=>∃σ' H',Inv X pins σ' H' s'/\D.nx σ' H'
 |.brk=>∃σ' H',Inv X pins σ' H' s'/\D.bk σ' H'
 |.cont=>∃σ' H',Inv X pins σ' H' s'/\D.ct σ' H'
 |.ret u=>∃v σ' H',Inv X pins σ' H' s'/\RelV v u/\D.rt v H'
def PE(X:Cx)(e:Uq)(t:TE):Prop:=
 ∀(pins:List (Uo×Obj))(s:Ul)(σ:St)(H:Hp)(Q:VK),Inv X pins σ H s->t σ H Q->Us (model X.prog X.w) X.A (eval e X.env) (EP X pins σ Q) X.xe s
def PT(X:Cx)(e:Uq)(t:TT):Prop:=
 ∀(pins:List (Uo×Obj))(s:Ul)(σ:St)(H:Hp)(Q:Bool->Hp->Prop),Inv X pins σ H s->t σ H Q->Us (model X.prog X.w) X.A (isTrue e X.env (eval e X.env)) (TP X pins σ Q) X.xe s
def PW(X:Cx)(e:Uq)(t:TT):Prop:=
 ∀(whole:Sem Uk)(pins:List (Uo×Obj))(s:Ul)(σ:St)(H:Hp)(Q:Bool->Hp->Prop),Inv X pins σ H s->t σ H Q->Us (model X.prog X.w) X.A (isTrue e X.env whole) (TP X pins σ Q) X.xe s
theorem PW.pt{X:Cx}{e:Uq}{t:TT}(h:PW X e t):PT X e t:=h _
def PA(X:Cx)(es:List Uq)(t:TA):Prop:=
 ∀(pos:Pos)(pins:List (Uo×Obj))(s:Ul)(σ:St)(H:Hp)(Q:List V->Hp->Prop),Inv X pins σ H s->t σ H Q->Us (model X.prog X.w) X.A (spliced (backTo pos (Ut es X.env))) (AP X pins σ Q) X.xe s
def PS(X:Cx)(st:Stmt)(t:TS):Prop:=
 ∀(pins:List (Uo×Obj))(s:Ul)(σ:St)(H:Hp)(D:Ends),Inv X pins σ H s->t D σ H->Us (model X.prog X.w) X.A (exec st X.env) (SP X pins D) X.xe s
def PSs(X:Cx)(st:List Stmt)(t:TS):Prop:=
 ∀(pins:List (Uo×Obj))(s:Ul)(σ:St)(H:Hp)(D:Ends),Inv X pins σ H s->t D σ H->Us (model X.prog X.w) X.A (execs st X.env) (SP X pins D) X.xe s
theorem thn{α:Type}{t:Sem α}{Q Q':α->Ul->Prop}{M:Model}{A:Around}{E:Uk->Ul->Prop}{s:Ul}(h:Us M A t Q E s)(hQ:∀a s,Q a s->Q' a s):Us M A t Q' E s:=QK h hQ λ_ _ x=>x
section
variable{X:Cx}
def Zw(i:Nat):TE:=λσ H Q=>∃v,σ[i]?=some (some v)/\Q v H
def tC(v:V):TE:=λ_ H Q=>Q v H
theorem O9{i:Nat}{x:Str}{pos:Pos}(hN:X.N[i]?=some x)(hv:Vis X.env.scope x)(hd:(x==("__debug__" : Str))=false:=by decide)(hcd:(x==("__classdict__" : Str))=false:=by decide):PE X (.Name x pos) (Zw i):=by
 intro pins s σ H Q I h;obtain⟨v,e,h⟩:=h;obtain⟨m,hn,hl⟩:=I.loc;obtain⟨u,r,l⟩:=hl i x v hN e hv;have fin:EP X pins σ Q u s:=⟨v,H,I,r,h⟩;rcases l with ⟨hk,hm⟩|⟨hk,c,hc,hcell⟩
 ·exact wpAny_Name (wpAny_loadName_local I.ok.kind hk hn hm fin) hd
 ·rcases hk with hk|hk
  ·exact wpAny_Name (wpAny_loadName_cell I.ok.kind hk hc hcell fin) hd
  ·exact wpAny_Name (wpAny_loadName_free I.ok.kind hk hc hcell fin hcd) hd
theorem FN{i j pos}:PE X (.Constant (.int i) j pos) (tC (.int i)):=λ_ _ _ H _ I h=>wpAny_Constant_int ⟨.int i,H,I.tok _,⟨_,rfl⟩,h⟩
theorem GZ{b j pos}:PE X (.Constant (.bool b) j pos) (tC (.bl b)):=λ_ _ _ H _ I h=>Constant_bool ⟨.bl b,H,I,rfl,h⟩
theorem FM{j pos}:PE X (.Constant .none j pos) (tC .non):=λ_ _ _ H _ I h=>Constant_none ⟨.non,H,I,rfl,h⟩
theorem FL{x j pos}:PE X (.Constant (.str x) j pos) (tC (.str x)):=λ_ _ _ H _ I h=>Calls.Constant_str ⟨.str x,H,I.tok _,⟨_,rfl⟩,h⟩
def Gl(X:Cx)(x:Str):Prop:=X.env.kindOf x=some .globalImplicit
theorem Mb{E:Uk->Ul->Prop}{pins:List (Uo×Obj)}{s:Ul}{σ:St}{H:Hp}{x:Str}{u:Uk}{pos:Pos}{Q:Uk->Ul->Prop}(I:Inv X pins σ H s)(hg:Gl X x)(hm:X.mg x=some u)(h:Q u s)
  (hd:(x==("__debug__" : Str))=false:=by decide):Us (model X.prog X.w) X.A (eval (.Name x pos) X.env) Q E s:=
 Calls.Name_function_global I.ok.kind hg (Calls.loadGlobal_global (by rw[I.ok.glob];exact I.mod.glob.keeps I.bk) hm h) hd
theorem W7{E:Uk->Ul->Prop}{pins:List (Uo×Obj)}{s:Ul}{σ:St}{H:Hp}{x:Str}{u:Uk}{pos:Pos}{Q:Uk->Ul->Prop}(I:Inv X pins σ H s)(hg:Gl X x)(hm:X.mg x=none)(hv:bootBuiltins x=some u)(h:Q u s)
  (hn:x ≠ "__name__" :=by decide) (hd:(x==("__debug__" : Str))=false:=by decide):Us (model X.prog X.w) X.A (eval (.Name x pos) X.env) Q E s:=by
 obtain⟨mb,h1,h2⟩:=I.mod.blt;exact Calls.Name_function_global I.ok.kind hg (Calls.loadGlobal_builtin (by rw[I.ok.glob];exact I.mod.glob.keeps I.bk) hm (by rw[I.ok.blt];exact h1.keeps I.bk) ((h2 x hn).trans hv) h) hd
theorem Mj{x:Str}{v:V}{u:Uk}{pos:Pos}(hg:Gl X x)(hm:X.mg x=some u)(r:RelV v u)(hd:(x==("__debug__" : Str))=false:=by decide):PE X (.Name x pos) (tC v):=
 λ_ _ _ H _ I h=>Mb I hg hm ⟨v,H,I,r,h⟩ hd
theorem DO{x:Str}{v:V}{u:Uk}{pos:Pos}(hg:Gl X x)(hm:X.mg x=none)(hv:bootBuiltins x=some u)(r:RelV v u)(hn:x ≠ "__name__" :=by decide)(hd:(x==("__debug__" : Str))=false:=by decide):PE X (.Name x pos) (tC v):=
 λ_ _ _ H _ I h=>W7 I hg hm hv ⟨v,H,I,r,h⟩ hn hd
variable{a b:Uq}{ta tb:TE}{pos:Pos}
def PC(X:Cx)(op:CmpOp)(a b:Uq)(t:TE):Prop:=
 ∀(pins:List (Uo×Obj))(s:Ul)(σ:St)(H:Hp)(Q:VK),Inv X pins σ H s->t σ H Q ->
  Us (model X.prog X.w) X.A (eval a X.env) (λv s₁=>Us (model X.prog X.w) X.A (eval b X.env) (λu s₂=>Us (model X.prog X.w) X.A (Uu op v u) (EP X pins σ Q) X.xe s₂) X.xe s₁) X.xe s
theorem MU(b:Uq){op:CmpOp}(h:op≠.In)(h2:op≠.NotIn):behindInMarks op b=false:=by
 have e1:(op==CmpOp.In)=false:=by cases op<;>first|rfl|exact absurd rfl h
 have e2:(op==CmpOp.NotIn)=false:=by cases op<;>first|rfl|exact absurd rfl h2
 cases b<;>simp[behindInMarks,e1,e2]
def tIsN(ta:TE):TE:=λσ H Q=>ta σ H λx H1=>Q (.bl (decide (x=.non))) H1
def GY(ta:TE):TE:=λσ H Q=>ta σ H λx H1=>Q (.bl (!decide (x=.non))) H1
theorem RelV.none_iff{x:V}{v:Uk}(r:RelV x v):(v==Value.none)=decide (x=.non):=by
 cases x with
 |non=>cases r;rfl
 |bl _=>cases r;rfl
 |int _=>obtain⟨t,rfl⟩:=r;rfl
 |str _=>obtain⟨t,rfl⟩:=r;rfl
 |byt _=>obtain⟨t,rfl⟩:=r;rfl
 |flt _=>obtain⟨t,rfl⟩:=r;rfl
 |ref _=>cases r;rfl
 |ty _=>cases r;rfl
theorem O8{j pos'}(ha:PE X a ta):PC X .Is a (.Constant .none j pos') (tIsN ta):=by intro pins s σ H Q I h;refine thn (ha pins s σ H _ I h) λv s1 ⟨x,H1,I1,r1,q1⟩=>?_;exact Constant_none (is_none_gen ⟨.bl _,H1,I1,by rw[r1.none_iff];rfl,q1⟩)
theorem DN{j pos'}(ha:PE X a ta):PC X .IsNot a (.Constant .none j pos') (GY ta):=by intro pins s σ H Q I h;refine thn (ha pins s σ H _ I h) λv s1 ⟨x,H1,I1,r1,q1⟩=>?_;exact Constant_none (isnot_none_gen ⟨.bl _,H1,I1,by rw[r1.none_iff];rfl,q1⟩)
def tB(t:TE):TT:=λσ H Q=>t σ H λx H1=>∃c,x=.bl c/\Q c H1
theorem FJ{op:CmpOp}{t:TE}(h:PC X op a b t)(h1:behindInMarks op b=false:=by first|exact MU _ (by decide) (by decide)|rfl):PE X (.Compare a [op] [b] pos) t:=λpins s σ H Q I hw=>wpAny_Compare1 (h pins s σ H Q I hw) h1
theorem O7{op:CmpOp}{t:TE}(h:PC X op a b t)(h1:behindInMarks op b=false:=by first|exact MU _ (by decide) (by decide)|rfl):PT X (.Compare a [op] [b] pos) (tB t):=by intro pins s σ H Q I hw;refine wpAny_isTrue_Compare1 (thn (h pins s σ H _ I hw) λv s1 h1=>thn h1 λu s2 h2=>thn h2 λc s3 ⟨x,H1,I1,r1,q1⟩=>?_) h1;obtain⟨d,rfl,q⟩:=q1;cases r1;exact QZ ⟨H1,I1,q⟩
theorem FI{e:Uq}{t:TE}(h:PE X e t)(he:∀whole,isTrue e X.env whole=(do let v ←whole;standAt e.pos;holding [v] (truthy v)):=by intro _;rfl):PT X e (tB t):=by intro pins s σ H Q I hw;refine isTrue_plain (thn (h pins s σ H _ I hw) λv s1 ⟨x,H1,I1,r1,q1⟩=>?_) (he _);obtain⟨d,rfl,q⟩:=q1;cases r1;exact QZ ⟨H1,I1,q⟩
variable{tA tB':TT}{rest:List Uq}
def tAnd(t u:TT):TT:=λσ H Q=>t σ H λc H1=>if c=true then u σ H1 Q else Q false H1
def tOr(t u:TT):TT:=λσ H Q=>t σ H λc H1=>if c=true then Q true H1 else u σ H1 Q
def tNot(t:TT):TT:=λσ H Q=>t σ H λc H1=>Q (!c) H1
theorem DM(ha:PT X a tA):PW X (.BoolOp .And [a] pos) tA:=by
 intro wh pins s σ H Q I h;refine isTrue_and (thn (ha pins s σ H Q I h) λc s1 e=>?_);cases c with
 |true=>exact isTrue_and_nil e
 |false=>exact e
theorem FH(ha:PT X a tA):PW X (.BoolOp .Or [a] pos) tA:=by
 intro wh pins s σ H Q I h;refine isTrue_or (thn (ha pins s σ H Q I h) λc s1 e=>?_);cases c with
 |false=>exact isTrue_or_nil e
 |true=>exact e
theorem FG(ha:PT X a tA)(hb:PW X (.BoolOp .And (b::rest) pos) tB'):PW X (.BoolOp .And (a::b::rest) pos) (tAnd tA tB'):=by
 intro wh pins s σ H Q I h;refine isTrue_and (thn (ha pins s σ H _ I h) λc s1 ⟨H1,I1,q1⟩=>?_);cases c with
 |true=>exact hb wh pins s1 σ H1 Q I1 q1
 |false=>exact⟨H1,I1,q1⟩
theorem GX(ha:PT X a tA)(hb:PW X (.BoolOp .Or (b::rest) pos) tB'):PW X (.BoolOp .Or (a::b::rest) pos) (tOr tA tB'):=by
 intro wh pins s σ H Q I h;refine isTrue_or (thn (ha pins s σ H _ I h) λc s1 ⟨H1,I1,q1⟩=>?_);cases c with
 |true=>exact⟨H1,I1,q1⟩
 |false=>exact hb wh pins s1 σ H1 Q I1 q1
theorem FF(ha:PT X a tA):PT X (.UnaryOp .Not a pos) (tNot tA):=by intro pins s σ H Q I h;exact isTrue_not (ha pins s σ H (λc H1=>Q (!c) H1) I h)
def GW(ta tb:TE):TE:=λσ H Q=>ta σ H λx H1=>∃c,x=.bl c/\if c=true then tb σ H1 Q else Q (.bl false) H1
def tOrV(ta tb:TE):TE:=λσ H Q=>ta σ H λx H1=>∃c,x=.bl c/\if c=true then Q (.bl true) H1 else tb σ H1 Q
def GV(ta:TE):TE:=λσ H Q=>ta σ H λx H1=>∃c,x=.bl c/\Q (.bl (!c)) H1
theorem FE{op}{t:TE}(h:PE X a t):PE X (.BoolOp op [a] pos) t:=λpins s σ H Q I hw=>BoolOp_one (h pins s σ H Q I hw)
theorem FD(ha:PE X a ta)(hb:PE X (.BoolOp .And (b::rest) pos) tb):PE X (.BoolOp .And (a::b::rest) pos) (GW ta tb):=by
 intro pins s σ H Q I h;refine BoolOp_and (thn (ha pins s σ H _ I h) λv s1 ⟨x,H1,I1,r1,q1⟩=>?_);obtain⟨c,rfl,q1⟩:=q1;cases r1;refine QZ ?_;cases c with
 |true=>exact hb pins s1 σ H1 Q I1 q1
 |false=>exact⟨.bl false,H1,I1,rfl,q1⟩
theorem GU(ha:PE X a ta)(hb:PE X (.BoolOp .Or (b::rest) pos) tb):PE X (.BoolOp .Or (a::b::rest) pos) (tOrV ta tb):=by
 intro pins s σ H Q I h;refine BoolOp_or (thn (ha pins s σ H _ I h) λv s1 ⟨x,H1,I1,r1,q1⟩=>?_);obtain⟨c,rfl,q1⟩:=q1;cases r1;refine QZ ?_;cases c with
 |false=>exact hb pins s1 σ H1 Q I1 q1
 |true=>exact⟨.bl true,H1,I1,rfl,q1⟩
theorem FC(ha:PE X a ta):PE X (.UnaryOp .Not a pos) (GV ta):=by intro pins s σ H Q I h;refine UnaryOp_ (thn (ha pins s σ H _ I h) λv s1 ⟨x,H1,I1,r1,q1⟩=>?_);obtain⟨c,rfl,q1⟩:=q1;cases r1;exact not_of (QZ ⟨.bl (!c),H1,I1,rfl,q1⟩)
def tIf(t:TT)(ta tb:TE):TE:=λσ H Q=>t σ H λc H1=>if c=true then ta σ H1 Q else tb σ H1 Q
theorem Bo{c:Uq}(hc:PT X c tA)(ha:PE X a ta)(hb:PE X b tb):PE X (.IfExp c a b pos) (tIf tA ta tb):=by
 intro pins s σ H Q I h;refine wpAny_IfExp (thn (hc pins s σ H _ I h) λd s1 ⟨H1,I1,q1⟩=>?_);cases d with
 |true=>exact ha pins s1 σ H1 Q I1 q1
 |false=>exact hb pins s1 σ H1 Q I1 q1
end
def SqL(K:Frag)(H:Hp)(a:Uo)(xs:List V):Prop:=
 Rd H a (.lst xs) ∨
  ∃(o:Obj)(its:Array Uk)(n:Nat),K.lookup a=some o/\o.cls=.type "list" /\ o.dict=none/\o.data=.seq its n/\its.size<=Ur/\Vals xs its.toList
def SqT(K:Frag)(H:Hp)(a:Uo)(xs:List V):Prop:=
 Rd H a (.tup xs) ∨
  ∃(o:Obj)(its:Array Uk)(n:Nat),K.lookup a=some o/\o.cls=.type "tuple" /\ o.data=.seq its n/\its.size<=Ur/\Vals xs its.toList
def absV:Uk->Option V
 |.none=>some .non
 |.bool b=>some (.bl b)
 |.int i _=>some (.int i)
 |.str x _=>some (.str x)
 |.bytes b _=>some (.byt b)
 |.float b _=>some (.flt b)
 |.ref a=>some (.ref a)
 |.type n=>some (.ty n)
 |_=>none
theorem RelV.abs{x:V}{u:Uk}(r:RelV x u):absV u=some x:=by
 cases x with
 |non=>cases r;rfl
 |bl _=>cases r;rfl
 |int _=>obtain⟨t,rfl⟩:=r;rfl
 |str _=>obtain⟨t,rfl⟩:=r;rfl
 |byt _=>obtain⟨t,rfl⟩:=r;rfl
 |flt _=>obtain⟨t,rfl⟩:=r;rfl
 |ref _=>cases r;rfl
 |ty _=>cases r;rfl
theorem RelV.inj{x y:V}{u:Uk}(r:RelV x u)(q:RelV y u):x=y:=QT (r.abs.symm.trans q.abs)
theorem Vals.inj:∀{xs ys:List V}{us:List Uk},Vals xs us->Vals ys us->xs=ys
 |_,_,_,.nil,.nil=>rfl
 |_,_,_,.cons r t,.cons r' t'=>by rw[r.inj r',Vals.inj t t']
section
variable{X:Cx}{pins:List (Uo×Obj)}{σ:St}{H:Hp}{s:Ul}{a:Uo}{xs ys:List V}
theorem SqL.of{K:Frag}(h:H a=some (.lst xs)):SqL K H a xs:=.inl (.inl h)
theorem SqT.of{K:Frag}(h:H a=some (.tup xs)):SqT K H a xs:=.inl (.inl h)
theorem Inv.list(I:Inv X pins σ H s)(h:SqL X.K H a xs):∃its:List Uk,Vals xs its/\PlainL s.heap a its.toArray/\xs.length<=Ur:=by
 rcases h with h|⟨o,its,n,hk,hc,hd,hs,hz,r⟩
 ·obtain⟨z,its,n,r,e⟩:=h.ok I.hok;exact⟨its,r,⟨_,n,e,rfl,rfl,rfl⟩,z⟩
 ·refine⟨its.toList,r,⟨o,n,I.kIn a o hk,hc,hd,by simpa using hs⟩,?_⟩;have e:=r.length;simp only[JA]at e;omega
theorem Inv.tuple(I:Inv X pins σ H s)(h:SqT X.K H a xs):∃its:List Uk,Vals xs its/\IsTup s.heap a its.toArray/\xs.length<=Ur:=by
 rcases h with h|⟨o,its,n,hk,hc,hs,hz,r⟩
 ·obtain⟨z,its,r,p⟩:=h.ok I.hok;exact⟨its,r,p,z⟩
 ·refine⟨its.toList,r,⟨o,I.kIn a o hk,hc,n,by simpa using hs⟩,?_⟩;have e:=r.length;simp only[JA]at e;omega
theorem Inv.list_inj(I:Inv X pins σ H s)(h:SqL X.K H a xs)(h':SqL X.K H a ys):xs=ys:=by
 obtain⟨its,r,⟨o,n,e,_,_,d⟩,_⟩:=I.list h;obtain⟨its',r',⟨o',n',e',_,_,d'⟩,_⟩:=I.list h';rw[e]at e';cases e';rw[d]at d';injection d' with d1 _
 have:its=its':=by simpa using congrArg Array.toList d1
 subst this;exact r.inj r'
theorem Inv.tuple_inj(I:Inv X pins σ H s)(h:SqT X.K H a xs)(h':SqT X.K H a ys):xs=ys:=by
 obtain⟨its,r,⟨o,e,_,n,d⟩,_⟩:=I.tuple h;obtain⟨its',r',⟨o',e',_,n',d'⟩,_⟩:=I.tuple h';rw[e]at e';cases e';rw[d]at d';injection d' with d1 _
 have:its=its':=by simpa using congrArg Array.toList d1
 subst this;exact r.inj r'
end
abbrev Cx.wish(X:Cx)(E:Uk->Ul->Prop):Cx:={X with xe:=E}
abbrev Cx.nox(X:Cx):Cx:=X.wish λ_ _=>False
theorem Cx.Ok.wish{X:Cx}(ok:X.Ok)(E:Uk->Ul->Prop):(X.wish E).Ok:=
 ⟨ok.mod,ok.kind,ok.glob,ok.blt,ok.above,ok.inj,ok.has,ok.cab,ok.hd,ok.frames,ok.stk,ok.exf,ok.bs,ok.bsz,ok.noex,ok.exfs,ok.funs,ok.frf⟩
theorem Cx.Ok.unwish{X:Cx}{E:Uk->Ul->Prop}(ok:(X.wish E).Ok):X.Ok:=
 ⟨ok.mod,ok.kind,ok.glob,ok.blt,ok.above,ok.inj,ok.has,ok.cab,ok.hd,ok.frames,ok.stk,ok.exf,ok.bs,ok.bsz,ok.noex,ok.exfs,ok.funs,ok.frf⟩
section
variable{X:Cx}{pins:List (Uo×Obj)}{σ:St}{H:Hp}{s:Ul}{E:Uk->Ul->Prop}
theorem Inv.wish(I:Inv X pins σ H s)(E:Uk->Ul->Prop):Inv (X.wish E) pins σ H s:=⟨I.ok.wish E,I.os,I.bare,I.base,I.loc,I.cell,I.free,I.freeC,I.pin,I.hok,I.len⟩
theorem Inv.unwish(I:Inv (X.wish E) pins σ H s):Inv X pins σ H s:=⟨I.ok.unwish,I.os,I.bare,I.base,I.loc,I.cell,I.free,I.freeC,I.pin,I.hok,I.len⟩
theorem SP.unwish{D:Ends}{f:Flow}{s':Ul}(h:SP (X.wish E) pins D f s'):SP X pins D f s':=by
 cases f with
 |next=>obtain⟨σ',H',I,q⟩:=h;exact⟨σ',H',I.unwish,q⟩
 |brk=>obtain⟨σ',H',I,q⟩:=h;exact⟨σ',H',I.unwish,q⟩
 |cont=>obtain⟨σ',H',I,q⟩:=h;exact⟨σ',H',I.unwish,q⟩
 |ret u=>obtain⟨v,σ',H',I,r,q⟩:=h;exact⟨v,σ',H',I.unwish,r,q⟩
theorem PSs.nox{st:List Stmt}{t:TS}(h:PSs X.nox st t):PSs X st t:=λpins s σ H D I hw=>
 QK (h pins s σ H D (I.wish _) hw) (λ_ _ q=>q.unwish) λ_ _ z=>False.elim z
end
section
variable{X:Cx}{st:Stmt}{rest:List Stmt}{t u:TS}{e:Uq}{te:TE}{pos:Pos}
def GT:TS:=λD σ H=>D.nx σ H
def tSeq(t u:TS):TS:=λD σ H=>t {D with nx:=u D} σ H
theorem DK:PSs X [] GT:=λ_ _ σ H _ I h=>wpAny_execs_nil ⟨σ,H,I,h⟩
theorem Ck(h1:PS X st t)(h2:PSs X rest u):PSs X (st::rest) (tSeq t u):=by
 intro pins s σ H D I h;refine wpAny_execs_cons (thn (h1 pins s σ H {D with nx:=u D} I h) λf s1 q=>?_);cases f with
 |next=>obtain⟨σ',H',I',q⟩:=q;exact h2 pins s1 σ' H' D I' q
 |ret v=>exact q
 |brk=>exact q
 |cont=>exact q
theorem DJ(h1:PS X st t):PSs X [st] t:=by
 intro pins s σ H D I h;refine wpAny_execs_cons (thn (h1 pins s σ H D I h) λf s1 q=>?_);cases f with
 |next=>exact wpAny_execs_nil q
 |ret v=>exact q
 |brk=>exact q
 |cont=>exact q
theorem Inv.quiet{pins:List (Uo×Obj)}{σ:St}{H:Hp}{s:Ul}(I:Inv X pins σ H s):interactive X.env=false:=by simp[interactive,I.ok.kind]
def GS(te:TE):TS:=λD σ H=>te σ H λ_ H1=>D.nx σ H1
theorem Mi(he:PE X e te)(hs:swapsWith e none pos.line X.env=pure false:=by rfl):PS X (.Expr e pos) (GS te):=by intro pins s σ H D I h;exact wpAny_Expr_any (thn (he pins s σ H _ I h) λv s1 ⟨x,H1,I1,r1,q1⟩=>⟨σ,H1,I1,q1⟩) I.quiet hs
def tRet(te:TE):TS:=λD σ H=>te σ H D.rt
theorem FA(he:PE X e te):PS X (.Return (some e) pos) (tRet te):=by intro pins s σ H D I h;exact wpAny_Return_some (thn (he pins s σ H _ I h) λv s1 ⟨x,H1,I1,r1,q1⟩=>⟨x,σ,H1,I1,r1,q1⟩)
def tIfS(c:TT)(t u:TS):TS:=λD σ H=>c σ H λb H1=>if b=true then t D σ H1 else u D σ H1
theorem GR{c:Uq}{a b:List Stmt}{tc:TT}(hc:PT X c tc)(ha:PSs X a t)(hb:PSs X b u):PS X (.If c a b pos) (tIfS tc t u):=by
 intro pins s σ H D I h;refine wpAny_If (thn (hc pins s σ H _ I h) λd s1 ⟨H1,I1,q1⟩=>?_);cases d with
 |true=>exact ha pins s1 σ H1 D I1 q1
 |false=>exact hb pins s1 σ H1 D I1 q1
end
abbrev TG:=V->St->Hp->(St->Hp->Prop)->Prop
abbrev TGs:=List V->St->Hp->(St->Hp->Prop)->Prop
def PG(X:Cx)(target:Uq)(t:TG):Prop:=
 ∀(pins:List (Uo×Obj))(s:Ul)(σ:St)(H:Hp)(v:V)(u:Uk)(Q:St->Hp->Prop),Inv X pins σ H s->RelV v u->t v σ H Q ->
  Us (model X.prog X.w) X.A (assign target X.env u) (λ_ s'=>∃σ' H',Inv X pins σ' H' s'/\Q σ' H') X.xe s
def PGs(X:Cx)(ts:List Uq)(t:TGs):Prop:=
 ∀(pins:List (Uo×Obj))(s:Ul)(σ:St)(H:Hp)(vs:List V)(us:List Uk)(Q:St->Hp->Prop),Inv X pins σ H s->Vals vs us->t vs σ H Q ->
  Us (model X.prog X.w) X.A (assignInOrder ((UI ts X.env).map (·.2)) us) (λ_ s'=>∃σ' H',Inv X pins σ' H' s'/\Q σ' H') X.xe s
abbrev TJ:=V->V->V->Hp->(Hp->Prop)->Prop
def PSet(X:Cx)(t:TJ):Prop:=
 ∀(pins:List (Uo×Obj))(s:Ul)(σ:St)(H:Hp)(o i v:V)(ov iv u:Uk)(Q:Hp->Prop),Inv X pins σ H s->RelV o ov->RelV i iv->RelV v u->t o i v H Q ->
  Us (model X.prog X.w) X.A (setItem ov iv u) (λ_ s'=>∃H',Inv X pins σ H' s'/\Q H') X.xe s
abbrev TIp:=V->V->Hp->VK->Prop
def PIp(X:Cx)(op:Operator)(t:TIp):Prop:=
 ∀(pins:List (Uo×Obj))(s:Ul)(σ:St)(H:Hp)(x y:V)(v u:Uk)(Q:VK),Inv X pins σ H s->RelV x v->RelV y u->t x y H Q ->
  Us (model X.prog X.w) X.A (inplaceOp op v u) (EP X pins σ Q) X.xe s
section
variable{X:Cx}{pos:Pos}
def Pd(i:Nat):TG:=λv σ H Q=>Q (σ.set i (some v)) H
theorem X6{i:Nat}{x:Str}(hN:X.N.Nodup)(hi:X.N[i]?=some x)(hx:Loc X.env.scope x)(hf:X.fn x=true∨X.env.scope.names.lookup x=some .local:=by first|exact .inl rfl|exact .inr rfl|assumption):PG X (.Name x pos) (Pd i):=by intro pins s σ H v u Q I r h;exact wpAny_assign_Name (Oa I hN hi hx r (λs' I'=>⟨_,H,I',h⟩) hf)
def gNil:TGs:=λvs σ H Q=>vs=[]/\Q σ H
def GQ(t:TG)(u:TGs):TGs:=λvs σ H Q=>∃v r,vs=v::r/\t v σ H λσ' H'=>u r σ' H' Q
theorem DI:PGs X [] gNil:=by intro pins s σ H vs us Q I r h;obtain⟨e,h⟩:=h;subst e;cases r;exact assignInOrder_nil ⟨σ,H,I,h⟩
theorem Cj{e:Uq}{es:List Uq}{t:TG}{u:TGs}(h1:PG X e t)(h2:PGs X es u)
  (hs:(UI (e::es) X.env).map (·.2)=assign e X.env::(UI es X.env).map (·.2):=by rfl):PGs X (e::es) (GQ t u):=by
 intro pins s σ H vs us Q I r h;obtain⟨v,vr,e1,h⟩:=h;subst e1;cases r with
 |cons r rr=>rw[hs];refine assignInOrder_cons (thn (h1 pins s σ H _ _ _ I r h) λ_ s1 ⟨σ1,H1,I1,q1⟩=>?_);exact h2 pins s1 σ1 H1 _ _ Q I1 rr q1
def gTup(K:Frag)(n:Nat)(t:TGs):TG:=λv σ H Q=>∃a xs,v=.ref a/\SqT K H a xs/\xs.length=n/\t xs σ H Q
theorem Fz{es:List Uq}{k:Nat}{t:TGs}{n:Nat}(hc:X.calm=true)(h:PGs X es t)
  (hn:(UI es X.env).length=n:=by rfl) (hst:(UI es X.env).findIdx? (·.1)=none:=by rfl):PG X (.Tuple es k pos) (gTup X.K n t):=by
 intro pins s σ H v u Q I r hw;obtain⟨a,xs,e1,hq,hl,hw⟩:=hw;subst e1;cases r;obtain⟨its,rv,ht,hz⟩:=I.tuple hq;refine assign_Tuple_tuple (I.ok.hd hc) ht (by simp[hn,←hl,rv.length]) hst λh' hx=>?_
 have I1:Inv X pins σ H {s with heap:=h'}:=I.kept (t':=s.toks) λb o e=>hx b o (QL (Qi e)) e;exact h pins _ σ H xs _ Q I1 (by simpa using rv) hw
def tAsg(te:TE)(g:TG):TS:=λD σ H=>te σ H λx H1=>g x σ H1 D.nx
theorem Fy{tg e:Uq}{te:TE}{g:TG}(he:PE X e te)(hg:PG X tg g)(hs:swapsWithSole [tg] e pos.line X.env=pure false:=by rfl)(hw:swappedStores [tg] e X.env=pure none:=by rfl)
  (h1:(UI [tg] X.env).map (·.2)=[assign tg X.env]:=by rfl):PS X (.Assign [tg] e pos) (tAsg te g):=by
 intro pins s σ H D I h;refine wpAny_Assign_stores (thn (he pins s σ H _ I h) λv s1 ⟨x,H1,I1,r1,q1⟩=>?_) hs hw;rw[h1];exact thn (hg pins s1 σ H1 x v _ I1 r1 q1) λ_ s2 q=>q
theorem O6{i:Nat}{x:Str}{e:Uq}{te:TE}{pos':Pos}(hN:X.N.Nodup)(hi:X.N[i]?=some x)(hx:Loc X.env.scope x)(he:PE X e te)(hs:swapsWith e (some (.Name x pos')) pos.line X.env=pure false:=by rfl)(hf:X.fn x=true∨X.env.scope.names.lookup x=some .local:=by first|exact .inl rfl|exact .inr rfl|assumption) :
  PS X (.Assign [.Name x pos'] e pos) (tAsg te (Pd i)):=by
 intro pins s σ H D I h;refine wpAny_Assign_Name (thn (he pins s σ H _ I h) λv s1 ⟨y,H1,I1,r1,q1⟩=>?_) hs;exact Oa I1 hN hi hx r1 (λs2 I2=>⟨_,H1,I2,q1⟩) hf
def tAug(i:Nat)(te:TE)(ti:TIp):TS:=λD σ H=>∃x,σ[i]?=some (some x)/\te σ H λy H1=>ti x y H1 λz H2=>D.nx (σ.set i (some z)) H2
theorem Fx{i:Nat}{x:Str}{e:Uq}{te:TE}{op:Operator}{ti:TIp}{pos':Pos}(hN:X.N.Nodup)(hi:X.N[i]?=some x)(hx:Loc X.env.scope x)(he:PE X e te)(ho:PIp X op ti)(hf:X.fn x=true∨X.env.scope.names.lookup x=some .local:=by first|exact .inl rfl|exact .inr rfl|assumption) :
  PS X (.AugAssign (.Name x pos') op e pos) (tAug i te ti):=by
 intro pins s σ H D I h;obtain⟨v,e1,h⟩:=h;obtain⟨m,hn,hl⟩:=I.loc;have vis:Vis X.env.scope x:=by rcases hx with k|k;exact .inl k;exact .inr (.inl k)
 obtain⟨u,r,l⟩:=hl i x v hi e1 vis;refine wpAny_AugAssign_Name ?_;have go:Us (model X.prog X.w) X.A (eval e X.env) (λw s₂=>Us (model X.prog X.w) X.A (inplaceOp op u w) (λr s₃=>Us (model X.prog X.w) X.A (storeName X.env x r) (λ_=>SP X pins D .next) X.xe s₃) X.xe s₂) X.xe s:=by refine thn (he pins s σ H _ I h) λw s1 ⟨y,H1,I1,r1,q1⟩=>?_;refine thn (ho pins s1 σ H1 v y u w _ I1 r r1 q1) λz s2 ⟨zv,H2,I2,r2,q2⟩=>?_;exact Oa I2 hN hi hx r2 (λs3 I3=>⟨_,H2,I3,q2⟩) hf
 rcases l with ⟨hk,hm⟩|⟨hk,c,hc,hcell⟩
 ·exact wpAny_loadName_local I.ok.kind hk hn hm go
 ·rcases hk with hk|hk
  ·exact wpAny_loadName_cell I.ok.kind hk hc hcell go
  ·rcases hx with k|k
   ·have:X.env.scope.names.lookup x=some .free:=hk;rw[k]at this;cases this
   ·have:X.env.scope.names.lookup x=some .free:=hk;rw[k]at this;cases this
def GP(to ti te:TE)(tget:V->V->Hp->VK->Prop)(tip:TIp)(tset:TJ):TS:=λD σ H=>to σ H λo H1=>ti σ H1 λi H2=>tget o i H2 λx H3=>te σ H3 λy H4=>tip x y H4 λz H5=>tset o i z H5 λH6=>D.nx σ H6
def PGet(X:Cx)(t:V->V->Hp->VK->Prop):Prop:=
 ∀(pins:List (Uo×Obj))(s:Ul)(σ:St)(H:Hp)(o i:V)(ov iv:Uk)(Q:VK),Inv X pins σ H s->RelV o ov->RelV i iv->t o i H Q ->
  Us (model X.prog X.w) X.A (getItem ov iv) (EP X pins σ Q) X.xe s
theorem DH{o i e:Uq}{to ti te:TE}{tget:V->V->Hp->VK->Prop}{tip:TIp}{tset:TJ}{op:Operator}{tpos:Pos}(ho:PE X o to)(hi:PE X i ti)(hg:PGet X tget)(he:PE X e te)(hp:PIp X op tip)(hs:PSet X tset)
  (ha:∀ov iv new,augStore i ov iv new=(do holding [new,ov,iv] (setItem ov iv new);release [new,ov,iv] [];pure .next):=by intros;rfl):PS X (.AugAssign (.Subscript o i tpos) op e pos) (GP to ti te tget tip tset):=by
 intro pins s σ H D I h;refine wpAny_AugAssign_SubscriptAny (thn (ho pins s σ H _ I h) λov s1 ⟨x1,H1,I1,r1,q1⟩=>?_) ha;refine thn (hi pins s1 σ H1 _ I1 q1) λiv s2 ⟨x2,H2,I2,r2,q2⟩=>?_;refine thn (hg pins s2 σ H2 x1 x2 ov iv _ I2 r1 r2 q2) λold s3 ⟨x3,H3,I3,r3,q3⟩=>?_;refine thn (he pins s3 σ H3 _ I3 q3) λv s4 ⟨x4,H4,I4,r4,q4⟩=>?_;refine thn (hp pins s4 σ H4 x3 x4 old v _ I4 r3 r4 q4) λnew s5 ⟨x5,H5,I5,r5,q5⟩=>?_;exact thn (hs pins s5 σ H5 x1 x2 x5 ov iv new _ I5 r1 r2 r5 q5) λ_ s6 ⟨H6,I6,q6⟩=>⟨σ,H6,I6,q6⟩
def ipI(f:Int->Int->Int):TIp:=λx y H Q=>∃i j,x=.int i/\y=.int j/\Q (.int (f i j)) H
theorem Fw:PIp X .Add (ipI λi j=>i+j):=by intro pins s σ H x y v u Q I r1 r2 h;obtain⟨i,j,e1,e2,q⟩:=h;subst e1;subst e2;obtain⟨t,rfl⟩:=r1;obtain⟨t',rfl⟩:=r2;exact iadd_int ⟨.int _,H,I.tok _,⟨_,rfl⟩,q⟩
end
section
variable{X:Cx}{pos:Pos}
def Fv(c:TT)(tb:TS):TS:=λD σ H=>∃W:Nat->St->Hp->Prop,(∃m,W m σ H)/\∀m σ H,W m σ H ->
 c σ H λb H1=>if b=true then ∃N:St->Hp->Prop,(∀σ' H',N σ' H'->∃m',m'<m/\W m' σ' H')/\tb {D with nx:=N,ct:=N,bk:=D.nx} σ H1 else D.nx σ H1
theorem Ci{c:Uq}{body:List Stmt}{tc:TT}{tb:TS}(hp:PassesOwn (model X.prog X.w) X.A X.env X.xe)(hc:PT X c tc)(hb:PSs X body tb):PS X (.While c body [] pos) (Fv tc tb):=by
 intro pins s σ H D I h;obtain⟨W,⟨m0,w0⟩,turn⟩:=h;refine wpAny_While (codeAny_whileLoop (λn s'=>∃σ' H',Inv X pins σ' H' s'/\W n σ' H') ?_ m0 ⟨σ,H,I,w0⟩);rintro n s1 ⟨σ1,H1,I1,w1⟩;refine Jr hp (thn (hc pins s1 σ1 H1 _ I1 (turn n σ1 H1 w1)) λb s2 ⟨H2,I2,q2⟩=>?_);cases b with
 |true=>
  obtain⟨N,hN,q2⟩:=q2;rw[Qm rfl];refine Jr hp (thn (hb pins s2 σ1 H2 _ I2 q2) λf s3 q3=>?_);cases f with
  |next=>obtain⟨σ3,H3,I3,n3⟩:=q3;obtain⟨m',hm,w3⟩:=hN σ3 H3 n3;exact⟨m',hm,σ3,H3,I3,w3⟩
  |cont=>obtain⟨σ3,H3,I3,n3⟩:=q3;obtain⟨m',hm,w3⟩:=hN σ3 H3 n3;exact⟨m',hm,σ3,H3,I3,w3⟩
  |brk=>exact q3
  |ret v=>exact q3
 |false=>rw[Qu JF];exact wpAny_execs_nil ⟨σ1,H2,I2,q2⟩
end
structure It where
 go:Nat->Hp->Prop
 yld:Nat->Hp->V->Hp->Prop
 stop:Nat->Hp->Prop
def Zn(X:Cx)(pins:List (Uo×Obj))(H:Hp)(b:Uo):Prop:=
 H b=none/\b≠X.env.locals/\b∉X.fs/\(b∈X.ex∨X.s₀.heap.objs.size<=b)/\(∀x c,X.env.cells.lookup x=some c->c≠b)/\∀p∈X.pn++pins,p.1≠b
theorem Inv.fpOk{X:Cx}{pins:List (Uo×Obj)}{σ:St}{H H':Hp}{s:Ul}{b:Uo}(I:Inv X pins σ H s)(hb:s.heap.objs.size<=b)(hn:H' b=none):Zn X pins H' b:=by
 refine⟨hn,JO (QE I.lt hb),I.nofs hb,.inr (QP I.sz hb),λx c e z=>?_,λp hp z=>?_⟩
 ·obtain⟨v,q⟩:=I.cell x c e;exact absurd (QE q.lt (by rw[z];exact hb)) (Js _)
 ·exact absurd (QE (Qi (I.pin p hp).1) (by rw[z];exact hb)) (Js _)
structure Turn(P:Um)(w:World)(K:Frag)(tg:Uq)(J:It)(fp:List Uo)(it:Uo)(tn:Nat->Heap->Prop):Prop where
 mem:it∈fp
 obj:∀i h,tn i h->∀b∈fp,∃o,h.get? b=some o/\∀v,o.data≠.cell v
 keep:∀i h h',tn i h->(∀b∈fp,∀o,h.get? b=some o->h'.get? b=some o)->tn i h'
 item:∀(X:Cx),X.prog=P->X.w=w->X.K=K->X.calm=true->∀(i:Nat)(pins:List (Uo×Obj))(s:Ul)(σ:St)(H:Hp)(E:Uk->Ul->Prop),Inv X pins σ H s->(∀b∈fp,Zn X pins H b)->tn i s.heap->J.go i H ->
  Us (model P w) X.A (pyNext (.ref it)) (λr s1=>∃u,r=some u /\
   Us (model P w) X.A (letOwnedTupleGo tg (.ref it) u) (λ_ s2=>∃x H',Inv X pins σ H' s2/\RelV x u/\J.yld i H x H'/\tn (i+1) s2.heap/\∀b∈fp,H' b=none) E s1) E s
 done:∀(X:Cx),X.prog=P->X.w=w->X.K=K->X.calm=true->∀(i:Nat)(pins:List (Uo×Obj))(s:Ul)(σ:St)(H:Hp)(E:Uk->Ul->Prop),Inv X pins σ H s->(∀b∈fp,Zn X pins H b)->tn i s.heap->J.stop i H ->
  Us (model P w) X.A (pyNext (.ref it)) (λr s1=>r=none/\Inv X pins σ H s1) E s
 self:∀(A:Around)(i:Nat)(s:Ul)(Q:Uk->Ul->Prop)(E:Uk->Ul->Prop),tn i s.heap->Q (.ref it) s->Us (model P w) A (pyIter (.ref it)) Q E s
abbrev TI:=St->Hp->(It->Hp->Prop)->Prop
def PIE(X:Cx)(pins:List (Uo×Obj))(σ:St)(tg:Uq)(R:It->Hp->Prop)(itv:Uk)(s2:Ul):Prop:=
 ∃(it:Uo)(fp:List Uo)(tn:Nat->Heap->Prop)(J:It)(H':Hp),itv=.ref it/\Inv X pins σ H' s2/\Turn X.prog X.w X.K tg J fp it tn/\tn 0 s2.heap/\(∀b∈fp,Zn X pins H' b)/\R J H'
def PI(X:Cx)(tg iter:Uq)(wi:TI):Prop:=
 ∀(pins:List (Uo×Obj))(s:Ul)(σ:St)(H:Hp)(R:It->Hp->Prop),Inv X pins σ H s->wi σ H R ->
  Us (model X.prog X.w) X.A (eval iter X.env) (λv s1=>Us (model X.prog X.w) X.A (pyIter v) (PIE X pins σ tg R) X.xe s1) X.xe s
theorem Rj{M:Model}{A:Around}{E:Uk->Ul->Prop}{s:Ul}{tg:Uq}{it:Uo}{u:Uk}{o:Obj}{n:String}{vs:Array Uk}{Q:Unit->Ul->Prop}(ho:s.heap.get? it=some o)(hc:o.cls=.type n)(hd:o.data=.fields vs)
  (hn:["enumerate", "zip", "dict_itemiterator", "dict_reverseitemiterator", "odict_iterator", "itertools.zip_longest", "itertools.pairwise"].contains n=false) (hQ:Q () s):Us M A (letOwnedTupleGo tg (.ref it) u) Q E s:=by
 unfold letOwnedTupleGo
 cases tg<;>first
  |exact Qn hQ
  |(cases u<;>first
    |exact Qn hQ
    |(
      refine Qf (wpAny_load ho ?_);rw[hc,hd];show Us M A (if(["enumerate", "zip", "dict_itemiterator", "dict_reverseitemiterator", "odict_iterator", "itertools.zip_longest", "itertools.pairwise"].contains n&&vs[0]?==some (rawInt _))=true then _ else _) Q E s;rw[Qu (by intro h;rw[hn,Bool.false_and]at h;cases h)];exact Qn hQ))
def Itl(K:Frag)(a:Uo):It:=
 ⟨λi H=>∃xs x,SqL K H a xs/\xs[i]?=some x,λi H x H'=>H'=H/\∀xs,SqL K H a xs->xs[i]?=some x,λi H=>∃xs,SqL K H a xs/\xs.length<=i⟩
def Itt(K:Frag)(a:Uo):It:=
 ⟨λi H=>∃xs x,SqT K H a xs/\xs[i]?=some x,λi H x H'=>H'=H/\∀xs,SqT K H a xs->xs[i]?=some x,λi H=>∃xs,SqT K H a xs/\xs.length<=i⟩
def Itr(lo:Int)(n:Nat):It:=⟨λi _=>i<n,λi H x H'=>H'=H/\x=.int (lo+i),λi _=>n<=i⟩
theorem AK{P:Um}{w:World}{K:Frag}{tg:Uq}(a it:Uo):Turn P w K tg (Itl K a) [it] it (λi h=>h.IsListIter it a i) where
 mem:=by simp
 obj:=λi h st b hb=>by
  have e:b=it:=by simpa using hb
  subst e;obtain⟨o,e,c,d⟩:=st;exact⟨o,e,λv z=>by rw[d]at z;cases z⟩
 keep:=λi h h' st k=>st.at λo e=>k it (by simp) o e
 item:=by
  intro X hP hw hK hc i pins s σ H E I hf st hg;subst hP hw hK;obtain⟨xs,x,hq,hx⟩:=hg;obtain⟨its,rv,p,hz⟩:=I.list hq;obtain⟨u,hu,ru⟩:=rv.get hx;obtain⟨f0,f1,f2,f3,f4,f5⟩:=hf it (by simp);refine wpAny_pyNext_list_item st p.isList (x:=u) (by simpa using hu) λh' st' sb=>?_
  have I1:Inv X pins σ H {s with heap:=h'}:=I.turned (t':=s.toks) (λb o hb e=>(sb.2 b hb).trans e) f0 f1 f3 f4 f5;obtain⟨o,e,c,d⟩:=id st';exact⟨u,rfl,Rj (s:={s with heap:=h'}) e c d (by decide) ⟨x,H,I1,ru,⟨rfl,λys hy=>by rw[I.list_inj hy hq];exact hx⟩,st',λb hb=>(hf b hb).1⟩⟩
 done:=by intro X hP hw hK hc i pins s σ H E I hf st hg;subst hP hw hK;obtain⟨xs,hq,hx⟩:=hg;obtain⟨its,rv,p,hz⟩:=I.list hq;obtain⟨f0,f1,f2,f3,f4,f5⟩:=hf it (by simp);have hl:=rv.length;exact wpAny_pyNext_list_end (I.ok.hd hc) st p.isList (by simp;omega) λh' eb=>⟨rfl,I.turned (t':=s.toks) (λb o hb e=>eb b o hb e) f0 f1 f3 f4 f5⟩
 self:=λ_ _ _ _ _ st h=>wpAny_pyIter_listiter st h
theorem A0{P:Um}{w:World}{K:Frag}{tg:Uq}(a it:Uo):Turn P w K tg (Itt K a) [it] it (λi h=>h.IsTupleIter it a i) where
 mem:=by simp
 obj:=λi h st b hb=>by
  have e:b=it:=by simpa using hb
  subst e;obtain⟨o,e,c,d⟩:=st;exact⟨o,e,λv z=>by rw[d]at z;cases z⟩
 keep:=λi h h' st k=>st.at λo e=>k it (by simp) o e
 item:=by
  intro X hP hw hK hc i pins s σ H E I hf st hg;subst hP hw hK;obtain⟨xs,x,hq,hx⟩:=hg;obtain⟨its,rv,p,hz⟩:=I.tuple hq;obtain⟨u,hu,ru⟩:=rv.get hx;obtain⟨f0,f1,f2,f3,f4,f5⟩:=hf it (by simp);refine wpAny_pyNext_tuple_item st (show s.heap.IsTuple a its.toArray from p) (x:=u) (by simpa using hu) λh' st' sb=>?_
  have I1:Inv X pins σ H {s with heap:=h'}:=I.turned (t':=s.toks) (λb o hb e=>(sb.2 b hb).trans e) f0 f1 f3 f4 f5;obtain⟨o,e,c,d⟩:=id st';exact⟨u,rfl,Rj (s:={s with heap:=h'}) e c d (by decide) ⟨x,H,I1,ru,⟨rfl,λys hy=>by rw[I.tuple_inj hy hq];exact hx⟩,st',λb hb=>(hf b hb).1⟩⟩
 done:=by intro X hP hw hK hc i pins s σ H E I hf st hg;subst hP hw hK;obtain⟨xs,hq,hx⟩:=hg;obtain⟨its,rv,p,hz⟩:=I.tuple hq;obtain⟨f0,f1,f2,f3,f4,f5⟩:=hf it (by simp);have hl:=rv.length;exact wpAny_pyNext_tuple_end (I.ok.hd hc) st (show s.heap.IsTuple a its.toArray from p) (by simp;omega) λh' eb=>⟨rfl,I.turned (t':=s.toks) (λb o hb e=>eb b o hb e) f0 f1 f3 f4 f5⟩
 self:=λ_ _ _ _ _ st h=>wpAny_pyIter_tupleiter st h
theorem AZ{P:Um}{w:World}{K:Frag}{tg:Uq}(it:Uo)(lo:Int)(n:Nat):Turn P w K tg (Itr lo n) [it] it (λi h=>IsRangeIter h it (lo+(i:Nat)*1) ((n:Int)-(i:Nat)) 1) where
 mem:=by simp
 obj:=λi h st b hb=>by
  have e:b=it:=by simpa using hb
  subst e;exact⟨_,st,λv z=>by have z':Data.fields _=Data.cell v:=z;cases z'⟩
 keep:=λi h h' st k=>k it (by simp) _ st
 item:=by
  intro X hP hw hK hc i pins s σ H E I hf st hg;subst hP hw hK;obtain⟨f0,f1,f2,f3,f4,f5⟩:=hf it (by simp);have W:=Walks.range (prog:=X.prog) (w:=X.w) (I.ok.hd hc) it lo 1 n;refine W.item i s _ _ hg st λv h' tk hv st' kk=>?_
  obtain⟨t,rfl⟩:=hv;have I1:Inv X pins σ H {s with heap:=h',toks:=tk}:=I.turned (λb o hb e=>kk b o (by simpa using hb) e) f0 f1 f3 f4 f5;refine⟨_,rfl,Rj (s:={s with heap:=h',toks:=tk}) (n:= "range_iterator") st' rfl rfl (by decide) ⟨.int (lo+i),H,I1,⟨t,?_⟩,⟨rfl,rfl⟩,st',λb hb=>(hf b hb).1⟩⟩;rw[Int.mul_one]
 done:=by intro X hP hw hK hc i pins s σ H E I hf st hg;subst hP hw hK;obtain⟨f0,f1,f2,f3,f4,f5⟩:=hf it (by simp);exact wpAny_pyNext_range_end (I.ok.hd hc) st (by have:n<=i:=hg;omega) λh' eb=>⟨rfl,I.turned (t':=s.toks) (λb o hb e=>eb b o hb e) f0 f1 f3 f4 f5⟩
 self:=λ_ _ _ _ _ st h=>wpAny_pyIter_rangeiter st h
section
variable{X:Cx}{tg:Uq}
theorem MT{pins:List (Uo×Obj)}{σ:St}{H:Hp}{s:Ul}{R:It->Hp->Prop}{E:Uk->Ul->Prop}{lo hi:Int}{t u v:Tok}{tk:Nat}(I:Inv X pins σ H s)(h1 : -(2 ^ 62)<=lo)(h2:lo<2 ^ 62)(h3 : -(2 ^ 62)<=hi)(h4:hi<2 ^ 62)
  (q:R (Itr lo (hi-lo).toNat) H):Us (model X.prog X.w) X.A (pyIter (.ref s.heap.objs.size)) (PIE X pins σ tg R) E {s with heap:=s.heap.push {cls:=.type "range", data:=.fields #[.int lo t,.int hi u,.int 1 v]},toks:=tk}:=by
 refine wpAny_pyIter_range (IsRange.new ..) (small_one h1 h2 h3 h4) ?_;have I1:Inv X pins σ H {s with heap:=s.heap.push {cls:=.type "range", data:=.fields #[.int lo t,.int hi u,.int 1 v]},toks:=tk}:=I.kept λb o e=>Qj _ e
 refine⟨(s.heap.push {cls:=.type "range", data:=.fields #[.int lo t,.int hi u,.int 1 v]}).objs.size,[(s.heap.push {cls:=.type "range", data:=.fields #[.int lo t,.int hi u,.int 1 v]}).objs.size],_,_,H,rfl,
  I1.kept (t':=tk) λb o e=>Qj _ e,AZ _ lo (hi-lo).toNat,?_,λb hb=>?_,q⟩
 ·have e1:lo+((0:Nat):Int)*1=lo:=by simp
  have e2:(((hi-lo).toNat:Nat):Int)-((0:Nat):Int)=Builtin.Range.rangeSize lo hi 1:=by rw[rangeSize_one];split<;>omega
  show IsRangeIter _ _ (lo+((0:Nat):Int)*1) ((((hi-lo).toNat:Nat):Int)-((0:Nat):Int)) 1;rw[e1,e2];exact QD _ rfl
 ·have e:b=(s.heap.push {cls:=.type "range", data:=.fields #[.int lo t,.int hi u,.int 1 v]}).objs.size:=by simpa using hb
  subst e;exact I1.fpOk (Qv _) (I1.hok.fresh (Qv _))
def GO(ta:TA):TI:=λσ H R=>ta σ H λvs H1=>∃j:Int,vs=[.int j] /\ -(2 ^ 62)<=j/\j<2 ^ 62/\R (Itr 0 j.toNat) H1
def GN(ta:TA):TI:=λσ H R=>ta σ H λvs H1=>∃i j:Int,vs=[.int i,.int j]/\(-(2 ^ 62)<=i/\i<2 ^ 62 /\ -(2 ^ 62)<=j/\j<2 ^ 62)/\R (Itr i (j-i).toNat) H1
theorem AJ{a:Uq}{ta:TA}{p pos:Pos}(hg:Gl X "range")(hm:X.mg "range" = none)(ha:PA X [a] ta)(hs:Ut [a] X.env=[(false,eval a X.env)]:=by rfl):PI X tg (.Call (.Name "range" p) [a] [] pos) (GO ta):=by
 intro pins s σ H R I h;refine Call_ (W7 I hg hm boot_range (Jx (thn (ha pos pins s σ H _ I h) λus s1 ⟨vs,H1,I1,r1,q1⟩=>?_) hs rfl));obtain⟨j,e,q1,q2,q⟩:=q1;subst e;cases r1 with
 |cons r rr=>cases rr;obtain⟨t,rfl⟩:=r;exact call_range_1 (MT I1 (by omega) (by omega) q1 q2 (by simpa using q))
theorem AI{a b:Uq}{ta:TA}{p pos:Pos}(hg:Gl X "range")(hm:X.mg "range" = none)(ha:PA X [a,b] ta)(hs:Ut [a,b] X.env=[(false,eval a X.env),(false,eval b X.env)]:=by rfl)(hs2:Ut [b] X.env=[(false,eval b X.env)]:=by rfl) :
  PI X tg (.Call (.Name "range" p) [a,b] [] pos) (GN ta):=by
 intro pins s σ H R I h;refine Call_ (W7 I hg hm boot_range (Jx (thn (ha pos pins s σ H _ I h) λus s1 ⟨vs,H1,I1,r1,q1⟩=>?_) (by rw[hs,hs2]) (by rw[hs2];rfl)));obtain⟨i,j,e,⟨q1,q2,q3,q4⟩,q⟩:=q1;subst e;cases r1 with
 |cons r rr=>
  cases rr with
  |cons r' rr=>cases rr;obtain⟨t,rfl⟩:=r;obtain⟨t',rfl⟩:=r';exact call_range_2 (MT I1 q1 q2 q3 q4 q)
def tFor(wi:TI)(g:TG)(tb:TS):TS:=λD σ H=>wi σ H λJ H1=>∃W:Nat->Nat->St->Hp->Prop,(∃m,W 0 m σ H1)/\∀i m σ H,W i m σ H ->
 (J.stop i H/\D.nx σ H)∨(J.go i H/\∃N:St->Hp->Prop,(∀σ' H',N σ' H'->∃m',m'<m/\W (i+1) m' σ' H')/\∀x H',J.yld i H x H'->g x σ H' λσ2 H2=>tb {D with nx:=N,ct:=N,bk:=D.nx} σ2 H2)
def SF(fp:List Uo)(h:Heap):List (Uo×Obj):=fp.filterMap λb=>(h.get? b).map λo=>(b,o)
theorem R1{fp:List Uo}{h:Heap}{b:Uo}{o:Obj}(hb:b∈fp)(e:h.get? b=some o):(b,o)∈SF fp h:=Jl.mpr ⟨b,hb,by rw[e];rfl⟩
theorem AH{fp:List Uo}{h:Heap}{p:Uo×Obj}(hp:p∈SF fp h):p.1∈fp/\h.get? p.1=some p.2:=by
 obtain⟨b,hb,e⟩:=Jl.mp hp;cases q:h.get? b with
 |none=>rw[q]at e;cases e
 |some o=>rw[q]at e;have e':(b,o)=p:=QT e;subst e';exact⟨hb,q⟩
theorem Inv.pinned{pins:List (Uo×Obj)}{σ:St}{H:Hp}{s:Ul}{fp:List Uo}(I:Inv X pins σ H s)(hf:∀b∈fp,Zn X pins H b)(ho:∀b∈fp,∃o,s.heap.get? b=some o/\∀v,o.data≠.cell v):Inv X (pins++SF fp s.heap) σ H s:=
 I.pins_of λp hp=>(Q2.mp hp).elim (λz=>I.pin p (QI _ z)) λz=>by obtain⟨hb,e⟩:=AH z;obtain⟨f0,f1,f2,_⟩:=hf p.1 hb;obtain⟨o,e',d⟩:=ho p.1 hb;rw[e]at e';cases e';exact⟨e,f0,f1,f2,d⟩
theorem Inv.unpinned{pins pl:List (Uo×Obj)}{σ:St}{H:Hp}{s:Ul}(I:Inv X (pins++pl) σ H s):Inv X pins σ H s:=I.pins_of λp hp=>I.pin p (QI _ (Jd _ hp))
theorem Eg{iter:Uq}{body:List Stmt}{wi:TI}{g:TG}{tb:TS}{pos:Pos}(hp:PassesOwn (model X.prog X.w) X.A X.env X.xe)(hc:X.calm=true)(hi:PI X tg iter wi)(hg:PG X tg g)(hb:PSs X body tb)
  (hs:∀x,UJ iter X.env x=pure x:=by intro _;rfl):PS X (.For tg iter body [] pos) (tFor wi g tb):=by
 intro pins s σ H D I h;refine wpAny_For (thn (hi pins s σ H _ I h) λv s1 h1=>thn h1 λitv s2 h2=>?_) hs;obtain⟨it,fp,tn,J,H2,e,I2,T,st2,f2,W,⟨m0,w0⟩,turn⟩:=h2;subst e;have stat:∀{H':Hp},(∀b∈fp,H' b=none)->∀b∈fp,Zn X pins H' b:=λhn b hb=>⟨hn b hb,(f2 b hb).2⟩;refine codeAny_forLoop_any (λn s'=>∃i σ' H',Inv X pins σ' H' s'/\tn i s'.heap/\(∀b∈fp,H' b=none)/\W i n σ' H') ?_ m0 ⟨0,σ,H2,I2,st2,λb hb=>(f2 b hb).1,w0⟩;rintro n s3 ⟨i,σ3,H3,I3,st3,fr3,w3⟩;rcases turn i n σ3 H3 w3 with ⟨stop,qn⟩|⟨go,N,hN,step⟩
 ·refine Jr hp (thn (T.done X rfl rfl rfl hc i pins s3 σ3 H3 X.xe I3 (stat fr3) st3 stop) λr s4 ⟨hr,I4⟩=>?_);subst hr;exact wpAny_execs_nil ⟨σ3,H3,I4,qn⟩
 ·refine Jr hp (thn (T.item X rfl rfl rfl hc i pins s3 σ3 H3 X.xe I3 (stat fr3) st3 go) λr s4 ⟨u,hr,h4⟩=>?_);subst hr;refine Jr hp (thn h4 λ_ s5 ⟨x,H5,I5,r5,y5,st5,fr5⟩=>?_);have I5':=I5.pinned (stat fr5) (T.obj _ _ st5);refine Jr hp (thn (hg _ s5 σ3 H5 x u _ I5' r5 (step x H5 y5)) λ_ s6 ⟨σ6,H6,I6,q6⟩=>?_);refine Jr hp (thn (hb _ s6 σ6 H6 _ I6 q6) λf s7 q7=>?_);have again:∀{σ7:St}{H7:Hp},Inv X (pins++SF fp s5.heap) σ7 H7 s7->N σ7 H7->∃m,m<n/\∃i σ' H',Inv X pins σ' H' s7/\tn i s7.heap/\(∀b∈fp,H' b=none)/\W i m σ' H':=λ{σ7 H7} I7 n7=>by obtain⟨m',hm,w7⟩:=hN σ7 H7 n7;refine⟨m',hm,i+1,σ7,H7,I7.unpinned,T.keep _ _ _ st5 λb hb o e=>(I7.pin (b,o) (QI _ (QI _ (R1 hb e)))).1,λb hb=>?_,w7⟩;obtain⟨o,e,d⟩:=T.obj _ _ st5 b hb;exact(I7.pin (b,o) (QI _ (QI _ (R1 hb e)))).2.1
  cases f with
  |next=>obtain⟨σ7,H7,I7,n7⟩:=q7;exact again I7 n7
  |cont=>obtain⟨σ7,H7,I7,n7⟩:=q7;exact again I7 n7
  |brk=>obtain⟨σ7,H7,I7,q7⟩:=q7;exact⟨σ7,H7,I7.unpinned,q7⟩
  |ret v=>obtain⟨x7,σ7,H7,I7,r7,q7⟩:=q7;exact⟨x7,σ7,H7,I7.unpinned,r7,q7⟩
end
abbrev R2:=V->V->Hp->VK->Prop
def OpR(X:Cx)(f:Uk->Uk->Sem Uk)(r:R2):Prop:=
 ∀(pins:List (Uo×Obj))(s:Ul)(σ:St)(H:Hp)(x y:V)(v u:Uk)(Q:VK),Inv X pins σ H s->RelV x v->RelV y u->r x y H Q ->
  Us (model X.prog X.w) X.A (f v u) (EP X pins σ Q) X.xe s
def UnR(X:Cx)(f:Uk->Sem Uk)(r:V->Hp->VK->Prop):Prop:=
 ∀(pins:List (Uo×Obj))(s:Ul)(σ:St)(H:Hp)(x:V)(v:Uk)(Q:VK),Inv X pins σ H s->RelV x v->r x H Q ->
  Us (model X.prog X.w) X.A (f v) (EP X pins σ Q) X.xe s
def YF(X:Cx)(f:Uk)(r:List V->Hp->VK->Prop):Prop:=
 ∀(pins:List (Uo×Obj))(s:Ul)(σ:St)(H:Hp)(xs:List V)(us:List Uk)(Q:VK),Inv X pins σ H s->Vals xs us->r xs H Q ->
  Us (model X.prog X.w) X.A (call f us) (EP X pins σ Q) X.xe s
def TruR(X:Cx)(r:V->Hp->(Bool->Hp->Prop)->Prop):Prop:=
 ∀(pins:List (Uo×Obj))(s:Ul)(σ:St)(H:Hp)(x:V)(v:Uk)(Q:Bool->Hp->Prop),Inv X pins σ H s->RelV x v->r x H Q ->
  Us (model X.prog X.w) X.A (truthy v) (TP X pins σ Q) X.xe s
def tOp(r:R2)(ta tb:TE):TE:=λσ H Q=>ta σ H λx H1=>tb σ H1 λy H2=>r x y H2 Q
def tUn(r:V->Hp->VK->Prop)(ta:TE):TE:=λσ H Q=>ta σ H λx H1=>r x H1 Q
def rI(C:Int->Int->Prop)(g:Int->Int->V):R2:=λx y H Q=>∃i j,x=.int i/\y=.int j/\C i j/\Q (g i j) H
def rI0(g:Int->Int->V):R2:=λx y H Q=>∃i j,x=.int i/\y=.int j/\Q (g i j) H
def rU(g:Int->V):V->Hp->VK->Prop:=λx H Q=>∃i,x=.int i/\Q (g i) H
section
variable{X:Cx}{a b c:Uq}{ta tb tc:TE}{pos:Pos}
theorem TH(ha:PE X a ta)(hb:PE X b tb){pins:List (Uo×Obj)}{s:Ul}{σ:St}{H:Hp}{R:V->V->Hp->Prop}(I:Inv X pins σ H s)
  (h:ta σ H λx H1=>tb σ H1 λy H2=>R x y H2) {Q:Uk->Ul->Prop} {f:Uk->Uk->Sem Uk}
  (hf:∀v u s2 x y H2,Inv X pins σ H2 s2->RelV x v->RelV y u->R x y H2->Us (model X.prog X.w) X.A (f v u) Q X.xe s2) :
  Us (model X.prog X.w) X.A (eval a X.env) (λv s₁=>Us (model X.prog X.w) X.A (eval b X.env) (λu s₂=>Us (model X.prog X.w) X.A (f v u) Q X.xe s₂) X.xe s₁) X.xe s:=by
 refine thn (ha pins s σ H _ I h) λv s1 ⟨x,H1,I1,r1,q1⟩=>?_;refine thn (hb pins s1 σ H1 _ I1 q1) λu s2 ⟨y,H2,I2,r2,q2⟩=>?_;exact hf v u s2 x y H2 I2 r1 r2 q2
theorem OV{op:Operator}{r:R2}(ho:OpR X (binaryOp op) r)(ha:PE X a ta)(hb:PE X b tb):PE X (.BinOp a op b pos) (tOp r ta tb):=by intro pins s σ H Q I h;exact wpAny_BinOp (TH ha hb I h λv u s2 x y H2 I2 rx ry q=>ho pins s2 σ H2 x y v u Q I2 rx ry q)
theorem GM{op:UnaryOp}{r:V->Hp->VK->Prop}(ho:UnR X (unaryOp op) r)(ha:PE X a ta):PE X (.UnaryOp op a pos) (tUn r ta):=by intro pins s σ H Q I h;exact UnaryOp_ (thn (ha pins s σ H _ I h) λv s1 ⟨x,H1,I1,r1,q1⟩=>ho pins s1 σ H1 x v Q I1 r1 q1)
theorem opI{f:Uk->Uk->Sem Uk}{C:Int->Int->Prop}{g:Int->Int->Int}
  (rule:∀(i j:Int)(t u:Tok)(s:Ul)(Q:Uk->Ul->Prop)(E:Uk->Ul->Prop),C i j->Q (.int (g i j) s.toks) {s with toks:=s.toks+1}->Us (model X.prog X.w) X.A (f (.int i t) (.int j u)) Q E s) :
  OpR X f (rI C λi j=>.int (g i j)):=by
 intro pins s σ H x y v u Q I rx ry h;obtain⟨i,j,rfl,rfl,hc,q⟩:=h;obtain⟨t,rfl⟩:=rx;obtain⟨t',rfl⟩:=ry;exact rule i j t t' s _ _ hc ⟨.int (g i j),H,I.tok _,⟨_,rfl⟩,q⟩
theorem opI0{f:Uk->Uk->Sem Uk}{g:Int->Int->Int}
  (rule:∀(i j:Int)(t u:Tok)(s:Ul)(Q:Uk->Ul->Prop)(E:Uk->Ul->Prop),Q (.int (g i j) s.toks) {s with toks:=s.toks+1}->Us (model X.prog X.w) X.A (f (.int i t) (.int j u)) Q E s) :
  OpR X f (rI0 λi j=>.int (g i j)):=by
 intro pins s σ H x y v u Q I rx ry h;obtain⟨i,j,rfl,rfl,q⟩:=h;obtain⟨t,rfl⟩:=rx;obtain⟨t',rfl⟩:=ry;exact rule i j t t' s _ _ ⟨.int (g i j),H,I.tok _,⟨_,rfl⟩,q⟩
theorem Wi{f:Uk->Uk->Sem Uk}{g:Int->Int->Bool}
  (rule:∀(i j:Int)(t u:Tok)(s:Ul)(Q:Uk->Ul->Prop)(E:Uk->Ul->Prop),Q (.bool (g i j)) s->Us (model X.prog X.w) X.A (f (.int i t) (.int j u)) Q E s) :
  OpR X f (rI0 λi j=>.bl (g i j)):=by
 intro pins s σ H x y v u Q I rx ry h;obtain⟨i,j,rfl,rfl,q⟩:=h;obtain⟨t,rfl⟩:=rx;obtain⟨t',rfl⟩:=ry;exact rule i j t t' s _ _ ⟨.bl (g i j),H,I,rfl,q⟩
def CPow(i j:Int):Prop:=0<=j/\j<=1000000/\i.natAbs<2 ^ 64
def CMul(i j:Int):Prop:=(-(2 ^ 64)<i/\i<2 ^ 64)∨(-(2 ^ 64)<j/\j<2 ^ 64)
theorem CMul.ok{i j:Int}(h:CMul i j):IntMulOk i j:=by
 rcases h with ⟨h1,h2⟩|⟨h1,h2⟩
 ·exact .of_left (intBits_le_64 h1 h2)
 ·exact .of_right (intBits_le_64 h1 h2)
theorem Ef:OpR X (binaryOp .Add) (rI0 λi j=>.int (i+j)):=opI0 λ_ _ _ _ _ _ _ q=>add_int q
theorem Ee:OpR X (binaryOp .Sub) (rI0 λi j=>.int (i-j)):=opI0 λ_ _ _ _ _ _ _ q=>sub_int q
theorem Ed:OpR X (binaryOp .Mult) (rI CMul λi j=>.int (i*j)):=opI λ_ _ _ _ _ _ _ hc q=>mul_int q hc.ok
theorem Ec:OpR X (binaryOp .Mod) (rI (λ_ j=>0<j) λi j=>.int (i % j)):=opI λi j _ _ _ _ _ hc q=>by have h1:(0:Int)<j:=hc;exact mod_int' (by omega) (by rw[Int.fmod_eq_emod_of_nonneg i (by omega)];exact q)
theorem Eb:OpR X (binaryOp .Pow) (rI CPow λi j=>.int (i ^ j.toNat)):=opI λ_ _ _ _ _ _ _ hc q=>pow_int_small hc.1 hc.2.1 hc.2.2 q
theorem DG:OpR X (inplaceOp .Mult) (rI CMul λi j=>.int (i*j)):=opI λ_ _ _ _ _ _ _ hc q=>imul_int q hc.ok
theorem unI{f:Uk->Sem Uk}{g:Int->Int}
  (rule:∀(i:Int)(t:Tok)(s:Ul)(Q:Uk->Ul->Prop)(E:Uk->Ul->Prop),Q (.int (g i) s.toks) {s with toks:=s.toks+1}->Us (model X.prog X.w) X.A (f (.int i t)) Q E s) :
  UnR X f (rU λi=>.int (g i)):=by
 intro pins s σ H x v Q I rx h;obtain⟨i,rfl,q⟩:=h;obtain⟨t,rfl⟩:=rx;exact rule i t s _ _ ⟨.int (g i),H,I.tok _,⟨_,rfl⟩,q⟩
theorem Ea:UnR X (unaryOp .USub) (rU λi=>.int (-i)):=unI λ_ _ _ _ _ q=>neg_int q
end
section
variable{X:Cx}{a b c:Uq}{ta tb tc:TE}{pos:Pos}
theorem O5{pins:List (Uo×Obj)}{σ:St}{H:Hp}{s:Ul}{Q:VK}{k k':Bool}(I:Inv X pins σ H s)(q:Q (.bl k) H)(e:k=k'):EP X pins σ Q (.bool k') s:=by subst e;exact⟨.bl k,H,I,rfl,q⟩
theorem Fu:OpR X (Uu .Lt) (rI0 λi j=>.bl (decide (i<j))):=Wi λ_ _ _ _ _ _ _ q=>lt_int q
theorem Ft:OpR X (Uu .LtE) (rI0 λi j=>.bl (decide (i<=j))):=Wi λ_ _ _ _ _ _ _ q=>le_int q
theorem Fs:OpR X (Uu .Gt) (rI0 λi j=>.bl (decide (j<i))):=Wi λ_ _ _ _ _ _ _ q=>gt_int q
theorem Fq:OpR X (Uu .GtE) (rI0 λi j=>.bl (decide (j<=i))):=Wi λ_ _ _ _ _ _ _ q=>ge_int q
theorem AG:OpR X (Uu .In) (λx y H Q=>∃i j,x=.str i/\y=.str j/\Q (.bl (!(Builtin.Str.occurrences j i 0 j.length 1).isEmpty)) H):=by intro pins s σ H x y v u Q I rx ry h;obtain⟨i,j,rfl,rfl,q⟩:=h;obtain⟨t,rfl⟩:=rx;obtain⟨t',rfl⟩:=ry;exact in_str (O5 I q rfl)
theorem qM:OpR X (Uu .NotIn) (λx y H Q=>∃i j,x=.str i/\y=.str j/\Q (.bl (!(!(Builtin.Str.occurrences j i 0 j.length 1).isEmpty))) H):=by intro pins s σ H x y v u Q I rx ry h;obtain⟨i,j,rfl,rfl,q⟩:=h;obtain⟨t,rfl⟩:=rx;obtain⟨t',rfl⟩:=ry;exact notIn_str (O5 I q rfl)
theorem OpR.or{f:Uk->Uk->Sem Uk}{r r':R2}(h:OpR X f r)(h':OpR X f r'):OpR X f (λx y H Q=>r x y H Q∨r' x y H Q):=by
 intro pins s σ H x y v u Q I rx ry q;rcases q with q|q
 ·exact h pins s σ H x y v u Q I rx ry q
 ·exact h' pins s σ H x y v u Q I rx ry q
theorem Pn(b:Uq){op:CmpOp}(h:op≠.In:=by decide)(h2:op≠.NotIn:=by decide):behindInMarks op b=false:=by
 have e1:(op==CmpOp.In)=false:=by cases op<;>first|rfl|exact absurd rfl h
 have e2:(op==CmpOp.NotIn)=false:=by cases op<;>first|rfl|exact absurd rfl h2
 cases b<;>simp[behindInMarks,e1,e2]
theorem Mh{op:CmpOp}{r:R2}(ho:OpR X (Uu op) r)(ha:PE X a ta)(hb:PE X b tb)(hm:behindInMarks op b=false):PE X (.Compare a [op] [b] pos) (tOp r ta tb):=by intro pins s σ H Q I h;exact wpAny_Compare1 (TH ha hb I h λv u s2 x y H2 I2 rx ry q=>ho pins s2 σ H2 x y v u Q I2 rx ry q) hm
def OU(t:TE):TT:=λσ H Q=>t σ H λx H'=>∃k,x=.bl k/\Q k H'
theorem Mg{op:CmpOp}{r:R2}(ho:OpR X (Uu op) r)(ha:PE X a ta)(hb:PE X b tb)(hm:behindInMarks op b=false):PT X (.Compare a [op] [b] pos) (OU (tOp r ta tb)):=by
 intro pins s σ H Q I h
 refine wpAny_isTrue_Compare1 (thn (ha pins s σ H _ I h) λv s1 ⟨x,H1,I1,r1,q1⟩=>thn (hb pins s1 σ H1 _ I1 q1) λu s2 ⟨y,H2,I2,r2,q2⟩=>
  thn (ho pins s2 σ H2 x y v u _ I2 r1 r2 q2) λc s3 ⟨z,H3,I3,r3,k,e,q3⟩=>?_) hm
 subst e;cases r3;exact QZ ⟨H3,I3,q3⟩
def O4(r r':R2)(ta tb tc:TE):TE:=λσ H Q=>ta σ H λx H1=>tb σ H1 λy H2=>r x y H2 λz H3=>∃k,z=.bl k /\
 (if k=true then tc σ H3 λw' H4=>r' y w' H4 Q else Q (.bl false) H3)
theorem Ch{op op':CmpOp}{r r':R2}(ho:OpR X (Uu op) r)(ho':OpR X (Uu op') r')(ha:PE X a ta)(hb:PE X b tb)(hc:PE X c tc)
  (hm:lastMarks [op,op'] [b,c]=false:=by with_unfolding_all rfl):PE X (.Compare a [op,op'] [b,c] pos) (O4 r r' ta tb tc):=by
 intro pins s σ H Q I h
 refine Compare_chain (thn (ha pins s σ H _ I h) λv s1 ⟨x,H1,I1,r1,q1⟩=>chain_link (thn (hb pins s1 σ H1 _ I1 q1) λu s2 ⟨y,H2,I2,r2,q2⟩=>
  thn (ho pins s2 σ H2 x y v u _ I2 r1 r2 q2) λd s3 ⟨z,H3,I3,r3,k,e,q3⟩=>?_)) hm
 subst e;cases r3;refine QZ ?_;cases k with
 |false=>exact ite_ff ⟨.bl false,H3,I3,rfl,q3⟩
 |true=>exact ite_tt (chain_last (thn (hc pins s3 σ H3 _ I3 q3) λw' s4 ⟨z',H4,I4,r4,q4⟩=>ho' pins s4 σ H4 y z' u w' Q I4 r2 r4 q4))
theorem Cg{op op':CmpOp}{r r':R2}(ho:OpR X (Uu op) r)(ho':OpR X (Uu op') r')(ha:PE X a ta)(hb:PE X b tb)(hc:PE X c tc)
  (hm:lastMarks [op,op'] [b,c]=false:=by with_unfolding_all rfl):PT X (.Compare a [op,op'] [b,c] pos) (OU (O4 r r' ta tb tc)):=by
 intro pins s σ H Q I h
 refine isTrue_chain (thn (ha pins s σ H _ I h) λv s1 ⟨x,H1,I1,r1,q1⟩=>test_link (thn (hb pins s1 σ H1 _ I1 q1) λu s2 ⟨y,H2,I2,r2,q2⟩=>
  thn (ho pins s2 σ H2 x y v u _ I2 r1 r2 q2) λd s3 ⟨z,H3,I3,r3,k,e,q3⟩=>?_)) hm
 subst e;cases r3;refine QZ ?_;cases k with
 |false=>obtain⟨k',e',q'⟩:=q3;cases e';exact ite_ff ⟨H3,I3,q'⟩
 |true=>refine ite_tt (test_last (thn (hc pins s3 σ H3 _ I3 q3) λw' s4 ⟨z',H4,I4,r4,q4⟩=>thn (ho' pins s4 σ H4 y z' u w' _ I4 r2 r4 q4) λd' s5 ⟨z2,H5,I5,r5,k2,e2,q5⟩=>?_));subst e2;cases r5;exact QZ ⟨H5,I5,q5⟩
def TruV(K:Frag)(x:V)(H:Hp)(k:Bool):Prop:=
 match x with
 |.non=>k=false
 |.bl b=>k=b
 |.int i=>k=(i != 0)
 |.str y=>y.length<=Ur/\k=((y.length:Int) != 0)
 |.byt y=>y.size<=Ur/\k=((y.size:Int) != 0)
 |.ref p=>(∃xs,SqL K H p xs/\k = !xs.isEmpty)∨(∃xs,SqT K H p xs/\k = !xs.isEmpty) ∨ ∃kvs,H p=some (.dK kvs)/\k = !kvs.isEmpty
 |_=>False
theorem AY{κ:Type}{kvs:List (κ×V)}{vs:List (κ×Uk)}(r:KV kvs vs):(!vs.isEmpty) = !kvs.isEmpty:=by cases r<;>rfl
theorem L7{xs:List V}{its:List Uk}(r:Vals xs its):(!its.toArray.isEmpty) = !xs.isEmpty:=by cases r<;>simp
theorem Vu:(Ur:Nat)<2 ^ 63:=by rw[sizeLine_eq];decide
theorem F9:TruR X (λx H Q=>∃k,TruV X.K x H k/\Q k H):=by
 intro pins s σ H x v Q I rx h;obtain⟨k,e,q⟩:=h;have hl:=Vu;have hs:Ur=16777216:=sizeLine_eq;cases x with
 |non=>cases rx;have e':k=false:=e;subst e';exact truthy_none ⟨H,I,q⟩
 |bl b=>cases rx;have e':k=b:=e;subst e';exact QZ ⟨H,I,q⟩
 |int i=>obtain⟨t,rfl⟩:=rx;have e':k=(i != 0):=e;subst e';exact PySem.P.truthy_int ⟨H,I,q⟩
 |str y=>obtain⟨t,rfl⟩:=rx;obtain⟨hy,e'⟩:y.length<=Ur/\k=((y.length:Int) != 0):=e;subst e';exact PySem.P.truthy_str (by omega) ⟨H,I.tok _,q⟩
 |byt y=>obtain⟨t,rfl⟩:=rx;obtain⟨hy,e'⟩:y.size<=Ur/\k=((y.size:Int) != 0):=e;subst e';exact PySem.W.truthy_bytes (by omega) ⟨H,I.tok _,q⟩
 |ref p=>
  cases rx;have e':(∃xs,SqL X.K H p xs/\k = !xs.isEmpty)∨(∃xs,SqT X.K H p xs/\k = !xs.isEmpty) ∨ ∃kvs,H p=some (.dK kvs)/\k = !kvs.isEmpty:=e;rcases e' with ⟨xs,hx,e'⟩|⟨xs,hx,e'⟩|⟨kvs,hx,e'⟩
  ·subst e';obtain⟨its,r,pl,hz⟩:=I.list hx;have hlen:=r.length;exact wpAny_truthy_list pl.isList (by simp only[QG];omega) ⟨H,I.tok _,by rw[L7 r];exact q⟩
  ·subst e';obtain⟨its,r,pl,hz⟩:=I.tuple hx;have hlen:=r.length;exact truthy_tuple pl (by simp only[QG];omega) ⟨H,I.tok _,by rw[L7 r];exact q⟩
  ·subst e';obtain⟨hz,hS,vs,r,m⟩:kvs.length<=Ur/\(p==sysModules)=false/\∃vs,KV kvs vs/\s.heap.DictOf (PQ X.prog X.w) p vs:=I.hok p _ hx;have hlen:kvs.length=vs.length:=Paired.length r;exact wpAny_truthy_dict hS m (by omega) ⟨H,I.tok _,by rw[AY r];exact q⟩
 |_=>exact(show False from e).elim
theorem Cf(ha:PE X a ta)(he:∀whole,isTrue a X.env whole=(do let v ←whole;standAt a.pos;holding [v] (truthy v))) :
  PT X a (λσ H Q=>ta σ H λx H'=>∃k,TruV X.K x H' k/\Q k H'):=by
 intro pins s σ H Q I h;exact isTrue_plain (thn (ha pins s σ H _ I h) λv s1 ⟨x,H1,I1,r1,q1⟩=>F9 pins s1 σ H1 x v Q I1 r1 q1) (he _)
theorem AX:OpR X (binaryOp .Add) (λx y H Q=>∃i j,x=.str i/\y=.str j/\i.length+j.length<=Ur/\Q (.str (i++j)) H):=by intro pins s σ H x y v u Q I rx ry h;obtain⟨i,j,rfl,rfl,hz,q⟩:=h;obtain⟨t,rfl⟩:=rx;obtain⟨t',rfl⟩:=ry;exact add_str (λt' tk=>⟨.str (i++j),H,I.tok _,⟨_,rfl⟩,q⟩) hz
theorem OT{x:V}{us:List Uk}(r:Vals [x] us):∃u,us=[u]/\RelV x u:=by
 cases r with
 |cons r1 r2=>cases r2;exact⟨_,rfl,r1⟩
theorem Pc{x y:V}{us:List Uk}(r:Vals [x,y] us):∃u w',us=[u,w']/\RelV x u/\RelV y w':=by
 cases r with
 |cons r1 r2=>
  cases r2 with
  |cons r3 r4=>cases r4;exact⟨_,_,rfl,r1,r3⟩
theorem AF(hc:X.calm=true):YF X (.builtin "max") (λxs H Q=>∃i j,xs=[.int i,.int j]/\Q (.int (if j > i then j else i)) H):=by
 intro pins s σ H xs us Q I r h;obtain⟨i,j,rfl,q⟩:=h;obtain⟨u,w',rfl,⟨t,rfl⟩,⟨t',rfl⟩⟩:=Pc r;refine max_two_ints (I.ok.hd hc) λh' tk k=>⟨_,H,I.kept k,?_,q⟩
 by_cases hj:j > i
 ·rw[Qm hj,Qm hj];exact⟨_,rfl⟩
 ·rw[Qu hj,Qu hj];exact⟨_,rfl⟩
def LenV(K:Frag)(x:V)(H:Hp)(n:Nat):Prop:=
 match x with
 |.str y=>y.length<=Ur/\n=y.length
 |.byt y=>y.size<=Ur/\n=y.size
 |.ref p=>(∃xs,SqL K H p xs/\n=xs.length) ∨ ∃xs,SqT K H p xs/\n=xs.length
 |_=>False
theorem MS:YF X (.builtin "len") (λxs H Q=>∃x n,xs=[x]/\LenV X.K x H n/\Q (.int n) H):=by
 intro pins s σ H xs us Q I r h;obtain⟨x,n,rfl,e,q⟩:=h;obtain⟨u,rfl,rx⟩:=OT r;have hl:=Vu;have hs:Ur=16777216:=sizeLine_eq;cases x with
 |str y=>obtain⟨t,rfl⟩:=rx;obtain⟨hy,e'⟩:y.length<=Ur/\n=y.length:=e;subst e';exact len_str (by omega) ⟨.int _,H,I.tok _,⟨_,rfl⟩,q⟩
 |byt y=>obtain⟨t,rfl⟩:=rx;obtain⟨hy,e'⟩:y.size<=Ur/\n=y.size:=e;subst e';exact PySem.W.len_bytes (by omega) ⟨.int _,H,I.tok _,⟨_,rfl⟩,q⟩
 |ref p=>
  cases rx;have e':(∃xs,SqL X.K H p xs/\n=xs.length) ∨ ∃xs,SqT X.K H p xs/\n=xs.length:=e;rcases e' with ⟨xs,hx,e'⟩|⟨xs,hx,e'⟩
  ·subst e';obtain⟨its,r',pl,hz⟩:=I.list hx;have hlen:=r'.length;exact Calls.call_len_list pl.isList (by simp only[QG];omega) ⟨.int xs.length,H,I.tok _,⟨_,by simp only[QG];rw[hlen]⟩,q⟩
  ·subst e';obtain⟨its,r',pl,hz⟩:=I.tuple hx;have hlen:=r'.length;exact len_tuple pl (by simp only[QG];omega) ⟨.int xs.length,H,I.tok _,⟨_,by simp only[QG];rw[hlen]⟩,q⟩
 |_=>exact(show False from e).elim
end
section
variable{prog:Um}{w:World}{A:Around}{E:Uk->Ul->Prop}{s:Ul}{K:Frag}{x dx C f:Uo}{mA:Str->Option Uk}{name:Str}{v:Uk}
end
section
variable{P:Um}{w:World}{H H':Hp}{h h':Heap}{a C dx:Uo}{fs fs':List (Str×V)}
end
section
variable{X:Cx}{pins:List (Uo×Obj)}{σ:St}{H:Hp}{s:Ul}{a C dx:Uo}{fs:List (Str×V)}{f:Str}{v:V}{A:Around}{E:Uk->Ul->Prop}
end
section
variable{X:Cx}{o e value:Uq}{f:Str}{pos pos' tpos:Pos}{ta tv:TE}
end
section
variable{X:Cx}{pins:List (Uo×Obj)}{σ:St}{H:Hp}{s:Ul}{A:Around}{E:Uk->Ul->Prop}{Q:Uk->Ul->Prop}{c:Uk}{b:Bool}
end
structure Room(k:Nat)(A:Around):Prop where
 hd:A.handled=none
 dp:A.depth+3*k+5<recursionLimit
 un:A.units+16*k+200<cLine
 gd:A.guards=some []
theorem Room.mono{j k:Nat}{A:Around}(r:Room k A)(h:j<=k):Room j A:=⟨r.hd,by have:=r.dp;omega,by have:=r.un;omega,r.gd⟩
theorem Room.deeper{k:Nat}{A:Around}(r:Room (k+1) A)(env:Env):Room k (A.deeper env):=
 ⟨r.hd,by have:=r.dp;show A.depth+1+3*k+5<_;omega,by have:=r.un;show A.units+3+16*k+200<_;omega,r.gd⟩
theorem Room.depth{k:Nat}{A:Around}(r:Room k A):A.depth<recursionLimit:=by have:=r.dp;omega
theorem Room.units{k:Nat}{A:Around}(r:Room k A):A.units+64<cLine:=by have:=r.un;omega
def tNil:TA:=λ_ H Q=>Q [] H
def Fp(ta:TE)(tr:TA):TA:=λσ H Q=>ta σ H λx H1=>tr σ H1 λxs H2=>Q (x::xs) H2
section
variable{X:Cx}{e:Uq}{es:List Uq}{te:TE}{t:TA}{pos:Pos}
theorem T6:PA X [] tNil:=λ_ _ _ _ H Q I h=>Calls.spliced_nil ⟨[],H,I,.nil,h⟩
theorem VA(ha:PE X e te)(hr:PA X es t)(hs:Ut (e::es) X.env=(false,eval e X.env)::Ut es X.env:=by rfl):PA X (e::es) (Fp te t):=by intro pos pins s σ H Q I h;rw[hs];show Us _ _ (spliced ((false,eval e X.env)::backTo pos (Ut es X.env))) _ _ s;refine Calls.spliced_cons (thn (ha pins s σ H _ I h) λu s1 ⟨x,H1,I1,r1,q1⟩=>?_);exact thn (hr pos pins s1 σ H1 _ I1 q1) λus s2 ⟨xs,H2,I2,r2,q2⟩=>⟨x::xs,H2,I2,.cons r1 r2,q2⟩
def tTup(t:TA):TE:=λσ H Q=>t σ H λxs H1=>xs.length<=Ur/\∀p,H1 p=none->Q (.ref p) (upd H1 p (.tup xs))
def tLst(t:TA):TE:=λσ H Q=>t σ H λxs H1=>xs.length<=Ur/\∀p,H1 p=none->Q (.ref p) (upd H1 p (.lst xs))
theorem F8{x1}(h:PA X es t):PE X (.Tuple es x1 pos) (tTup t):=by intro pins s σ H Q I hq;refine wpAny_Tuple_spliced (thn (h pos pins s σ H _ I hq) λus s1 ⟨xs,H1,I1,r,z,q⟩=>⟨by rw[←r.length];exact z,?_⟩);have hf:H1 s1.heap.objs.size=none:=I1.hok.fresh (Qv _);refine⟨.ref s1.heap.objs.size,upd H1 s1.heap.objs.size (.tup xs),I1.laid (t':=s1.toks) (λb u e=>Qj _ e) (Qv _) ?_,rfl,q _ hf⟩;exact⟨z,us,r,⟨_,QD _ rfl,rfl,_,rfl⟩⟩
theorem O3(h:PA X es t):PE X (.List es pos) (tLst t):=by intro pins s σ H Q I hq;refine wpAny_List_spliced (thn (h pos pins s σ H _ I hq) λus s1 ⟨xs,H1,I1,r,z,q⟩=>⟨by rw[←r.length];exact z,?_⟩);have hf:H1 s1.heap.objs.size=none:=I1.hok.fresh (Qv _);refine⟨.ref s1.heap.objs.size,upd H1 s1.heap.objs.size (.lst xs),I1.laid (t':=s1.toks) (λb u e=>Qj _ e) (Qv _) ?_,rfl,q _ hf⟩;exact⟨z,us,0,r,QD _ rfl⟩
end
abbrev Sp:=List V->Hp->VK->XK->Prop
abbrev CXT:=List Env->Hp->Ul->XK->Uk->Ul->Prop
structure Env0(P:Um)(w:World)(K:Frag)(mg:Str->Option Uk)(base:Heap)(A:Around)(outer:List Env)(s:Ul)(H:Hp):Prop where
 frames:A.frames=some outer
 mod:Mod K mg base
 bs:∀b o,base.get? b=some o->s.heap.get? b=some o/\H b=none
 bsz:base.objs.size<=s.heap.objs.size
 funs:s.heap.FunFrames base outer
 frf:∀b∈frs outer,H b=none
 hok:HOk P w H s.heap
 bare:AllBare s.gens
def CE(outer:List Env)(P:Um)(w:World)(H:Hp)(s:Ul)(Q:VK)(u:Uk)(s':Ul):Prop:=
 ∃v H',s'.os=s.os/\AllBare s'.gens/\Un (frs outer) [] H H' s.heap s'.heap/\HOk P w H' s'.heap/\RelV v u/\Q v H'
def CR(CX:CXT)(outer:List Env)(P:Um)(w:World)(H:Hp)(s:Ul)(Q:VK)(E:XK)(r:Result)(s':Ul):Prop:=
 match r with
 |.ok (.ret u)=>CE outer P w H s Q u s'
 |.ok _=>False
 |.error e=>CX outer H s E e s'
structure FnOk(P:Um)(w:World)(K:Frag)(mg:Str->Option Uk)(base:Heap)(CX:CXT)(k:Nat)(f:Uo)(fd:Up)(ps:List Str)(sp:Sp):Prop where
 len:∀vs H Q E,sp vs H Q E->vs.length=ps.length
 run:∀(A:Around)(outer:List Env)(s:Ul)(H:Hp)(args:Args)(us:List Uk)(vs:List V)(Q:VK)(E:XK),Room k A->Env0 P w K mg base A outer s H->BindsTo s fd args (ps.zip us)->Vals vs us->sp vs H Q E ->
  codeAny (model P w) A (.call (.ref f) args) (CR CX outer P w H s Q E) s
section
variable{X:Cx}{pins:List (Uo×Obj)}{σ:St}{H:Hp}{s s':Ul}
theorem Inv.env0(I:Inv X pins σ H s):Env0 X.prog X.w X.K X.mg X.base X.A X.stack s H:=
 ⟨I.ok.frames,I.ok.mod,I.bs,QP I.ok.bsz I.sz,I.stack,I.stkFree,I.hok,I.bare⟩
theorem Inv.after{Q:VK}{u:Uk}(I:Inv X pins σ H s)(h:CE X.stack X.prog X.w H s Q u s'):EP X pins σ Q u s':=by obtain⟨v,H',os,bare,un,hok,r,q⟩:=h;obtain⟨hh,g,d,t,os'⟩:=s';obtain rfl:os'=s.os:=os;exact⟨v,H',I.call (h':=hh) (g':=g) (d':=d) (t':=t) (ch:=[]) un hok bare (λb z=>absurd z (by simp)),r,q⟩
end
def Fo(sp:Sp)(dvs:List V)(E:XK)(t:TA):TE:=λσ H Q=>t σ H λvs H1=>sp (vs++dvs) H1 Q E
def WZ(K:Frag)(fd:Up)(ps:List Str)(ds:List Uk):Prop:=
 ∀(s:Ul)(us:List Uk),K.In s.heap->(us++ds).length=ps.length->BindsTo s fd ⟨us,[]⟩ (ps.zip (us++ds))
theorem WZ.all{K:Frag}{fd:Up}{ps:List Str}(h:∀us:List Uk,us.length=ps.length->bindArgs fd ⟨us,[]⟩=pure (ps.zip us)):WZ K fd ps []:=λs us _ hl=>by rw[Q5]at hl⊢;exact .of_eq (h us hl)
def Pm(CX:CXT)(X:Cx)(E:XK):Prop:=∀(pins:List (Uo×Obj))(σ:St)(H:Hp)(s:Ul)(e:Uk)(s':Ul),Inv X pins σ H s->CX X.stack H s E e s'->X.xe e s'
section
variable{X:Cx}{CX:CXT}{k:Nat}{f C:Uo}{fd:Up}{ps:List Str}{sp:Sp}{dvs:List V}{ds:List Uk}{E:XK}{x m:Str}{p pos apos:Pos}{e o:Uq}{es:List Uq}{ta:TE}{t:TA}
theorem F7{pins:List (Uo×Obj)}{σ:St}{H:Hp}{s:Ul}{Q:VK}{us:List Uk}{vs:List V}(F:FnOk X.prog X.w X.K X.mg X.base CX k f fd ps sp)(hr:Room k X.A)(hb:WZ X.K fd ps ds)(hd:Vals dvs ds)(hx:Pm CX X E)
  (I:Inv X pins σ H s) (r:Vals vs us) (h:sp (vs++dvs) H Q E):Us (model X.prog X.w) X.A (call (.ref f) us) (EP X pins σ Q) X.xe s:=by
 have r2:Vals (vs++dvs) (us++ds):=r.append hd;have hl:(us++ds).length=ps.length:=by rw[←r2.length];exact F.len _ _ _ _ h
 refine wpAny_call (codeAny_mono (F.run X.A X.stack s H ⟨us,[]⟩ (us++ds) (vs++dvs) Q E hr I.env0 (hb s us I.kIn hl) r2 h) λr s' hq=>?_);cases r with
 |error e=>exact hx pins σ H s e s' I hq
 |ok fl=>
  cases fl with
  |ret u=>exact I.after hq
  |next=>exact False.elim hq
  |brk=>exact False.elim hq
  |cont=>exact False.elim hq
theorem DF(F:FnOk X.prog X.w X.K X.mg X.base CX k f fd ps sp)(hr:Room k X.A)(hg:Gl X x)(hm:X.mg x=some (.ref f))(hk:PySem.W.keepIn X.K (.ref f)=true)(hb:WZ X.K fd ps ds)(hd:Vals dvs ds)(hx:Pm CX X E)
  (ha:PA X (e::es) t) (hdb:(x==("__debug__" : Str))=false:=by decide) (he:Ut (e::es) X.env=(false,eval e X.env)::Ut es X.env:=by rfl) (hpl:(backTo pos (Ut es X.env)).any (·.1)=false:=by rfl) :
  PE X (.Call (.Name x p) (e::es) [] pos) (Fo sp dvs E t):=by
 intro pins s σ H Q I h;refine wpAny_Call_Name_kw (Mb I hg hm ?_ hdb);refine PySem.W.callWith_K (h₀:=X.base) I.ok.mod.kin hk (thn (ha pos pins s σ H _ I h) λus s1 ⟨vs,H1,I1,r,q⟩=>⟨I1.kIn,?_⟩) he hpl;exact F7 F hr hb hd hx I1 r q
end
section
variable{X:Cx}{CX:CXT}{k:Nat}{f C:Uo}{fd:Up}{ps ks:List Str}{sp:Sp}{E:XK}{x m:Str}{p pos apos kpos:Pos}{e o:Uq}{es:List Uq}{kws:List Keyword}{te ta:TE}{t tk:TA}{nm:Option Str}
variable{g:List Uk->List Uk->List Uk}{gV:List V->List V->List V}
end
structure SU(N P:List Str)(sc:Scope):Prop where
 kind:sc.kind=.function
 co:sc.isCoroutine=false
 gen:sc.isGenerator=false
 nd:N.Nodup
 pre:N.take P.length=P
 par:∀x∈P,sc.names.lookup x=some .local∨sc.names.lookup x=some .cell
 nofree:∀y∈sc.names,y.2≠.free
theorem LI{kindOf:Str->Option NameKind}{x:Str}:∀{binds:List (Str×Uk)}{m:Str->Option Uk},(∀v,(x,v)∉binds)->bindL kindOf binds m x=m x
 |[],_,_=>rfl
 |(n,v)::r,m,h=>by
  unfold bindL;rw[LI λw hw=>h w (Qk _ hw)];split
  ·have:x≠n:=by rintro rfl;exact h v Qo
   simp[this]
  ·rfl
theorem LH{kindOf:Str->Option NameKind}{x:Str}:∀{binds:List (Str×Uk)}{m:Str->Option Uk},(∀v,(x,v)∉binds)->bindC kindOf binds m x=m x
 |[],_,_=>rfl
 |(n,v)::r,m,h=>by
  unfold bindC;rw[LH λw hw=>h w (Qk _ hw)];split
  ·rfl
  ·have:x≠n:=by rintro rfl;exact h v Qo
   simp[this]
theorem LG{kindOf:Str->Option NameKind}{x:Str}{v:Uk}:∀{P:List Str}{vs:List Uk}{i:Nat}{m:Str->Option Uk},P.Nodup->P[i]?=some x->vs[i]?=some v->kindOf x=some .local ->
  bindL kindOf (P.zip vs) m x=some v
 |[],_,_,_,_,h,_,_=>by simp at h
 |_::_,[],_,_,_,_,h,_=>by simp at h
 |p::P,w::vs,0,m,nd,h1,h2,hk=>by simp at h1 h2;subst h1;subst h2;show bindL kindOf ((p,w)::P.zip vs) m p=_;unfold bindL;rw[LI λv hv=>(List.nodup_cons.mp nd).1 (List.of_mem_zip hv).1,Qm hk];simp
 |p::P,w::vs,i+1,m,nd,h1,h2,hk=>by show bindL kindOf ((p,w)::P.zip vs) m x=_;unfold bindL;exact LG (i:=i) (List.nodup_cons.mp nd).2 (by simpa using h1) (by simpa using h2) hk
theorem LF{kindOf:Str->Option NameKind}{x:Str}{v:Uk}:∀{P:List Str}{vs:List Uk}{i:Nat}{m:Str->Option Uk},P.Nodup->P[i]?=some x->vs[i]?=some v->kindOf x≠some .local ->
  bindC kindOf (P.zip vs) m x=some v
 |[],_,_,_,_,h,_,_=>by simp at h
 |_::_,[],_,_,_,_,h,_=>by simp at h
 |p::P,w::vs,0,m,nd,h1,h2,hk=>by simp at h1 h2;subst h1;subst h2;show bindC kindOf ((p,w)::P.zip vs) m p=_;unfold bindC;rw[LH λv hv=>(List.nodup_cons.mp nd).1 (List.of_mem_zip hv).1,Qu hk];simp
 |p::P,w::vs,i+1,m,nd,h1,h2,hk=>by show bindC kindOf ((p,w)::P.zip vs) m x=_;unfold bindC;exact LF (i:=i) (List.nodup_cons.mp nd).2 (by simpa using h1) (by simpa using h2) hk
def Xx(N:List Str)(vs:List V):St:=vs.map some++Uw (N.length-vs.length) none
def YJ(CX:CXT)(P:Um)(w:World)(K:Frag)(mg:Str->Option Uk)(base:Heap)(N:List Str)(qual:Str)(scope:Scope)(f:Uo)(cd:Uk)(A:Around)(outer:List Env)(s:Ul)(H:Hp)(E:XK):Cx where
 prog:=P
 w:=w
 K:=K
 mg:=mg
 base:=base
 A:=A.deeper (envOfC qual scope s.heap.objs.size f cd)
 N:=N
 s₀:=s
 H₀:=H
 env:=envOfC qual scope s.heap.objs.size f cd
 outer:=outer
 stack:=envOfC qual scope s.heap.objs.size f cd::outer
 ex:=[]
 calm:=true
 fn:=λ_=>true
 pn:=[]
 xe:=λe s'=>Us (model P w) (A.deeper (envOfC qual scope s.heap.objs.size f cd)) (leaving (envOfC qual scope s.heap.objs.size f cd) e) (λ_ s''=>CX outer H s E e s'') (λe' s''=>CX outer H s E e' s'') s'
theorem MR{sc:Scope}{n:Nat}{x:Str}(h:sc.names.lookup x=some .cell):∃c,(cellsFrom n sc.names []).lookup x=some c:=by have q:=PySem.W.cellsFrom_some sc.names n [] (.inl h);exact Option.isSome_iff_exists.mp q
theorem AE{CX:CXT}{P:Um}{w:World}{K:Frag}{mg:Str->Option Uk}{base:Heap}{N ps:List Str}{qual:Str}{scope:Scope}{f:Uo}{cd:Uk}{A:Around}{outer:List Env}{s s1:Ul}{H:Hp}{E:XK}{us:List Uk}{vs:List V}
  (S:SU N ps scope) (hd:A.handled=none) (e0:Env0 P w K mg base A outer s H) (hl:vs.length=ps.length) (r:Vals vs us)
  (x:InCallC s s.heap.objs.size (bindL (envOfC qual scope s.heap.objs.size f cd).kindOf (ps.zip us) λ_=>none) (cellsFrom (s.heap.objs.size+1) scope.names []) (bindC (envOfC qual scope s.heap.objs.size f cd).kindOf (ps.zip us) λ_=>none) s1) :
  Inv (YJ CX P w K mg base N qual scope f cd A outer s H E) [] (Xx N vs) H s1:=by
 have hpl:ps.length<=N.length:=by have:=congrArg List.length S.pre;rw[Q0]at this;omega
 obtain⟨h1,tk,rfl,hk⟩:=x.done;have noA:∀b:Uo,b∉(YJ CX P w K mg base N qual scope f cd A outer s H E).ex:=λb z=>absurd (show b∈([]:List Uo)from z) (by simp)
 refine⟨⟨e0.mod,S.kind,rfl,rfl,Qv _,λy z c h1 h2=>?_,λy hy=>?_,λy c _ h=>?_,λ_=>hd,Around.frames_deeper e0.frames,.inr ⟨rfl,rfl⟩,λb z=>absurd z (noA b),e0.bs,e0.bsz,λb _ _=>noA b,λb z=>absurd z (noA b),e0.funs,e0.frf⟩,
  rfl,e0.bare,Un.kept hk,⟨_,x.toInCall.ns,λi y v h1 h2 h3=>?_⟩,λy c h=>⟨_,x.cell y c h⟩,e0.hok.fresh (Nat.le_refl _),λy c h=>?_,λp hp=>absurd (show p∈([]:List (Uo×Obj))from hp) (by simp),e0.hok.kept hk,?_⟩
 ·exact name_of_addr x.apart (JR h1) (JR h2)
 ·have hy:scope.names.lookup y=some .cell∨scope.names.lookup y=some .free:=hy;rcases hy with hy|hy
  ·exact MR hy
  ·exact absurd rfl (S.nofree _ (JR hy))
 ·exact Nat.le_of_lt (x.above y c (JR h))
 ·have hi:i<vs.length:=by
   unfold Xx at h2;by_cases hi:i<vs.length
   ·exact hi
   ·rw[List.getElem?_append_right (by simpa using hi)]at h2;rw[QA]at h2;split at h2<;>cases h2
  have ha:vs[i]?=some v:=by
   unfold Xx at h2;rw[List.getElem?_append_left (by simpa using hi),List.getElem?_map]at h2;cases e:vs[i]? with
   |none=>rw[e]at h2;cases h2
   |some a=>rw[e]at h2;cases h2;rfl
  obtain⟨u,hu,rv⟩:=r.get ha;have hp:ps[i]?=some y:=by rw[←S.pre,List.getElem?_take_of_lt (by omega)];exact h1
  have ndP:ps.Nodup:=by rw[←S.pre];exact S.nd.sublist (List.take_sublist _ _)
  refine⟨u,rv,?_⟩;rcases S.par y (Qp hp)with k|k
  ·exact .inl ⟨k,LG ndP hp hu k⟩
  ·obtain⟨c,e⟩:=MR (n:=s.heap.objs.size+1) k;refine .inr ⟨.inl k,c,e,?_⟩;have q:=x.cell y c e;rw[LF ndP hp hu (by show scope.names.lookup y≠_;rw[k];decide)]at q;exact q
 ·exact e0.hok.fresh (Nat.le_of_lt (x.above y c (JR h)))
 ·unfold Xx;show _=N.length;rw[Ql,Qb,QU];omega
theorem Fn{CX:CXT}{P:Um}{w:World}{K:Frag}{mg:Str->Option Uk}{base:Heap}{k:Nat}{f:Uo}{name qual:Str}{params:Arguments}{body:List Stmt}{scope:Scope}{dV kV doc pm cdv ct oc:Uk}{an od:Option Uo}
  {osl:Array (Option Uk)} {N ps:List Str} {sp:Sp} (lk:K.lookup f=some ⟨oc,od,.func (PySem.W.fnOf name qual params body scope dV kV doc pm an cdv ct),osl⟩) (hcd:PySem.W.codeIn K cdv qual=true) (S:SU N ps scope)
  (len:∀vs H Q E,sp vs H Q E->vs.length=ps.length)
  (hbody:∀(A:Around)(outer:List Env)(s:Ul)(H:Hp)(vs:List V)(Q:VK)(E:XK),Room k (A.deeper (envOfC qual scope s.heap.objs.size f cdv))->sp vs H Q E ->
   ∃t,PSs (YJ CX P w K mg base N qual scope f cdv A outer s H E) body t/\t {nx:=λ_ H'=>Q .non H',rt:=Q} (Xx N vs) H) :
  FnOk P w K mg base CX (k+1) f (PySem.W.fnOf name qual params body scope dV kV doc pm an cdv ct) ps sp:=by
 refine⟨len,λA outer s H args us vs Q E hr e0 hb r hsp=>?_⟩;have hl:=len _ _ _ _ hsp;have KX:K.In s.heap:=e0.mod.kin.keeps λb o e=>(e0.bs b o e).1;have lim:s.heap.NoLimit:=e0.mod.nolimit.keeps λb o e=>(e0.bs b o e).1
 have hkind:∀y∈ps.zip us,scope.names.lookup y.1=some .local∨(scope.names.lookup y.1=some .cell/\((cellsFrom (s.heap.objs.size+1) scope.names []).lookup y.1).isSome=true):=λ⟨n,v⟩ hy=>by
  rcases S.par n (List.of_mem_zip hy).1 with q|q
  ·exact .inl q
  ·exact .inr ⟨q,PySem.W.cellsFrom_some _ _ _ (.inl q)⟩
 refine codeAny_call_function hr.depth (KX _ _ lk) rfl S.co S.gen rfl (PySem.W.codeRec_of KX hcd) (hb _ _ _ _ ?_);refine wpAny_newFunctionEnv_cells S.kind hkind λenv he s1 x=>?_;subst he
 refine⟨lim.keeps x.toInCall.keep,codeAny_func ?_⟩;obtain⟨t,ht,hq⟩:=hbody A outer s H vs Q E (hr.deeper _) hsp;have I:Inv (YJ CX P w K mg base N qual scope f cdv A outer s H E) [] (Xx N vs) H s1:=AE S hr.hd e0 hl r x;refine QK (ht [] s1 (Xx N vs) H _ I hq) (λfl s' hs=>?_) λe s' hs=>hs
 have fin:∀{σ':St}{H':Hp}{v:V}{u:Uk},Inv (YJ CX P w K mg base N qual scope f cdv A outer s H E) [] σ' H' s'->RelV v u->Q v H'->CE outer P w H s Q u s':=
  λ{σ' H' v u} J rv q=>⟨v,H',J.os,J.bare,J.base,J.hok,rv,q⟩
 cases fl with
 |ret u=>obtain⟨v,σ',H',J,rv,q⟩:=hs;exact fin J rv q
 |next=>obtain⟨σ',H',J,q⟩:=hs;exact fin (v:=V.non) (u:=Value.none) J rfl q
 |brk=>obtain⟨_,_,_,q⟩:=hs;exact False.elim q
 |cont=>obtain⟨_,_,_,q⟩:=hs;exact False.elim q
section
variable{X:Cx}{x:Str}{p pos:Pos}{e:Uq}{es:List Uq}{t:TA}{id T:String}{r:List V->Hp->VK->Prop}
def tCB(r:List V->Hp->VK->Prop)(t:TA):TE:=λσ H Q=>t σ H λvs H1=>r vs H1 Q
theorem RT(hc:YF X (.builtin id) r)(hg:Gl X x)(hm:X.mg x=none)(hv:bootBuiltins x=some (.builtin id))(ha:PA X (e::es) t)(hn:x ≠ "__name__" :=by decide)(hdb:(x==("__debug__" : Str))=false:=by decide)
  (he:Ut (e::es) X.env=(false,eval e X.env)::Ut es X.env:=by rfl) (hpl:(backTo pos (Ut es X.env)).any (·.1)=false:=by rfl):PE X (.Call (.Name x p) (e::es) [] pos) (tCB r t):=by
 intro pins s σ H Q I h;refine wpAny_Call_Name_kw (W7 I hg hm hv ?_ hn hdb);exact PyProof.Rows.callWith_builtin1 (thn (ha pos pins s σ H _ I h) λus s1 ⟨vs,H1,I1,r1,q1⟩=>hc pins s1 σ H1 vs us Q I1 r1 q1) he hpl
theorem OG(hc:YF X (.type T) r)(hg:Gl X x)(hm:X.mg x=none)(hv:bootBuiltins x=some (.type T))(ha:PA X (e::es) t)(hn:x ≠ "__name__" :=by decide)(hdb:(x==("__debug__" : Str))=false:=by decide)
  (he:Ut (e::es) X.env=(false,eval e X.env)::Ut es X.env:=by rfl) (hpl:(backTo pos (Ut es X.env)).any (·.1)=false:=by rfl):PE X (.Call (.Name x p) (e::es) [] pos) (tCB r t):=by
 intro pins s σ H Q I h;refine wpAny_Call_Name_kw (W7 I hg hm hv ?_ hn hdb);exact Jx (thn (ha pos pins s σ H _ I h) λus s1 ⟨vs,H1,I1,r1,q1⟩=>hc pins s1 σ H1 vs us Q I1 r1 q1) he hpl
end
end L2
namespace HT
open PySem PyProof.Rows
def ZC:List Int->List Int->Bool
 |[],[]=>false
 |[],_::_=>true
 |_::_,[]=>false
 |x::xs,y::ys=>if x=y then ZC xs ys else decide (x<y)
theorem L6(x y:Int)(xs ys:List Int):ZC (x::xs) (y::ys)=if x=y then ZC xs ys else decide (x<y):=rfl
theorem Ce(A:Around)(s:Ul)(a:Int)(t:Tok)(c:Int)(u:Tok):∃e,SeqAt.EqAt A s (.int a t) (.int c u) e/\(e=true ↔ a=c):=
 ⟨(a==c),SeqAt.EqAt.int_int a t c u,by simp⟩
section
open PySem.SeqAt
open PySem.AutoSeq1 (wpAny_loadPart')
open PySem.MeetsSeq PySem.MeetsSeq2 PySem.MeetsSeq3
end
section
variable{prog:Um}{w:World}{A:Around}{E:Uk->Ul->Prop}{s:Ul}
def sIx(n d:Nat):Option Int->Nat
 |none=>d
 |some v=>if v<0 then(v+(n:Int)).toNat else min v.toNat n
end
end HT
namespace L2
open PySem PySem.Spec PyProof.Rows
abbrev TO:=St->Hp->(Option Int->Hp->Prop)->Prop
def PO(X:Cx)(e:Option Uq)(t:TO):Prop:=
 ∀(pins:List (Uo×Obj))(s:Ul)(σ:St)(H:Hp)(Q:Option Int->Hp->Prop),Inv X pins σ H s->t σ H Q ->
  Us (model X.prog X.w) X.A (evalPart e X.env) (λu s'=>∃o H',Inv X pins σ H' s'/\IsPart u o/\Q o H') X.xe s
def DE:TO:=λ_ H Q=>Q none H
def Fm(t:TE):TO:=λσ H Q=>t σ H λx H1=>∃i,x=.int i/\Q (some i) H1
theorem L5{ns:List Int}:∀{us:List Uk},Vals (ns.map V.int) us->IntsAre us ns:=by
 induction ns with
 |nil=>intro us r;rw[JJ]at r;cases r;exact .nil
 |cons n ns ih=>
  intro us r;rw[Qx]at r;cases r with
  |cons r1 r2=>obtain⟨t,e⟩:=r1;subst e;exact .cons n t (ih r2)
section
variable{X:Cx}{e:Uq}{te:TE}{lo hi:Option Uq}{tl th:TO}{pos p2:Pos}
theorem DD:PO X none DE:=by intro pins s σ H Q I h;rw[evalPart_none];exact Qn ⟨none,H,I,.none,h⟩
theorem DZ(h:PE X e te):PO X (some e) (Fm te):=by
 intro pins s σ H Q I hw;rw[evalPart_some];refine thn (h pins s σ H _ I hw) λu s1 ⟨x,H1,I1,r1,q1⟩=>?_
 obtain⟨i,rfl,q⟩:=q1;obtain⟨t,rfl⟩:=r1;exact⟨some i,H1,I1,.int i t,q⟩
def SlR(X:Cx)(r:V->Option Int->Option Int->Hp->VK->Prop):Prop:=
 ∀(pins:List (Uo×Obj))(s:Ul)(σ:St)(H:Hp)(x:V)(v vl vu:Uk)(lo hi:Option Int)(sl:Uo)(Q:VK),Inv X pins σ H s->RelV x v->s.heap.IsSliceOf sl vl vu .none->IsPart vl lo->IsPart vu hi->r x lo hi H Q ->
  ∃T id,typeLookup (.type T) "__getitem__" = pure (some (.builtin id))/\s.TypeIs v T/\Us (model X.prog X.w) X.A (getItem v (.ref sl)) (EP X pins σ Q) X.xe s
theorem SlR.or{r r':V->Option Int->Option Int->Hp->VK->Prop}(h:SlR X r)(h':SlR X r'):SlR X (λx lo hi H Q=>r x lo hi H Q∨r' x lo hi H Q):=by
 intro pins s σ H x v vl vu lo hi sl Q I rx hs pl pu q;rcases q with q|q
 ·exact h pins s σ H x v vl vu lo hi sl Q I rx hs pl pu q
 ·exact h' pins s σ H x v vl vu lo hi sl Q I rx hs pl pu q
def tSl(r:V->Option Int->Option Int->Hp->VK->Prop)(te:TE)(tl th:TO):TE:=λσ H Q=>te σ H λx H1=>tl σ H1 λl H2=>th σ H2 λu H3=>r x l u H3 Q
theorem Cd{r:V->Option Int->Option Int->Hp->VK->Prop}(hr:SlR X r)(he:PE X e te)(hl:PO X lo tl)(hu:PO X hi th):PE X (.Subscript e (.Slice lo hi none p2) pos) (tSl r te tl th):=by
 intro pins s σ H Q I h;refine Subscript_ (thn (he pins s σ H _ I h) λv s1 ⟨x,H1,I1,r1,q1⟩=>?_);refine wpAny_Slice (thn (hl pins s1 σ H1 _ I1 q1) λvl s2 ⟨l,H2,I2,pl,q2⟩=>thn (hu pins s2 σ H2 _ I2 q2) λvu s3 ⟨u,H3,I3,pu,q3⟩=>?_);rw[evalPart_none];refine Qn ?_;have I4:Inv X pins σ H3 {s3 with heap:=s3.heap.push {cls:=.type "slice", data:=.fields #[vl,vu,.none]}}:=I3.kept (t':=s3.toks) λb ob q=>Qj _ q
 obtain⟨T,id,hT,ht,hg⟩:=hr pins {s3 with heap:=s3.heap.push {cls:=.type "slice", data:=.fields #[vl,vu,.none]}} σ H3 x v vl vu l u s3.heap.objs.size Q I4 r1 (Heap.IsSliceOf.new ..) pl pu q3;show Us (model X.prog X.w) X.A (subscriptTail e (.Slice lo hi none p2) v (.ref s3.heap.objs.size)) (EP X pins σ Q) X.xe {s3 with heap:=s3.heap.push {cls:=.type "slice", data:=.fields #[vl,vu,.none]}};exact tail_any (ops:=[.ref s3.heap.objs.size,v]) ht hT hg (by with_unfolding_all rfl)
def Xe(xs:List V)(lo hi:Option Int):List V:=(xs.drop (HT.sIx xs.length 0 lo)).take (HT.sIx xs.length xs.length hi-HT.sIx xs.length 0 lo)
theorem qE(xs:List V)(lo hi:Option Int):(Xe xs lo hi).length<=xs.length:=by unfold Xe;rw[Q0,Jw];omega
end
def ixN(n:Nat)(i:Int):Option Nat:=if 0<=i then(if i<n then some i.toNat else none)else if -(n:Int)<=i then some (i+n).toNat else none
def atI{α:Type}(xs:List α)(i:Int):Option α:=(ixN xs.length i).bind λj=>xs[j]?
theorem P0{n:Nat}{i:Int}{j:Nat}(h:ixN n i=some j):seqIndex? i n=some j/\j<n /\ -(n:Int)<=i/\i<n:=by
 unfold ixN at h;by_cases h0:0<=i
 ·rw[Qm h0]at h;by_cases h1:i<n
  ·rw[Qm h1]at h;have e:i.toNat=j:=QT h;exact⟨by rw[seqIndex_of h0 h1,e],by omega,by omega,h1⟩
  ·rw[Qu h1]at h;cases h
 ·rw[Qu h0]at h;by_cases h1 : -(n:Int)<=i
  ·rw[Qm h1]at h;have e:(i+n).toNat=j:=QT h;exact⟨by rw[seqIndex_neg (by omega) h1,e],by omega,h1,by omega⟩
  ·rw[Qu h1]at h;cases h
theorem RH{α:Type}{xs:List α}{i:Int}{v:α}(h:atI xs i=some v):∃j,seqIndex? i xs.length=some j/\xs[j]?=some v/\j<xs.length /\ -(xs.length:Int)<=i/\i<xs.length:=by
 unfold atI at h;cases e:ixN xs.length i with
 |none=>rw[e]at h;cases h
 |some j=>rw[e]at h;obtain⟨h1,h2,h3,h4⟩:=P0 e;exact⟨j,h1,h,h2,h3,h4⟩
theorem ZB{α:Type}{xs:List α}{j:Nat}{v:α}(h:xs[j]?=some v):atI xs (j:Int)=some v:=by
 have hj:j<xs.length:=(Qg.mp h).1;have e:ixN xs.length (j:Int)=some j:=by unfold ixN;rw[if_pos (by omega),if_pos (by omega)];simp
 unfold atI;rw[e];exact h
def PZ(b:Uq):Prop:=∀o i,subscripted b false o i=operate [o,i] (getItem o i)
def IxR(X:Cx)(r:R2):Prop:=
 ∀(value slice:Uq)(pins:List (Uo×Obj))(s:Ul)(σ:St)(H:Hp)(x y:V)(v u:Uk)(Q:VK),Inv X pins σ H s->RelV x v->RelV y u->r x y H Q ->
  subscripted slice false v u=operate [v,u] (getItem v u)->Us (model X.prog X.w) X.A (subscriptTail value slice v u) (EP X pins σ Q) X.xe s
def MtR(X:Cx)(id:String)(r:V->List V->Hp->VK->Prop):Prop:=
 ∀(pins:List (Uo×Obj))(s:Ul)(σ:St)(H:Hp)(x:V)(xs:List V)(v:Uk)(us:List Uk)(Q:VK),Inv X pins σ H s->RelV x v->Vals xs us->r x xs H Q ->
  Us (model X.prog X.w) X.A (call (.builtin id) (v::us)) (EP X pins σ Q) X.xe s
section
variable{X:Cx}{a b:Uq}{ta tb:TE}{pos:Pos}
theorem IxR.or{r r':R2}(h:IxR X r)(h':IxR X r'):IxR X (λx y H Q=>r x y H Q∨r' x y H Q):=by
 intro value slice pins s σ H x y v u Q I rx ry q hs;rcases q with q|q
 ·exact h value slice pins s σ H x y v u Q I rx ry q hs
 ·exact h' value slice pins s σ H x y v u Q I rx ry q hs
theorem OS{r:R2}(hr:IxR X r)(ha:PE X a ta)(hb:PE X b tb)(hs:PZ b):PE X (.Subscript a b pos) (tOp r ta tb):=by intro pins s σ H Q I h;exact Subscript_ (TH ha hb I h λv u s2 x y H2 I2 rx ry q=>hr a b pins s2 σ H2 x y v u Q I2 rx ry q (hs _ _))
def rIxL(K:Frag):R2:=λx y H Q=>∃p xs i v,x=.ref p/\y=.int i/\SqL K H p xs/\atI xs i=some v/\Q v H
def rIxT(K:Frag):R2:=λx y H Q=>∃p xs i v,x=.ref p/\y=.int i/\SqT K H p xs/\atI xs i=some v/\Q v H
def rIxS:R2:=λx y H Q=>∃z i c,x=.str z/\y=.int i/\z.length<=Ur/\atI z.cps.toList i=some c/\Q (.str ⟨#[c]⟩) H
theorem DY:IxR X (rIxL X.K):=by
 intro value slice pins s σ H x y v u Q I rx ry h hs;obtain⟨p,xs,i,z,rfl,rfl,hq,he,q⟩:=h;cases rx;obtain⟨t,rfl⟩:=ry;obtain⟨its,r,pl,hz⟩:=I.list hq;obtain⟨j,h1,h2,h3,h4,h5⟩:=RH he;obtain⟨w,ew,rw'⟩:=r.get h2;have hl:=r.length;have hn:=Vu;have fin:EP X pins σ Q w s:=⟨z,H,I,rw',q⟩
 by_cases h0:0<=i
 ·have hj:i.toNat=j:=by
   rw[seqIndex_of h0 h5]at h1;exact QT h1
  exact item_listR pl.isList h0 (by omega) (by rw[hj];simpa using ew) fin hs
 ·have hj:(i+(its.toArray.size:Int)).toNat=j:=by
   rw[seqIndex_neg (by omega) h4]at h1;rw[QG,←hl];exact QT h1
  exact subscriptTail_builtinR (x:=w) pl.isList.typeIs slot_list_getitem.lookup
   (wpAny_getItem_list_neg (Q:=λr s'=>r=w/\EP X pins σ Q r s') pl.isList (by omega) (by rw[List.size_toArray]<;>omega) (by omega) (by rw[hj];simpa using ew) ⟨rfl,fin⟩) hs
theorem F6:IxR X (rIxT X.K):=by
 intro value slice pins s σ H x y v u Q I rx ry h hs;obtain⟨p,xs,i,z,rfl,rfl,hq,he,q⟩:=h;cases rx;obtain⟨t,rfl⟩:=ry;obtain⟨its,r,pl,hz⟩:=I.tuple hq;obtain⟨j,h1,h2,h3,h4,h5⟩:=RH he;obtain⟨w,ew,rw'⟩:=r.get h2;have hl:=r.length;have hn:=Vu;have fin:EP X pins σ Q w s:=⟨z,H,I,rw',q⟩
 exact subscriptTail_builtinR (x:=w) pl.typeIs slot_tuple_getitem.lookup
  (getItem_tuple (j:=j) (Q:=λr s'=>r=w/\EP X pins σ Q r s') pl (by omega) (by omega) (by rw[List.size_toArray,←hl];exact h1) (by simpa using ew) ⟨rfl,fin⟩) hs
theorem F5:IxR X rIxS:=by
 intro value slice pins s σ H x y v u Q I rx ry h hs;obtain⟨z,i,c,rfl,rfl,hz,he,q⟩:=h;obtain⟨t,rfl⟩:=rx;obtain⟨t',rfl⟩:=ry;obtain⟨j,h1,h2,h3,h4,h5⟩:=RH he;have hl:z.cps.toList.length=z.length:=by simp[Str.length]
 rw[hl]at h1 h4 h5;have hn:=Vu;exact tail_any (typeIs_str s z t) slot_str_getitem.lookup (getItem_str (c:=c) (by have e1:decide (i < -(2 ^ 63:Int))=false:=QH (by omega);have e2:decide (i ≥ 2 ^ 63)=false:=QH (by omega);rw[e1,e2,Bool.or_false]) (by rw[h1];simpa using h2) ⟨.str ⟨#[c]⟩,H,I.tok _,⟨_,rfl⟩,q⟩) hs
def rIx(K:Frag):R2:=λx y H Q=>rIxL K x y H Q∨rIxT K x y H Q∨rIxS x y H Q
theorem O2:IxR X (rIx X.K):=DY.or (F6.or F5)
theorem AW(its:List Uk)(n j:Nat)(u:Uk):Obj.mapSeq (·.setIfInBounds j u) {cls:=.type "list", data:=.seq its.toArray n} = {cls:=.type "list", data:=.seq (its.set j u).toArray n}:=by simp[Obj.mapSeq]
theorem Inv.lst{pins:List (Uo×Obj)}{σ:St}{H:Hp}{s:Ul}{p:Uo}{xs:List V}(I:Inv X pins σ H s)(h:H p=some (.lst xs)) :
  ∃(its:List Uk)(n:Nat),Vals xs its/\s.heap.get? p=some {cls:=.type "list", data:=.seq its.toArray n}/\xs.length<=Ur:=by
 obtain⟨z,its,n,r,e⟩:=I.hok p _ h;exact⟨its,n,r,e,z⟩
theorem Inv.lstUpd{pins:List (Uo×Obj)}{σ:St}{H:Hp}{s:Ul}{p:Uo}{xs ys:List V}{its its':List Uk}{n n':Nat}{f:Obj->Obj}(I:Inv X pins σ H s)(h:H p=some (.lst xs))
  (ho:s.heap.get? p=some {cls:=.type "list", data:=.seq its.toArray n}) (hf:f {cls:=.type "list", data:=.seq its.toArray n} = {cls:=.type "list", data:=.seq its'.toArray n'}) (r:Vals ys its') (hz:ys.length<=Ur) (t:Nat) :
  Inv X pins σ (upd H p (.lst ys)) {s with heap:=s.heap.update p f,toks:=t}:=by
 have e:(s.heap.update p f).get? p=some {cls:=.type "list", data:=.seq its'.toArray n'}:=by rw[Heap.get?_update_self f ho (by rw[hf]<;>rfl),hf]
 refine I.write (x:=p) (e:=p) (by rw[h];trivial) (.inl rfl) (λb u hb q=>(Heap.get?_update_other _ _ (Ne.symm hb)).trans q) ⟨_,e⟩ ?_;exact⟨hz,its',n',r,e⟩
def Fl:V->V->V->Hp->(Hp->Prop)->Prop:=λo i v H Q=>∃p xs k j,o=.ref p/\i=.int k/\H p=some (.lst xs)/\ixN xs.length k=some j/\Q (upd H p (.lst (xs.set j v)))
theorem Cc:PSet X Fl:=by
 intro pins s σ H o i v ov iv u Q I ro ri rv h;obtain⟨p,xs,k,j,rfl,rfl,hp,hj,q⟩:=h;cases ro;obtain⟨t,rfl⟩:=ri;obtain⟨its,n,r,ho,hz⟩:=I.lst hp;obtain⟨h1,h2,h3,h4⟩:=P0 hj;have hl:=r.length;have hn:=Vu
 have I':Inv X pins σ (upd H p (.lst (xs.set j v))) {s with heap:=s.heap.update p (Obj.mapSeq (·.setIfInBounds j u))}:=
  I.lstUpd hp ho (AW its n j u) (r.set rv j) (by rw[Q6];exact hz) s.toks
 by_cases h0:0<=k
 ·have hk:k.toNat=j:=by
   rw[seqIndex_of h0 h4]at h1;exact QT h1
  exact PySem.W.ki_setAt ho h0 (by omega) (by rw[QG,←hl];exact h4) (by rw[hk];exact⟨_,I',q⟩)
 ·have hk:(k+(its.toArray.size:Int)).toNat=j:=by
   rw[seqIndex_neg (by omega) h3]at h1;rw[QG,←hl];exact QT h1
  exact PySem.W.ki_setBack ho (by omega) (by rw[QG,←hl];exact h3) (by omega) (by rw[hk];exact⟨_,I',q⟩)
theorem qL(lo hi:Option Int)(n:Nat):(sliceBounds lo hi none n).1=((HT.sIx n 0 lo:Nat):Int)/\(sliceBounds lo hi none n).2.1=((HT.sIx n n hi:Nat):Int)/\(sliceBounds lo hi none n).2.2=1:=by
 refine⟨?_,?_,rfl⟩
 ·cases lo with
  |none=>simp[sliceBounds,HT.sIx]
  |some i=>
   simp only[sliceBounds,HT.sIx,Option.getD_none,show(1:Int) > 0 by decide,if_true];by_cases h:i<0
   ·simp only[h,if_true]<;>omega
   ·simp only[h,if_false]<;>omega
 ·cases hi with
  |none=>simp[sliceBounds,HT.sIx]
  |some i=>
   simp only[sliceBounds,HT.sIx,Option.getD_none,show(1:Int) > 0 by decide,if_true];by_cases h:i<0
   ·simp only[h,if_true]<;>omega
   ·simp only[h,if_false]<;>omega
theorem qI(its:List Uk)(lo hi:Option Int):slicePick its.toArray lo hi none=((its.drop (HT.sIx its.length 0 lo)).take (HT.sIx its.length its.length hi-HT.sIx its.length 0 lo)).toArray:=by obtain⟨h1,h2,h3⟩:=qL lo hi its.toArray.size;unfold slicePick;rw[h1,h2,h3];simp only[sliceRange_one,pick_run,QG]<;>rfl
def rSlL(K:Frag):V->Option Int->Option Int->Hp->VK->Prop:=λx lo hi H Q=>∃a xs,x=.ref a/\SqL K H a xs/\∀p,H p=none->Q (.ref p) (upd H p (.lst (Xe xs lo hi)))
theorem DX:SlR X (rSlL X.K):=by intro pins s σ H x v vl vu lo hi sl Q I rx hs pl pu h;obtain⟨a,xs,rfl,hx,q⟩:=h;cases rx;obtain⟨its,r,ht,hz⟩:=I.list hx;have hlen:=r.length;refine⟨"list", _,slot_list_getitem.lookup,ht.isList.typeIs,?_⟩;refine wpAny_getItem_list_slice ht.isList hs pl pu .none (by simp) ?_ (by rw[List.size_toArray]<;>omega);rw[qI,←hlen];refine⟨.ref s.heap.objs.size,_,I.laid (t':=s.toks) (o:=.lst (Xe xs lo hi)) (λb ob q=>Qj _ q) (Qv _) ?_,rfl,q _ (I.hok.fresh (Qv _))⟩;exact⟨QP (qE xs lo hi) hz,_,0,(r.drop (HT.sIx xs.length 0 lo)).take (HT.sIx xs.length xs.length hi-HT.sIx xs.length 0 lo),QD _ rfl⟩
theorem Ht:YF X (.type "list") (λxs H Q=>∃p ys,xs=[.ref p]/\(SqL X.K H p ys∨SqT X.K H p ys)/\∀l,H l=none->Q (.ref l) (upd H l (.lst ys))):=by
 intro pins s σ H xs us Q I r h;obtain⟨p,ys,rfl,hq,q⟩:=h;obtain⟨u,rfl,rx⟩:=OT r;cases rx
 have fin:∀(its:List Uk),Vals ys its->ys.length<=Ur->∀(h':Heap)(c':Nat),(∀b o',s.heap.get? b=some o'->h'.get? b=some o') ->
   h'.get? s.heap.objs.size=some {cls:=.type "list", dict:=none,data:=.seq its.toArray c',slots:=#[]}->EP X pins σ Q (.ref s.heap.objs.size) {s with heap:=h'}:=λits r' hz h' c' kp e=>
  ⟨.ref s.heap.objs.size,_,I.laid (t':=s.toks) kp (Qv _) (show Yb X.prog X.w _ h' _ (.lst ys)from⟨hz,its,c',r',e⟩),rfl,q _ (I.hok.fresh (Qv _))⟩
 rcases hq with hq|hq
 ·obtain⟨its,r',pl,hz⟩:=I.list hq;have hlen:=r'.length;obtain⟨o,ho,hc,n,hd⟩:=pl.isList;exact call_list_seq p (.inl rfl) ho hc hd (λh' c' kp e=>fin its r' hz h' c' kp e) (by simp only[QG]<;>omega)
 ·obtain⟨its,r',pl,hz⟩:=I.tuple hq;have hlen:=r'.length;obtain⟨o,ho,hc,n,hd⟩:=pl;exact call_list_seq p (.inr rfl) ho hc hd (λh' c' kp e=>fin its r' hz h' c' kp e) (by simp only[QG]<;>omega)
def tyV(K:Frag)(T:String)(x:V)(H:Hp):Prop:=match x with
 |.str _=>T = "str"
 |.int _=>T = "int"
 |.ref p=>(T = "list" /\ ∃xs,SqL K H p xs)∨(T = "tuple" /\ ∃o,K.lookup p=some o/\o.cls=.type "tuple" /\ o.dict=none) ∨
   (T = "dict" /\ ((∃kvs,H p=some (.dK kvs)) ∨ ∃kvs,H p=some (.dT kvs)))∨(T = "set" /\ ∃S n,H p=some (.set S n))
 |_=>False
theorem F4{pins:List (Uo×Obj)}{σ:St}{H:Hp}{s:Ul}{T:String}{x:V}{v:Uk}(I:Inv X pins σ H s)(r:RelV x v)(ty:tyV X.K T x H) :
  s.TypeIs v T/\∀a,v=.ref a->∃ob,s.heap.get? a=some ob/\ob.dict=none:=by
 cases x with
 |str z=>obtain⟨t,rfl⟩:=r;cases (show T = "str" from ty);exact⟨typeIs_str s z t,λ_ e=>nomatch e⟩
 |int i=>obtain⟨t,rfl⟩:=r;cases (show T = "int" from ty);exact⟨typeIs_int s i t,λ_ e=>nomatch e⟩
 |ref p=>
  cases r;rcases ty with ⟨rfl,xs,hq⟩|⟨rfl,o,hk,hc,hd⟩|⟨rfl,hk⟩|⟨rfl,S,n,hk⟩
  ·obtain⟨its,_,pl,_⟩:=I.list hq;refine⟨pl.isList.typeIs,λa e=>?_⟩;cases e;obtain⟨o,n,e,c,hd,_⟩:=pl;exact⟨o,e,hd⟩
  ·refine⟨⟨o,I.kIn p o hk,hc⟩,λa e=>?_⟩;cases e;exact⟨o,I.kIn _ o hk,hd⟩
  ·have z:∃o,s.heap.get? p=some o/\o.ExactDict:=by
    rcases hk with ⟨kvs,hk⟩|⟨kvs,hk⟩
    ·obtain⟨_,_,_,_,o,_,_,e,ex,_⟩:=I.hok p _ hk;exact⟨o,e,ex⟩
    ·obtain⟨_,_,_,_,o,_,_,e,ex,_⟩:=I.hok p _ hk;exact⟨o,e,ex⟩
   obtain⟨o,e,ex⟩:=z;refine⟨⟨o,e,ex.1⟩,λa e2=>?_⟩;cases e2;exact⟨o,e,ex.2.1⟩
  ·obtain⟨o,_,_,_,e,ex,_⟩:=I.hok p _ hk;refine⟨⟨o,e,ex.1⟩,λa e2=>?_⟩;cases e2;exact⟨o,e,ex.2.1⟩
 |_=>exact False.elim ty
def tBM(K:Frag)(T:String)(r:V->List V->Hp->VK->Prop)(to:TE)(t:TA):TE:=λσ H Q=>to σ H λx H1=>tyV K T x H1/\t σ H1 λxs H2=>r x xs H2 Q
variable{o e:Uq}{es:List Uq}{to:TE}{t:TA}{name:Str}{apos cpos:Pos}{T id:String}{r:V->List V->Hp->VK->Prop}
theorem Pe(pa:PlainAttrs T)(slot:Slot T name id)(hty:typeOf (.builtin id)=pure (.type "method_descriptor"))(hm:MtR X id r)(ho:PE X o to)(ha:PA X (e::es) t)
  (hbase:attributeBase o name X.env (eval o X.env)=eval o X.env:=by rfl)
  (hfew:((backTo cpos (Ut (e::es) X.env)).all (λx=>!x.1)&&(backToKw cpos (keywordEach [] X.env)).all (λx=>x.1.isSome)
   && decide ((e::es).length+([]:List Keyword).length+(if([]:List Keyword).isEmpty then 0 else 1)<30))=true:=by rfl)
  (hline:(apos.endLine==cpos.line)=true:=by rfl) (hs:Ut (e::es) X.env=(false,eval e X.env)::Ut es X.env:=by rfl) (hplain:(backTo cpos (Ut es X.env)).any (·.1)=false:=by rfl) :
  PE X (.Call (.Attribute o name apos) (e::es) [] cpos) (tBM X.K T r to t):=by
 intro pins s σ H Q I h;refine wpAny_Call_method_late hbase hfew hline rfl (thn (ho pins s σ H _ I h) λv s1 ⟨x,H1,I1,r1,ty,q1⟩=>?_);obtain⟨h1,h2⟩:=F4 I1 r1 ty;refine⟨T,id,pa,slot,hty,h1,h2,?_⟩;have hA:=ha cpos pins s1 σ H1 _ I1 q1;rw[hs]at hA⊢;refine Calls.callWith_builtin (by show(false || (backTo cpos (Ut es X.env)).any (·.1))=false;rw[hplain]<;>rfl) (Calls.evalArgs_plain ?_);exact thn hA λus s2 ⟨vs,H2,I2,r2,q2⟩=>hm pins s2 σ H2 x vs v us Q I2 r1 r2 q2
end
def MtM(X:Cx)(id:String)(r:V->List V->Hp->VK->Prop):Prop:=
 ∀(pins:List (Uo×Obj))(s:Ul)(σ:St)(H:Hp)(x:V)(xs:List V)(v:Uk)(us:List Uk)(Q:VK),Inv X pins σ H s->RelV x v->Vals xs us->r x xs H Q ->
  Us (model X.prog X.w) X.A (call (.builtin id) (v::us)) (EP X pins σ Q) X.xe s
theorem Vals.one:∀{x:V}{us:List Uk},Vals [x] us->∃u,us=[u]/\RelV x u
 |_,_,.cons r .nil=>⟨_,rfl,r⟩
theorem Vals.two:∀{x y:V}{us:List Uk},Vals [x,y] us->∃u v,us=[u,v]/\RelV x u/\RelV y v
 |_,_,_,.cons r (.cons q .nil)=>⟨_,_,rfl,r,q⟩
theorem Vals.reverse{xs:List V}{us:List Uk}(h:Vals xs us):Vals xs.reverse us.reverse:=by
 induction h with
 |nil=>exact .nil
 |cons r t ih=>rw[List.reverse_cons,List.reverse_cons];exact Vals.append ih (.cons r .nil)
theorem Vals.rep{xs:List V}{us:List Uk}(h:Vals xs us):∀k:Nat,Vals (Uw k xs).flatten (Uw k us).flatten
 |0=>.nil
 |k+1=>by rw[QX,QX,QM,QM];exact Vals.append h (Vals.rep h k)
theorem LD(its:List Uk):∀(k:Nat)(acc:List Uk),
  List.foldl (λx1 x2=>x1++x2) acc.toArray (Uw k its.toArray)=(acc++(Uw k its).flatten).toArray
 |0,acc=>by simp
 |k+1,acc=>by
  have e:acc.toArray++its.toArray=(acc++its).toArray:=by simp
  have e2:(acc++its)++(Uw k its).flatten=acc++(Uw (k+1) its).flatten:=by rw[QX,QM,Jk]
  rw[←e2,←LD its k (acc++its),←e,QX,JZ]
section
variable{X:Cx}{pins:List (Uo×Obj)}{σ:St}{H:Hp}{s:Ul}{l b:Uo}{xs ys zs:List V}
theorem Inv.lset{its its':List Uk}{n:Nat}{f:Array Uk->Array Uk}{t':Nat}(I:Inv X pins σ H s)(hH:H l=some (.lst xs))
  (e:s.heap.get? l=some {cls:=.type "list", data:=.seq its.toArray n}) (hf:f its.toArray=its'.toArray) (hv:Vals ys its') (hz:ys.length<=Ur) :
  Inv X pins σ (upd H l (.lst ys)) {s with heap:=s.heap.update l (Obj.mapSeq f),toks:=t'}:=by
 have q:=PySem.IsL.update e f;rw[hf]at q;refine I.write (x:=l) (e:=l) (by rw[hH];exact trivial) (.inl rfl) (λb' u hb hu=>(Heap.get?_update_other s.heap (Obj.mapSeq f) (Ne.symm hb)).trans hu) ⟨_,q⟩ ?_;exact⟨hz,its',_,hv,q⟩
theorem Inv.lnew{its:List Uk}{t':Nat}(I:Inv X pins σ H s)(hv:Vals ys its)(hz:ys.length<=Ur) :
  Inv X pins σ (upd H s.heap.objs.size (.lst ys)) {s with heap:=s.heap.push {cls:=.type "list", data:=.seq its.toArray},toks:=t'}:=
 I.laid (λ_ _ q=>Qj _ q) (Qv _) ⟨hz,its,0,hv,QD _ rfl⟩
theorem Inv.fresh(I:Inv X pins σ H s):H s.heap.objs.size=none:=I.hok.fresh (Qv _)
theorem Inv.lstM(I:Inv X pins σ H s)(hH:H l=some (.lst xs)):xs.length<=Ur/\∃(its:List Uk)(n:Nat),Vals xs its/\xs.length=its.length/\s.heap.get? l=some {cls:=.type "list", data:=.seq its.toArray n}:=by obtain⟨z,its,n,r,e⟩:=I.hok l _ hH;exact⟨z,its,n,r,r.length,e⟩
theorem Cb{n:Nat}(h:n<=Ur):Builtin.List.listTooLong n=false:=by unfold Builtin.List.listTooLong;exact QH (by omega)
end
section
variable{X:Cx}
def DW:V->List V->Hp->VK->Prop:=λx vs H Q=>∃l xs y,x=.ref l/\vs=[y]/\H l=some (.lst xs)/\xs.length<Ur/\Q .non (upd H l (.lst (xs++[y])))
theorem LC:MtM X "list.append" DW:=by intro pins s σ H x vs v us Q I rx rv h;obtain⟨l,xs,y,rfl,rfl,hH,hz,q⟩:=h;cases rx;obtain⟨u,rfl,ru⟩:=rv.one;obtain⟨z,its,n,r,hl,e⟩:=I.lstM hH;refine call_meets F.slot_list_append ⟨_,e,rfl⟩ F.entry_list_append (F.args_list_append_2 _ _) (PySem.list_append l its.toArray n u (by rw[QG];omega)) ⟨e,?_⟩;refine⟨.non,_,I.lset (its':=its++[u]) hH e (by simp) (r.append (.cons ru .nil)) ?_,rfl,q⟩;rw[Ql,Jh];omega
theorem DV{α:Type}(xs:List α)(k:Nat):(Uw k xs).flatten.length=k*xs.length:=by
 induction k with
 |zero=>simp
 |succ k ih=>rw[QX,QM,Ql,ih,Nat.succ_mul,Nat.add_comm]
end
section
variable{prog:Um}{w:World}{A:Around}{E:Uk->Ul->Prop}{s:Ul}
set_option maxRecDepth 100000 in
end
section
variable{X:Cx}
end
end L2
namespace Att
open PySem PySem.W PySem.Calls PyProof.Rows
theorem q8{P:Params}{h:Heap}:∀(ns:List Int)(vs:List Uk),WellAll P h vs (ns.map WData.int)->IntsAre vs ns:=by
 intro ns;induction ns with
 |nil=>intro vs w;rw[JJ]at w;cases w;exact .nil
 |cons n ns ih=>
  intro vs w;rw[Qx]at w;cases w with
  |cons a b=>cases a;exact .cons _ _ (ih _ b)
theorem AD{l:OpenLaw}{n:Nat}(hn:l.most=some n){P:Params}{h:Heap}{args:List WData}{vals:List Uk}
  (hpre:l.row.toRowW.claim.pre args=true) (hwl:WellAll P h vals args) :
  ∃a vs ns,vals=[Value.ref a]/\args=[WData.list (ns.map WData.int)]/\h.get? a=some {cls:=.type "list", data:=.seq vs.toArray}/\IntsAre vs ns/\ns.length<=n:=by
 have hsh:WShape.hasAll [] args [.list .int]=true:=(pre_splitW hpre).1;have hc:l.pre.holds [] {args:=args}=true:=(pre_splitW hpre).2;obtain⟨d,r,rfl,h1,h2⟩:=hasAllW_cons hsh;obtain rfl:=hasAllW_nil h2;obtain⟨xs,rfl,h3⟩:=hasW_list h1;obtain⟨ns,rfl⟩:=items_int h3
 have hlen:ns.length<=n:=by
  unfold OpenLaw.pre at hc;have h4:(WTm.not (.lt (.lit (.int (n:Int))) (.len (.arg 0)))).holds [] {args:=[.list (ns.map .int)]}=true:=by have h4:=(holds_andW hc).1;rw[hn]at h4;exact h4
  have h5:=condW_of h4 (w_not (w_lt w_lit (w_len_list (w_arg rfl))));rw[Qb]at h5;refine Jb λq=>?_;have q':(n:Int)<((ns.length:Nat):Int):=by omega
  first
   |(rw[Q7 q']at h5;exact absurd h5 (by decide))
   |(simp at h5;omega)
 cases hwl with
 |cons w1 w2=>
  cases w2;cases w1 with
  |list ho hall=>exact⟨_,_,ns,rfl,rfl,ho,q8 ns _ hall,hlen⟩
theorem AC(l:OpenLaw)(args:List WData):l.row.toRowW.claim.post args (.bool true) args=true:=
 postW_of (r:=l.row.toRowW) (X:=(true==true))
  (show WShape.has [] (.bool true) .bool=true by first|rfl|decide|simp[WShape.has,WShape.arms,WShape.armsAll])
  (show(WTm.eq .res (.lit (.bool true))).value [] {args:=args,res:=some (.bool true),after:=args}=some (.bool (true==true))from w_eq_bool (w_res rfl) w_lit) rfl
theorem attach_call{l:OpenLaw}{n:Nat}{q:Um}{loose:List Str}{XP:(Str->Option Uk)->Heap->Prop}{YP:World->Heap->Prop}{d:DefRec}
  (hn:l.most=some n) (hdf:d.params.defaults=[])
  (call:∀(w:World)(s₀ s₁:Ul)(mg mb:Str->Option Uk)(fa:Uo)(o:Obj)(pm cd doc:Uk)(a:Uo)(vs:List Uk)(ns:List Int),
   Ground q loose [] XP w s₀ mg mb s₁.heap->YP w s₁.heap ->
   s₁.heap.get? fa=some o->o.data=.func (docDef d.name d.params d.body d.scope pm cd doc)->s₁.heap.CodeRec cd d.name->mg d.name=some (.ref fa) ->
   s₁.heap.get? a=some {cls:=.type "list", data:=.seq vs.toArray}->IntsAre vs ns->ns.length<=n->s₁.gens=#[] ->
   codeAny (model l.prog w) callerA (.call (.ref fa) ⟨[.ref a],[]⟩) (λr s'=>r=.ok (.ret (.bool true))/\OldK s₁.heap s'.heap/\s'.os=s₁.os/\AllBare s'.gens) s₁) :
  WalkO q loose XP YP l.row.toRowW d [] (λf vs=>PySem.call f vs):=by
 intro w s₀ s₁ mg mb G Y fa o pm cd doc dV kV ho hd hcd hD hmg hg args vals as hpre hlay hrd hwl hlo;obtain rfl:dV=.none:=Dflts.none hD hdf;obtain rfl:kV=.none:=Dflts.noKw hD;obtain⟨a,vs,ns,rfl,rfl,hobj,hints,hlen⟩:=AD hn hpre hwl;refine enter_call (codeAny_mono (call w s₀ s₁ mg mb fa o pm cd doc a vs ns G Y ho (fd_plain hd) hcd hmg hobj hints hlen hg) λr s' hq=>?_);obtain⟨rfl,h2,h3,h4⟩:=hq;exact⟨.inl ⟨.bool true,.bool true,[],rfl,λ_=>rfl,.bool true,AC l _,λ_=>⟨List.Pairwise.nil,λ_ hm=>(nomatch hm)⟩⟩,h2,h3,h4⟩
section
variable{prog:Um}{w:World}{A:Around}{E:Uk->Ul->Prop}{s:Ul}{K:Frag}
end
end Att
namespace L2
open PySem PySem.Spec PyProof.Rows
theorem Vk:∀{vs:List Uk}{ns:List Int},IntsAre vs ns->Vals (ns.map V.int) vs
 |_,_,.nil=>.nil
 |_,_,.cons n t h=>.cons ⟨t,rfl⟩ (Vk h)
def Only(H:Hp):Prop:=∀b,H b=none ∨ ∃o xs,H b=some (.frz o (.lst xs))
theorem Ca{P:Um}{w:World}{K:Frag}{mg mb:Str->Option Uk}{CX:CXT}{k:Nat}{fa a:Uo}{fd:Up}{x:Str}{sp:Sp}{s₁:Ul}{vs:List Uk}{ns:List Int}
  (KX:K.In s₁.heap) (hns:s₁.heap.Ns mainGlobals mg) (hb:s₁.heap.Ns builtinsNs mb) (hbb:∀x:Str,x ≠ "__name__" -> mb x=bootBuiltins x) (hlim:s₁.heap.NoLimit) (hg:s₁.gens=#[])
  (ha:s₁.heap.get? a=some {cls:=.type "list", data:=.seq vs.toArray}) (hi:IntsAre vs ns) (hl:ns.length<=Ur) (hr:Room k callerA)
  (F:∀base:Heap,K.In base->base.Ns mainGlobals mg->FnOk P w K mg base CX k fa fd [x] sp) (hbind:∀(s:Ul)(u:Uk),BindsTo s fd ⟨[u],[]⟩ [(x,u)])
  (hsp:∀H:Hp,Only H->SqL K H a (ns.map V.int)->sp [.ref a] H (λv _=>v=.bl true) λ_ _ _=>False)
  (hCX:∀H e s',CX [] H s₁ (λ_ _ _=>False) e s'->False) :
  codeAny (model P w) callerA (.call (.ref fa) ⟨[.ref a],[]⟩) (λr s'=>r=.ok (.ret (.bool true))/\OldK s₁.heap s'.heap/\s'.os=s₁.os/\AllBare s'.gens) s₁:=by
 have rv:=Vk hi;have lenV:=hi.length
 have core:∀H:Hp,Only H->SqL K H a (ns.map V.int)->HOk P w H s₁.heap->(∀b,H b≠none->b=a)->(H a≠none->K.lookup a=none) ->
   codeAny (model P w) callerA (.call (.ref fa) ⟨[.ref a],[]⟩) (λr s'=>r=.ok (.ret (.bool true))/\OldK s₁.heap s'.heap/\s'.os=s₁.os/\AllBare s'.gens) s₁:=by
  intro H hO hS hok hA hK;have base_of:∀{b:Uo}{o:Obj},s₁.heap.get? b=some o->H b=none->(Ys s₁.heap H).get? b=some o:=λe n=>Bp e n
  have noA:∀{b:Uo}{o:Obj}{es:Array DictEntry}{ep:Nat},s₁.heap.get? b=some o->o.data=.dict es ep->H b=none:=λ{b o es ep} e d=>by
   cases q:H b with
   |none=>rfl
   |some u=>have e':b=a:=hA b (by rw[q];simp);subst e';rw[ha]at e;cases e;have d':Data.seq vs.toArray _=Data.dict es ep:=d;cases d'
  have nsK:∀{b:Uo}{m:Str->Option Uk},s₁.heap.Ns b m->(Ys s₁.heap H).Ns b m:=λ{b m} ⟨o,es,ep,e,d,r⟩=>⟨o,es,ep,base_of e (noA e d),d,r⟩
  have hKb:K.In (Ys s₁.heap H):=λb o e=>base_of (KX b o e) (by
   cases q:H b with
   |none=>rfl
   |some u=>have e':b=a:=hA b (by rw[q];simp);subst e';rw[hK (by rw[q];simp)]at e;cases e)
  have hM:Mod K mg (Ys s₁.heap H):=⟨hKb,nsK hns,⟨mb,nsK hb,hbb⟩,let ⟨mc,h1,h2⟩:=hlim;⟨mc,nsK h1,h2⟩⟩
  have e0:Env0 P w K mg (Ys s₁.heap H) callerA [] s₁ H:=⟨rfl,hM,λb o e=>DP e,Nat.le_of_eq (Aa _ _),trivial,λb hb=>absurd (show b∈([]:List Uo)from hb) (by simp),hok,.of_eq hg⟩
  refine codeAny_mono ((F _ hKb (nsK hns)).run callerA [] s₁ H ⟨[.ref a],[]⟩ [.ref a] [.ref a] _ _ hr e0 (hbind s₁ (.ref a)) (.cons rfl .nil) (hsp H hO hS)) λr s' h=>?_
  cases r with
  |error e=>exact(hCX H e s' h).elim
  |ok fl=>
   cases fl with
   |next=>exact False.elim h
   |brk=>exact False.elim h
   |cont=>exact False.elim h
   |ret u=>
    obtain⟨v,H',os,bare,un,hok',r',q⟩:=h;have q':v=.bl true:=q;subst q';obtain rfl:u=Value.bool true:=r';refine⟨rfl,OldK.of_keep λb o e=>?_,os,bare⟩;cases q:H b with
    |none=>exact un.keep b o e q (by intro z;exact absurd (show b∈([]:List Uo)from z) (by simp)) (by simp)
    |some u=>
     rcases hO b with z|⟨ob,xs,z⟩
     ·rw[q]at z;cases z
     ·have z2:=un.frzs b ob _ z;obtain⟨e1,_⟩:=hok b _ z;obtain⟨e2,_⟩:=hok' b _ z2;rw[e]at e1;cases e1;exact e2
 cases hk:K.lookup a with
 |some o=>have e:=KX a o hk;rw[ha]at e;cases e;refine core (λ_=>none) (λ_=>.inl rfl) (.inr ⟨_,vs.toArray,_,hk,rfl,rfl,rfl,by rw[List.size_toArray,lenV];exact hl,by simpa using rv⟩) (λb u z=>by have z':(none:Option HO)=some u:=z;cases z') (λb z=>absurd rfl z) λz=>absurd rfl z
 |none=>
  refine core (λb=>if b=a then some (.frz {cls:=.type "list", data:=.seq vs.toArray} (.lst (ns.map V.int)))else none) (λb=>?_) (.inl (.inr ⟨{cls:=.type "list", data:=.seq vs.toArray},Qm rfl⟩)) (λb u z=>?_) (λb z=>?_) λ_=>hk
  ·by_cases hb:b=a
   ·exact .inr ⟨_,_,Qm hb⟩
   ·exact .inl (Qu hb)
  ·by_cases hb:b=a
   ·have z':=(Qm hb).symm.trans z;cases z';subst hb;exact⟨ha,by rw[Qb];exact hl,vs,_,rv,ha⟩
   ·have z':=(Qu hb).symm.trans z;cases z'
  ·by_cases hb:b=a
   ·exact hb
   ·exact absurd (Qu hb) z
def Sb(s:Stmt):Arguments:=match s with
 |.FunctionDef _ a _ _ _ _ _ _ _ _=>a
 |_=>{posonlyargs:=[],args:=[],vararg:=none,kwonlyargs:=[],kw_defaults:=[],kwarg:=none,defaults:=[]}
def Vd(s:Stmt):List Stmt:=match s with
 |.FunctionDef _ _ b _ _ _ _ _ _ _=>b
 |_=>[]
def ZM(s:Stmt):Scope:=match s with
 |.FunctionDef _ _ _ _ _ _ sc _ _ _=>sc
 |_=>{kind:=.function,names:=[],isGenerator:=false,isCoroutine:=false}
abbrev CX0:CXT:=λ_ _ _ _ _ _=>False
abbrev E0:XK:=λ_ _ _=>False
theorem Fk{X:Cx}:Pm CX0 X E0:=λ_ _ _ _ _ _ _ h=>h.elim
structure Fun(K:Frag)(x qual:Str)(st:Stmt)(f:Uo)(fd:Up):Prop where
 ex:∃(oc:Uk)(od:Option Uo)(kV doc pm:Uk)(an:Option Uo)(cdv ct:Uk)(osl:Array (Option Uk)),
  fd=PySem.W.fnOf x qual (Sb st) (Vd st) (ZM st) .none kV doc pm an cdv ct/\K.lookup f=some ⟨oc,od,.func fd,osl⟩/\PySem.W.codeIn K cdv qual=true
 kp:PySem.W.keepIn K (.ref f)=true
section
variable{P:Um}{w:World}{K:Frag}{mg:Str->Option Uk}{base:Heap}
theorem Fun.ok{x qual:Str}{st:Stmt}{f:Uo}{fd:Up}{N ps:List Str}{k:Nat}{sp:Sp}(F:Fun K x qual st f fd)(S:SU N ps (ZM st))(len:∀vs H Q E,sp vs H Q E->vs.length=ps.length)
  (hbody:∀(cdv:Uk)(A:Around)(outer:List Env)(s:Ul)(H:Hp)(vs:List V)(Q:VK)(E:XK),Room k (A.deeper (envOfC qual (ZM st) s.heap.objs.size f cdv))->sp vs H Q E ->
   ∃t,PSs (YJ CX0 P w K mg base N qual (ZM st) f cdv A outer s H E).nox (Vd st) t/\t {nx:=λ_ H'=>Q .non H',rt:=Q} (Xx N vs) H):FnOk P w K mg base CX0 (k+1) f fd ps sp:=by
 obtain⟨oc,od,kV,doc,pm,an,cdv,ct,osl,rfl,lk,hcd⟩:=F.ex;refine Fn lk hcd S len λA outer s H vs Q E hr hsp=>?_
 obtain⟨t,h,q⟩:=hbody cdv A outer s H vs Q E hr hsp;exact⟨t,h.nox,q⟩
theorem Fun.binds{x qual:Str}{st:Stmt}{f:Uo}{fd:Up}{ps:List Str}(F:Fun K x qual st f fd)
  (h:∀(kV doc pm:Uk)(an:Option Uo)(cdv ct:Uk)(us:List Uk),us.length=ps.length->bindArgs (PySem.W.fnOf x qual (Sb st) (Vd st) (ZM st) .none kV doc pm an cdv ct) ⟨us,[]⟩=pure (ps.zip us)):WZ K fd ps []:=by
 obtain⟨oc,od,kV,doc,pm,an,cdv,ct,osl,rfl,lk,hcd⟩:=F.ex;exact .all (h kV doc pm an cdv ct)
end
section
variable{X:Cx}
end
def Same(H H':Hp):Prop:=∀b o,H b=some o->H' b=some o
theorem Same.refl(H:Hp):Same H H:=λ_ _ h=>h
theorem Same.trans{H H1 H2:Hp}(a:Same H H1)(b:Same H1 H2):Same H H2:=λc o h=>b c o (a c o h)
theorem Same.free{H H':Hp}(e:Same H H'){l:Uo}(h:H' l=Option.none):H l=Option.none:=by
 cases q:H l with
 |none=>rfl
 |some o=>rw[e l o q]at h;cases h
theorem Same.seq{K:Frag}{H H':Hp}{a:Uo}{xs:List V}(e:Same H H')(h:SqL K H a xs):SqL K H' a xs:=by
 rcases h with (h|⟨o,h⟩)|h
 ·exact .inl (.inl (e _ _ h))
 ·exact .inl (.inr ⟨o,e _ _ h⟩)
 ·exact .inr h
section
variable{X:Cx}{pins:List (Uo×Obj)}{σ:St}{H:Hp}{s:Ul}{h':Heap}
theorem Inv.turnedNew{t':Nat}{fp:List Uo}{p:Uo}{o:HO}(I:Inv X pins σ H s)(hf:∀b∈fp,Zn X pins H b)
  (k:∀b o,b∉fp->s.heap.get? b=some o->h'.get? b=some o) (hp:s.heap.objs.size<=p) (new:Yb X.prog X.w (upd H p o) h' p o) :
  Inv X pins σ (upd H p o) {s with heap:=h',toks:=t'}:=by
 have hn:H p=none:=I.hok.fresh hp;have trk:∀b u,H b=some u->b∉fp:=λb u e z=>by rw[(hf b z).1]at e;cases e
 refine I.step (g':=s.gens) (d':=s.drawn) (ch:=fp) (λb hb=>?_) (λb o _ _ hc e _=>k b o hc e) (λb o _ _ hc e _=>⟨o.slots,k b o hc e⟩)
  (λb o _ e n=>by rw[KY (QL (QE (Qi e) hp))];exact n) (λb o hc e=>⟨o,k b o hc e⟩)
  (λb xs e=>by rw[KY (YV e hn)];exact e) (λb ob u e=>by rw[KY (YV e hn)];exact e) (λb ps e=>⟨#[],by rw[KY (YV e hn),e];simp⟩)
  (λm hm=>?_) (λb u e=>?_) I.bare
 ·obtain⟨_,f1,_,f3,f4,f5⟩:=hf b hb;exact⟨f3,f1,f4,f5⟩
 ·obtain⟨ob,es,ep,ho,r⟩:=hm;exact⟨ob,es,ep,k _ ob (λz=>(hf _ z).2.1 rfl) ho,r⟩
 ·by_cases hb:b=p
  ·subst hb;rw[Zu]at e;cases e;exact new
  ·rw[KY hb]at e;refine(I.hok b u e).stay (λc v hc q=>k c v ?_ q) (λc q=>by rw[KY (YV q hn)];exact q) λc xs q=>by rw[KY (YV q hn)];exact q
   rcases hc with z|z
   ·rw[z];exact trk b u e
   ·exact trk c _ z
theorem Inv.turnedL{t':Nat}{fp:List Uo}(I:Inv X pins σ H s)(hf:∀b∈fp,Zn X pins H b)
  (k:∀b o,b∉fp->s.heap.get? b=some o->h'.get? b=some o):Inv X pins σ H {s with heap:=h',toks:=t'}:=by
 have trk:∀b u,H b=some u->b∉fp:=λb u e z=>by rw[(hf b z).1]at e;cases e
 refine I.step (g':=s.gens) (d':=s.drawn) (ch:=fp) (λb hb=>?_) (λb o _ _ hc e _=>k b o hc e) (λb o _ _ hc e _=>⟨o.slots,k b o hc e⟩)
  (λ_ _ _ _ n=>n) (λb o hc e=>⟨o,k b o hc e⟩) (λ_ _ e=>e) (λ_ _ _ e=>e) (λb ps e=>⟨#[],by rw[e];simp⟩) (λm hm=>?_) (λb u e=>?_) I.bare
 ·obtain⟨_,f1,_,f3,f4,f5⟩:=hf b hb;exact⟨f3,f1,f4,f5⟩
 ·obtain⟨ob,es,ep,ho,r⟩:=hm;exact⟨ob,es,ep,k _ ob (λz=>(hf _ z).2.1 rfl) ho,r⟩
 ·refine(I.hok b u e).stay (λc v hc q=>k c v ?_ q) (λc q=>q) λc xs q=>q
  rcases hc with z|z
  ·rw[z];exact trk b u e
  ·exact trk c _ z
end
def Ite(K:Frag)(a:Uo):It:=
 ⟨λi H=>∃xs x,SqL K H a xs/\xs[i]?=some x,
  λi H v H'=>∃p x,H p=none/\v=.ref p/\(∀xs,SqL K H a xs->xs[i]?=some x)/\H'=upd H p (.tup [.int i,x]),
  λi H=>∃xs,SqL K H a xs/\xs.length<=i⟩
theorem AB{P:Um}{w:World}{K:Frag}{elts:List Uq}{x1}{tp:Pos}(a e it:Uo)(hne:e≠it) :
  Turn P w K (.Tuple elts x1 tp) (Ite K a) [e,it] e (λi h=>(∃old,IsEnum h e it i old)/\h.IsListIter it a i) where
 mem:=by simp
 obj:=λi h st b hb=>by
  obtain⟨⟨old,he⟩,o,ho,c,d⟩:=st;have hb':b=e∨b=it:=by simpa using hb
  rcases hb' with rfl|rfl
  ·exact⟨_,he,λv z=>by have z':Data.fields _=Data.cell v:=z;cases z'⟩
  ·exact⟨o,ho,λv z=>by rw[d]at z;cases z⟩
 keep:=λi h h' st k=>by obtain⟨⟨old,he⟩,hi⟩:=st;exact⟨⟨old,k e (by simp) _ he⟩,hi.at λo q=>k it (by simp) o q⟩
 item:=by
  intro X hP hw hK hc i pins s σ H E I hf st hg;subst hP hw hK;obtain⟨⟨old,he⟩,hi⟩:=st;obtain⟨xs,x,hq,hx⟩:=hg;obtain⟨its,rv,p,hz⟩:=I.list hq;obtain⟨u,hu,ru⟩:=rv.get hx;refine wpAny_pyNext_enum_item he hi p.isList (x:=u) (by simpa using hu) hne λh1 out hi1 ht hsz kk=>?_
  refine⟨_,rfl,wpAny_letOwnedTupleGo_enum out λh2 he2 hs2=>?_⟩;have hel:e<s.heap.objs.size:=Qi he;have hs2':Heap.SameBut e h1 h2:=hs2;have ht2:h2.get? s.heap.objs.size=some {cls:=.type "tuple", data:=.seq #[.int i s.toks,u]}:=(hs2'.2 _ (JO hel)).trans ht
  have kk2:∀b o,b∉[e,it]->s.heap.get? b=some o->h2.get? b=some o:=λb o hb q=>by
   have hbe:b≠e:=λz=>hb (by simp[z])
   have hbi:b≠it:=λz=>hb (by simp[z])
   exact(hs2'.2 b hbe).trans (kk b o hbe hbi q)
  have hn:H s.heap.objs.size=none:=I.hok.fresh (Qv _)
  have I2:Inv X pins σ (upd H s.heap.objs.size (.tup [.int i,x])) {s with heap:=h2,toks:=s.toks+1}:=
   I.turnedNew (fp:=[e,it]) hf kk2 (Qv _) ⟨by show 2<=Ur;decide,[.int i s.toks,u],.cons ⟨_,rfl⟩ (.cons ru .nil),⟨_,ht2,rfl,_,rfl⟩⟩
  refine⟨.ref s.heap.objs.size,_,I2,rfl,⟨_,x,hn,rfl,λys hy=>by rw[I.list_inj hy hq];exact hx,rfl⟩,⟨⟨u,?_⟩,?_⟩,λb hb=>?_⟩
  ·have:=he2;simpa using this
  ·have hi2:h2.IsListIter it a (i+1):=hi1.at λo q=>(hs2'.2 it (Ne.symm hne)).trans q
   exact hi2
  ·have fr:=(hf b hb)
   have hlt:b<s.heap.objs.size:=by
    have hb':b=e∨b=it:=by simpa using hb
    rcases hb' with rfl|rfl
    ·exact hel
    ·obtain⟨o,ho,_⟩:=hi;exact Qi ho
   rw[KY (QL hlt)];exact fr.1
 done:=by intro X hP hw hK hc i pins s σ H E I hf st hg;subst hP hw hK;obtain⟨⟨old,he⟩,hi⟩:=st;obtain⟨xs,hq,hx⟩:=hg;obtain⟨its,rv,p,hz⟩:=I.list hq;have hl:=rv.length;exact wpAny_pyNext_enum_end (I.ok.hd hc) he hi p.isList (by simp;omega) λh' eb=>⟨rfl,I.turnedL (t':=s.toks) hf λb o hb q=>eb b o (λz=>hb (by simp[z])) q⟩
 self:=λ_ _ _ _ _ st h=>by obtain⟨⟨old,he⟩,_⟩:=st;exact wpAny_pyIter_enum he h
section
variable{X:Cx}
def HZ(K:Frag)(ta:TA):TI:=λσ H R=>ta σ H λvs H1=>∃a xs,vs=[.ref a]/\SqL K H1 a xs/\R (Ite K a) H1
theorem DU{a:Uq}{ta:TA}{p pos:Pos}{elts:List Uq}{x1}{tp:Pos}(hg:Gl X "enumerate")(hm:X.mg "enumerate" = none)(ha:PA X [a] ta)
  (hs:Ut [a] X.env=[(false,eval a X.env)]:=by rfl):PI X (.Tuple elts x1 tp) (.Call (.Name "enumerate" p) [a] [] pos) (HZ X.K ta):=by
 intro pins s σ H R I h;refine Call_ (W7 I hg hm boot_enumerate (Jx (thn (ha pos pins s σ H _ I h) λus s1 ⟨vs,H1,I1,r1,q1⟩=>?_) hs rfl));obtain⟨l,xs,e,hq,q⟩:=q1;subst e;cases r1 with
 |cons r rr=>
  cases rr;cases (show _=Value.ref l from r);obtain⟨its,rv,pl,hz⟩:=I1.list hq;refine call_enumerate_list pl.isList λh' he hi hsz kk=>?_;have I2:Inv X pins σ H1 {s1 with heap:=h'}:=I1.kept (t':=s1.toks) kk;refine wpAny_pyIter_enum he ?_
  refine⟨s1.heap.objs.size+1,[s1.heap.objs.size+1,s1.heap.objs.size],_,_,H1,rfl,I2,AB l _ _ (Nat.succ_ne_self _),⟨⟨_,he⟩,hi⟩,λb hb=>?_,q⟩;have hb':b=s1.heap.objs.size+1∨b=s1.heap.objs.size:=by simpa using hb
  rcases hb' with rfl|rfl
  ·exact I1.fpOk (JV _) (I1.hok.fresh (JV _))
  ·exact I1.fpOk (Qv _) (I1.hok.fresh (Qv _))
end
section
variable{κ:Type}[DecidableEq κ]
end
section
variable{P:Um}{w:World}{H:Hp}{h:Heap}{a:Uo}
end
section
variable{X:Cx}{pins:List (Uo×Obj)}{σ:St}{H:Hp}{s:Ul}{a:Uo}{y v:V}{u r:Uk}{o:Option V}{A:Around}{E:Uk->Ul->Prop}
end
section
variable{X:Cx}{pins:List (Uo×Obj)}{σ:St}{H:Hp}{s:Ul}{a:Uo}{kvs:List (Key×V)}{k:Key}{u:Uk}{A:Around}{E:Uk->Ul->Prop}
end
section
variable{X:Cx}{o i e value:Uq}{pos pos' tpos:Pos}{td ty tv:TE}
end
section
variable{X:Cx}{pos:Pos}
end
end L2
namespace L2
open PySem PySem.Spec
def YL(bmB bm:List Uk):Prop:=∀(X:String)(b:Bool),bmB.contains (.type X)=b->bm.contains (.type X)=b
section
variable{prog:Um}{w:World}{A:Around}{E:Uk->Ul->Prop}{h:Heap}{g:Array GenState}{d:Drawn}{t:Nat}{os:OsState}{R:Result->Ul->Prop}
variable{nm q:Str}{C N:Uo}{bs bm bmB:List Uk}{hdct:Bool}{sn:List Str}{sub:List Uk}{ab:Bool}{col:Option Bool}{dd:Option Uo}{k0 k1 k2 k3 k5:Option Uk}{B newId initId:String}
end
def Z9(M:Model)(C:Uo)(name:Str)(r:Option Uk)(h:Heap):Prop:=∀(A:Around)(E:Uk->Ul->Prop)(Q:Option Uk->Ul->Prop)(h':Heap)(g:Array GenState)(d:Drawn)(t:Nat)(os:OsState),
 (∀b o,h.get? b=some o->h'.get? b=some o)->Q r ⟨h',g,d,t,os⟩->Us M A (typeLookup (.ref C) name) Q E ⟨h',g,d,t,os⟩
theorem Z9.keeps{M:Model}{C:Uo}{name:Str}{r:Option Uk}{h h':Heap}(x:Z9 M C name r h)(k:∀b o,h.get? b=some o->h'.get? b=some o):Z9 M C name r h':=
 λA E Q h2 g d t os k2 q=>x A E Q h2 g d t os (λb o e=>k2 b o (k b o e)) q
theorem Z9.at{M:Model}{A:Around}{E:Uk->Ul->Prop}{Q:Option Uk->Ul->Prop}{C:Uo}{name:Str}{r:Option Uk}{h:Heap}{g:Array GenState}{d:Drawn}{t:Nat}{os:OsState}(x:Z9 M C name r h)(q:Q r ⟨h,g,d,t,os⟩):Us M A (typeLookup (.ref C) name) Q E ⟨h,g,d,t,os⟩:=
 x A E Q h g d t os (λ_ _ e=>e) q
section
variable{prog:Um}{w:World}{A:Around}{E:Uk->Ul->Prop}{h:Heap}{g:Array GenState}{d:Drawn}{t:Nat}{os:OsState}{R:Result->Ul->Prop}
variable{nm q:Str}{C N x:Uo}{bs bm bmB:List Uk}{hdct:Bool}{sn:List Str}{sub:List Uk}{ab:Bool}{col:Option Bool}{dd:Option Uo}{k0 k1 k2 k3 k5:Option Uk}{B newId sa owner:String}{mN mA:Str->Option Uk}{name:Str}{v:Uk}
theorem AA{M:Model}{o:Obj}{nameV:Uk}{Q:Unit->Ul->Prop}(T:YL bmB bm)(hb:bmB.contains (.type "BaseException")=true)(hC:h.get? C=some (excClassObj nm q C N bs bm hdct sn sub ab col dd k0 k1 k2 k3 k5 newId))
  (hx:h.get? x=some o) (hc:o.cls=.ref C) (hq:Q () ⟨h,g,d,t,os⟩):Us M A (checkBuiltinCall "BaseException.__getattribute__" ⟨[.ref x,nameV],[]⟩) Q E ⟨h,g,d,t,os⟩:=by
 have hk:builtinKind "BaseException.__getattribute__" = some .slot:=by decide +kernel
 have hsplit:splitId "BaseException.__getattribute__" = some ("BaseException", "__getattribute__"):=by decide +kernel
 have hcB:(Value.ref C::bm).contains (.type "BaseException")=true:=by rw[List.contains_cons,T _ _ hb];rfl
 have ha:=PySem.F.args_bexc_ga (.ref x) nameV;simp only[checkBuiltinCall,hk,hsplit];refine Qf ?_
 ·unfold isInstance
  repeat (first|(with_reducible refine QJ hx ?_;rw[hc])|(with_reducible refine Jp hC ?_;rw[hcB])|wp_step)
  exact hq
end
section
variable{M:Model}{A:Around}{E:Uk->Ul->Prop}{s:Ul}{base:Heap}{env:Env}{outer:List Env}{L e:Uo}
end
end L2
namespace L2
open PySem PySem.Spec PyProof.Rows PySem.Calls PyProof.V
def XO(fr:Bool)(e C:Uo)(dd:Option Uo):Heap->Prop:=λh=>∃vs sl,h.get? e=some {cls:=.ref C,dict:=dd,data:=.fields vs,slots:=sl}/\(fr=true->vs[1]?=some .none/\∃t0,vs[0]?=some (.ref t0))
section
variable{X:Cx}{pins:List (Uo×Obj)}{σ:St}{H:Hp}{s:Ul}{e C:Uo}{dd:Option Uo}{h':Heap}
end
abbrev VB:List Uk:=[.type "ValueError", .type "Exception", .type "BaseException", .type "object"]
structure XCls(M:Model)(base:Heap)(C:Uo)(bm:List Uk)(fI:Uo):Prop where
 obj:∃nm q N bs sn sub ab col dd k0 k1 k2 k3 k5,base.get? C=some (excClassObj nm q C N bs bm true sn sub ab col dd k0 k1 k2 k3 k5 "ValueError.__new__")
 tail:YL VB bm
 init:Z9 M C "__init__" (some (.ref fI)) base
 fn:∃o,base.get? fI=some o/\o.cls=.type "function"
 sa:Z9 M C "__setattr__" (some (.builtin "object.__setattr__")) base
 ga:Z9 M C "__getattribute__" (some (.builtin "BaseException.__getattribute__")) base
 gh:Z9 M C "__getattr__" none base
 cl:Z9 M C "__class__" (some (.builtin "object.__class__")) base
 pass:∀v,refuseLoop v "__setattr__" bm=pure ()
section
variable{X:Cx}{k:Nat}{f C:Uo}{fd:Up}{ps:List Str}{sp:Sp}{x:Str}{p pos cpos:Pos}{e:Uq}{es:List Uq}{t:TA}{bm:List Uk}
end
section
variable{M:Model}{A:Around}{E:Uk->Ul->Prop}{h:Heap}{g:Array GenState}{d:Drawn}{t:Nat}{os:OsState}
variable{nm q nm' q':Str}{C N D N' a:Uo}{bs bm bs' bm':List Uk}{hdct hdct':Bool}{sn sn':List Str}{sub sub':List Uk}{ab ab':Bool}{col col':Option Bool}{dd dd':Option Uo}{k0 k1 k2 k3 k5 j0 j1 j2 j3 j5:Option Uk}{newId newId':String}
end
section
variable{X:Cx}{k:Nat}{f:Uo}{fd:Up}{ps:List Str}{sp:Sp}{x n:Str}{p pos np hpos:Pos}{e:Uq}{es:List Uq}{t:TA}{KX:V->St->Hp->Prop}
end
section
variable{prog:Um}{w:World}{A:Around}{E:Uk->Ul->Prop}{h:Heap}{g:Array GenState}{d:Drawn}{t:Nat}{os:OsState}
variable{nm q:Str}{C N a:Uo}{bs bm bmB:List Uk}{hdct:Bool}{sn:List Str}{sub:List Uk}{ab:Bool}{col:Option Bool}{dd:Option Uo}{k0 k1 k2 k3 k5:Option Uk}{B newId initId nid:String}
end
section
variable{X:Cx}{k:Nat}{f D:Uo}{fd:Up}{ps:List Str}{sp:Sp}{x:Str}{p pos apos:Pos}{e:Uq}{es:List Uq}{t:TA}
end
section
variable{X:Cx}{k:Nat}{f D:Uo}{fd:Up}{ps:List Str}{sp:Sp}{x m:Str}{p pos apos:Pos}{e:Uq}{es:List Uq}{t:TA}
end
def XD(dx:Uo)(fs:List (Str×V)):Heap->Prop:=λh=>∃mA,h.Ns1 dx mA/\h.ExactDictFk dx/\(∀f,TK (fs.lookup f) (mA f))/\PySem.Within mA (fs.map (·.1))
section
variable{X:Cx}{pins:List (Uo×Obj)}{σ:St}{H:Hp}{s:Ul}{a C dx:Uo}{h':Heap}{t':Nat}
end
section
variable{X:Cx}{o value:Uq}{f:Str}{pos pos':Pos}{ta tv:TE}{KC:Uo->List Uk->Prop}
end
section
variable{X:Cx}{value:Uq}{te:TE}{pos:Pos}
end
section
variable{X:Cx}{e:Uq}{f:Str}{pos:Pos}{ta:TE}{KC:Uo->List Uk->Prop}
end
end L2
namespace L2
open PySem PySem.Spec
section
variable{prog:Um}{w:World}{A:Around}{E:Uk->Ul->Prop}{h:Heap}{g:Array GenState}{d:Drawn}{t:Nat}{os:OsState}{R:Result->Ul->Prop}
variable{nm q:Str}{C N a:Uo}{bs bm bmB:List Uk}{hdct:Bool}{sn:List Str}{sub:List Uk}{ab:Bool}{col:Option Bool}{dd:Option Uo}{k0 k1 k2 k3 k5:Option Uk}{newId:String}{o:Obj}
theorem AV(T:YL bmB bm)(ho:bmB.contains (.type "object")=true)(hC:h.get? C=some (excClassObj nm q C N bs bm hdct sn sub ab col dd k0 k1 k2 k3 k5 newId))(hx:h.get? a=some o)(hc:o.cls=.ref C)(hq:R (.ok (.ret (.ref C))) ⟨h,g,d,t,os⟩) :
  codeAny (model prog w) A (.call (.builtin "getset_descriptor.__get__") ⟨[.builtin "object.__class__", .ref a,.ref C],[]⟩) R ⟨h,g,d,t,os⟩:=by
 have hT5:(⟨h,g,d,t,os⟩:Ul).TypeIs (.builtin "object.__class__") "getset_descriptor" :=PySem.F.typeOf_object_class;have hcB:(Value.ref C::bm).contains (.type (".".intercalate ("object.__class__".cutAt '.').dropLast))=true:=by rw[PySem.F.owner_object_class,List.contains_cons,T _ _ ho];rfl
 refine codeAny_call_builtin PySem.F.slot_gs_get.plain PySem.F.entry_gs_get (PySem.F.slot_gs_get.check _ _ _ _ _ _ _ _ hT5 (PySem.F.args_gs_get _ _ _) ?_)
 repeat (any_goals (first|assumption|(with_reducible refine QJ hx ?_;rw[hc])|(with_reducible refine Jp hC ?_;rw[hcB])|wp_step))
 refine⟨Code.quiet_builtin _ (by decide +kernel),JE PySem.F.entry_object_class ?_⟩;unfold Builtin.«object.__class__»
 repeat (any_goals (first|assumption|(with_reducible refine QJ hx ?_;rw[hc])|wp_step))
theorem qK{tk:Tok}{Q:PySem.Fin->Ul->Prop}(T:YL bmB bm)(ho:bmB.contains (.type "object")=true)(hC:h.get? C=some (excClassObj nm q C N bs bm hdct sn sub ab col dd k0 k1 k2 k3 k5 newId))(fc:Z9 (model prog w) C "__class__" (some (.builtin "object.__class__")) h)(hx:h.get? a=some o)(hc:o.cls=.ref C)(hq:Q (.done (.ret (.ref C))) ⟨h,g,d,t,os⟩) :
  Us (model prog w) A (Builtin.«object.__getattribute__» ⟨[.ref a,.str "__class__" tk],[]⟩) Q E ⟨h,g,d,t,os⟩:=by
 have hT5:(⟨h,g,d,t,os⟩:Ul).TypeIs (.builtin "object.__class__") "getset_descriptor" :=PySem.F.typeOf_object_class;have f5:=PySem.F.typeOf_object_class;have f6:=PySem.F.slot_gs_get.lookup;have f7:=PySem.F.slot_gs_set.lookup
 repeat (any_goals (first|assumption|(with_reducible refine QJ hx ?_;rw[hc])|with_reducible refine fc.at ?_|wp_step))
 refine AV T ho hC hx hc ?_
 repeat (any_goals (first|assumption|wp_step))
theorem Hv{Q:Option Uk->Ul->Prop}(FB:ExcAttrFacts "ValueError")(T:YL VB bm)(hC:h.get? C=some (excClassObj nm q C N bs bm hdct sn sub ab col dd k0 k1 k2 k3 k5 newId))(fc:Z9 (model prog w) C "__class__" (some (.builtin "object.__class__")) h)
  (fg:Z9 (model prog w) C "__getattribute__" (some (.builtin "BaseException.__getattribute__")) h) (fa:Z9 (model prog w) C "__getattr__" none h) (hx:h.get? a=some o) (hc:o.cls=.ref C) (hq:Q (some (.ref C)) ⟨h,g,d,t+1,os⟩) :
  Us (model prog w) A (getAttr? (.ref a) "__class__") Q E ⟨h,g,d,t,os⟩:=by
 have f3:=FB.ga.bind (.ref a);have hx0:(false&&onTheHeap (Value.builtin "BaseException.__getattribute__"))=false:=rfl;have hx2:(Value.builtin "BaseException.__getattribute__" == Value.builtin "object.__getattribute__")=false:=by decide +kernel
 have hx1:(onTheHeap (Value.ref C)&&Value.builtin "BaseException.__getattribute__" == Value.builtin "object.__getattribute__")=false:=by rw[hx2];rfl
 unfold getAttr? getAttrBy?;refine Qf (wpAny_mkText (Qf (wpAny_attempt ?_)))
 repeat (any_goals (first|assumption|(with_reducible refine QJ hx ?_;rw[hc])|with_reducible refine fg.at ?_|with_reducible refine fa.at ?_|wp_step))
 refine codeAny_call_builtin FB.ga.plain PySem.F.entry_bexc_ga (AA T rfl hC hx hc (qK T rfl hC fc hx hc ?_))
 repeat (any_goals (first|assumption|wp_step))
end
end L2
namespace L2
open PySem PySem.Spec PyProof.Rows
section
variable{prog:Um}{w:World}{A:Around}{E:Uk->Ul->Prop}{h:Heap}{g:Array GenState}{d:Drawn}{t:Nat}{os:OsState}
variable{nm q nm' q':Str}{C N D N' a:Uo}{bs bm bs' bm':List Uk}{hdct hdct':Bool}{sn sn':List Str}{sub sub':List Uk}{ab ab':Bool}{col col':Option Bool}{dd dd':Option Uo}{k0 k1 k2 k3 k5 j0 j1 j2 j3 j5:Option Uk}{newId newId':String}{o:Obj}{b:Bool}
theorem DT{Q:Uk->Ul->Prop}(T:YL VB bm)(hC:h.get? C=some (excClassObj nm q C N bs bm hdct sn sub ab col dd k0 k1 k2 k3 k5 newId))(hD:h.get? D=some (excClassObj nm' q' D N' bs' bm' hdct' sn' sub' ab' col' dd' j0 j1 j2 j3 j5 newId'))
  (fc:Z9 (model prog w) C "__class__" (some (.builtin "object.__class__")) h) (fg:Z9 (model prog w) C "__getattribute__" (some (.builtin "BaseException.__getattribute__")) h) (fa:Z9 (model prog w) C "__getattr__" none h)
  (hx:h.get? a=some o) (hc:o.cls=.ref C) (hb:(Value.ref C::bm).contains (.ref D)=b) (hq:∀tk,Q (.bool b) ⟨h,g,d,tk,os⟩):Us (model prog w) A (call (.builtin "isinstance") [.ref a,.ref D]) Q E ⟨h,g,d,t,os⟩:=by
 have hT:(⟨h,g,d,t,os⟩:Ul).TypeIs (.ref D) "type" :=⟨_,hD,rfl⟩
 have f2:=tc_sub;refine call_isinstance_of ?_ (λz=>nomatch z);unfold Builtin.«isinstance.nested»;refine Qf ?_;unfold typeOf;refine Qf (QJ hx (Qn ?_));rw[hc];by_cases e:C=D
 ·subst e;have hb1:b=true:=by rw[←hb];simp
  subst hb1;rw[if_pos (by simp)];exact Qf (wpAny_rule (Qn (hq t)))
 ·rw[if_neg (by simp[e])];refine Qf (Qf (QJ hD (Qn ?_)));rw[Qm (show(Value.type "type" == Value.type "type")=true by decide)]
  k_delta "plainIsInstance"
  unfold isType isInstance
  repeat (first|(with_reducible refine QJ hx ?_;rw[hc])|with_reducible refine QJ hD ?_|with_reducible refine QJ hC ?_|(with_reducible refine Jp hC ?_;rw[hb])|wp_step)
  cases b with
  |true=>wp_walk;exact hq t
  |false=>
   rw[Qu (by decide)];refine Qf (Hv PySem.F.excAttr_ValueError T hC fc fg fa hx hc ?_)
   repeat (first|with_reducible refine QJ hC ?_|(with_reducible refine Jp hC ?_;rw[hb])|wp_step)
   exact hq _
theorem F3{Q:Uk->Ul->Prop}{X:String}(T:YL VB bm)(hC:h.get? C=some (excClassObj nm q C N bs bm hdct sn sub ab col dd k0 k1 k2 k3 k5 newId))(hX:typeOf (.type X)=pure (.type "type"))
  (fc:Z9 (model prog w) C "__class__" (some (.builtin "object.__class__")) h) (fg:Z9 (model prog w) C "__getattribute__" (some (.builtin "BaseException.__getattribute__")) h) (fa:Z9 (model prog w) C "__getattr__" none h)
  (hx:h.get? a=some o) (hc:o.cls=.ref C) (hb:(Value.ref C::bm).contains (.type X)=b) (hq:∀tk,Q (.bool b) ⟨h,g,d,tk,os⟩):Us (model prog w) A (call (.builtin "isinstance") [.ref a,.type X]) Q E ⟨h,g,d,t,os⟩:=by
 refine call_isinstance_of ?_ (λz=>nomatch z);unfold Builtin.«isinstance.nested»;refine Qf ?_;have ty:∀{M:Model}{A:Around}{Q:Uk->Ul->Prop}{E:Uk->Ul->Prop},Q (.ref C) ⟨h,g,d,t,os⟩->Us M A (typeOf (.ref a)) Q E ⟨h,g,d,t,os⟩:=λq=>by unfold typeOf;refine Qf (QJ hx (Qn ?_));rw[hc];exact q
 refine ty ?_;rw[if_neg (by simp)];refine Qf (wpAny_of_eq hX ?_);rw[Qm (show(Value.type "type" == Value.type "type")=true by decide)]
 k_delta "plainIsInstance"
 unfold isType isInstance
 repeat (first|(with_reducible refine QJ hx ?_;rw[hc])|with_reducible refine QJ hC ?_|(with_reducible refine Jp hC ?_;rw[hb])|wp_step)
 cases b with
 |true=>wp_walk;exact hq t
 |false=>
  rw[Qu (by decide)];refine Qf (Hv PySem.F.excAttr_ValueError T hC fc fg fa hx hc ?_)
  repeat (first|with_reducible refine QJ hC ?_|(with_reducible refine Jp hC ?_;rw[hb])|wp_step)
  exact hq _
end
def rIsX(KC:Uo->List Uk->Prop):List V->Hp->VK->Prop:=λxs H Q=>∃a C dd bm fr c b,xs=[.ref a,c]/\KC C bm/\H a=some (.ext (XO fr a C dd)) /\
 ((∃D bm',c=.ref D/\KC D bm'/\(Value.ref C::bm).contains (.ref D)=b) ∨ ∃T,c=.ty T/\typeOf (.type T)=pure (.type "type")/\(Value.ref C::bm).contains (.type T)=b)/\Q (.bl b) H
theorem D9{X:Cx}{KC:Uo->List Uk->Prop}(hcls:∀C bm,KC C bm->∃fI,XCls (model X.prog X.w) X.base C bm fI):YF X (.builtin "isinstance") (rIsX KC):=by
 rintro pins s σ H xs us Q I r ⟨a,C,dd,bm,fr,c,b,rfl,kc,hx,hD,q⟩;cases r with
 |cons ra r=>
 cases r with
 |cons rc r=>
 cases r;have ra':_=Value.ref a:=ra;subst ra';obtain⟨fI,XC⟩:=hcls C bm kc;obtain⟨nm,qn,N,bs,sn,sub,ab,col,dd1,k0,k1,k2,k3,k5,hC⟩:=XC.obj;obtain⟨⟨vs,sl,ga,_⟩,_,_⟩:=I.hok a _ hx;obtain⟨hp,g,d,tk,os⟩:=s;rcases hD with ⟨D,bm',rfl,kd,hb⟩|⟨T,rfl,hT,hb⟩
 ·have rc':_=Value.ref D:=rc;subst rc';obtain⟨fI',XD'⟩:=hcls D bm' kd;obtain⟨nm',qn',N',bs',sn',sub',ab',col',dd2,j0,j1,j2,j3,j5,hD'⟩:=XD'.obj;exact DT XC.tail (I.bk _ _ hC) (I.bk _ _ hD') (XC.cl.keeps I.bk) (XC.ga.keeps I.bk) (XC.gh.keeps I.bk) ga rfl hb λtk'=>⟨.bl b,H,I.tok tk',rfl,q⟩
 ·have rc':_=Value.type T:=rc;subst rc';exact F3 XC.tail (I.bk _ _ hC) hT (XC.cl.keeps I.bk) (XC.ga.keeps I.bk) (XC.gh.keeps I.bk) ga rfl hb λtk'=>⟨.bl b,H,I.tok tk',rfl,q⟩
def HY(nm:Str):List Str:=if nm = "NoWishes" then ["part", "number"]else if nm = "NoAim" then ["part"]else if nm = "NoText" then ["row"]else []
def OR(K:Frag)(nm:Str):Option Uo:=match PySem.W.nsIn K mainGlobals nm with|some (some (.ref C))=>some C|_=>none
def NmAt(K:Frag)(nm:Str)(C:Uo):Prop:=∃o cd,K.lookup C=some o/\o.data=.cls cd/\cd.name=nm
structure ClsK(K:Frag)(nm:Str)(C:Uo)(bm:List Uk):Prop where
 ad:OR K nm=some C
 nmd:NmAt K nm C
 up:nm = "DealError" /\ bm=VB∨nm ≠ "DealError" /\ ∃D,OR K "DealError" = some D/\bm=.ref D::VB/\NmAt K "DealError" D
 cls:∀(M:Model)(h:Heap),K.In h->∃fI,XCls M h C bm fI
 fld:∀(M:Model)(h:Heap),K.In h->∀f∈(["part", "number", "row"]:List Str),Z9 M C f none h
def KC(K:Frag):Uo->List Uk->Prop:=λC bm=>∃nm,ClsK K nm C bm
section
variable{K:Frag}{nm x:Str}{C D:Uo}{bm bm':List Uk}
theorem ClsK.ty(c:ClsK K nm C bm)(T:String):(Value.ref C::bm).contains (.type T)=VB.contains (.type T):=by
 rcases c.up with ⟨_,rfl⟩|⟨_,D',g,rfl,n⟩
 ·rfl
 ·rfl
end
section
variable{X:Cx}{e:Uq}{st:Stmt}{sts:List Stmt}{t:TE}{ts:TS}
theorem HX(k:X.K.In X.base):∀C bm,KC X.K C bm->∃fI,XCls (model X.prog X.w) X.base C bm fI:=λ_ _ ⟨_,c⟩=>c.cls _ _ k
end
end L2
namespace DL
open PySem PySem.Spec L2
open PyProof.Rows hiding St
abbrev D:=PyData
abbrev XW:=V->St->Hp->Prop
abbrev KX0:XW:=λ_ _ _=>False
def XFs(G:Hp)(dd:Option Uo)(fs:List Str)(vs:List V):Prop:=match dd with
 |none=>fs=[]/\vs=[]
 |some dx=>fs.length=vs.length/\G dx=some (.ext (XD dx (fs.zip vs)))
theorem XFs.mono{G G1:Hp}{dd:Option Uo}{fs:List Str}{vs:List V}(e:Same G G1)(h:XFs G dd fs vs):XFs G1 dd fs vs:=by
 cases dd with
 |none=>exact h
 |some dx=>exact⟨h.1,e _ _ h.2⟩
def kD:Key->D
 |.inl i=>.int i
 |.inr x=>.str x
def tkD(k:List Key):D:=.tuple (k.map kD)
def pdD(ks:List (List Key))(ds:List D):List (D×D):=(.bool true,.none)::(ks.map tkD).zip ds
mutual
inductive Rep(K:Frag)(G:Hp):V->D->Prop where
 |non:Rep K G .non .none
 |bl (b:Bool):Rep K G (.bl b) (.bool b)
 |int (i:Int):Rep K G (.int i) (.int i)
 |str (x:Str):Rep K G (.str x) (.str x)
 |lst {a:Uo} {vs:List V} {ds:List D} (h:SqL K G a vs) (r:Reps K G vs ds):Rep K G (.ref a) (.list ds)
 |tup {a:Uo} {vs:List V} {ds:List D} (h:SqT K G a vs) (r:Reps K G vs ds):Rep K G (.ref a) (.tuple ds)
 |dic {a:Uo} (h:G a=some (.dK [])):Rep K G (.ref a) (.dict [])
 |exc {a C:Uo} {dd:Option Uo} {bm:List Uk} {nm:Str} {vs:List V} {ds:List D} (c:ClsK K nm C bm) (h:G a=some (.ext (XO false a C dd))) (hd:XFs G dd (HY nm) vs) (r:Reps K G vs ds):Rep K G (.ref a) (.dict [(.none,.tuple [.str nm,.list ds])])
 |dct {a:Uo} {ks:List Key} {vs:List V} {ds:List D} {kvs:List (D×D)} (e:kvs=(ks.map kD).zip ds) (hne:ks≠[]) (hl:ks.length=ds.length) (h:G a=some (.dK (ks.zip vs))) (r:Reps K G vs ds):Rep K G (.ref a) (.dict kvs)
 |dtt {a:Uo} {o:Obj} {ks:List (List Key)} {vs:List V} {ds:List D} {kvs:List (D×D)} (e:kvs=pdD ks ds) (hl:ks.length=ds.length) (h:G a=some (.frz o (.dT (ks.zip vs)))) (r:Reps K G vs ds):Rep K G (.ref a) (.dict kvs)
inductive Reps(K:Frag)(G:Hp):List V->List D->Prop where
 |nil:Reps K G [] []
 |cons {v:V} {d:D} {vs:List V} {ds:List D} (h:Rep K G v d) (t:Reps K G vs ds):Reps K G (v::vs) (d::ds)
end
variable{K:Frag}{B G0 G G1 G2 H H1 H2:Hp}
theorem YR{a:Uo}{xs:List V}(e:Same G G1)(h:SqT K G a xs):SqT K G1 a xs:=by
 rcases h with (h|⟨o,h⟩)|h
 ·exact .inl (.inl (e _ _ h))
 ·exact .inl (.inr ⟨o,e _ _ h⟩)
 ·exact .inr h
mutual
theorem Rep.mono(e:Same G G1):∀{v:V}{d:D},Rep K G v d->Rep K G1 v d
 |_,_,.non=>.non
 |_,_,.bl b=>.bl b
 |_,_,.int i=>.int i
 |_,_,.str x=>.str x
 |_,_,.lst h r=>.lst (e.seq h) (Reps.mono e r)
 |_,_,.tup h r=>.tup (YR e h) (Reps.mono e r)
 |_,_,.dic h=>.dic (e _ _ h)
 |_,_,.exc c h hd r=>.exc c (e _ _ h) (hd.mono e) (Reps.mono e r)
 |_,_,.dct z n l h r=>.dct z n l (e _ _ h) (Reps.mono e r)
 |_,_,.dtt z l h r=>.dtt z l (e _ _ h) (Reps.mono e r)
theorem Reps.mono(e:Same G G1):∀{vs:List V}{ds:List D},Reps K G vs ds->Reps K G1 vs ds
 |_,_,.nil=>.nil
 |_,_,.cons h t=>.cons (Rep.mono e h) (Reps.mono e t)
end
section
variable{v:V}{vs ws:List V}{ds es:List D}
theorem Rep.bl_inv{b:Bool}(h:Rep K G v (.bool b)):v=.bl b:=by cases h;rfl
theorem Rep.int_inv{i:Int}(h:Rep K G v (.int i)):v=.int i:=by cases h;rfl
theorem Rep.str_inv{x:Str}(h:Rep K G v (.str x)):v=.str x:=by cases h;rfl
theorem Rep.lst_inv(h:Rep K G v (.list ds)):∃a vs,v=.ref a/\SqL K G a vs/\Reps K G vs ds:=by
 cases h with
 |lst h r=>exact⟨_,_,rfl,h,r⟩
theorem Rep.tup_inv(h:Rep K G v (.tuple ds)):∃a vs,v=.ref a/\SqT K G a vs/\Reps K G vs ds:=by
 cases h with
 |tup h r=>exact⟨_,_,rfl,h,r⟩
theorem Reps.length:∀{vs:List V}{ds:List D},Reps K G vs ds->vs.length=ds.length
 |_,_,.nil=>rfl
 |_,_,.cons _ t=>by rw[QC,QC,Reps.length t]
theorem Reps.get:∀{vs:List V}{ds:List D}{i:Nat}{d:D},Reps K G vs ds->ds[i]?=some d->∃v,vs[i]?=some v/\Rep K G v d
 |_,_,_,_,.nil,e=>by simp at e
 |_,_,0,_,.cons h _,e=>by simp at e;subst e;exact⟨_,rfl,h⟩
 |_,_,i+1,d,.cons _ t,e=>by obtain⟨u,h1,h2⟩:=Reps.get (i:=i) (d:=d) t (by simpa using e);exact⟨u,by simpa using h1,h2⟩
theorem Reps.append:∀{vs ws:List V}{ds es:List D},Reps K G vs ds->Reps K G ws es->Reps K G (vs++ws) (ds++es)
 |_,_,_,_,.nil,s=>s
 |_,_,_,_,.cons r t,s=>.cons r (Reps.append t s)
theorem Reps.take:∀{vs:List V}{ds:List D}(n:Nat),Reps K G vs ds->Reps K G (vs.take n) (ds.take n)
 |_,_,0,_=>by rw[JS,JS];exact .nil
 |_,_,_+1,.nil=>.nil
 |_,_,n+1,.cons r t=>.cons r (Reps.take n t)
theorem Reps.drop:∀{vs:List V}{ds:List D}(n:Nat),Reps K G vs ds->Reps K G (vs.drop n) (ds.drop n)
 |_,_,0,r=>r
 |_,_,_+1,.nil=>.nil
 |_,_,n+1,.cons _ t=>Reps.drop n t
theorem Reps.reverse:∀{vs:List V}{ds:List D},Reps K G vs ds->Reps K G vs.reverse ds.reverse
 |_,_,.nil=>.nil
 |_,_,.cons r t=>by rw[List.reverse_cons,List.reverse_cons];exact Reps.append (Reps.reverse t) (.cons r .nil)
theorem Reps.set{v:V}{d:D}(r:Rep K G v d):∀{vs:List V}{ds:List D}(i:Nat),Reps K G vs ds->Reps K G (vs.set i v) (ds.set i d)
 |_,_,_,.nil=>.nil
 |_,_,0,.cons _ t=>.cons r t
 |_,_,i+1,.cons q t=>.cons q (Reps.set r i t)
theorem Reps.ints:∀(ns:List Int),Reps K G (ns.map V.int) (ns.map int)
 |[]=>.nil
 |n::ns=>.cons (.int n) (Reps.ints ns)
end
inductive MO where
 |l (vs:List V)|k (kvs:List (Key×V))|t (kvs:List (List Key×V))
def MO.ho:MO->HO
 |.l vs=>.lst vs
 |.k kvs=>.dK kvs
 |.t kvs=>.dT kvs
structure Ext(G H G' H':Hp):Prop where
 h:Same H H'
 g:Same G G'
 gh:Same G' H'
 np:∀a(u:MO),H a=some u.ho->G a=none->G' a=none
theorem Ext.refl(e:Same G H):Ext G H G H:=⟨.refl _,.refl _,e,λ_ _ _ q=>q⟩
theorem Zt{p:Uo}{o:HO}(h:H p=none):Same H (upd H p o):=λb u e=>by rw[KY (YV e h)];exact e
theorem Ext.new{p:Uo}{o:HO}(e:Same G H)(h:H p=none):Ext G H (upd G p o) (upd H p o):=by
 have hg:G p=none:=e.free h;refine⟨Zt h,Zt hg,λb u q=>?_,λa u q n=>?_⟩
 ·by_cases z:b=p
  ·subst z;rw[Zu]at q⊢;exact q
  ·rw[KY z]at q⊢;exact e b u q
 ·rw[KY (YV q h)];exact n
theorem Ext.hid{p:Uo}{o:HO}(e:Same G H)(h:H p=none):Ext G H G (upd H p o):=
 ⟨Zt h,.refl _,e.trans (Zt h),λ_ _ _ n=>n⟩
inductive Pat where
 |leaf|lst (p:Pat)|tup (ps:List Pat)
mutual
inductive RepO(K:Frag)(G H:Hp):Pat->V->D->List Uo->Prop where
 |leaf {v:V} {d:D} (r:Rep K G v d):RepO K G H .leaf v d []
 |lst {p:Pat} {a:Uo} {vs:List V} {ds:List D} {fp:List Uo} (h:H a=some (.lst vs)) (r:RepOl K G H p vs ds fp):RepO K G H (.lst p) (.ref a) (.list ds) (a::fp)
 |tup {ps:List Pat} {a:Uo} {vs:List V} {ds:List D} {fp:List Uo} (h:H a=some (.tup vs)) (r:RepOs K G H ps vs ds fp):RepO K G H (.tup ps) (.ref a) (.tuple ds) fp
inductive RepOl(K:Frag)(G H:Hp):Pat->List V->List D->List Uo->Prop where
 |nil {p:Pat}:RepOl K G H p [] [] []
 |cons {p:Pat} {v:V} {d:D} {vs:List V} {ds:List D} {f1 f2:List Uo} (h:RepO K G H p v d f1) (t:RepOl K G H p vs ds f2):RepOl K G H p (v::vs) (d::ds) (f1++f2)
inductive RepOs(K:Frag)(G H:Hp):List Pat->List V->List D->List Uo->Prop where
 |nil:RepOs K G H [] [] [] []
 |cons {p:Pat} {ps:List Pat} {v:V} {d:D} {vs:List V} {ds:List D} {f1 f2:List Uo} (h:RepO K G H p v d f1) (t:RepOs K G H ps vs ds f2):RepOs K G H (p::ps) (v::vs) (d::ds) (f1++f2)
end
mutual
theorem RepO.mono(sg:Same G G1)(sh:Same H H1):∀{p:Pat}{v:V}{d:D}{fp:List Uo},RepO K G H p v d fp->RepO K G1 H1 p v d fp
 |_,_,_,_,.leaf r=>.leaf (r.mono sg)
 |_,_,_,_,.lst h r=>.lst (sh _ _ h) (RepOl.mono sg sh r)
 |_,_,_,_,.tup h r=>.tup (sh _ _ h) (RepOs.mono sg sh r)
theorem RepOl.mono(sg:Same G G1)(sh:Same H H1):∀{p:Pat}{v:List V}{d:List D}{fp:List Uo},RepOl K G H p v d fp->RepOl K G1 H1 p v d fp
 |_,_,_,_,.nil=>.nil
 |_,_,_,_,.cons h t=>.cons (RepO.mono sg sh h) (RepOl.mono sg sh t)
theorem RepOs.mono(sg:Same G G1)(sh:Same H H1):∀{p:List Pat}{v:List V}{d:List D}{fp:List Uo},RepOs K G H p v d fp->RepOs K G1 H1 p v d fp
 |_,_,_,_,.nil=>.nil
 |_,_,_,_,.cons h t=>.cons (RepO.mono sg sh h) (RepOs.mono sg sh t)
end
mutual
theorem RepO.upd{a:Uo}{o:HO}(nt:∀vs,H a≠some (.tup vs)):∀{p:Pat}{v:V}{d:D}{fp:List Uo},RepO K G H p v d fp->a∉fp->RepO K G (upd H a o) p v d fp
 |_,_,_,_,.leaf r,_=>.leaf r
 |_,_,_,_,.lst h r,n=>.lst (by rw[KY (λz=>n (by rw[z];exact Qo))];exact h) (RepOl.upd nt r λz=>n (Qk _ z))
 |_,_,_,_,.tup h r,n=>.tup (by rw[KY (λz=>by subst z;exact nt _ h)];exact h) (RepOs.upd nt r n)
theorem RepOl.upd{a:Uo}{o:HO}(nt:∀vs,H a≠some (.tup vs)):∀{p:Pat}{v:List V}{d:List D}{fp:List Uo},RepOl K G H p v d fp->a∉fp->RepOl K G (upd H a o) p v d fp
 |_,_,_,_,.nil,_=>.nil
 |_,_,_,_,.cons h t,n=>.cons (RepO.upd nt h λz=>n (Jd _ z)) (RepOl.upd nt t λz=>n (QI _ z))
theorem RepOs.upd{a:Uo}{o:HO}(nt:∀vs,H a≠some (.tup vs)):∀{p:List Pat}{v:List V}{d:List D}{fp:List Uo},RepOs K G H p v d fp->a∉fp->RepOs K G (upd H a o) p v d fp
 |_,_,_,_,.nil,_=>.nil
 |_,_,_,_,.cons h t,n=>.cons (RepO.upd nt h λz=>n (Jd _ z)) (RepOs.upd nt t λz=>n (QI _ z))
end
mutual
theorem RepO.rep(gh:Same G H):∀{p:Pat}{v:V}{d:D}{fp:List Uo},RepO K G H p v d fp->Rep K H v d
 |_,_,_,_,.leaf r=>r.mono gh
 |_,_,_,_,.lst h r=>.lst (SqL.of h) (RepOl.rep gh r)
 |_,_,_,_,.tup h r=>.tup (SqT.of h) (RepOs.rep gh r)
theorem RepOl.rep(gh:Same G H):∀{p:Pat}{v:List V}{d:List D}{fp:List Uo},RepOl K G H p v d fp->Reps K H v d
 |_,_,_,_,.nil=>.nil
 |_,_,_,_,.cons h t=>.cons (RepO.rep gh h) (RepOl.rep gh t)
theorem RepOs.rep(gh:Same G H):∀{p:List Pat}{v:List V}{d:List D}{fp:List Uo},RepOs K G H p v d fp->Reps K H v d
 |_,_,_,_,.nil=>.nil
 |_,_,_,_,.cons h t=>.cons (RepO.rep gh h) (RepOs.rep gh t)
end
mutual
theorem RepO.isl:∀{p:Pat}{v:V}{d:D}{fp:List Uo},RepO K G H p v d fp->∀a∈fp,∃vs,H a=some (.lst vs)
 |_,_,_,_,.leaf r,a,m=>by cases m
 |_,_,_,_,.lst h r,a,m=>by
  rcases QO.mp m with rfl|m
  ·exact⟨_,h⟩
  ·exact RepOl.isl r a m
 |_,_,_,_,.tup h r,a,m=>RepOs.isl r a m
theorem RepOl.isl:∀{p:Pat}{v:List V}{d:List D}{fp:List Uo},RepOl K G H p v d fp->∀a∈fp,∃vs,H a=some (.lst vs)
 |_,_,_,_,.nil,a,m=>by cases m
 |_,_,_,_,.cons h t,a,m=>by
  rcases Q2.mp m with m|m
  ·exact RepO.isl h a m
  ·exact RepOl.isl t a m
theorem RepOs.isl:∀{p:List Pat}{v:List V}{d:List D}{fp:List Uo},RepOs K G H p v d fp->∀a∈fp,∃vs,H a=some (.lst vs)
 |_,_,_,_,.nil,a,m=>by cases m
 |_,_,_,_,.cons h t,a,m=>by
  rcases Q2.mp m with m|m
  ·exact RepO.isl h a m
  ·exact RepOs.isl t a m
end
mutual
theorem RepO.uniq(sh:Same H H1):∀{p:Pat}{v:V}{d d':D}{fp fp':List Uo},RepO K G H p v d fp->RepO K G1 H1 p v d' fp'->fp=fp'
 |_,_,_,_,_,_,.leaf _,.leaf _=>rfl
 |_,_,_,_,_,_,.lst h r,.lst h' r'=>by have e:=sh _ _ h;rw[h']at e;cases e;rw[RepOl.uniq sh r r']
 |_,_,_,_,_,_,.tup h r,.tup h' r'=>by have e:=sh _ _ h;rw[h']at e;cases e;exact RepOs.uniq sh r r'
theorem RepOl.uniq(sh:Same H H1):∀{p:Pat}{v:List V}{d d':List D}{fp fp':List Uo},RepOl K G H p v d fp->RepOl K G1 H1 p v d' fp'->fp=fp'
 |_,_,_,_,_,_,.nil,.nil=>rfl
 |_,_,_,_,_,_,.cons h t,.cons h' t'=>by rw[RepO.uniq sh h h',RepOl.uniq sh t t']
theorem RepOs.uniq(sh:Same H H1):∀{p:List Pat}{v:List V}{d d':List D}{fp fp':List Uo},RepOs K G H p v d fp->RepOs K G1 H1 p v d' fp'->fp=fp'
 |_,_,_,_,_,_,.nil,.nil=>rfl
 |_,_,_,_,_,_,.cons h t,.cons h' t'=>by rw[RepO.uniq sh h h',RepOs.uniq sh t t']
end
inductive Sl where
 |pub (d:D)|own (ds:List D)|deep (p:Pat) (d:D)
abbrev UG:=List (Option Sl)
def DpOk(K:Frag)(B G H:Hp)(σ:St)(Z:UG):Prop:=∃ω:Uo->Nat,
 (∀(i:Nat) p d,Z[i]?=some (some (.deep p d))->∃v fp,σ[i]?=some (some v)/\RepO K G H p v d fp/\fp.Nodup/\∀a∈fp,B a=none/\G a=none/\ω a=i) /\
 (∀(i:Nat) ds a,Z[i]?=some (some (.own ds))->σ[i]?=some (some (.ref a))->ω a=i)
theorem DpOk.of{σ:St}{Z:UG}(h1:∀(i:Nat) p d,Z[i]?=some (some (.deep p d))->False)(h2:∀(i:Nat) ds,Z[i]?=some (some (.own ds))->False):DpOk K B G H σ Z:=
 ⟨λ_=>0,λi p d q=>(h1 i p d q).elim,λi ds a q=>(h2 i ds q).elim⟩
theorem DpOk.map{B1:Hp}{σ σ1:St}{Z Z1:UG}(k:DpOk K B G H σ Z)
  (h1:∀(i:Nat) p d,Z1[i]?=some (some (.deep p d))->Z[i]?=some (some (.deep p d))/\σ1[i]?=σ[i]?)
  (h2:∀(i:Nat) ds,Z1[i]?=some (some (.own ds))->∃es,Z[i]?=some (some (.own es))/\σ1[i]?=σ[i]?)
  (h3:∀(i:Nat) p d v fp,Z[i]?=some (some (.deep p d))->σ[i]?=some (some v)->RepO K G H p v d fp->(∀a∈fp,B a=none/\G a=none)->(∀(j:Nat) ds a,Z[j]?=some (some (.own ds))->σ[j]?=some (some (.ref a))->a∉fp)->RepO K G1 H1 p v d fp/\∀a∈fp,B1 a=none/\G1 a=none):DpOk K B1 G1 H1 σ1 Z1:=by
 obtain⟨ω,k1,k2⟩:=k;refine⟨ω,λi p d q=>?_,λi ds a q s=>?_⟩
 ·obtain⟨q1,e1⟩:=h1 i p d q;obtain⟨v,fp,s,r,n,w⟩:=k1 i p d q1;obtain⟨r1,w1⟩:=h3 i p d v fp q1 s r (λa m=>⟨(w a m).1,(w a m).2.1⟩) λj ds a qj sj m=>by have z1:=k2 j ds a qj sj;have z2:=(w a m).2.2;rw[z1]at z2;subst z2;rw[q1]at qj;cases qj
  exact⟨v,fp,by rw[e1];exact s,r1,n,λa m=>⟨(w1 a m).1,(w1 a m).2,(w a m).2.2⟩⟩
 ·obtain⟨es,q1,e1⟩:=h2 i ds q;rw[e1]at s;exact k2 i es a q1 s
structure EOk(K:Frag)(B G0 G H:Hp)(σ:St)(Z:UG):Prop where
 bh:Same B H
 gh:Same G H
 g0:Same G0 G
 np:∀a(u:MO),B a=some u.ho->G0 a=none->G a=none
 len:Z.length=σ.length
 pub:∀(i:Nat) d,Z[i]?=some (some (.pub d))->∃v,σ[i]?=some (some v)/\Rep K G v d
 own:∀(i:Nat) ds,Z[i]?=some (some (.own ds))->∃a vs,σ[i]?=some (some (.ref a))/\B a=none/\G a=none/\H a=some (.lst vs)/\Reps K G vs ds
 sep:∀(i j:Nat) a ds es,Z[i]?=some (some (.own ds))->Z[j]?=some (some (.own es))->σ[i]?=some (some (.ref a))->σ[j]?=some (some (.ref a))->i=j
 dp:DpOk K B G H σ Z
theorem EOk.ext{G' H':Hp}{σ:St}{Z:UG}(k:EOk K B G0 G H σ Z)(e:Ext G H G' H'):EOk K B G0 G' H' σ Z where
 bh:=k.bh.trans e.h
 gh:=e.gh
 g0:=k.g0.trans e.g
 np:=λa o q n=>e.np a o (k.bh a _ q) (k.np a o q n)
 len:=k.len
 pub:=λi d q=>let ⟨v,h1,h2⟩:=k.pub i d q;⟨v,h1,h2.mono e.g⟩
 own:=λi ds q=>let ⟨a,vs,h1,h2,h3,h4,h5⟩:=k.own i ds q;⟨a,vs,h1,h2,e.np a (.l _) h4 h3,e.h a _ h4,h5.mono e.g⟩
 sep:=k.sep
 dp:=k.dp.map (λ_ _ _ q=>⟨q,rfl⟩) (λ_ ds q=>⟨ds,q,rfl⟩) λi p d v fp q s r w n=>⟨r.mono e.g e.h,λa m=>let ⟨_,hl⟩:=r.isl a m;⟨(w a m).1,e.np a (.l _) hl (w a m).2⟩⟩
theorem EOk.publish{σ:St}{Z:UG}{i:Nat}{ds:List D}(k:EOk K B G0 G H σ Z)(h:Z[i]?=some (some (.own ds))) :
  ∃a G',σ[i]?=some (some (.ref a))/\Same G G'/\Rep K G' (.ref a) (.list ds)/\EOk K B G0 G' H σ (Z.set i (some (.pub (.list ds)))):=by
 obtain⟨a,vs,h1,h2,h3,h4,h5⟩:=k.own i ds h;have sg:Same G (upd G a (.lst vs)):=Zt h3;have hr:Rep K (upd G a (.lst vs)) (.ref a) (.list ds):=.lst (SqL.of Zu) (h5.mono sg);refine⟨a,upd G a (.lst vs),h1,sg,hr,⟨k.bh,λb u q=>?_,k.g0.trans sg,λb o q n=>?_,by rw[Q6];exact k.len,λj d q=>?_,λj es q=>?_,λj l c es fs q1 q2 s1 s2=>?_,?_⟩⟩
 ·by_cases z:b=a
  ·subst z;rw[Zu]at q;cases q;exact h4
  ·rw[KY z]at q;exact k.gh b u q
 ·have z:b≠a:=λz=>by subst z;rw[h2]at q;cases q
  rw[KY z];exact k.np b o q n
 ·by_cases z:i=j
  ·subst z;have hl:i<Z.length:=(Qg.mp h).1;rw[QF hl]at q;cases q;exact⟨.ref a,h1,hr⟩
  ·rw[Qr z]at q;obtain⟨v,g1,g2⟩:=k.pub j d q;exact⟨v,g1,g2.mono sg⟩
 ·by_cases z:i=j
  ·subst z;have hl:i<Z.length:=(Qg.mp h).1;rw[QF hl]at q;cases q
  ·rw[Qr z]at q;obtain⟨b,ws,g1,g2,g3,g4,g5⟩:=k.own j es q;have zb:b≠a:=λe=>z (k.sep i j a ds es h q h1 (by rw[←e];exact g1))
   exact⟨b,ws,g1,g2,by rw[KY zb];exact g3,g4,g5.mono sg⟩
 ·have nz:∀{m:Nat}{ts:List D},(Z.set i (some (Sl.pub (.list ds))))[m]?=some (some (.own ts))->Z[m]?=some (some (.own ts)):=λ{m ts} q=>by
   by_cases z:i=m
   ·subst z;have hl:i<Z.length:=(Qg.mp h).1;rw[QF hl]at q;cases q
   ·rw[Qr z]at q;exact q
  exact k.sep j l c es fs (nz q1) (nz q2) s1 s2
 ·have hl:i<Z.length:=(Qg.mp h).1
  have nz:∀{m:Nat}{s:Sl},(Z.set i (some (Sl.pub (.list ds))))[m]?=some (some s)->(∃d,s=.pub d)∨Z[m]?=some (some s):=λ{m s} q=>by
   by_cases z:i=m
   ·subst z;rw[QF hl]at q;cases q;exact .inl ⟨_,rfl⟩
   ·rw[Qr z]at q;exact .inr q
  refine k.dp.map (λm p d q=>?_) (λm es q=>?_) λm p d v fp q s r w n=>⟨r.mono sg (.refl _),λb mb=>⟨(w b mb).1,?_⟩⟩
  ·rcases nz q with ⟨_,e⟩|q
   ·cases e
   ·exact⟨q,rfl⟩
  ·rcases nz q with ⟨_,e⟩|q
   ·cases e
   ·exact⟨es,q,rfl⟩
  ·rw[KY (λz=>by subst z;exact n i ds b h h1 mb)];exact(w b mb).2
inductive Res(α:Type) where
 |ok (a:α) (Z:UG)|bad
abbrev M(α:Type):=UG->Res α
def UN{α:Type}(a:α):M α:=λZ=>.ok a Z
def U9{α:Type}(o:Option α):M α:=λZ=>match o with|some a=>.ok a Z|none=>.bad
def U6{α β:Type}(f:M α)(k:α->M β):M β:=λZ=>match f Z with | .ok a Z'=>k a Z' | .bad=>.bad
section
variable(K:Frag)(B G0:Hp)
def aft{α γ:Type}(R:Hp->γ->α->Prop)(r:Res α)(G:Hp)(σ:St)(Q:γ->Hp->Prop):Prop:=
 match r with
 |.ok d Z'=>∀v G' H',EOk K B G0 G' H' σ Z'->Same G G'->R G' v d->Q v H'
 |.bad=>False
def tM{α γ:Type}(R:Hp->γ->α->Prop)(f:M α):St->Hp->(γ->Hp->Prop)->Prop:=λσ H Q=>
 ∃G Z,EOk K B G0 G H σ Z/\aft K B G0 R (f Z) G σ Q
abbrev tD(f:M D):TE:=tM K B G0 (Rep K) f
abbrev tDs(f:M (List D)):TA:=tM K B G0 (Reps K) f
abbrev tBo(f:M Bool):TT:=tM K B G0 (λ_ b c=>b=c) f
abbrev tOi(f:M (Option Int)):TO:=tM K B G0 (λ_ b c=>b=c) f
end
section
variable{K:Frag}{B G0:Hp}{α β γ δ ε:Type}{R:Hp->γ->α->Prop}{S:Hp->δ->β->Prop}{T:Hp->ε->α->Prop}{σ:St}{H:Hp}
theorem aft.mono{r:Res α}{G G':Hp}{Q:γ->Hp->Prop}(e:Same G G')(h:aft K B G0 R r G σ Q):aft K B G0 R r G' σ Q:=by
 cases r with
 |ok d Z=>exact λv G2 H2 k s q=>h v G2 H2 k (e.trans s) q
 |bad=>exact h
theorem aft.done{d:α}{Z:UG}{G G' H H':Hp}{v:γ}{Q:γ->Hp->Prop}(h:aft K B G0 R (.ok d Z) G σ Q)(k:EOk K B G0 G H σ Z)(e:Ext G H G' H')(r:R G' v d):Q v H':=
 h v G' H' (k.ext e) e.g r
theorem aft.now{d:α}{Z:UG}{G H:Hp}{v:γ}{Q:γ->Hp->Prop}(h:aft K B G0 R (.ok d Z) G σ Q)(k:EOk K B G0 G H σ Z)(r:R G v d):Q v H:=
 h v G H k (.refl _) r
theorem aft.opt{o:Option α}{Z:UG}{G:Hp}{Q:γ->Hp->Prop}(h:aft K B G0 R (U9 o Z) G σ Q):∃d,o=some d/\aft K B G0 R (.ok d Z) G σ Q:=by
 cases o with
 |none=>exact h.elim
 |some d=>exact⟨d,rfl,h⟩
theorem tM.bind{f:M α}{k:α->M β}{Q:δ->Hp->Prop}(h:tM K B G0 S (U6 f k) σ H Q) :
  tM K B G0 R f σ H (λv H1=>∃G Z d,EOk K B G0 G H1 σ Z/\R G v d/\aft K B G0 S (k d Z) G σ Q):=by
 obtain⟨G,Z,e,a⟩:=h;refine⟨G,Z,e,?_⟩;unfold U6 at a;cases q:f Z with
 |bad=>rw[q]at a;exact a.elim
 |ok d Z1=>rw[q]at a;exact λv G' H' e' s r=>⟨G',Z1,d,e',r,aft.mono s a⟩
theorem tM.bind2{α' γ':Type}{R':Hp->γ'->α'->Prop}{f:M α}{g:α->M α'}{k:α->α'->M β}{Q:δ->Hp->Prop}(mo:∀G G' v d,Same G G'->R G v d->R G' v d)
  (h:tM K B G0 S (U6 f λx=>U6 (g x) λy=>k x y) σ H Q) :
  tM K B G0 R f σ H (λv H1=>∃x,tM K B G0 R' (g x) σ H1 λu H2=>∃G Z y,EOk K B G0 G H2 σ Z/\R G v x/\R' G u y/\aft K B G0 S (k x y Z) G σ Q):=by
 obtain⟨G,Z,e,a⟩:=tM.bind (R:=R) h;refine⟨G,Z,e,?_⟩;cases q:f Z with
 |bad=>rw[q]at a;exact a.elim
 |ok d Z1=>
  rw[q]at a;intro v G' H' e' s r;obtain⟨G2,Z2,d2,e2,r2,a2⟩:=a v G' H' e' s r;refine⟨d2,G2,Z2,e2,?_⟩;unfold U6 at a2;cases q2:g d2 Z2 with
  |bad=>rw[q2]at a2;exact a2.elim
  |ok d3 Z3=>rw[q2]at a2;exact λu G3 H3 e3 s3 r3=>⟨G3,Z3,d3,e3,mo _ _ _ _ s3 r2,r3,aft.mono s3 a2⟩
end
theorem Mf{K:Frag}(G G':Hp)(v:V)(d:D)(e:Same G G')(r:Rep K G v d):Rep K G' v d:=r.mono e
theorem tM.two{K:Frag}{B G0:Hp}{β δ:Type}{S:Hp->δ->β->Prop}{σ:St}{H:Hp}{f g:M D}{k:D->D->M β}{Q:δ->Hp->Prop}{P:V->V->Hp->Prop}
  (h:tM K B G0 S (U6 f λx=>U6 g λy=>k x y) σ H Q)
  (i:∀v u H2 G Z x y,EOk K B G0 G H2 σ Z->Rep K G v x->Rep K G u y->aft K B G0 S (k x y Z) G σ Q->P v u H2) :
  tD K B G0 f σ H (λv H1=>tD K B G0 g σ H1 λu H2=>P v u H2):=by
 obtain⟨G,Z,e,a⟩:=tM.bind2 (R:=Rep K) (R':=Rep K) Mf h;refine⟨G,Z,e,?_⟩;cases q:f Z with
 |bad=>rw[q]at a;exact a.elim
 |ok d Z1=>
  rw[q]at a;intro v G' H' e' s r;obtain⟨x,G2,Z2,e2,a2⟩:=a v G' H' e' s r;refine⟨G2,Z2,e2,?_⟩;cases q2:g Z2 with
  |bad=>rw[q2]at a2;exact a2.elim
  |ok d3 Z3=>rw[q2]at a2;intro u G3 H3 e3 s3 r3;obtain⟨G4,Z4,y,e4,r4,r5,a5⟩:=a2 u G3 H3 e3 s3 r3;exact i v u H3 G4 Z4 x y e4 r4 r5 a5
theorem tM.one{K:Frag}{B G0:Hp}{α β γ δ:Type}{R:Hp->γ->α->Prop}{S:Hp->δ->β->Prop}{σ:St}{H:Hp}{f:M α}{k:α->M β}{Q:δ->Hp->Prop}{P:γ->Hp->Prop}
  (h:tM K B G0 S (U6 f k) σ H Q) (i:∀v H2 G Z x,EOk K B G0 G H2 σ Z->R G v x->aft K B G0 S (k x Z) G σ Q->P v H2):tM K B G0 R f σ H P:=by
 obtain⟨G,Z,e,a⟩:=tM.bind (R:=R) h;refine⟨G,Z,e,?_⟩;cases q:f Z with
 |bad=>rw[q]at a;exact a.elim
 |ok d Z1=>rw[q]at a;intro v G' H' e' s r;obtain⟨G2,Z2,d2,e2,r2,a2⟩:=a v G' H' e' s r;exact i v H' G2 Z2 d2 e2 r2 a2
section
variable{X:Cx}{B G0:Hp}{e a b:Uq}{pos:Pos}
theorem Ko{t t':TE}(h:PE X e t)(i:∀σ H Q,t' σ H Q->t σ H Q):PE X e t':=λpins s σ H Q I q=>h pins s σ H Q I (i σ H Q q)
theorem Yz{t t':TT}(h:PT X e t)(i:∀σ H Q,t' σ H Q->t σ H Q):PT X e t':=λpins s σ H Q I q=>h pins s σ H Q I (i σ H Q q)
theorem paof{es:List Uq}{t t':TA}(h:PA X es t)(i:∀σ H Q,t' σ H Q->t σ H Q):PA X es t':=λps pins s σ H Q I q=>h ps pins s σ H Q I (i σ H Q q)
theorem poof{eo:Option Uq}{t t':TO}(h:PO X eo t)(i:∀σ H Q,t' σ H Q->t σ H Q):PO X eo t':=λpins s σ H Q I q=>h pins s σ H Q I (i σ H Q q)
theorem Zl{st:Stmt}{t t':TS}(h:PS X st t)(i:∀D σ H,t' D σ H->t D σ H):PS X st t':=λpins s σ H D I q=>h pins s σ H D I (i D σ H q)
theorem OQ{st:List Stmt}{t t':TS}(h:PSs X st t)(i:∀D σ H,t' D σ H->t D σ H):PSs X st t':=λpins s σ H D I q=>h pins s σ H D I (i D σ H q)
def UA(i:Nat):M D:=λZ=>match Z[i]? with
 |some (some (.pub d))=>.ok d Z
 |some (some (.own ds))=>.ok (.list ds) (Z.set i (some (.pub (.list ds))))
 |_=>.bad
theorem ZN{i:Nat}(h:PE X e (Zw i)):PE X e (tD X.K B G0 (UA i)):=Ko h λσ H Q ⟨G,Z,k,a⟩=>by
 unfold UA at a;cases q:Z[i]? with
 |none=>rw[q]at a;exact a.elim
 |some o=>
  cases o with
  |none=>rw[q]at a;exact a.elim
  |some sl=>
   cases sl with
   |deep _ _=>rw[q]at a;exact a.elim
   |pub d=>rw[q]at a;obtain⟨v,h1,h2⟩:=k.pub i d q;exact⟨v,h1,a.now k h2⟩
   |own ds=>rw[q]at a;obtain⟨ad,G',h1,h2,h3,h4⟩:=k.publish q;exact⟨.ref ad,h1,a (.ref ad) G' H h4 h2 h3⟩
theorem Ru{v:V}{d:D}(h:PE X e (tC v))(r:∀G,Rep X.K G v d):PE X e (tD X.K B G0 (UN d)):=Ko h λσ H Q ⟨G,Z,k,a⟩=>a.now k (r G)
theorem O1{i:Int}{j}:PE X (.Constant (.int i) j pos) (tD X.K B G0 (UN (.int i))):=Ru FN λ_=>.int i
theorem DS{i:Bool}{j}:PE X (.Constant (.bool i) j pos) (tD X.K B G0 (UN (.bool i))):=Ru GZ λ_=>.bl i
theorem DR{j}:PE X (.Constant .none j pos) (tD X.K B G0 (UN .none)):=Ru FM λ_=>.non
theorem F2{x:Str}{j}:PE X (.Constant (.str x) j pos) (tD X.K B G0 (UN (.str x))):=Ru FL λ_=>.str x
def UO{β:Type}(op:D->D->Option β)(f g:M D):M β:=U6 f λx=>U6 g λy=>U9 (op x y)
def OpD(X:Cx)(f:Uk->Uk->Sem Uk)(op:D->D->Option D):Prop:=
 ∃r:R2,OpR X f r/\∀v u G H x y d Q,Same G H->Rep X.K G v x->Rep X.K G u y->op x y=some d->(∀w G' H',Ext G H G' H'->Rep X.K G' w d->Q w H')->r v u H Q
theorem Vq{op:Operator}{p:D->D->Option D}{f g:M D}(o:OpD X (binaryOp op) p)(ha:PE X a (tD X.K B G0 f))(hb:PE X b (tD X.K B G0 g)):PE X (.BinOp a op b pos) (tD X.K B G0 (UO p f g)):=by
 obtain⟨r,h,i⟩:=o;refine Ko (OV h ha hb) λσ H Q q=>?_;refine tM.two q λv u H2 G Z x y k rx ry a=>?_
 obtain⟨d,e,a⟩:=a.opt;exact i v u G H2 x y d Q k.gh rx ry e λw G' H' ex rw=>a.done k ex rw
theorem OpD.or{f:Uk->Uk->Sem Uk}{p q:D->D->Option D}(h:OpD X f p)(h':OpD X f q):OpD X f (λx y=>(p x y).orElse λ_=>q x y):=by
 obtain⟨r,h1,i1⟩:=h;obtain⟨r',h2,i2⟩:=h';refine⟨_,h1.or h2,λv u G H x y d Q s rx ry e k=>?_⟩;dsimp only at e;cases z:p x y with
 |some d'=>rw[z]at e;have e':d'=d:=QT e;subst e';exact .inl (i1 v u G H x y d' Q s rx ry z k)
 |none=>rw[z]at e;exact .inr (i2 v u G H x y d Q s rx ry e k)
def oII(g:Int->Int->Option D):D->D->Option D
 |.int i,.int j=>g i j
 |_,_=>none
theorem Me{g:Int->Int->Option D}{x y d:D}(e:oII g x y=some d):∃i j,x=.int i/\y=.int j/\g i j=some d:=by
 unfold oII at e;split at e
 ·exact⟨_,_,rfl,rfl,e⟩
 ·cases e
theorem OpD.int{f:Uk->Uk->Sem Uk}{C:Int->Int->Prop}{g:Int->Int->V}{p:Int->Int->Option D}(h:OpR X f (rI C g))(i:∀i j d,p i j=some d->C i j/\∀G,Rep X.K G (g i j) d):OpD X f (oII p):=by refine⟨_,h,λv u G H x y d Q s rx ry e k=>?_⟩;obtain⟨a,b,rfl,rfl,e⟩:=Me e;obtain⟨c,r⟩:=i a b d e;exact⟨a,b,rx.int_inv,ry.int_inv,c,k _ G H (.refl s) (r G)⟩
theorem OpD.int0{f:Uk->Uk->Sem Uk}{g:Int->Int->V}{p:Int->Int->D}(h:OpR X f (rI0 g))(i:∀i j G,Rep X.K G (g i j) (p i j)):OpD X f (oII λi j=>some (p i j)):=by refine⟨_,h,λv u G H x y d Q s rx ry e k=>?_⟩;obtain⟨a,b,rfl,rfl,e⟩:=Me e;cases e;exact⟨a,b,rx.int_inv,ry.int_inv,k _ G H (.refl s) (i a b G)⟩
end
section
variable{X:Cx}{B G0:Hp}{e a b c:Uq}{pos:Pos}
theorem F1:OpD X (binaryOp .Add) (oII λi j=>some (.int (i+j))):=.int0 Ef λ_ _ _=>.int _
theorem F0:OpD X (binaryOp .Sub) (oII λi j=>some (.int (i-j))):=.int0 Ee λ_ _ _=>.int _
def Yd(i j:Int):Option D:=if(-(2 ^ 64)<i/\i<2 ^ 64)∨(-(2 ^ 64)<j/\j<2 ^ 64)then some (.int (i*j))else none
theorem EM:OpD X (binaryOp .Mult) (oII Yd):=.int Ed λi j d h=>by
 unfold Yd at h;split at h
 ·rename_i c;cases h;exact⟨c,λ_=>.int _⟩
 ·cases h
def Wn(i j:Int):Option D:=if 0<j then some (.int (i % j))else none
theorem FZ:OpD X (binaryOp .Mod) (oII Wn):=.int Ec λi j d h=>by
 unfold Wn at h;split at h
 ·rename_i c;cases h;exact⟨c,λ_=>.int _⟩
 ·cases h
theorem D8:OpR X (binaryOp .FloorDiv) (rI (λi j=>0<j/\j<2 ^ 64) λi j=>.int (i / j)):=opI λi j _ _ _ _ _ hc q=>by
 have h1:(0:Int)<j:=hc.1;have h2:j<2 ^ 64:=hc.2;refine floordiv_int (by omega) (by rw[Int.fdiv_eq_ediv_of_nonneg i (by omega)];exact q) (.inl (PyProof.noPylong_of_log2 ?_));have h0:j.natAbs≠0:=by omega
 have:j.natAbs.log2<64:=(Nat.log2_lt h0).mpr (by omega);omega
def Wo(i j:Int):Option D:=if 0<j/\j<2 ^ 64 then some (.int (i / j))else none
theorem FY:OpD X (binaryOp .FloorDiv) (oII Wo):=.int D8 λi j d h=>by
 unfold Wo at h;split at h
 ·rename_i c;cases h;exact⟨c,λ_=>.int _⟩
 ·cases h
def Wm(i j:Int):Option D:=if 0<=j/\j<=1000000/\i.natAbs<2 ^ 64 then some (.int (i ^ j.toNat))else none
theorem FX:OpD X (binaryOp .Pow) (oII Wm):=.int Eb λi j d h=>by
 unfold Wm at h;split at h
 ·rename_i c;cases h;exact⟨c,λ_=>.int _⟩
 ·cases h
theorem lim:(1000000:Nat)<=Ur:=by decide
def Ri:D->D->Option D
 |.str x,.str y=>if x.length+y.length<=1000000 then some (.str (x++y))else none
 |_,_=>none
theorem EL:OpD X (binaryOp .Add) Ri:=by
 refine⟨_,AX,λv u G H x y d Q s rx ry e k=>?_⟩;unfold Ri at e;split at e
 ·split at e
  ·rename_i c;cases e;exact⟨_,_,rx.str_inv,ry.str_inv,QP c lim,k _ G H (.refl s) (.str _)⟩
  ·cases e
 ·cases e
def HW(K:Frag):R2:=λx y H Q=>∃l b xs zs,x=.ref l/\y=.ref b/\SqL K H l xs/\SqL K H b zs/\xs.length+zs.length<=Ur/\∀p,H p=none->Q (.ref p) (upd H p (.lst (xs++zs)))
theorem EK:OpR X (binaryOp .Add) (HW X.K):=by
 intro pins s σ H x y v u Q I rx ry h;obtain⟨l,b,xs,zs,rfl,rfl,hH,hB,hz,q⟩:=h;cases rx;cases ry;obtain⟨its,r,⟨⟨c1,d1,t1,s1⟩,n1,e1,ec1,ed1,et1⟩,z1⟩:=I.list hH;obtain⟨its2,r2,⟨⟨c2,d2,t2,s2⟩,n2,e2,ec2,ed2,et2⟩,z2⟩:=I.list hB;simp only at ec1 ed1 et1 ec2 ed2 et2;subst ec1 ed1 et1 ec2 ed2 et2;have hl:=r.length;have hl2:=r2.length;refine concat_meets ⟨_,e1,rfl⟩ ⟨_,e2,rfl⟩ noFill_list_add seq_list_add PySem.F.slot_list_add PySem.F.entry_list_add (PySem.F.args_list_add_2 _ _) (list_addW l b its.toArray its2.toArray n1 n2 none none s1 s2 (by rw[QG,QG];omega)) ⟨e1,e2,?_⟩;have ea:its.toArray++its2.toArray=(its++its2).toArray:=by simp
 rw[ea];exact⟨.ref _,_,I.lnew (t':=s.toks) (r.append r2) (by rw[Ql];omega),rfl,q _ I.fresh⟩
theorem HV(a:Int)(t:Tok)(l:Uo)(items:Array Uk)(n:Nat)(sl:Array (Option Uk)) :
  Meets (Builtin.«int.__rmul__» ⟨[.int a t,.ref l],[]⟩) (λ_ R s=>s.heap.get? l=some {cls:=.type "list", dict:=none,data:=.seq items n,slots:=sl}/\R (.ok (.ret Value.notImplemented)) s):=
 .of_wp λprog w A R s h=>by obtain⟨hp,g,d,tk,os⟩:=s;obtain⟨hl,h⟩:=h;wp_walk;exact⟨_,rfl,h⟩
theorem mulW(l:Uo)(items:Array Uk)(n:Nat)(x:Int)(u:Tok)(sl:Array (Option Uk))(hc0:¬(!Builtin.List.listFitsIndex x)=true)(hc1:¬items.size*x.toNat > (2 ^ 63-1) / 8)(hc2:¬Builtin.List.listTooLong (items.size*x.toNat)=true) :
  Meets (Builtin.«list.__mul__» ⟨[.ref l,.int x u],[]⟩) (λ_ R s=>s.heap.get? l=some {cls:=.type "list", dict:=none,data:=.seq items n,slots:=sl}/\R (.ok (.ret (Value.ref s.heap.objs.size))) {s with heap:=s.heap.push {cls:=Value.type "list", data:=Data.seq (List.foldl (λx1 x2=>x1++x2) #[] (Uw (if items.isEmpty=true then 0 else x.toNat) items))},toks:=s.toks}):=
 .of_wp λprog w A R s h=>by
  obtain⟨hp,g,d,tk,os⟩:=s;obtain⟨hl,h⟩:=h;have hsz:=AutoListH.joined_fits hc2
  wp_walk;refine wpAny_ite_false (QH (Nat.not_lt.mpr hsz)) ?_;wp_walk;exact⟨_,rfl,h⟩
def HU(K:Frag):R2:=λx y H Q=>∃l k xs,x=.ref l/\y=.int k/\SqL K H l xs /\ -(2 ^ 63)<=k/\k<2 ^ 63/\xs.length*k.toNat<=Ur /\
 ∀p,H p=none->Q (.ref p) (upd H p (.lst (Uw k.toNat xs).flatten))
theorem Md:OpR X (binaryOp .Mult) (HU X.K):=by
 intro pins s σ H x y v u Q I rx ry h;obtain⟨l,k,xs,rfl,rfl,hH,h1,h2,hz,q⟩:=h;cases rx;obtain⟨t,rfl⟩:=ry;obtain⟨its,r,⟨⟨c1,d1,t1,sl⟩,n,e,ec1,ed1,et1⟩,z⟩:=I.list hH;simp only at ec1 ed1 et1;subst ec1 ed1 et1;have hl:=r.length;have hlen:its.toArray.size*k.toNat<=Ur:=by rw[QG,←hl];exact hz
 have hcap:¬its.toArray.size*k.toNat > (2 ^ 63-1) / 8:=by
  have:(Ur:Nat)<=(2 ^ 63-1) / 8:=by decide
  omega
 have hfit:¬(!Builtin.List.listFitsIndex k)=true:=by rw[fitsIndex_both h1 h2];exact JF
 have hlong:¬Builtin.List.listTooLong (its.toArray.size*k.toNat)=true:=by rw[Cb hlen];exact JF
 have hnew:List.foldl (λx1 x2=>x1++x2) #[] (Uw (if its.toArray.isEmpty=true then 0 else k.toNat) its.toArray)=(Uw k.toNat its).flatten.toArray:=by
  have f0:∀m:Nat,List.foldl (λx1 x2=>x1++x2) #[] (Uw m its.toArray)=(Uw m its).flatten.toArray:=λm=>by have:=LD its m [];rw[Jm]at this;exact this
  rw[f0];cases its with
  |nil=>simp
  |cons a r'=>rw[if_neg (by simp)]
 refine wpAny_binaryOp_repeat_ref (T:= "list") (U:= "int") (by decide) ⟨_,e,rfl⟩ (λs'=>typeIs_int s' k t) noFill_list_mul F.fills_int_mul F.slot_int_rmul repeat_list F.slot_int_index.lookup
  (call_meets F.slot_int_rmul (typeIs_int s k t) F.entry_int_rmul (F.args_int_rmul_2 _ _) (HV k t l its.toArray n sl)
   ⟨e,rfl,⟨_,e,rfl⟩,call_meets F.slot_list_mul ⟨_,e,rfl⟩ F.entry_list_mul (F.args_list_mul_2 _ _) (mulW l its.toArray n k t sl hfit hcap hlong) ⟨e,?_⟩⟩)
 rw[hnew];exact⟨.ref _,_,I.lnew (t':=s.toks) (r.rep k.toNat) (by rw[DV,Nat.mul_comm];exact hz),rfl,q _ I.fresh⟩
def Rh:D->D->Option D
 |.list x,.list y=>if x.length+y.length<=1000000 then some (.list (x++y))else none
 |_,_=>none
theorem EJ:OpD X (binaryOp .Add) Rh:=by
 refine⟨_,EK,λv u G H x y d Q s rx ry e k=>?_⟩;unfold Rh at e;split at e
 ·split at e
  ·rename_i c;cases e;obtain⟨l,vs,rfl,h1,r1⟩:=rx.lst_inv;obtain⟨b,ws,rfl,h2,r2⟩:=ry.lst_inv;refine⟨l,b,vs,ws,rfl,rfl,s.seq h1,s.seq h2,by rw[r1.length,r2.length];exact QP c lim,λp hp=>k _ _ _ (Ext.new s hp) ?_⟩;exact .lst (SqL.of Zu) ((r1.append r2).mono (Zt (s.free hp)))
  ·cases e
 ·cases e
theorem Reps.rep{K:Frag}{G:Hp}{vs:List V}{ds:List D}(r:Reps K G vs ds):∀n:Nat,Reps K G (Uw n vs).flatten (Uw n ds).flatten
 |0=>.nil
 |n+1=>by rw[QX,QX,QM,QM];exact r.append (r.rep n)
def Rg:D->D->Option D
 |.list x,.int k=>if -1000000<=k/\k<=1000000/\x.length*k.toNat<=1000000 then some (.list (Uw k.toNat x).flatten)else none
 |_,_=>none
theorem EI:OpD X (binaryOp .Mult) Rg:=by
 refine⟨_,Md,λv u G H x y d Q s rx ry e k=>?_⟩;unfold Rg at e;split at e
 ·split at e
  ·rename_i c;cases e;obtain⟨l,vs,rfl,h1,r1⟩:=rx.lst_inv;refine⟨l,_,vs,rfl,ry.int_inv,s.seq h1,by omega,by omega,by rw[r1.length];exact QP c.2.2 lim,λp hp=>k _ _ _ (Ext.new s hp) ?_⟩;exact .lst (SqL.of Zu) ((r1.rep _).mono (Zt (s.free hp)))
  ·cases e
 ·cases e
def U0:D->D->Option D
 |.int i,.int j=>some (.int (i+j))
 |.str x,.str y=>if x.length+y.length<=1000000 then some (.str (x++y))else none
 |.list x,.list y=>if x.length+y.length<=1000000 then some (.list (x++y))else none
 |_,_=>none
def KZ:D->D->Option D
 |.int i,.int j=>some (.int (i-j))
 |_,_=>none
def Kr:D->D->Option D
 |.int i,.int j=>Yd i j
 |.list x,.int k=>if -1000000<=k/\k<=1000000/\x.length*k.toNat<=1000000 then some (.list (Uw k.toNat x).flatten)else none
 |_,_=>none
def Yc:D->D->Option D
 |.int i,.int j=>Wn i j
 |_,_=>none
def XI:D->D->Option D
 |.int i,.int j=>Wo i j
 |_,_=>none
def XG:D->D->Option D
 |.int i,.int j=>Wm i j
 |_,_=>none
theorem OpD.congr{f:Uk->Uk->Sem Uk}{p q:D->D->Option D}(h:OpD X f p)(e:∀x y,q x y=p x y):OpD X f q:=by
 have:q=p:=by funext x y;exact e x y
 rw[this];exact h
theorem HS:OpD X (binaryOp .Add) U0:=(F1.or (EL.or EJ)).congr λx y=>by cases x<;>cases y<;>first|rfl|(simp only[U0,oII,Ri,Rh,Option.orElse];done)|(simp only[U0,oII,Ri,Rh,Option.orElse];split<;>rfl)
theorem OY:OpD X (binaryOp .Sub) KZ:=F0.congr λx y=>by cases x<;>cases y<;>rfl
theorem HR:OpD X (binaryOp .Mult) Kr:=(EM.or EI).congr λx y=>by cases x<;>cases y<;>first|rfl|(simp only[Kr,oII,Rg,Option.orElse];done)|(simp only[Kr,oII,Rg,Option.orElse];split<;>first|rfl|assumption)
theorem HQ:OpD X (binaryOp .Mod) Yc:=FZ.congr λx y=>by cases x<;>cases y<;>rfl
theorem HP:OpD X (binaryOp .FloorDiv) XI:=FY.congr λx y=>by cases x<;>cases y<;>rfl
theorem HN:OpD X (binaryOp .Pow) XG:=FX.congr λx y=>by cases x<;>cases y<;>rfl
end
section
variable{X:Cx}{B G0:Hp}{e a b c:Uq}{pos:Pos}
def OpB(X:Cx)(f:Uk->Uk->Sem Uk)(op:D->D->Option Bool):Prop:=
 ∃r:R2,OpR X f r/\∀v u G H x y d Q,Same G H->Rep X.K G v x->Rep X.K G u y->op x y=some d->Q (.bl d) H->r v u H Q
theorem OpB.or{f:Uk->Uk->Sem Uk}{p q:D->D->Option Bool}(h:OpB X f p)(h':OpB X f q):OpB X f (λx y=>(p x y).orElse λ_=>q x y):=by
 obtain⟨r,h1,i1⟩:=h;obtain⟨r',h2,i2⟩:=h';refine⟨_,h1.or h2,λv u G H x y d Q s rx ry e k=>?_⟩;dsimp only at e;cases z:p x y with
 |some d'=>rw[z]at e;have e':d'=d:=QT e;subst e';exact .inl (i1 v u G H x y d' Q s rx ry z k)
 |none=>rw[z]at e;exact .inr (i2 v u G H x y d Q s rx ry e k)
theorem OpB.congr{f:Uk->Uk->Sem Uk}{p q:D->D->Option Bool}(h:OpB X f p)(e:∀x y,q x y=p x y):OpB X f q:=by
 have:q=p:=by funext x y;exact e x y
 rw[this];exact h
theorem PY{op:CmpOp}{p:D->D->Option Bool}{f g:M D}(o:OpB X (Uu op) p)(ha:PE X a (tD X.K B G0 f))(hb:PE X b (tD X.K B G0 g))(hm:behindInMarks op b=false) :
  PT X (.Compare a [op] [b] pos) (tBo X.K B G0 (UO p f g)):=by
 obtain⟨r,h,i⟩:=o;refine Yz (Mg h ha hb hm) λσ H Q q=>?_;refine tM.two q λv u H2 G Z x y k rx ry a=>?_
 obtain⟨d,e,a⟩:=a.opt;exact i v u G H2 x y d _ k.gh rx ry e ⟨d,rfl,a.now k rfl⟩
def UW{α β:Type}(h:α->β)(f:M α):M β:=U6 f λx=>UN (h x)
theorem tM.map{K:Frag}{α β γ δ:Type}{R:Hp->γ->α->Prop}{S:Hp->δ->β->Prop}{σ:St}{H:Hp}{h:α->β}{f:M α}{Q:δ->Hp->Prop}(j:γ->δ)(q:tM K B G0 S (UW h f) σ H Q)
  (i:∀G v x,R G v x->S G (j v) (h x)):tM K B G0 R f σ H (λv H'=>Q (j v) H'):=
 tM.one (R:=R) (f:=f) q λv H2 G Z x k r a=>aft.now (show aft K B G0 S (.ok (h x) Z) G σ Q from a) k (i G v x r)
theorem tBo.val{K:Frag}{σ:St}{H:Hp}{f:M Bool}{Q:VK}(q:tD K B G0 (UW Uy f) σ H Q):tBo K B G0 f σ H (λb H'=>Q (.bl b) H'):=
 tM.map (R:=λ_ b c=>b=c) V.bl q λG v x e=>by rw[e];exact .bl x
theorem EH{op:CmpOp}{p:D->D->Option Bool}{f g:M D}(o:OpB X (Uu op) p)(ha:PE X a (tD X.K B G0 f))(hb:PE X b (tD X.K B G0 g))(hm:behindInMarks op b=false) :
  PE X (.Compare a [op] [b] pos) (tD X.K B G0 (UW Uy (UO p f g))):=by
 obtain⟨r,h,i⟩:=o;refine Ko (Mh h ha hb hm) λσ H Q q=>?_;refine tM.two (tBo.val q) λv u H2 G Z x y k rx ry a=>?_
 obtain⟨d,e,a⟩:=a.opt;exact i v u G H2 x y d _ k.gh rx ry e (a.now k rfl)
def Vt(p q:D->D->Option Bool)(f g h:M D):M Bool:=U6 f λx=>U6 g λy=>U6 (U9 (p x y)) λt=>if t=true then U6 h λz=>U9 (q y z)else UN false
theorem Az{op op':CmpOp}{p q:D->D->Option Bool}{f g h:M D}(o:OpB X (Uu op) p)(o':OpB X (Uu op') q)(ha:PE X a (tD X.K B G0 f))(hb:PE X b (tD X.K B G0 g))(hc:PE X c (tD X.K B G0 h))
  (hm:lastMarks [op,op'] [b,c]=false:=by with_unfolding_all rfl):PT X (.Compare a [op,op'] [b,c] pos) (tBo X.K B G0 (Vt p q f g h)):=by
 obtain⟨r,h1,i⟩:=o;obtain⟨r',h2,i'⟩:=o';refine Yz (Cg h1 h2 ha hb hc hm) λσ H Q w=>?_;refine tM.two w λv u H2 G Z x y k rx ry a=>?_
 cases z:p x y with
 |none=>rw[z]at a;exact a.elim
 |some t=>
  rw[z]at a;refine i v u G H2 x y t _ k.gh rx ry z ⟨t,rfl,?_⟩;cases t with
  |false=>rw[Qu JF];exact⟨false,rfl,aft.now a k rfl⟩
  |true=>
   rw[Qm rfl];refine⟨G,Z,k,?_⟩;have a4:aft X.K B G0 (λ_ (b:Bool) c=>b=c) ((U6 h λz=>U9 (q y z)) Z) G σ Q:=a;unfold U6 at a4;cases z2:h Z with
   |bad=>rw[z2]at a4;exact a4.elim
   |ok d Z1=>rw[z2]at a4;intro w G5 H5 k5 s5 r5;obtain⟨t2,e2,a6⟩:=a4.opt;exact i' u w G5 H5 y d t2 _ k5.gh (ry.mono s5) r5 e2 ⟨t2,rfl,a6 t2 G5 H5 k5 s5 rfl⟩
theorem Ay{op op':CmpOp}{p q:D->D->Option Bool}{f g h:M D}(o:OpB X (Uu op) p)(o':OpB X (Uu op') q)(ha:PE X a (tD X.K B G0 f))(hb:PE X b (tD X.K B G0 g))(hc:PE X c (tD X.K B G0 h))
  (hm:lastMarks [op,op'] [b,c]=false:=by with_unfolding_all rfl):PE X (.Compare a [op,op'] [b,c] pos) (tD X.K B G0 (UW Uy (Vt p q f g h))):=by
 obtain⟨r,h1,i⟩:=o;obtain⟨r',h2,i'⟩:=o';refine Ko (Ch h1 h2 ha hb hc hm) λσ H Q w=>?_;refine tM.two (tBo.val w) λv u H2 G Z x y k rx ry a=>?_
 cases z:p x y with
 |none=>rw[z]at a;exact a.elim
 |some t=>
  rw[z]at a;refine i v u G H2 x y t _ k.gh rx ry z ⟨t,rfl,?_⟩;cases t with
  |false=>rw[Qu JF];exact aft.now (v:=false) a k rfl
  |true=>
   rw[Qm rfl];refine⟨G,Z,k,?_⟩;have a4:aft X.K B G0 (λ_ (b:Bool) c=>b=c) ((U6 h λz=>U9 (q y z)) Z) G σ (λb H'=>Q (.bl b) H'):=a;unfold U6 at a4;cases z2:h Z with
   |bad=>rw[z2]at a4;exact a4.elim
   |ok d Z1=>rw[z2]at a4;intro w G5 H5 k5 s5 r5;obtain⟨t2,e2,a6⟩:=a4.opt;exact i' u w G5 H5 y d t2 _ k5.gh (ry.mono s5) r5 e2 (a6 t2 G5 H5 k5 s5 rfl)
def oIB(g:Int->Int->Bool):D->D->Option Bool
 |.int i,.int j=>some (g i j)
 |_,_=>none
theorem OpB.int{f:Uk->Uk->Sem Uk}{g:Int->Int->Bool}(h:OpR X f (rI0 λi j=>.bl (g i j))):OpB X f (oIB g):=by
 refine⟨_,h,λv u G H x y d Q s rx ry e k=>?_⟩;unfold oIB at e;split at e
 ·cases e;exact⟨_,_,rx.int_inv,ry.int_inv,k⟩
 ·cases e
theorem B_lt:OpB X (Uu .Lt) (oIB λi j=>decide (i<j)):=.int Fu
theorem B_le:OpB X (Uu .LtE) (oIB λi j=>decide (i<=j)):=.int Ft
theorem B_gt:OpB X (Uu .Gt) (oIB λi j=>decide (j<i)):=.int Fs
theorem B_ge:OpB X (Uu .GtE) (oIB λi j=>decide (j<=i)):=.int Fq
mutual
theorem YH{pins:List (Uo×Obj)}{s:Ul}{σ:St}{G H:Hp}(I:Inv X pins σ H s)(sg:Same G H):∀{v:V}{d:D}{u:Uk},Rep X.K G v d->RelV v u->d.canLay0=true->∃as,Reads s.heap u d as
 |_,_,_,.non,r,_=>by cases r;exact⟨_,.none⟩
 |_,_,_,.bl b,r,_=>by cases r;exact⟨_,.bool b⟩
 |_,_,_,.int i,r,_=>by obtain⟨t,rfl⟩:=r;exact⟨_,.int i t⟩
 |_,_,_,.str x,r,_=>by obtain⟨t,rfl⟩:=r;exact⟨_,.str x t⟩
 |_,_,_,.lst h q,r,c=>by cases r;obtain⟨its,rv,⟨o,n,e,hc,_,hd⟩,hz⟩:=I.list (sg.seq h);obtain⟨as,ra⟩:=readsAll_of I sg q rv (show UB _=true by simpa[PyData.canLay0]using c);exact⟨_,.list e hc hd (by simpa using ra)⟩
 |_,_,_,.tup h q,r,c=>by cases r;obtain⟨its,rv,p,hz⟩:=I.tuple (YR sg h);obtain⟨o,e,hc,n,hd⟩:=p;obtain⟨as,ra⟩:=readsAll_of I sg q rv (show UB _=true by simpa[PyData.canLay0]using c);exact⟨_,.tuple e hc hd (by simpa using ra)⟩
 |_,_,_,.dic h,r,c=>by simp[PyData.canLay0]at c
 |_,_,_,.exc _ _ _ _,r,c=>by simp[PyData.canLay0]at c
 |_,_,_,.dct _ _ _ _ _,r,c=>by simp[PyData.canLay0]at c
 |_,_,_,.dtt _ _ _ _,r,c=>by simp[PyData.canLay0]at c
theorem readsAll_of{pins:List (Uo×Obj)}{s:Ul}{σ:St}{G H:Hp}(I:Inv X pins σ H s)(sg:Same G H):∀{vs:List V}{ds:List D}{us:List Uk},Reps X.K G vs ds->Vals vs us->UB ds=true->∃as,ReadsAll s.heap us ds as
 |_,_,_,.nil,r,_=>by cases r;exact⟨_,.nil⟩
 |_,_,_,.cons h t,r,c=>by
  cases r with
  |cons r1 r2=>have c':=c;rw[UB,Jc]at c';obtain⟨as,ra⟩:=YH I sg h r1 c'.1;obtain⟨bs,rb⟩:=readsAll_of I sg t r2 c'.2;exact⟨_,.cons ra rb⟩
end
def oEq(x y:D):Option Bool:=if x.canLay0=true/\y.canLay0=true/\x.depth<=60 then some (UD x y)else none
def oNe(x y:D):Option Bool:=if x.canLay0=true/\y.canLay0=true/\x.depth<=60 then some (!UD x y)else none
theorem B_eq(hu:X.A.units+64<cLine):OpB X (Uu .Eq) oEq:=by
 refine⟨λv u H Q=>∃G x y d,Same G H/\Rep X.K G v x/\Rep X.K G u y/\oEq x y=some d/\Q (.bl d) H,?_,λv u G H x y d Q s rx ry e k=>⟨G,x,y,d,s,rx,ry,e,k⟩⟩;intro pins s σ H x y v u Q I rx ry ⟨G,dx,dy,d,sg,px,py,e,q⟩;unfold oEq at e;split at e
 ·rename_i c;cases e;obtain⟨as,ra⟩:=YH I sg px rx c.1;obtain⟨bs,rb⟩:=YH I sg py ry c.2.1;exact SeqAt.compareEq_reads ra rb c.1 c.2.1 (by have:=c.2.2;omega) ⟨.bl _,H,I,rfl,q⟩
 ·cases e
theorem B_ne(hu:X.A.units+64<cLine):OpB X (Uu .NotEq) oNe:=by
 refine⟨λv u H Q=>∃G x y d,Same G H/\Rep X.K G v x/\Rep X.K G u y/\oNe x y=some d/\Q (.bl d) H,?_,λv u G H x y d Q s rx ry e k=>⟨G,x,y,d,s,rx,ry,e,k⟩⟩;intro pins s σ H x y v u Q I rx ry ⟨G,dx,dy,d,sg,px,py,e,q⟩;unfold oNe at e;split at e
 ·rename_i c;cases e;obtain⟨as,ra⟩:=YH I sg px rx c.1;obtain⟨bs,rb⟩:=YH I sg py ry c.2.1;exact SeqAt.compareNe_reads ra rb c.1 c.2.1 (by have:=c.2.2;omega) ⟨.bl _,H,I,rfl,q⟩
 ·cases e
def isNon:D->Bool
 |.none=>true
 |_=>false
theorem Rep.isNon{K:Frag}{G:Hp}{v:V}{d:D}(r:Rep K G v d):DL.isNon d=decide (v=.non):=by cases r<;>simp[DL.isNon]
end
section
variable{X:Cx}{B G0:Hp}{e a b c:Uq}{pos:Pos}{es rest:List Uq}
theorem tM.nx{K:Frag}{α β γ δ:Type}{R:Hp->γ->α->Prop}{S:Hp->δ->β->Prop}{σ:St}{G H:Hp}{Z:UG}{f:M α}{g:α->M β}{Q:δ->Hp->Prop}{P:γ->Hp->Prop}
  (k:EOk K B G0 G H σ Z) (a:aft K B G0 S (U6 f g Z) G σ Q) (i:∀v H' G' Z' x,EOk K B G0 G' H' σ Z'->Same G G'->R G' v x->aft K B G0 S (g x Z') G' σ Q->P v H'):tM K B G0 R f σ H P:=by
 refine⟨G,Z,k,?_⟩;unfold U6 at a;cases q:f Z with
 |bad=>rw[q]at a;exact a.elim
 |ok d Z1=>rw[q]at a;exact λv G' H' e s r=>i v H' G' Z1 d e s r (aft.mono s a)
def Zd(f g:M Bool):M Bool:=U6 f λt=>if t=true then g else UN false
def mOr(f g:M Bool):M Bool:=U6 f λt=>if t=true then UN true else g
def KP(f:M Bool):M Bool:=UW (λt=>!t) f
theorem EG{K:Frag}{f g:M Bool}{σ:St}{H:Hp}{Q:Bool->Hp->Prop}(q:tBo K B G0 (Zd f g) σ H Q):tAnd (tBo K B G0 f) (tBo K B G0 g) σ H Q:=
 tM.one (R:=λ_ b c=>b=c) q λv H2 G Z x k r a=>by
  have r:v=x:=r;subst r;cases v with
  |true=>exact⟨G,Z,k,a⟩
  |false=>exact aft.now (v:=false) a k rfl
theorem En{K:Frag}{f g:M Bool}{σ:St}{H:Hp}{Q:Bool->Hp->Prop}(q:tBo K B G0 (mOr f g) σ H Q):tOr (tBo K B G0 f) (tBo K B G0 g) σ H Q:=
 tM.one (R:=λ_ b c=>b=c) q λv H2 G Z x k r a=>by
  have r:v=x:=r;subst r;cases v with
  |false=>exact⟨G,Z,k,a⟩
  |true=>exact aft.now (v:=true) a k rfl
theorem pwof{t t':TT}(h:PW X e t)(i:∀σ H Q,t' σ H Q->t σ H Q):PW X e t':=λwh pins s σ H Q I q=>h wh pins s σ H Q I (i σ H Q q)
theorem D7{f:M Bool}(ha:PT X a (tBo X.K B G0 f)):PW X (.BoolOp .And [a] pos) (tBo X.K B G0 f):=DM ha
theorem EF{f:M Bool}(ha:PT X a (tBo X.K B G0 f)):PW X (.BoolOp .Or [a] pos) (tBo X.K B G0 f):=FH ha
theorem EE{f g:M Bool}(ha:PT X a (tBo X.K B G0 f))(hb:PW X (.BoolOp .And (b::rest) pos) (tBo X.K B G0 g)):PW X (.BoolOp .And (a::b::rest) pos) (tBo X.K B G0 (Zd f g)):=pwof (FG ha hb) λ_ _ _ q=>EG q
theorem Em{f g:M Bool}(ha:PT X a (tBo X.K B G0 f))(hb:PW X (.BoolOp .Or (b::rest) pos) (tBo X.K B G0 g)):PW X (.BoolOp .Or (a::b::rest) pos) (tBo X.K B G0 (mOr f g)):=pwof (GX ha hb) λ_ _ _ q=>En q
theorem ED{f:M Bool}(ha:PT X a (tBo X.K B G0 f)):PT X (.UnaryOp .Not a pos) (tBo X.K B G0 (KP f)):=Yz (FF ha) λσ H Q q=>tM.map (R:=λ_ b c=>b=c) (λt=>!t) q λ_ v x e=>by rw[e]
def ZX(f:M D):M Bool:=U6 f λx=>match x with | .bool t=>UN t|_=>λ_=>.bad
theorem EC{f:M D}(h:PE X e (tD X.K B G0 f))(he:∀whole,isTrue e X.env whole=(do let v ←whole;standAt e.pos;holding [v] (truthy v)):=by intro _;rfl):PT X e (tBo X.K B G0 (ZX f)):=
 Yz (FI h he) λσ H Q q=>tM.one (R:=Rep X.K) q λv H2 G Z x k r a=>by
  cases x with
  |bool t=>exact⟨t,r.bl_inv,aft.now (v:=t) a k rfl⟩
  |_=>exact a.elim
def Vp(f g:M D):M D:=U6 f λx=>match x with | .bool true=>g | .bool false=>UN (.bool false)|_=>λ_=>.bad
def Xc(f g:M D):M D:=U6 f λx=>match x with | .bool true=>UN (.bool true) | .bool false=>g|_=>λ_=>.bad
def Su(f:M D):M D:=U6 f λx=>match x with | .bool t=>UN (.bool (!t))|_=>λ_=>.bad
theorem EB{f g:M D}(ha:PE X a (tD X.K B G0 f))(hb:PE X (.BoolOp .And (b::rest) pos) (tD X.K B G0 g)):PE X (.BoolOp .And (a::b::rest) pos) (tD X.K B G0 (Vp f g)):=
 Ko (FD ha hb) λσ H Q q=>tM.one (R:=Rep X.K) q λv H2 G Z x k r a=>by
  cases x with
  |bool t=>
   refine⟨t,r.bl_inv,?_⟩;cases t with
   |true=>exact⟨G,Z,k,a⟩
   |false=>exact aft.now a k (.bl false)
  |_=>exact a.elim
theorem El{f g:M D}(ha:PE X a (tD X.K B G0 f))(hb:PE X (.BoolOp .Or (b::rest) pos) (tD X.K B G0 g)):PE X (.BoolOp .Or (a::b::rest) pos) (tD X.K B G0 (Xc f g)):=
 Ko (GU ha hb) λσ H Q q=>tM.one (R:=Rep X.K) q λv H2 G Z x k r a=>by
  cases x with
  |bool t=>
   refine⟨t,r.bl_inv,?_⟩;cases t with
   |false=>exact⟨G,Z,k,a⟩
   |true=>exact aft.now a k (.bl true)
  |_=>exact a.elim
theorem EA{op}{f:M D}(h:PE X a (tD X.K B G0 f)):PE X (.BoolOp op [a] pos) (tD X.K B G0 f):=FE h
theorem Ez{f:M D}(ha:PE X a (tD X.K B G0 f)):PE X (.UnaryOp .Not a pos) (tD X.K B G0 (Su f)):=
 Ko (FC ha) λσ H Q q=>tM.one (R:=Rep X.K) q λv H2 G Z x k r a=>by
  cases x with
  |bool t=>exact⟨t,r.bl_inv,aft.now a k (.bl _)⟩
  |_=>exact a.elim
def mIf{α:Type}(f:M Bool)(g h:M α):M α:=U6 f λt=>if t=true then g else h
theorem Ax{f:M Bool}{g h:M D}(hc:PT X c (tBo X.K B G0 f))(ha:PE X a (tD X.K B G0 g))(hb:PE X b (tD X.K B G0 h)):PE X (.IfExp c a b pos) (tD X.K B G0 (mIf f g h)):=
 Ko (Bo hc ha hb) λσ H Q q=>tM.one (R:=λ_ b c=>b=c) q λv H2 G Z x k r a=>by
  have r:v=x:=r;subst r;cases v with
  |true=>exact⟨G,Z,k,a⟩
  |false=>exact⟨G,Z,k,a⟩
theorem Ey{f:M D}{j p2}(ha:PE X a (tD X.K B G0 f)):PT X (.Compare a [.Is] [.Constant .none j p2] pos) (tBo X.K B G0 (UW isNon f)):=
 Yz (O7 (O8 ha)) λσ H Q q=>tM.one (R:=Rep X.K) q λv H2 G Z x k r a=>⟨_,rfl,aft.now a k (by rw[r.isNon])⟩
theorem MQ{f:M D}{j p2}(ha:PE X a (tD X.K B G0 f)):PT X (.Compare a [.IsNot] [.Constant .none j p2] pos) (tBo X.K B G0 (UW (λd=>!isNon d) f)):=
 Yz (O7 (DN ha)) λσ H Q q=>tM.one (R:=Rep X.K) q λv H2 G Z x k r a=>⟨_,rfl,aft.now a k (by dsimp only;rw[r.isNon])⟩
theorem Ex{f:M D}{j p2}(ha:PE X a (tD X.K B G0 f)):PE X (.Compare a [.Is] [.Constant .none j p2] pos) (tD X.K B G0 (UW (λd=>.bool (isNon d)) f)):=
 Ko (FJ (O8 ha)) λσ H Q q=>tM.one (R:=Rep X.K) q λv H2 G Z x k r a=>aft.now a k (by dsimp only;rw[r.isNon];exact .bl _)
def UH:M (List D):=UN []
def UL(f:M D)(g:M (List D)):M (List D):=U6 f λx=>U6 g λxs=>UN (x::xs)
theorem Sa:PA X [] (tDs X.K B G0 UH):=paof T6 λσ H Q ⟨G,Z,k,a⟩=>aft.now a k .nil
theorem tM.twoA{K:Frag}{σ:St}{H:Hp}{f:M D}{g:M (List D)}{β δ:Type}{S:Hp->δ->β->Prop}{k:D->List D->M β}{Q:δ->Hp->Prop}{P:V->List V->Hp->Prop}
  (h:tM K B G0 S (U6 f λx=>U6 g λy=>k x y) σ H Q)
  (i:∀v u H2 G Z x y,EOk K B G0 G H2 σ Z->Rep K G v x->Reps K G u y->aft K B G0 S (k x y Z) G σ Q->P v u H2) :
  tD K B G0 f σ H (λv H1=>tDs K B G0 g σ H1 λu H2=>P v u H2):=by
 obtain⟨G,Z,e,a⟩:=tM.bind2 (R:=Rep K) (R':=Reps K) Mf h;refine⟨G,Z,e,?_⟩;cases q:f Z with
 |bad=>rw[q]at a;exact a.elim
 |ok d Z1=>
  rw[q]at a;intro v G' H' e' s r;obtain⟨x,G2,Z2,e2,a2⟩:=a v G' H' e' s r;refine⟨G2,Z2,e2,?_⟩;cases q2:g Z2 with
  |bad=>rw[q2]at a2;exact a2.elim
  |ok d3 Z3=>rw[q2]at a2;intro u G3 H3 e3 s3 r3;obtain⟨G4,Z4,y,e4,r4,r5,a5⟩:=a2 u G3 H3 e3 s3 r3;exact i v u H3 G4 Z4 x y e4 r4 r5 a5
theorem Y3{f:M D}{g:M (List D)}(ha:PE X e (tD X.K B G0 f))(hr:PA X es (tDs X.K B G0 g))(hs:Ut (e::es) X.env=(false,eval e X.env)::Ut es X.env:=by rfl) :
  PA X (e::es) (tDs X.K B G0 (UL f g)):=paof (VA ha hr hs) λσ H Q q=>tM.twoA q λv u H2 G Z x y k r1 r2 a=>aft.now a k (.cons r1 r2)
def Ku(f:M (List D)):M D:=U6 f λxs=>if xs.length<=1000000 then UN (.tuple xs)else λ_=>.bad
def Ks(f:M (List D)):M D:=U6 f λxs=>if xs.length<=1000000 then UN (.list xs)else λ_=>.bad
theorem PX{x1}{f:M (List D)}(h:PA X es (tDs X.K B G0 f)):PE X (.Tuple es x1 pos) (tD X.K B G0 (Ku f)):=
 Ko (F8 h) λσ H Q q=>tM.one (R:=Reps X.K) q λv H2 G Z x k r a=>by
  split at a
  ·rename_i c;refine⟨by rw[r.length];exact QP c lim,λp hp=>?_⟩;exact aft.done a k (Ext.new k.gh hp) (.tup (SqT.of Zu) (r.mono (Zt (k.gh.free hp))))
  ·exact a.elim
theorem Mc{f:M (List D)}(h:PA X es (tDs X.K B G0 f)):PE X (.List es pos) (tD X.K B G0 (Ks f)):=
 Ko (O3 h) λσ H Q q=>tM.one (R:=Reps X.K) q λv H2 G Z x k r a=>by
  split at a
  ·rename_i c;refine⟨by rw[r.length];exact QP c lim,λp hp=>?_⟩;exact aft.done a k (Ext.new k.gh hp) (.lst (SqL.of Zu) (r.mono (Zt (k.gh.free hp))))
  ·exact a.elim
def oIx:D->D->Option D
 |.list xs,.int i=>atI xs i
 |.tuple xs,.int i=>atI xs i
 |.str z,.int i=>if z.length<=1000000 then(atI z.cps.toList i).map λc=>.str ⟨#[c]⟩else none
 |_,_=>none
theorem Reps.atI{K:Frag}{G:Hp}{vs:List V}{ds:List D}{i:Int}{d:D}(r:Reps K G vs ds)(h:L2.atI ds i=some d):∃v,L2.atI vs i=some v/\Rep K G v d:=by
 unfold L2.atI at h⊢;rw[r.length];cases z:ixN ds.length i with
 |none=>rw[z]at h;cases h
 |some j=>rw[z]at h;exact r.get (i:=j) h
theorem O0{K:Frag}{v u:V}{G H:Hp}{x y d:D}{Q:VK}(s:Same G H)(rx:Rep K G v x)(ry:Rep K G u y)(e:oIx x y=some d)(k:∀w,Rep K G w d->Q w H):rIx K v u H Q:=by
 unfold oIx at e;split at e
 ·obtain⟨l,vs,rfl,h1,r1⟩:=rx.lst_inv;obtain⟨w,e1,r2⟩:=r1.atI e;exact .inl ⟨l,vs,_,w,rfl,ry.int_inv,s.seq h1,e1,k w r2⟩
 ·obtain⟨l,vs,rfl,h1,r1⟩:=rx.tup_inv;obtain⟨w,e1,r2⟩:=r1.atI e;exact .inr (.inl ⟨l,vs,_,w,rfl,ry.int_inv,YR s h1,e1,k w r2⟩)
 ·split at e
  ·rename_i z i hz;cases q:L2.atI z.cps.toList i with
   |none=>rw[q]at e;cases e
   |some ch=>rw[q]at e;cases e;exact .inr (.inr ⟨z,i,ch,rx.str_inv,ry.int_inv,QP hz lim,q,k _ (.str _)⟩)
  ·cases e
 ·cases e
theorem Ek{f g:M D}(ha:PE X a (tD X.K B G0 f))(hb:PE X b (tD X.K B G0 g))(hs:PZ b):PE X (.Subscript a b pos) (tD X.K B G0 (UO oIx f g)):=
 Ko (OS O2 ha hb hs) λσ H Q q=>tM.two q λv u H2 G Z x y k rx ry a=>by obtain⟨d,e,a⟩:=a.opt;exact O0 k.gh rx ry e λw r=>a.now k r
def UZ(i:Nat)(g:M D):M D:=λZ=>match Z[i]? with
 |some (some (.pub d))=>(U6 g λy=>U9 (oIx d y)) Z
 |some (some (.own _))=>(U6 g λy=>λZ'=>match Z'[i]? with|some (some (.own ds))=>U9 (oIx (.list ds) y) Z'|_=>.bad) Z
 |_=>.bad
theorem T9{i:Nat}{g:M D}(ha:PE X a (Zw i))(hb:PE X b (tD X.K B G0 g))(hs:PZ b):PE X (.Subscript a b pos) (tD X.K B G0 (UZ i g)):=
 Ko (OS O2 ha hb hs) λσ H Q ⟨G,Z,k,a⟩=>by
  unfold UZ at a;cases q:Z[i]? with
  |none=>rw[q]at a;exact a.elim
  |some o=>
   cases o with
   |none=>rw[q]at a;exact a.elim
   |some sl=>
    cases sl with
    |deep _ _=>rw[q]at a;exact a.elim
    |pub d=>
     rw[q]at a;obtain⟨v,h1,h2⟩:=k.pub i d q;refine⟨v,h1,G,Z,k,?_⟩;dsimp only[U6]at a;cases z:g Z with
     |bad=>rw[z]at a;exact a.elim
     |ok y Z1=>rw[z]at a;intro u G' H' k' s' r';obtain⟨d',e',a'⟩:=aft.opt a;exact O0 k'.gh (h2.mono s') r' e' λw r=>a' w G' H' k' s' r
    |own ds=>
     rw[q]at a;obtain⟨ad,vs,h1,h2,h3,h4,h5⟩:=k.own i ds q;refine⟨.ref ad,h1,G,Z,k,?_⟩;dsimp only[U6]at a;cases z:g Z with
     |bad=>rw[z]at a;exact a.elim
     |ok y Z1=>
      rw[z]at a;dsimp only at a;intro u G' H' k' s' r';cases z2:Z1[i]? with
      |none=>rw[z2]at a;exact a.elim
      |some o2=>
       cases o2 with
       |none=>rw[z2]at a;exact a.elim
       |some sl2=>
        cases sl2 with
        |deep _ _=>rw[z2]at a;exact a.elim
        |pub d2=>rw[z2]at a;exact a.elim
        |own es2=>
         rw[z2]at a;obtain⟨d',e',a'⟩:=aft.opt a;obtain⟨ad',vs',g1,g2,g3,g4,g5⟩:=k'.own i es2 z2;rw[h1]at g1;cases g1;unfold oIx at e';cases y with
         |int j=>obtain⟨w,e1,r2⟩:=g5.atI e';exact .inl ⟨ad,vs',j,w,rfl,r'.int_inv,SqL.of g4,e1,a' w G' H' k' s' r2⟩
         |_=>cases e'
def cutD(xs:List D)(lo hi:Option Int):List D:=(xs.drop (HT.sIx xs.length 0 lo)).take (HT.sIx xs.length xs.length hi-HT.sIx xs.length 0 lo)
theorem Reps.cut{K:Frag}{G:Hp}{vs:List V}{ds:List D}(r:Reps K G vs ds)(lo hi:Option Int):Reps K G (Xe vs lo hi) (cutD ds lo hi):=by unfold Xe cutD;rw[r.length];exact(r.drop _).take _
def YE:D->Option (Option Int)
 |.int i=>some (some i)
 |_=>none
theorem D6:PO X none (tOi X.K B G0 (UN none)):=poof DD λσ H Q ⟨G,Z,k,a⟩=>aft.now a k rfl
theorem D5{f:M D}(h:PE X e (tD X.K B G0 f)):PO X (some e) (tOi X.K B G0 (U6 f λx=>U9 (YE x))):=poof (DZ h) λσ H Q q=>tM.one (R:=Rep X.K) q λv H2 G Z x k r a=>by
 cases x with
 |int i=>exact⟨i,r.int_inv,aft.now (v:=some i) a k rfl⟩
 |_=>exact a.elim
end
def Wp:List (D×D)->Bool
 |(.none,_)::_=>true
 |_=>false
def Y7:D->String
 |.none=> "NoneType"
 |.bool _=> "bool"
 |.int _=> "int"
 |.str _=> "str"
 |.list _=> "list"
 |.tuple _=> "tuple"
 |.dict kvs=>if Wp kvs=true then "" else "dict"
def KF(d:D)(c:String):Bool:=Y7 d==c || (Y7 d == "bool" && c == "int")
def Ss:D->Bool
 |.dict kvs=>Wp kvs
 |_=>false
theorem OZ{ks:List Key}{ds:List D}:Y7 (.dict ((ks.map kD).zip ds)) = "dict" /\ Ss (.dict ((ks.map kD).zip ds))=false:=by
 cases ks with
 |nil=>exact⟨rfl,rfl⟩
 |cons k ks=>
  cases ds with
  |nil=>exact⟨rfl,rfl⟩
  |cons d ds=>cases k<;>exact⟨rfl,rfl⟩
theorem Ew(K:Frag)(d:D)(c:String)(nx:Ss d=false)(hc:c = "int" ∨ c = "bool" ∨ c = "str" ∨ c = "list" ∨ c = "tuple" ∨ c = "dict"):PySem.W.kitOne K (.type (Y7 d)) (.type c)=some (KF d c):=by
 cases d with
 |dict kvs=>
  have e:Y7 (.dict kvs) = "dict" :=by
   have nx:Wp kvs=false:=nx
   show(if Wp kvs=true then "" else "dict")=_
   rw[nx];rfl
  unfold KF;rw[e];rcases hc with rfl|rfl|rfl|rfl|rfl|rfl<;>rfl
 |_=>rcases hc with rfl|rfl|rfl|rfl|rfl|rfl<;>rfl
section
variable{X:Cx}{B G0:Hp}{e a b c:Uq}{pos:Pos}{es rest:List Uq}
def YX(X:Cx)(f:Uk)(p:List D->Option D):Prop:=
 ∃r,YF X f r/\∀vs G H ds d Q,Same G H->Reps X.K G vs ds->p ds=some d->(∀w G' H',Ext G H G' H'->Rep X.K G' w d->Q w H')->r vs H Q
def Zo(p:List D->Option D)(f:M (List D)):M D:=U6 f λxs=>U9 (p xs)
theorem So{x:Str}{p2:Pos}{id:String}{p:List D->Option D}{f:M (List D)}(hc:YX X (.builtin id) p)(hg:Gl X x)(hm:X.mg x=none)(hv:bootBuiltins x=some (.builtin id))(ha:PA X (e::es) (tDs X.K B G0 f))(hn:x ≠ "__name__" :=by decide)(hdb:(x==("__debug__" : Str))=false:=by decide)
  (he:Ut (e::es) X.env=(false,eval e X.env)::Ut es X.env:=by rfl) (hpl:(backTo pos (Ut es X.env)).any (·.1)=false:=by rfl):PE X (.Call (.Name x p2) (e::es) [] pos) (tD X.K B G0 (Zo p f)):=by
 obtain⟨r,h,i⟩:=hc;refine Ko (RT h hg hm hv ha hn hdb he hpl) λσ H Q q=>tM.one (R:=Reps X.K) q λv H2 G Z x k rr a=>?_
 obtain⟨d,e,a⟩:=a.opt;exact i v G H2 x d Q k.gh rr e λw G' H' ex rw=>a.done k ex rw
theorem Reps.nil_inv{K:Frag}{G:Hp}{vs:List V}(r:Reps K G vs []):vs=[]:=by cases r;rfl
theorem Reps.one_inv{K:Frag}{G:Hp}{vs:List V}{d:D}(r:Reps K G vs [d]):∃v,vs=[v]/\Rep K G v d:=by
 cases r with
 |cons h t=>cases t;exact⟨_,rfl,h⟩
theorem Reps.two_inv{K:Frag}{G:Hp}{vs:List V}{d d':D}(r:Reps K G vs [d,d']):∃v v',vs=[v,v']/\Rep K G v d/\Rep K G v' d':=by
 cases r with
 |cons h t=>obtain⟨v',rfl,r'⟩:=t.one_inv;exact⟨_,v',rfl,h,r'⟩
def Kb:List D->Option D
 |[.list xs]=>some (.int xs.length)
 |[.tuple xs]=>some (.int xs.length)
 |[.str z]=>if z.length<=1000000 then some (.int z.length)else none
 |_=>none
theorem OX:YX X (.builtin "len") Kb:=by
 refine⟨_,MS,λvs G H ds d Q s r e k=>?_⟩;unfold Kb at e;split at e
 ·cases e;obtain⟨v,rfl,q⟩:=r.one_inv;obtain⟨l,ws,rfl,h1,r1⟩:=q.lst_inv;exact⟨.ref l,ws.length,rfl,.inl ⟨ws,s.seq h1,rfl⟩,by rw[r1.length];exact k _ G H (.refl s) (.int _)⟩
 ·cases e;obtain⟨v,rfl,q⟩:=r.one_inv;obtain⟨l,ws,rfl,h1,r1⟩:=q.tup_inv;exact⟨.ref l,ws.length,rfl,.inr ⟨ws,YR s h1,rfl⟩,by rw[r1.length];exact k _ G H (.refl s) (.int _)⟩
 ·split at e
  ·rename_i z hz;cases e;obtain⟨v,rfl,q⟩:=r.one_inv;exact⟨.str z,z.length,by rw[q.str_inv],⟨QP hz lim,rfl⟩,k _ G H (.refl s) (.int _)⟩
  ·cases e
 ·cases e
def Sw:List D->Option D
 |[.int i,.int j]=>some (.int (if j > i then j else i))
 |_=>none
theorem Ej(hc:X.calm=true):YX X (.builtin "max") Sw:=by
 refine⟨_,AF hc,λvs G H ds d Q s r e k=>?_⟩;unfold Sw at e;split at e
 ·cases e;obtain⟨v,v',rfl,r1,r2⟩:=r.two_inv;exact⟨_,_,by rw[r1.int_inv,r2.int_inv],k _ G H (.refl s) (.int _)⟩
 ·cases e
def K9(i:Nat):M D:=λZ=>match Z[i]? with
 |some (some (.pub d))=>U9 (Kb [d]) Z
 |some (some (.own ds))=>.ok (.int ds.length) Z
 |_=>.bad
theorem MP{i:Nat}{p2:Pos}(hg:Gl X "len")(hm:X.mg "len" = none)(ha:PE X e (Zw i))(he:Ut [e] X.env=[(false,eval e X.env)]:=by rfl):PE X (.Call (.Name "len" p2) [e] [] pos) (tD X.K B G0 (K9 i)):=by
 refine Ko (RT MS hg hm PySem.boot_len (VA ha T6 (by rw[he];rfl)) (by decide) (by decide) (by rw[he];rfl) rfl) λσ H Q ⟨G,Z,k,a⟩=>?_
 unfold K9 at a;cases q:Z[i]? with
 |none=>rw[q]at a;exact a.elim
 |some o=>
  cases o with
  |none=>rw[q]at a;exact a.elim
  |some sl=>
   cases sl with
   |deep _ _=>rw[q]at a;exact a.elim
   |pub d=>
    rw[q]at a;obtain⟨v,h1,h2⟩:=k.pub i d q;refine⟨v,h1,?_⟩;obtain⟨d',e',a'⟩:=aft.opt a;obtain⟨r,hr,ir⟩:=@OX X;show ∃x n,[v]=[x]/\LenV X.K x H n/\Q (.int n) H;unfold Kb at e';split at e'
    ·rename_i xs he';injection he' with he1 he2;subst he1;cases e'
     obtain⟨l,ws,rfl,g1,r1⟩:=h2.lst_inv;exact⟨.ref l,ws.length,rfl,.inl ⟨ws,k.gh.seq g1,rfl⟩,by rw[r1.length];exact a'.now k (.int _)⟩
    ·rename_i xs he';injection he' with he1 he2;subst he1;cases e'
     obtain⟨l,ws,rfl,g1,r1⟩:=h2.tup_inv;exact⟨.ref l,ws.length,rfl,.inr ⟨ws,YR k.gh g1,rfl⟩,by rw[r1.length];exact a'.now k (.int _)⟩
    ·rename_i z he';injection he' with he1 he2;subst he1
     split at e'
     ·rename_i hz;cases e';exact⟨.str z,z.length,by rw[h2.str_inv],⟨QP hz lim,rfl⟩,a'.now k (.int _)⟩
     ·cases e'
    ·cases e'
   |own ds=>rw[q]at a;obtain⟨ad,vs,h1,g2,g3,h4,h5⟩:=k.own i ds q;exact⟨.ref ad,h1,.ref ad,vs.length,rfl,.inl ⟨vs,SqL.of h4,rfl⟩,by rw[h5.length];exact aft.now a k (.int _)⟩
theorem Ev{pins:List (Uo×Obj)}{s:Ul}{σ:St}{G H:Hp}{v:V}{u:Uk}{d:D}{cv:Uk}{t:Bool}{A:Around}{E:Uk->Ul->Prop}{Q:Uk->Ul->Prop}(I:Inv X pins σ H s)(sg:Same G H)(r:Rep X.K G v d)(rv:RelV v u)(nx:Ss d=false)
  (ek:PySem.W.kitOne X.K (.type (Y7 d)) cv=some t) (h:∀tk,Q (.bool t) {s with toks:=tk}):Us (model X.prog X.w) A (call (.builtin "isinstance") [u,cv]) Q E s:=by
 cases r with
 |non=>cases rv;exact JC PySem.W.kitx_none I.kIn True.intro ek (λz=>nomatch z) h
 |bl y=>cases rv;exact JC PySem.W.kitx_bool I.kIn True.intro ek (λz=>nomatch z) h
 |int i=>obtain⟨t',rfl⟩:=rv;exact JC PySem.W.kitx_int I.kIn True.intro ek (λz=>nomatch z) h
 |str y=>obtain⟨t',rfl⟩:=rv;exact JC PySem.W.kitx_str I.kIn True.intro ek (λz=>nomatch z) h
 |lst hl _=>cases rv;obtain⟨its,r,⟨o,n,e,hc,_,hd⟩,hz⟩:=I.list (sg.seq hl);exact JC PySem.W.kitx_list I.kIn ⟨o,e,hc⟩ ek (λz=>nomatch z) h
 |tup hl _=>cases rv;obtain⟨its,r,p,hz⟩:=I.tuple (YR sg hl);obtain⟨o,e,hc,_⟩:=p;exact JC PySem.W.kitx_tuple I.kIn ⟨o,e,hc⟩ ek (λz=>nomatch z) h
 |@dic ad hd=>
  cases rv;obtain⟨_,_,vs,_,p⟩:=(show Yb X.prog X.w H s.heap ad (.dK [])from I.hok ad _ (sg _ _ hd))
  obtain⟨o,es,ep,h1,h2,_⟩:=p;exact JC PySem.W.kitx_dict I.kIn ⟨o,h1,h2.1⟩ ek (λz=>nomatch z) h
 |exc _ _ _ _=>cases nx
 |@dct ad ks vs ds kvs e0 _ _ hd _=>
  cases rv;subst e0;rw[OZ.1]at ek;obtain⟨_,_,vs,_,p⟩:=(show Yb X.prog X.w H s.heap ad (.dK (ks.zip _))from I.hok ad _ (sg _ _ hd))
  obtain⟨o,es,ep,h1,h2,_⟩:=p;exact JC PySem.W.kitx_dict I.kIn ⟨o,h1,h2.1⟩ ek (λz=>nomatch z) h
 |@dtt ad ob ks vs ds kvs e0 _ hd _=>
  cases rv;subst e0;obtain⟨_,_,_,xs,_,o,es,ep,h1,h2,_⟩:=(show Yb X.prog X.w H s.heap ad (.frz ob (.dT (ks.zip _)))from I.hok ad _ (sg _ _ hd))
  exact JC PySem.W.kitx_dict I.kIn ⟨o,h1,h2.1⟩ ek (λz=>nomatch z) h
theorem Eu(c:String)(hc:c = "int" ∨ c = "bool" ∨ c = "str" ∨ c = "list" ∨ c = "tuple" ∨ c = "dict"):typeOf (.type c)=pure (.type "type"):=by rcases hc with rfl|rfl|rfl|rfl|rfl|rfl<;>kernel_rfl
theorem D4:YF X (.builtin "isinstance") (λxs H Q=>∃v c G d,xs=[v,.ty c]/\Same G H/\Rep X.K G v d/\(c = "int" ∨ c = "bool" ∨ c = "str" ∨ c = "list" ∨ c = "tuple" ∨ c = "dict")/\Q (.bl (KF d c)) H):=by
 intro pins s σ H xs us Q I r h;obtain⟨v,c,G,d,rfl,sg,rp,hc,q⟩:=h;obtain⟨u,w',rfl,r1,r2⟩:=Pc r;cases (show w'=Value.type c from r2);by_cases nx:Ss d=true
 ·cases rp with
  |@exc a C dd bm nm vs ds ck hx hd rr=>
   refine D9 (HX I.ok.mod.kin) pins s σ H [.ref a,.ty c] [u,.type c] Q I r ⟨a,C,dd,bm,false,.ty c,false,rfl,⟨nm,ck⟩,sg _ _ hx,.inr ⟨c,rfl,Eu c hc,?_⟩,?_⟩
   ·rw[ck.ty];rcases hc with rfl|rfl|rfl|rfl|rfl|rfl<;>rfl
   ·have e:KF (.dict [(.none,.tuple [.str nm,.list ds])]) c=false:=by rcases hc with rfl|rfl|rfl|rfl|rfl|rfl<;>rfl
    rw[e]at q;exact q
  |dct e _ _ _ _=>subst e;rw[OZ.2]at nx;cases nx
  |dtt e _ _ _=>subst e;cases nx
  |_=>cases nx
 ·have nx:Ss d=false:=by simpa using nx
  exact Ev I sg rp r1 nx (Ew X.K d c nx hc) λtk=>⟨.bl _,H,I.tok tk,rfl,q⟩
theorem qZ:bootBuiltins "isinstance" = some (.builtin "isinstance"):=by decide +kernel
theorem Rc{f:M D}{p2 p3:Pos}{c:String}(hc:c = "int" ∨ c = "bool" ∨ c = "str" ∨ c = "list" ∨ c = "tuple" ∨ c = "dict")(hg:Gl X "isinstance")(hm:X.mg "isinstance" = none)(hg2:Gl X (UF c))(hm2:X.mg (UF c)=none)
  (hv2:bootBuiltins (UF c)=some (.type c)) (ha:PE X e (tD X.K B G0 f)) (hn2:(UF c) ≠ "__name__") (hd2:((UF c)==("__debug__" : Str))=false)
  (hs:Ut [e,.Name (UF c) p3] X.env=(false,eval e X.env)::Ut [.Name (UF c) p3] X.env:=by rfl)
  (hs2:Ut [.Name (UF c) p3] X.env=[(false,eval (.Name (UF c) p3) X.env)]:=by rfl) :
  PE X (.Call (.Name "isinstance" p2) [e,.Name (UF c) p3] [] pos) (tD X.K B G0 (UW (λd=>.bool (KF d c)) f)):=by
 refine Ko (RT D4 hg hm qZ (VA ha (VA (DO (v:=.ty c) hg2 hm2 hv2 rfl hn2 hd2) T6 (by rw[hs2];rfl)) hs) (by decide) (by decide) hs (by rw[hs2];rfl)) λσ H Q q=>?_
 refine tM.one (R:=Rep X.K) q λv H2 G Z x k r a=>?_
 exact⟨v,c,G,x,rfl,k.gh,r,hc,aft.now a k (.bl _)⟩
end
def spD(K:Frag)(n:Nat)(F:List D->Option D):Sp:=λvs H Q _=>∃G ds d,vs.length=n/\Same G H/\Reps K G vs ds/\F ds=some d/\∀v G' H',Ext G H G' H'->Rep K G' v d->Q v H'
section
variable{K:Frag}{B G0 G H:Hp}{σ:St}{Z:UG}
theorem EOk.exit(k:EOk K B G0 G H σ Z):Ext G0 B G H:=⟨k.bh,k.g0,k.gh,k.np⟩
theorem XE{α:Type}{l:List α}{i:Nat}{x y:α}(h:(l.set i x)[i]?=some y):y=x:=by
 by_cases hl:i<l.length
 ·rw[QF hl]at h;cases h;rfl
 ·rw[QB (by rw[Q6];omega)]at h;cases h
theorem DpOk.setOther{i:Nat}{x:Option V}{y:Option Sl}(k:DpOk K B G H σ Z)(hy:∀s,y=some s->∃d,s=.pub d):DpOk K B G H (σ.set i x) (Z.set i y):=by
 have nz:∀{m:Nat}{s:Sl},(Z.set i y)[m]?=some (some s)->(∃d,s=.pub d)∨(Z[m]?=some (some s)/\(σ.set i x)[m]?=σ[m]?):=λ{m s} q=>by
  by_cases z:i=m
  ·subst z;exact .inl (hy s (XE q).symm)
  ·rw[Qr z]at q⊢;exact .inr ⟨q,rfl⟩
 refine k.map (λm p d q=>?_) (λm es q=>?_) λm p d v fp q s r w n=>⟨r,w⟩
 ·rcases nz q with ⟨_,e⟩|q
  ·cases e
  ·exact q
 ·rcases nz q with ⟨_,e⟩|q
  ·cases e
  ·exact⟨es,q⟩
theorem EOk.setPub{i:Nat}{v:V}{d:D}(k:EOk K B G0 G H σ Z)(r:Rep K G v d)(hi:i<Z.length):EOk K B G0 G H (σ.set i (some v)) (Z.set i (some (.pub d))) where
 bh:=k.bh
 gh:=k.gh
 g0:=k.g0
 np:=k.np
 len:=by rw[Q6,Q6];exact k.len
 pub:=λj d' q=>by
  by_cases z:i=j
  ·subst z;have:=XE q;cases this;exact⟨v,QF (by rw[←k.len];exact hi),r⟩
  ·rw[Qr z]at q⊢;exact k.pub j d' q
 own:=λj ds q=>by
  by_cases z:i=j
  ·subst z;have:=XE q;cases this
  ·rw[Qr z]at q⊢;exact k.own j ds q
 sep:=λj l c es fs q1 q2 s1 s2=>by
  have z1:i≠j:=λz=>by subst z;have:=XE q1;cases this
  have z2:i≠l:=λz=>by subst z;have:=XE q2;cases this
  rw[Qr z1]at q1 s1;rw[Qr z2]at q2 s2;exact k.sep j l c es fs q1 q2 s1 s2
 dp:=k.dp.setOther (λs e=>by cases e;exact⟨_,rfl⟩)
structure NewL(K:Frag)(B G H:Hp)(σ:St)(Z:UG)(a:Uo)(vs:List V)(ds:List D):Prop where
 b:B a=none
 g:G a=none
 h:H a=some (.lst vs)
 r:Reps K G vs ds
 f:∀(j:Nat) es,Z[j]?=some (some (.own es))->σ[j]?≠some (some (.ref a))
 dp:∀(j:Nat) p d v fp,Z[j]?=some (some (.deep p d))->σ[j]?=some (some v)->RepO K G H p v d fp->a∉fp
theorem EOk.freshD{H':Hp}{a:Uo}(k:EOk K B G0 G H σ Z)(e:Same H H')(ha:H a=none){G':Hp}{j:Nat}{p:Pat}{d:D}{v:V}{fp:List Uo}(q:Z[j]?=some (some (.deep p d)))(s:σ[j]?=some (some v))(r:RepO K G' H' p v d fp):a∉fp:=λm=>by obtain⟨ω,k1,k2⟩:=k.dp;obtain⟨v',fp',s',r',n,w⟩:=k1 j p d q;rw[s]at s';cases s';have u:=r'.uniq e r;subst u;obtain⟨ws,hl⟩:=r'.isl a m;rw[ha]at hl;cases hl
theorem EOk.setOwn{i:Nat}{a:Uo}{vs:List V}{ds:List D}(k:EOk K B G0 G H σ Z)(n:NewL K B G H σ Z a vs ds)(hi:i<Z.length):EOk K B G0 G H (σ.set i (some (.ref a))) (Z.set i (some (.own ds))) where
 bh:=k.bh
 gh:=k.gh
 g0:=k.g0
 np:=k.np
 len:=by rw[Q6,Q6];exact k.len
 pub:=λj d' q=>by
  by_cases z:i=j
  ·subst z;have:=XE q;cases this
  ·rw[Qr z]at q⊢;exact k.pub j d' q
 own:=λj es q=>by
  by_cases z:i=j
  ·subst z;have:=XE q;cases this;exact⟨a,vs,QF (by rw[←k.len];exact hi),n.b,n.g,n.h,n.r⟩
  ·rw[Qr z]at q⊢;exact k.own j es q
 sep:=λj l c es fs q1 q2 s1 s2=>by
  have hs:i<σ.length:=by rw[←k.len];exact hi
  by_cases z1:i=j
  ·subst z1;rw[QF hs]at s1;cases s1;by_cases z2:i=l
   ·exact z2
   ·rw[Qr z2]at q2 s2;exact absurd s2 (n.f l fs q2)
  ·by_cases z2:i=l
   ·subst z2;rw[QF hs]at s2;cases s2;rw[Qr z1]at q1 s1;exact absurd s1 (n.f j es q1)
   ·rw[Qr z1]at q1 s1;rw[Qr z2]at q2 s2;exact k.sep j l c es fs q1 q2 s1 s2
 dp:=by
  obtain⟨ω,k1,k2⟩:=k.dp;have hs:i<σ.length:=by rw[←k.len];exact hi
  refine⟨λb=>if b=a then i else ω b,λj p d q=>?_,λj es b q s=>?_⟩
  ·by_cases z:i=j
   ·subst z;have:=XE q;cases this
   ·rw[Qr z]at q⊢;obtain⟨v,fp,s,r,nn,w⟩:=k1 j p d q;refine⟨v,fp,s,r,nn,λb m=>⟨(w b m).1,(w b m).2.1,?_⟩⟩;dsimp only;rw[Qu (λz=>n.dp j p d v fp q s r (by rw[←z];exact m))];exact(w b m).2.2
  ·by_cases z:i=j
   ·subst z;rw[QF hs]at s;cases s;dsimp only;rw[Qm rfl]
   ·rw[Qr z]at q s;dsimp only;rw[Qu (λe=>n.f j es q (by rw[←e];exact s))];exact k2 j es b q s
theorem EOk.change{i:Nat}{a:Uo}{vs:List V}{ds es:List D}(k:EOk K B G0 G H σ Z)(q:Z[i]?=some (some (.own ds)))(ha:σ[i]?=some (some (.ref a)))(r:Reps K G vs es) :
  EOk K B G0 G (upd H a (.lst vs)) σ (Z.set i (some (.own es))):=by
 obtain⟨a',ws,h1,h2,h3,h4,h5⟩:=k.own i ds q;rw[ha]at h1;cases h1;have hi:i<Z.length:=(Qg.mp q).1;refine⟨λb o e=>?_,λb o e=>?_,k.g0,k.np,by rw[Q6];exact k.len,λj d' e=>?_,λj fs e=>?_,λj l c fs gs q1 q2 s1 s2=>?_,?_⟩
 ·rw[KY (YV e h2)];exact k.bh b o e
 ·rw[KY (YV e h3)];exact k.gh b o e
 ·by_cases z:i=j
  ·subst z;have:=XE e;cases this
  ·rw[Qr z]at e;exact k.pub j d' e
 ·by_cases z:i=j
  ·subst z;have:=XE e;cases this;exact⟨a,vs,ha,h2,h3,Zu,r⟩
  ·rw[Qr z]at e;obtain⟨c,us,g1,g2,g3,g4,g5⟩:=k.own j fs e;have zc:c≠a:=λw=>z (k.sep i j a ds fs q e ha (by rw[←w];exact g1))
   exact⟨c,us,g1,g2,g3,by rw[KY zc];exact g4,g5⟩
 ·have f:∀{m:Nat}{ts:List D},(Z.set i (some (Sl.own es)))[m]?=some (some (.own ts))->∃ts',Z[m]?=some (some (.own ts')):=λ{m ts} e=>by
   by_cases z:i=m
   ·subst z;exact⟨ds,q⟩
   ·rw[Qr z]at e;exact⟨ts,e⟩
  obtain⟨f1,w1⟩:=f q1;obtain⟨f2,w2⟩:=f q2;exact k.sep j l c f1 f2 w1 w2 s1 s2
 ·refine k.dp.map (λj p d e=>?_) (λj fs e=>?_) λj p d v fp qj s rj w n=>⟨rj.upd (λ_ z=>by rw[h4]at z;cases z) (n i ds a q ha),w⟩
  ·by_cases z:i=j
   ·subst z;have:=XE e;cases this
   ·rw[Qr z]at e;exact⟨e,rfl⟩
  ·by_cases z:i=j
   ·subst z;exact⟨ds,q,rfl⟩
   ·rw[Qr z]at e;exact⟨fs,e,rfl⟩
end
inductive Out where
 |nx (Z:UG)|rt (d:D)|bk (Z:UG)|ct (Z:UG)|ex (Z:UG) (d:D)|bad
abbrev SM:=UG->Out
section
variable(K:Frag)(B G0:Hp)(KX:XW)
def aftS(o:Out)(G1:Hp)(Dn:Ends):Prop:=
 match o with
 |.nx Z=>∀σ G H,EOk K B G0 G H σ Z->Same G1 G->Dn.nx σ H
 |.bk Z=>∀σ G H,EOk K B G0 G H σ Z->Same G1 G->Dn.bk σ H
 |.ct Z=>∀σ G H,EOk K B G0 G H σ Z->Same G1 G->Dn.ct σ H
 |.rt d=>∀v G H,Ext G0 B G H->Rep K G v d->Dn.rt v H
 |.ex Z d=>∀v σ G H,EOk K B G0 G H σ Z->Same G1 G->Rep K G v d->KX v σ H
 |.bad=>False
def tS(g:SM):TS:=λDn σ H=>∃G Z,EOk K B G0 G H σ Z/\aftS K B G0 KX (g Z) G Dn
def sB{α:Type}(f:M α)(g:α->SM):SM:=λZ=>match f Z with | .ok a Z'=>g a Z' | .bad=>.bad
end
section
variable{X:Cx}{B G0:Hp}{KX:XW}{e a b c:Uq}{pos:Pos}{es rest:List Uq}{st:Stmt}{sts sts2:List Stmt}
theorem aftS.mono{K:Frag}{o:Out}{G G':Hp}{Dn:Ends}(e:Same G G')(h:aftS K B G0 KX o G Dn):aftS K B G0 KX o G' Dn:=by
 cases o with
 |nx Z=>exact λσ G2 H2 k s=>h σ G2 H2 k (e.trans s)
 |bk Z=>exact λσ G2 H2 k s=>h σ G2 H2 k (e.trans s)
 |ct Z=>exact λσ G2 H2 k s=>h σ G2 H2 k (e.trans s)
 |rt d=>exact h
 |ex Z d=>exact λv σ G2 H2 k s r=>h v σ G2 H2 k (e.trans s) r
 |bad=>exact h
theorem tS.bnd{K:Frag}{α γ:Type}{R:Hp->γ->α->Prop}{f:M α}{g:α->SM}{Dn:Ends}{σ:St}{H:Hp}{P:γ->Hp->Prop}(q:tS K B G0 KX (sB f g) Dn σ H)
  (i:∀v H' G' Z' x,EOk K B G0 G' H' σ Z'->R G' v x->aftS K B G0 KX (g x Z') G' Dn->P v H'):tM K B G0 R f σ H P:=by
 obtain⟨G,Z,k,a⟩:=q;refine⟨G,Z,k,?_⟩;unfold sB at a;cases z:f Z with
 |bad=>rw[z]at a;exact a.elim
 |ok d Z1=>rw[z]at a;exact λv G' H' e s r=>i v H' G' Z1 d e r (aftS.mono s a)
def sNx:SM:=λZ=>.nx Z
def UP(g h:SM):SM:=λZ=>match g Z with | .nx Z'=>h Z'|o=>o
theorem Pq:PSs X [] (tS X.K B G0 KX sNx):=OQ DK λD σ H ⟨G,Z,k,a⟩=>a σ G H k (.refl _)
theorem SO{g h:SM}(h1:PS X st (tS X.K B G0 KX g))(h2:PSs X sts (tS X.K B G0 KX h)):PSs X (st::sts) (tS X.K B G0 KX (UP g h)):=OQ (Ck h1 h2) λD σ H ⟨G,Z,k,a⟩=>by
 refine⟨G,Z,k,?_⟩;unfold UP at a;cases z:g Z with
 |nx Z1=>rw[z]at a;exact λσ' G' H' k' s'=>⟨G',Z1,k',aftS.mono s' a⟩
 |rt d=>rw[z]at a;exact a
 |bk Z1=>rw[z]at a;exact a
 |ct Z1=>rw[z]at a;exact a
 |ex Z1 d=>rw[z]at a;exact a
 |bad=>rw[z]at a;exact a.elim
theorem T5{g:SM}(h1:PS X st (tS X.K B G0 KX g)):PSs X [st] (tS X.K B G0 KX g):=DJ h1
def X4:SM:=λ_=>.bad
theorem D3:PS X st (tS X.K B G0 KX X4):=λ_ _ _ _ _ _ ⟨_,_,_,a⟩=>a.elim
def UY(f:M D):SM:=sB f λd _=>.rt d
theorem Nl{f:M D}(h:PE X e (tD X.K B G0 f)):PS X (.Return (some e) pos) (tS X.K B G0 KX (UY f)):=Zl (FA h) λD σ H q=>tS.bnd (R:=Rep X.K) q λv H' G' Z' x k r a=>a v G' H' k.exit r
def Xw(f:M D):SM:=sB f λ_ Z=>.nx Z
theorem Et{f:M D}(h:PE X e (tD X.K B G0 f))(hs:swapsWith e none pos.line X.env=pure false:=by rfl):PS X (.Expr e pos) (tS X.K B G0 KX (Xw f)):=Zl (Mi h hs) λD σ H q=>tS.bnd (R:=Rep X.K) q λv H' G' Z' x k r a=>a σ G' H' k (.refl _)
def sIf(f:M Bool)(g h:SM):SM:=sB f λt=>if t=true then g else h
theorem R9{f:M Bool}{g h:SM}(hc:PT X c (tBo X.K B G0 f))(ha:PSs X sts (tS X.K B G0 KX g))(hb:PSs X sts2 (tS X.K B G0 KX h)):PS X (.If c sts sts2 pos) (tS X.K B G0 KX (sIf f g h)):=
 Zl (GR hc ha hb) λD σ H q=>tS.bnd (R:=λ_ b c=>b=c) q λv H' G' Z' x k r a=>by
  have r:v=x:=r;subst r;cases v with
  |true=>exact⟨G',Z',k,a⟩
  |false=>exact⟨G',Z',k,a⟩
def tG(K:Frag)(B G0:Hp)(s:D->UG->Option UG):TG:=λv σ H Q=>∃G Z d Z',EOk K B G0 G H σ Z/\Rep K G v d/\s d Z=some Z'/\∀σ' G' H',EOk K B G0 G' H' σ' Z'->Same G G'->Q σ' H'
def tGs(K:Frag)(B G0:Hp)(s:List D->UG->Option UG):TGs:=λv σ H Q=>∃G Z d Z',EOk K B G0 G H σ Z/\Reps K G v d/\s d Z=some Z'/\∀σ' G' H',EOk K B G0 G' H' σ' Z'->Same G G'->Q σ' H'
theorem VI{t t':TG}(h:PG X e t)(i:∀v σ H Q,t' v σ H Q->t v σ H Q):PG X e t':=λpins s σ H v u Q I r q=>h pins s σ H v u Q I r (i v σ H Q q)
theorem OW{t t':TGs}(h:PGs X es t)(i:∀v σ H Q,t' v σ H Q->t v σ H Q):PGs X es t':=λpins s σ H v u Q I r q=>h pins s σ H v u Q I r (i v σ H Q q)
def gN(i:Nat):D->UG->Option UG:=λd Z=>if i<Z.length then some (Z.set i (some (.pub d)))else none
theorem X5{i:Nat}(h:PG X e (Pd i)):PG X e (tG X.K B G0 (gN i)):=VI h λv σ H Q ⟨G,Z,d,Z',k,r,e,q⟩=>by
 unfold gN at e;split at e
 ·rename_i hi;cases e;exact q _ G H (k.setPub r hi) (.refl _)
 ·cases e
def gN0:List D->UG->Option UG:=λd Z=>match d with | []=>some Z|_=>none
def gNC(s:D->UG->Option UG)(t:List D->UG->Option UG):List D->UG->Option UG:=λds Z=>match ds with|d::r=>(s d Z).bind (t r) | []=>none
theorem Rt:PGs X [] (tGs X.K B G0 gN0):=OW DI λv σ H Q ⟨G,Z,d,Z',k,r,e,q⟩=>by
 cases r with
 |nil=>cases e;exact⟨rfl,q σ G H k (.refl _)⟩
 |cons _ _=>cases e
theorem Wc{s:D->UG->Option UG}{t:List D->UG->Option UG}(h1:PG X e (tG X.K B G0 s))(h2:PGs X es (tGs X.K B G0 t))
  (hs:(UI (e::es) X.env).map (·.2)=assign e X.env::(UI es X.env).map (·.2):=by rfl):PGs X (e::es) (tGs X.K B G0 (gNC s t)):=OW (Cj h1 h2 hs) λv σ H Q ⟨G,Z,d,Z',k,r,e,q⟩=>by
 cases r with
 |nil=>cases e
 |@cons w dw ws dws rw rt=>
  unfold gNC at e;dsimp only at e;cases z:s dw Z with
  |none=>rw[z]at e;cases e
  |some Z1=>rw[z]at e;refine⟨w,ws,rfl,G,Z,dw,Z1,k,rw,z,λσ' G' H' k' s'=>?_⟩;exact⟨G',Z1,dws,Z',k',rt.mono s',e,λσ2 G2 H2 k2 s2=>q σ2 G2 H2 k2 (s'.trans s2)⟩
def gT(n:Nat)(t:List D->UG->Option UG):D->UG->Option UG:=λd Z=>match d with | .tuple ds=>if ds.length=n then t ds Z else none|_=>none
theorem Rz{k1:Nat}{t:List D->UG->Option UG}{n:Nat}(hc:X.calm=true)(h:PGs X es (tGs X.K B G0 t))
  (hn:(UI es X.env).length=n:=by rfl) (hst:(UI es X.env).findIdx? (·.1)=none:=by rfl):PG X (.Tuple es k1 pos) (tG X.K B G0 (gT n t)):=VI (Fz hc h hn hst) λv σ H Q ⟨G,Z,d,Z',k,r,e,q⟩=>by
 unfold gT at e;split at e
 ·split at e
  ·rename_i hl;obtain⟨ad,vs,rfl,h1,r1⟩:=r.tup_inv;exact⟨ad,vs,rfl,YR k.gh h1,by rw[r1.length];exact hl,G,Z,_,Z',k,r1,e,q⟩
  ·cases e
 ·cases e
def Zx(f:M D)(s:D->UG->Option UG):SM:=sB f λd Z=>match s d Z with|some Z'=>.nx Z'|none=>.bad
theorem Ei{tg:Uq}{f:M D}{s:D->UG->Option UG}(he:PE X e (tD X.K B G0 f))(hg:PG X tg (tG X.K B G0 s))(hs:swapsWithSole [tg] e pos.line X.env=pure false:=by rfl)(hw:swappedStores [tg] e X.env=pure none:=by rfl)
  (h1:(UI [tg] X.env).map (·.2)=[assign tg X.env]:=by rfl):PS X (.Assign [tg] e pos) (tS X.K B G0 KX (Zx f s)):=
 Zl (Fy he hg hs hw h1) λD σ H q=>tS.bnd (R:=Rep X.K) q λv H' G' Z' x k r a=>by
  cases z:s x Z' with
  |none=>rw[z]at a;exact a.elim
  |some Z2=>rw[z]at a;exact⟨G',Z',x,Z2,k,r,z,λσ2 G2 H2 k2 s2=>a σ2 G2 H2 k2 s2⟩
def U8(i:Nat)(f:M D):SM:=Zx f (gN i)
theorem Eh{i:Nat}{x:Str}{f:M D}{p2:Pos}(hN:X.N.Nodup)(hi:X.N[i]?=some x)(hx:Loc X.env.scope x)(he:PE X e (tD X.K B G0 f))(hs:swapsWith e (some (.Name x p2)) pos.line X.env=pure false:=by rfl)
  (hf:X.fn x=true∨X.env.scope.names.lookup x=some .local:=by first|exact .inl rfl|exact .inr rfl|assumption):PS X (.Assign [.Name x p2] e pos) (tS X.K B G0 KX (U8 i f)):=
 Zl (O6 hN hi hx he hs hf) λD σ H q=>tS.bnd (R:=Rep X.K) q λv H' G' Z' x k r a=>by
  unfold gN at a;split at a
  ·rename_i Z2 hz;split at hz
   ·rename_i hi2;cases hz;exact a _ G' H' (k.setPub r hi2) (.refl _)
   ·cases hz
  ·exact a.elim
def tL(K:Frag)(B G0:Hp)(f:M (List D)):TE:=λσ H Q=>∃G Z,EOk K B G0 G H σ Z/\match f Z with
 |.ok ds Z'=>∀a vs G' H',EOk K B G0 G' H' σ Z'->Same G G'->NewL K B G' H' σ Z' a vs ds->Q (.ref a) H'
 |.bad=>False
def K4(i:Nat)(f:M (List D)):SM:=sB f λds Z=>if i<Z.length then .nx (Z.set i (some (.own ds)))else .bad
theorem Mm{i:Nat}{x:Str}{f:M (List D)}{p2:Pos}(hN:X.N.Nodup)(hi:X.N[i]?=some x)(hx:Loc X.env.scope x)(he:PE X e (tL X.K B G0 f))(hs:swapsWith e (some (.Name x p2)) pos.line X.env=pure false:=by rfl)
  (hf:X.fn x=true∨X.env.scope.names.lookup x=some .local:=by first|exact .inl rfl|exact .inr rfl|assumption):PS X (.Assign [.Name x p2] e pos) (tS X.K B G0 KX (K4 i f)):=
 Zl (O6 hN hi hx he hs hf) λD σ H ⟨G,Z,k,a⟩=>by
  refine⟨G,Z,k,?_⟩;unfold K4 sB at a;cases z:f Z with
  |bad=>rw[z]at a;exact a.elim
  |ok ds Z1=>
   rw[z]at a;intro ad vs G' H' k' s' n;dsimp only at a;split at a
   ·rename_i hl;exact a _ G' H' (k'.setOwn n hl) s'
   ·exact a.elim
theorem NewL.of{K:Frag}{G H:Hp}{σ:St}{Z:UG}{p:Uo}{vs:List V}{ds:List D}(k:EOk K B G0 G H σ Z)(hp:H p=none)(r:Reps K G vs ds):NewL K B G (upd H p (.lst vs)) σ Z p vs ds where
 b:=k.bh.free hp
 g:=k.gh.free hp
 h:=Zu
 r:=r
 f:=λj es q z=>by obtain⟨a,ws,h1,h2,h3,h4,h5⟩:=k.own j es q;rw[z]at h1;cases h1;rw[hp]at h4;cases h4
 dp:=λj pt d v fp q s rr=>k.freshD (Zt hp) hp q s rr
theorem Es{f:M (List D)}(h:PA X es (tDs X.K B G0 f)):PE X (.List es pos) (tL X.K B G0 (U6 f λxs=>if xs.length<=1000000 then UN xs else λ_=>.bad)):=
 Ko (O3 h) λσ H Q ⟨G,Z,k,a⟩=>by
  refine⟨G,Z,k,?_⟩;unfold U6 at a;cases z:f Z with
  |bad=>rw[z]at a;exact a.elim
  |ok ds Z1=>
   rw[z]at a;dsimp only at a;intro v G' H' k' s' r;by_cases c:ds.length<=1000000
   ·rw[Qm c]at a;refine⟨by rw[r.length];exact QP c lim,λp hp=>?_⟩;exact a p v G' _ (k'.ext (Ext.hid k'.gh hp)) s' (NewL.of k' hp r)
   ·rw[Qu c]at a;exact a.elim
def ZG(i:Nat)(f:M D):SM:=λZ0=>match Z0[i]? with
 |some (some (.own _))=>sB f (λd Z=>match Z[i]? with
  |some (some (.own ds))=>if ds.length<1000000 then .nx (Z.set i (some (.own (ds++[d]))))else .bad
  |_=>.bad) Z0
 |_=>.bad
theorem Nk{i:Nat}{f:M D}{o:Uq}{apos cpos:Pos}(ho:PE X o (Zw i))(he:PE X e (tD X.K B G0 f))
  (hbase:attributeBase o "append" X.env (eval o X.env)=eval o X.env:=by rfl)
  (hfew:((backTo cpos (Ut [e] X.env)).all (λx=>!x.1)&&(backToKw cpos (keywordEach [] X.env)).all (λx=>x.1.isSome)
   && decide ([e].length+([]:List Keyword).length+(if([]:List Keyword).isEmpty then 0 else 1)<30))=true:=by rfl)
  (hline:(apos.endLine==cpos.line)=true:=by rfl) (hs:Ut [e] X.env=[(false,eval e X.env)]:=by rfl)
  (hsw:swapsWith (.Call (.Attribute o "append" apos) [e] [] cpos) none pos.line X.env=pure false:=by rfl) :
  PS X (.Expr (.Call (.Attribute o "append" apos) [e] [] cpos) pos) (tS X.K B G0 KX (ZG i f)):=
 Zl (Mi (Pe PySem.F.plainAttrs_list PySem.F.slot_list_append PySem.F.type_list_append LC ho (VA he T6 (by rw[hs];rfl)) hbase hfew hline (by rw[hs];rfl) rfl) hsw) λD σ H ⟨G,Z,k,a⟩=>by
  unfold ZG at a;cases q0:Z[i]? with
  |none=>rw[q0]at a;exact a.elim
  |some o0=>
   cases o0 with
   |none=>rw[q0]at a;exact a.elim
   |some sl0=>
    cases sl0 with
    |deep _ _=>rw[q0]at a;exact a.elim
    |pub d=>rw[q0]at a;exact a.elim
    |own ds0=>
     rw[q0]at a;obtain⟨ad,vs0,h1,h2,h3,h4,h5⟩:=k.own i ds0 q0;refine⟨.ref ad,h1,.inl ⟨rfl,_,SqL.of h4⟩,G,Z,k,?_⟩;unfold sB at a;cases z:f Z with
     |bad=>rw[z]at a;exact a.elim
     |ok d Z1=>
      rw[z]at a;dsimp only at a;intro v G' H' k' s' r';cases q:Z1[i]? with
      |none=>rw[q]at a;exact a.elim
      |some o=>
       cases o with
       |none=>rw[q]at a;exact a.elim
       |some sl=>
        cases sl with
        |deep _ _=>rw[q]at a;exact a.elim
        |pub d=>rw[q]at a;exact a.elim
        |own ds=>
         rw[q]at a;dsimp only at a;split at a
         ·rename_i hl;obtain⟨ad',vs,g1,g2,g3,g4,g5⟩:=k'.own i ds q;rw[h1]at g1;cases g1;refine⟨ad,vs,v,rfl,rfl,g4,by rw[g5.length];exact QE hl lim,?_⟩;exact a σ G' _ (k'.change q h1 (g5.append (.cons r' .nil))) s'
         ·exact a.elim
end
structure Xo(K:Frag)(J:It)(ds:List D)(G1:Hp):Prop where
 go:∀i G H,Same G1 G->Same G H->i<ds.length->J.go i H
 stop:∀i G H,Same G1 G->Same G H->ds.length<=i->J.stop i H
 yld:∀i G H x H' d,Same G1 G->Same G H->ds[i]?=some d->J.yld i H x H'->∃G',Ext G H G' H'/\Rep K G' x d
def iD(K:Frag)(B G0:Hp)(f:M (List D)):TI:=λσ H R=>∃G Z,EOk K B G0 G H σ Z/\match f Z with
 |.ok ds Z'=>∀J G' H',EOk K B G0 G' H' σ Z'->Same G G'->Xo K J ds G'->R J H'
 |.bad=>False
section
variable{X:Cx}{B G0:Hp}{KX:XW}{e a b c tg:Uq}{pos:Pos}{es rest:List Uq}{st:Stmt}{sts sts2:List Stmt}
theorem Y9{t t':TI}(h:PI X tg e t)(i:∀σ H R,t' σ H R->t σ H R):PI X tg e t':=λpins s σ H R I q=>h pins s σ H R I (i σ H R q)
theorem tM.toI{K:Frag}{α γ:Type}{R0:Hp->γ->α->Prop}{f:M α}{g:α->M (List D)}{σ:St}{H:Hp}{R:It->Hp->Prop}{P:γ->Hp->Prop}(q:iD K B G0 (U6 f g) σ H R)
  (i:∀v H' G' Z' x,EOk K B G0 G' H' σ Z'->R0 G' v x->(match g x Z' with
   |.ok ds Z2=>∀J G2 H2,EOk K B G0 G2 H2 σ Z2->Same G' G2->Xo K J ds G2->R J H2
   |.bad=>False)->P v H'):tM K B G0 R0 f σ H P:=by
 obtain⟨G,Z,k,a⟩:=q;refine⟨G,Z,k,?_⟩;unfold U6 at a;cases z:f Z with
 |bad=>rw[z]at a;exact a.elim
 |ok d Z1=>
  rw[z]at a;intro v G' H' e s r;refine i v H' G' Z1 d e r ?_;dsimp only at a;cases z2:g d Z1 with
  |bad=>rw[z2]at a;exact a.elim
  |ok ds Z2=>rw[z2]at a;exact λJ G2 H2 k2 s2 it=>a J G2 H2 k2 (s.trans s2) it
theorem AU{K:Frag}{G1:Hp}{ad:Uo}{vs:List V}{ds:List D}(h:SqL K G1 ad vs)(r:Reps K G1 vs ds):Xo K (Itl K ad) ds G1 where
 go:=λi G H s1 s2 hi=>by
  have hi':i<vs.length:=by rw[r.length];exact hi
  exact⟨vs,vs[i],(s1.trans s2).seq h,Qd hi'⟩
 stop:=λi G H s1 s2 hi=>⟨vs,(s1.trans s2).seq h,by rw[r.length];exact hi⟩
 yld:=λi G H x H' d s1 s2 e y=>by obtain⟨rfl,y⟩:=y;obtain⟨v,e1,r1⟩:=r.get e;have:=y vs ((s1.trans s2).seq h);rw[e1]at this;cases this;exact⟨G,.refl s2,r1.mono s1⟩
def ZW(lo hi:Int):List D:=(Uv (hi-lo).toNat).map λ(k:Nat)=>.int (lo+k)
theorem X7(lo hi:Int):(ZW lo hi).length=(hi-lo).toNat:=by unfold ZW;rw[Qb,Qq]
theorem LX{K:Frag}{G1:Hp}(lo hi:Int):Xo K (Itr lo (hi-lo).toNat) (ZW lo hi) G1 where
 go:=λi G H s1 s2 h=>by rw[X7]at h;exact h
 stop:=λi G H s1 s2 h=>by rw[X7]at h;exact h
 yld:=λi G H x H' d s1 s2 e y=>by
  obtain⟨rfl,rfl⟩:=y;unfold ZW at e;rw[Qe]at e;have hi:i<(Uv (hi-lo).toNat).length:=by refine Nat.lt_of_not_le λz=>?_;rw[QB z]at e;cases e
  rw[Qd hi,JW]at e;cases e;exact⟨G,.refl s2,.int _⟩
def TW:List D->Option (List D)
 |[.int j]=>if j<=1000000 /\ -1000000<=j then some (ZW 0 j)else none
 |_=>none
def TV:List D->Option (List D)
 |[.int i,.int j]=>if j<=1000000 /\ -1000000<=j/\i<=1000000 /\ -1000000<=i then some (ZW i j)else none
 |_=>none
def Xv(f:M (List D)):M (List D):=U6 f λx=>U9 (TW x)
def Rf(f:M (List D)):M (List D):=U6 f λx=>U9 (TV x)
theorem AM{f:M (List D)}{p2:Pos}(hg:Gl X "range")(hm:X.mg "range" = none)(ha:PA X [a] (tDs X.K B G0 f))(hs:Ut [a] X.env=[(false,eval a X.env)]:=by rfl) :
  PI X tg (.Call (.Name "range" p2) [a] [] pos) (iD X.K B G0 (Xv f)):=Y9 (AJ hg hm ha hs) λσ H R q=>tM.toI (R0:=Reps X.K) q λv H' G' Z' x k r a=>by
 cases z:TW x with
 |none=>rw[z]at a;exact a.elim
 |some ds=>
  rw[z]at a;unfold TW at z;split at z
  ·split at z
   ·rename_i j c;cases z;obtain⟨w,rfl,r'⟩:=r.one_inv;refine⟨j,by rw[r'.int_inv],by omega,by omega,?_⟩;have it:=LX (K:=X.K) (G1:=G') 0 j;rw[Int.sub_zero]at it;exact a _ G' H' k (.refl _) it
   ·cases z
  ·cases z
theorem AL{f:M (List D)}{p2:Pos}(hg:Gl X "range")(hm:X.mg "range" = none)(ha:PA X [a,b] (tDs X.K B G0 f))(hs:Ut [a,b] X.env=[(false,eval a X.env),(false,eval b X.env)]:=by rfl)(hs2:Ut [b] X.env=[(false,eval b X.env)]:=by rfl) :
  PI X tg (.Call (.Name "range" p2) [a,b] [] pos) (iD X.K B G0 (Rf f)):=Y9 (AI hg hm ha hs hs2) λσ H R q=>tM.toI (R0:=Reps X.K) q λv H' G' Z' x k r a=>by
 cases z:TV x with
 |none=>rw[z]at a;exact a.elim
 |some ds=>
  rw[z]at a;unfold TV at z;split at z
  ·split at z
   ·rename_i i j c;cases z;obtain⟨w,w',rfl,r1,r2⟩:=r.two_inv;refine⟨i,j,by rw[r1.int_inv,r2.int_inv],⟨by omega,by omega,by omega,by omega⟩,?_⟩;exact a _ G' H' k (.refl _) (LX i j)
   ·cases z
  ·cases z
def Z8(n:Nat):List D->List D
 |[]=>[]
 |d::r=>.tuple [.int n,d]::Z8 (n+1) r
theorem Yo:∀(n:Nat)(ds:List D),(Z8 n ds).length=ds.length
 |_,[]=>rfl
 |n,d::r=>by rw[Z8,QC,QC,Yo]
theorem Ot:∀(n:Nat)(ds:List D)(i:Nat),(Z8 n ds)[i]?=ds[i]?.map λd=>.tuple [.int ((n+i:Nat):Int),d]
 |_,[],i=>by simp[Z8]
 |n,d::r,0=>by simp[Z8]
 |n,d::r,i+1=>by
  rw[Z8,List.getElem?_cons_succ,List.getElem?_cons_succ,Ot (n+1) r i];have:n+1+i=n+(i+1):=by omega
  rw[this]
theorem AT{K:Frag}{G1:Hp}{ad:Uo}{vs:List V}{ds:List D}(h:SqL K G1 ad vs)(r:Reps K G1 vs ds):Xo K (Ite K ad) (Z8 0 ds) G1 where
 go:=λi G H s1 s2 hi=>by
  rw[Yo]at hi;have hi':i<vs.length:=by rw[r.length];exact hi
  exact⟨vs,vs[i],(s1.trans s2).seq h,Qd hi'⟩
 stop:=λi G H s1 s2 hi=>by rw[Yo]at hi;exact⟨vs,(s1.trans s2).seq h,by rw[r.length];exact hi⟩
 yld:=λi G H x H' d s1 s2 e y=>by
  obtain⟨p,v,hp,rfl,y,rfl⟩:=y;rw[Ot]at e;cases z:ds[i]? with
  |none=>rw[z]at e;cases e
  |some d0=>rw[z]at e;cases e;obtain⟨w,e1,r1⟩:=r.get z;have:=y vs ((s1.trans s2).seq h);rw[e1]at this;cases this;refine⟨upd G p (.tup [.int i,v]),Ext.new s2 hp,.tup (SqT.of Zu) (.cons ?_ (.cons ((r1.mono s1).mono (Zt (s2.free hp))) .nil))⟩;rw[QS];exact .int _
def Sv:List D->Option (List D)
 |[.list ds]=>some (Z8 0 ds)
 |_=>none
def YB(f:M (List D)):M (List D):=U6 f λx=>U9 (Sv x)
theorem Ml{f:M (List D)}{p2:Pos}{elts:List Uq}{x1}{tp:Pos}(hg:Gl X "enumerate")(hm:X.mg "enumerate" = none)(ha:PA X [a] (tDs X.K B G0 f))(hs:Ut [a] X.env=[(false,eval a X.env)]:=by rfl) :
  PI X (.Tuple elts x1 tp) (.Call (.Name "enumerate" p2) [a] [] pos) (iD X.K B G0 (YB f)):=Y9 (DU hg hm ha hs) λσ H R q=>tM.toI (R0:=Reps X.K) q λv H' G' Z' x k r a=>by
 cases z:Sv x with
 |none=>rw[z]at a;exact a.elim
 |some ds=>
  rw[z]at a;unfold Sv at z;split at z
  ·cases z;obtain⟨w,rfl,r'⟩:=r.one_inv;obtain⟨ad,vs,rfl,h1,r1⟩:=r'.lst_inv;exact⟨ad,vs,rfl,k.gh.seq h1,a _ G' H' k (.refl _) (AT h1 r1)⟩
  ·cases z
def WY(s:D->UG->Option UG)(g:SM):List D->SM
 |[],Z=>.nx Z
 |d::r,Z=>match s d Z with
  |none=>.bad
  |some Z1=>match g Z1 with
   |.nx Z2=>WY s g r Z2
   |.ct Z2=>WY s g r Z2
   |.bk Z2=>.nx Z2
   |.rt d=>.rt d
   |.ex Z2 d=>.ex Z2 d
   |.bad=>.bad
def Kn(f:M (List D))(s:D->UG->Option UG)(g:SM):SM:=sB f λds=>WY s g ds
theorem Pp{iter:Uq}{body:List Stmt}{f:M (List D)}{s:D->UG->Option UG}{g:SM}(hp:PassesOwn (model X.prog X.w) X.A X.env X.xe)(hc:X.calm=true)(hi:PI X tg iter (iD X.K B G0 f))(hg:PG X tg (tG X.K B G0 s))(hb:PSs X body (tS X.K B G0 KX g))
  (hs:∀x,UJ iter X.env x=pure x:=by intro _;rfl):PS X (.For tg iter body [] pos) (tS X.K B G0 KX (Kn f s g)):=
 Zl (Eg hp hc hi hg hb hs) λDn σ H ⟨G,Z,k,a⟩=>by
  refine⟨G,Z,k,?_⟩;unfold Kn sB at a;cases z:f Z with
  |bad=>rw[z]at a;exact a.elim
  |ok ds Z1=>
   rw[z]at a;dsimp only at a⊢;intro J G1 H1 k1 s1 it;refine⟨λi m σ' H'=>m=ds.length-i/\∃G' Z',EOk X.K B G0 G' H' σ' Z'/\Same G1 G'/\aftS X.K B G0 KX (WY s g (ds.drop i) Z') G' Dn,⟨ds.length,by omega,G1,Z1,k1,.refl _,by rw[List.drop_zero];exact aftS.mono s1 a⟩,?_⟩;rintro i m σ' H' ⟨rfl,G',Z',k',s',a'⟩;by_cases hi:i<ds.length
   ·right;refine⟨it.go i G' H' s' k'.gh hi,λσ2 H2=>∃G2 Z2,EOk X.K B G0 G2 H2 σ2 Z2/\Same G1 G2/\aftS X.K B G0 KX (WY s g (ds.drop (i+1)) Z2) G2 Dn,λσ2 H2 h2=>⟨ds.length-(i+1),by omega,rfl,h2⟩,λx H2 y=>?_⟩
    obtain⟨G2,ex,rx⟩:=it.yld i G' H' x H2 ds[i] s' k'.gh (Qd hi) y;rw[QR hi,WY]at a';cases z2:s ds[i] Z' with
    |none=>rw[z2]at a';exact a'.elim
    |some Z2=>
     rw[z2]at a';dsimp only at a';refine⟨G2,Z',ds[i],Z2,k'.ext ex,rx,z2,λσ3 G3 H3 k3 s3=>⟨G3,Z2,k3,?_⟩⟩;have s13:Same G1 G3:=(s'.trans ex.g).trans s3;cases z3:g Z2 with
     |nx Z3=>rw[z3]at a';exact λσ4 G4 H4 k4 s4=>⟨G4,Z3,k4,s13.trans s4,aftS.mono ((ex.g.trans s3).trans s4) a'⟩
     |ct Z3=>rw[z3]at a';exact λσ4 G4 H4 k4 s4=>⟨G4,Z3,k4,s13.trans s4,aftS.mono ((ex.g.trans s3).trans s4) a'⟩
     |bk Z3=>rw[z3]at a';exact λσ4 G4 H4 k4 s4=>a' σ4 G4 H4 k4 ((ex.g.trans s3).trans s4)
     |rt d=>rw[z3]at a';exact a'
     |ex Z3 d=>rw[z3]at a';exact λv σ4 G4 H4 k4 s4 r4=>a' v σ4 G4 H4 k4 ((ex.g.trans s3).trans s4) r4
     |bad=>rw[z3]at a';exact a'.elim
   ·left;rw[JX (by omega)]at a'
    exact⟨it.stop i G' H' s' k'.gh (by omega),a' σ' G' H' k' (.refl _)⟩
theorem D2{k:Nat}{f:Uo}{fd:Up}{ps:List Str}{F:List D->Option D}{g:M (List D)}{x:Str}{p2:Pos}{n:Nat}(FK:FnOk X.prog X.w X.K X.mg X.base CX0 k f fd ps (spD X.K n F))(hr:Room k X.A)(hg:Gl X x)(hm:X.mg x=some (.ref f))(hk:PySem.W.keepIn X.K (.ref f)=true)
  (hb:WZ X.K fd ps []) (ha:PA X (e::es) (tDs X.K B G0 g)) (hn:(e::es).length=n) (hdb:(x==("__debug__" : Str))=false:=by decide) (he:Ut (e::es) X.env=(false,eval e X.env)::Ut es X.env:=by rfl) (hpl:(backTo pos (Ut es X.env)).any (·.1)=false:=by rfl) :
  PE X (.Call (.Name x p2) (e::es) [] pos) (tD X.K B G0 (U6 g λxs=>if xs.length=n then U9 (F xs)else λ_=>.bad)):=
 Ko (DF FK hr hg hm hk hb .nil Fk ha hdb he hpl) λσ H Q q=>tM.one (R:=Reps X.K) q λv H2 G Z ds k r a=>by
  split at a
  ·rename_i hl;obtain⟨d,e,a⟩:=a.opt;exact⟨G,ds,d,by rw[Q5,r.length];exact hl,k.gh,by rw[Q5];exact r,e,λw G' H' ex rw=>a.done k ex rw⟩
  ·exact a.elim
end
def Y5(N:List Str)(ds:List D):UG:=(ds.map λd=>some (Sl.pub d))++Uw (N.length-ds.length) none
theorem D1{K:Frag}{N:List Str}{G H:Hp}{vs:List V}{ds:List D}(s:Same G H)(r:Reps K G vs ds):EOk K H G G H (L2.Xx N vs) (Y5 N ds) where
 bh:=.refl _
 gh:=s
 g0:=.refl _
 np:=λ_ _ _ n=>n
 len:=by unfold L2.Xx Y5;rw[Ql,Ql,Qb,Qb,QU,QU,r.length]
 pub:=λi d q=>by
  unfold Y5 at q;unfold L2.Xx;by_cases hi:i<ds.length
  ·rw[Qs (by rw[Qb];exact hi),Qe]at q;cases z:ds[i]? with
   |none=>rw[z]at q;cases q
   |some d'=>rw[z]at q;cases q;obtain⟨v,e1,r1⟩:=r.get z;refine⟨v,?_,r1⟩;rw[Qs (by rw[Qb,r.length];exact hi),Qe,e1];rfl
  ·rw[Qw (by rw[Qb];omega),QA]at q;split at q<;>cases q
 own:=λi es q=>by
  unfold Y5 at q;by_cases hi:i<ds.length
  ·rw[Qs (by rw[Qb];exact hi),Qe]at q;cases z:ds[i]? with
   |none=>rw[z]at q;cases q
   |some d'=>rw[z]at q;cases q
  ·rw[Qw (by rw[Qb];omega),QA]at q;split at q<;>cases q
 sep:=λi j a es fs q _ _ _=>by
  unfold Y5 at q;by_cases hi:i<ds.length
  ·rw[Qs (by rw[Qb];exact hi),Qe]at q;cases z:ds[i]? with
   |none=>rw[z]at q;cases q
   |some d'=>rw[z]at q;cases q
  ·rw[Qw (by rw[Qb];omega),QA]at q;split at q<;>cases q
 dp:=by
  have key:∀{i:Nat}{s:Sl},(Y5 N ds)[i]?=some (some s)->∃d,s=.pub d:=λ{i s} q=>by
   unfold Y5 at q;by_cases hi:i<ds.length
   ·rw[Qs (by rw[Qb];exact hi),Qe]at q;cases z:ds[i]? with
    |none=>rw[z]at q;cases q
    |some d'=>rw[z]at q;cases q;exact⟨_,rfl⟩
   ·rw[Qw (by rw[Qb];omega),QA]at q;split at q<;>cases q
  exact .of (λi p d q=>by obtain⟨_,e⟩:=key q;cases e) λi ds q=>by obtain⟨_,e⟩:=key q;cases e
def U5(N:List Str)(g:SM)(ds:List D):Option D:=match g (Y5 N ds)with
 |.rt d=>some d
 |.nx _=>some .none
 |_=>none
theorem okD{P:Um}{w:World}{K:Frag}{mg:Str->Option Uk}{base:Heap}{x qual:Str}{st:Stmt}{f:Uo}{fd:Up}{N ps:List Str}{k n:Nat}{g:SM}(F:Fun K x qual st f fd)(S:SU N ps (ZM st))(hn:ps.length=n)
  (der:∀(cdv:Uk)(A:Around)(outer:List Env)(s:Ul)(H:Hp)(E:XK)(B G0:Hp),Room k (A.deeper (envOfC qual (ZM st) s.heap.objs.size f cdv)) ->
   PSs (YJ CX0 P w K mg base N qual (ZM st) f cdv A outer s H E).nox (Vd st) (tS K B G0 KX0 g)):FnOk P w K mg base CX0 (k+1) f fd ps (spD K n (U5 N g)):=by
 refine F.ok S (λvs H Q E h=>?_) (λcdv A outer s H vs Q E hr h=>?_)
 ·obtain⟨_,_,_,hl,_⟩:=h;rw[hl,hn]
 ·obtain⟨G,ds,d,hl,sg,r,hF,q⟩:=h;refine⟨_,der cdv A outer s H E H G hr,G,Y5 N ds,D1 sg r,?_⟩;unfold U5 at hF;cases z:g (Y5 N ds)with
  |rt d'=>rw[z]at hF;cases hF;exact λv G' H' ex rr=>q v G' H' ex rr
  |nx Z=>rw[z]at hF;cases hF;exact λσ' G' H' k' _=>q .non G' H' k'.exit .non
  |bk Z=>rw[z]at hF;cases hF
  |ct Z=>rw[z]at hF;cases hF
  |ex Z d=>rw[z]at hF;cases hF
  |bad=>rw[z]at hF;cases hF
section
variable{X:Cx}{B G0:Hp}{e a b c tg:Uq}{pos:Pos}{es rest:List Uq}
def oNeg:D->Option D
 |.int i=>some (.int (-i))
 |_=>none
def Ze(f:M D):M D:=U6 f λx=>U9 (oNeg x)
theorem Mk{f:M D}(h:PE X a (tD X.K B G0 f)):PE X (.UnaryOp .USub a pos) (tD X.K B G0 (Ze f)):=
 Ko (GM Ea h) λσ H Q q=>tM.one (R:=Rep X.K) q λv H2 G Z x k r a=>by
  cases x with
  |int i=>exact⟨i,r.int_inv,aft.now a k (.int _)⟩
  |_=>exact a.elim
end
def Def(P:Um)(w:World)(K:Frag)(mg:Str->Option Uk)(base:Heap)(x:Str)(k n:Nat)(F:List D->Option D):Prop:=
 ∃(f:Uo)(fd:Up)(ps:List Str),mg x=some (.ref f)/\PySem.W.keepIn K (.ref f)=true/\WZ K fd ps []/\FnOk P w K mg base CX0 k f fd ps (spD K n F)
def US(n:Nat)(F:List D->Option D)(g:M (List D)):M D:=U6 g λxs=>if xs.length=n then U9 (F xs)else λ_=>.bad
section
variable{X:Cx}{B G0:Hp}{e:Uq}{pos:Pos}{es:List Uq}
theorem Er{k n:Nat}{F:List D->Option D}{g:M (List D)}{x:Str}{p2:Pos}(d:Def X.prog X.w X.K X.mg X.base x k n F)(hr:Room k X.A)(hg:Gl X x)(ha:PA X (e::es) (tDs X.K B G0 g))(hn:(e::es).length=n:=by rfl)
  (hdb:(x==("__debug__" : Str))=false:=by decide) (he:Ut (e::es) X.env=(false,eval e X.env)::Ut es X.env:=by rfl) (hpl:(backTo pos (Ut es X.env)).any (·.1)=false:=by rfl) :
  PE X (.Call (.Name x p2) (e::es) [] pos) (tD X.K B G0 (US n F g)):=by
 obtain⟨f,fd,ps,h1,h2,h3,h4⟩:=d;exact D2 h4 hr hg h1 h2 h3 ha hn hdb he hpl
end
theorem Def.mk{P:Um}{w:World}{K:Frag}{mg:Str->Option Uk}{base:Heap}{x:Str}{k n:Nat}{F:List D->Option D}{st:Stmt}{f:Uo}{fd:Up}{ps:List Str}(hm:mg x=some (.ref f))(FU:Fun K x x st f fd)(hb:WZ K fd ps [])(ok:FnOk P w K mg base CX0 k f fd ps (spD K n F)) :
  Def P w K mg base x k n F:=⟨f,fd,ps,hm,FU.kp,hb,ok⟩
theorem GL{K:Frag}{H:Hp}{a:Uo}{ns:List Int}{F:List D->Option D}{E:XK}(hS:SqL K H a (ns.map V.int))(h:F [.list (ns.map int)]=some (.bool true)):spD K 1 F [.ref a] H (λv _=>v=.bl true) E:=
 ⟨H,[.list (ns.map int)],.bool true,rfl,.refl _,.cons (.lst hS (Reps.ints ns)) .nil,h,λ_ _ _ _ r=>r.bl_inv⟩
end DL
namespace L2
open PySem PySem.Spec PyProof.Rows
theorem mem_of_lookup{x:Str}{k:NameKind}:∀{l:List (Str×NameKind)},l.lookup x=some k->(x,k)∈l
 |[],h=>by cases h
 |(y,j)::r,h=>by
  rw[QY]at h;split at h
  ·rename_i e;cases h;have:x=y:=by simpa using e
   rw[this];exact Qo
  ·exact Qk _ (mem_of_lookup h)
theorem OB{env:Env}:∀(l:List (Str×NameKind))(acc:List (Str×Uo)),(∀y∈l,y.2=.free->∃c,env.cells.lookup y.1=some c) ->
  ∃cl,(forIn l acc (λx r=>if(x.2==NameKind.free)=true then(do let a ←cellOf env x.1;pure (ForInStep.yield ((x.1,a)::r)))else pure (ForInStep.yield r)):Sem (List (Str×Uo)))=pure cl /\
   (∀x c,cl.lookup x=some c->acc.lookup x=some c∨env.cells.lookup x=some c)/\(∀y∈l,y.2=.free->∃c,cl.lookup y.1=some c)/\(∀x c,acc.lookup x=some c->∃c',cl.lookup x=some c')
 |[],acc,_=>⟨acc,rfl,λ_ _ h=>.inl h,λ_ h=>absurd h (by simp),λx c h=>⟨c,h⟩⟩
 |(n,k)::r,acc,h=>by
  by_cases hk:k=.free
  ·subst hk;obtain⟨c,hc⟩:=h (n,.free) Qo rfl;obtain⟨cl,e,p1,p2,p3⟩:=OB r ((n,c)::acc) λy hy=>h y (Qk _ hy)
   have hco:cellOf env n=pure c:=by unfold cellOf;rw[hc]
   have key:∀x c',((n,c)::acc).lookup x=some c'->acc.lookup x=some c'∨env.cells.lookup x=some c':=λx c' q=>by
    rw[QY]at q;split at q
    ·rename_i e1;cases q;have:x=n:=by simpa using e1
     subst this;exact .inr hc
    ·exact .inl q
   have own:((n,c)::acc).lookup n=some c:=by rw[List.lookup_cons];simp
   refine⟨cl,?_,λx c' q=>?_,λy hy hf=>?_,λx c' q=>?_⟩
   ·rw[List.forIn_cons];have:(if(((n,NameKind.free):Str×NameKind).2==NameKind.free)=true then(do let a ←cellOf env n;pure (ForInStep.yield ((n,a)::acc)))else pure (ForInStep.yield acc):Sem _)=pure (ForInStep.yield ((n,c)::acc)):=by rw[Qm (show((n,NameKind.free).snd==NameKind.free)=true from rfl),hco];rfl
    refine Eq.trans ?_ e;dsimp only at this⊢;rw[this];rfl
   ·rcases p1 x c' q with z|z
    ·exact key x c' z
    ·exact .inr z
   ·rcases QO.mp hy with z|z
    ·subst z;exact p3 n c own
    ·exact p2 y z hf
   ·by_cases hx:x=n
    ·subst hx;exact p3 x c own
    ·refine p3 x c' ?_;have hb:(x==n)=false:=by simpa using hx
     rw[QY,hb];exact q
  ·obtain⟨cl,e,p1,p2,p3⟩:=OB r acc λy hy=>h y (Qk _ hy)
   refine⟨cl,?_,p1,λy hy hf=>?_,p3⟩
   ·rw[List.forIn_cons];have hb:(k==NameKind.free)=false:=by cases k<;>first|rfl|exact absurd rfl hk
    refine Eq.trans ?_ e;dsimp only;rw[hb,Qu (by decide)];rfl
   ·rcases QO.mp hy with z|z
    ·subst z;exact absurd hf hk
    ·exact p2 y z hf
theorem AS{scope:Scope}{env:Env}(h:∀y∈scope.names,y.2=.free->∃c,env.cells.lookup y.1=some c) :
  ∃cl,closureFor scope env=pure cl/\(∀x c,cl.lookup x=some c->env.cells.lookup x=some c)/\∀y∈scope.names,y.2=.free->∃c,cl.lookup y.1=some c:=by
 obtain⟨cl,e,p1,p2,_⟩:=OB scope.names [] h;refine⟨cl,?_,λx c q=>(p1 x c q).elim (λz=>by cases z) id,p2⟩;have e2:((forIn scope.names [] (λx r=>if(x.2==NameKind.free)=true then(do let a ←cellOf env x.1;pure (ForInStep.yield ((x.1,a)::r)))else pure (ForInStep.yield r)):Sem (List (Str×Uo))) >>= λs=>pure s)=pure cl:=by rw[e];rfl
 exact e2
theorem LW{env:Env}{x:Str}{k:NameKind}:∀{names:List (Str×NameKind)},(names.map λ(n,k)=>if(k==NameKind.free&&env.scope.kind==.function&&env.kindOf n==some .cell)then(n,NameKind.cell)else(n,k)).lookup x=some k ->
  names.lookup x=some k∨(names.lookup x=some .free/\k=.cell)
 |[],h=>by cases h
 |(n,j)::r,h=>by
  have ih:=@LW env x k r;have h:List.lookup x ((if(j==NameKind.free&&env.scope.kind==.function&&env.kindOf n==some .cell)=true then(n,NameKind.cell)else(n,j))::_)=some k:=h;cases hx:x==n with
  |true=>
   by_cases hc:(j==NameKind.free&&env.scope.kind==.function&&env.kindOf n==some .cell)=true
   ·rw[Qm hc]at h;simp only[QY,hx]at h⊢;cases h;simp only[Jc]at hc;have:j=.free:=by have:=hc.1.1;cases j<;>first|rfl|cases this
    subst this;exact .inr ⟨rfl,rfl⟩
   ·rw[Qu hc]at h;simp only[QY,hx]at h⊢;exact .inl h
  |false=>
   by_cases hc:(j==NameKind.free&&env.scope.kind==.function&&env.kindOf n==some .cell)=true
   ·rw[Qm hc]at h;simp only[QY,hx]at h⊢;exact ih h
   ·rw[Qu hc]at h;simp only[QY,hx]at h⊢;exact ih h
theorem Hs{env:Env}{x:Str}:∀{names:List (Str×NameKind)},names.lookup x=some .free ->
  (names.map λ(n,k)=>if(k==NameKind.free&&env.scope.kind==.function&&env.kindOf n==some .cell)then(n,NameKind.cell)else(n,k)).lookup x=some .free ∨
  (names.map λ(n,k)=>if(k==NameKind.free&&env.scope.kind==.function&&env.kindOf n==some .cell)then(n,NameKind.cell)else(n,k)).lookup x=some .cell
 |[],h=>by cases h
 |(n,j)::r,h=>by
  have ih:=@Hs env x r;show List.lookup x ((if(j==NameKind.free&&env.scope.kind==.function&&env.kindOf n==some .cell)=true then(n,NameKind.cell)else(n,j))::_)=_∨List.lookup x ((if(j==NameKind.free&&env.scope.kind==.function&&env.kindOf n==some .cell)=true then(n,NameKind.cell)else(n,j))::_)=_;cases hx:x==n with
  |true=>
   simp only[QY,hx]at h;cases h;by_cases hc:(NameKind.free==NameKind.free&&env.scope.kind==.function&&env.kindOf n==some .cell)=true
   ·rw[if_pos hc];simp[List.lookup_cons,hx]
   ·rw[if_neg hc];simp[List.lookup_cons,hx]
  |false=>
   simp only[QY,hx]at h;by_cases hc:(j==NameKind.free&&env.scope.kind==.function&&env.kindOf n==some .cell)=true
   ·rw[Qm hc];simp only[QY,hx];exact ih h
   ·rw[Qu hc];simp only[QY,hx];exact ih h
theorem L4{env:Env}{x:Str}:∀{names:List (Str×NameKind)},names.lookup x=some .globalImplicit ->
  (names.map λ(n,k)=>if(k==NameKind.free&&env.scope.kind==.function&&env.kindOf n==some .cell)then(n,NameKind.cell)else(n,k)).lookup x=some .globalImplicit
 |[],h=>by cases h
 |(n,j)::r,h=>by
  have ih:=@L4 env x r;show List.lookup x ((if(j==NameKind.free&&env.scope.kind==.function&&env.kindOf n==some .cell)=true then(n,NameKind.cell)else(n,j))::_)=_;cases hx:x==n with
  |true=>simp only[QY,hx]at h;cases h;rw[if_neg (by simp)];simp[List.lookup_cons,hx]
  |false=>
   simp only[QY,hx]at h;by_cases hc:(j==NameKind.free&&env.scope.kind==.function&&env.kindOf n==some .cell)=true
   ·rw[Qm hc];simp only[QY,hx];exact ih h
   ·rw[Qu hc];simp only[QY,hx];exact ih h
def Cx.blk(X:Cx)(N':List Str)(scope:Scope)(cl:List (Str×Uo))(C:Uo)(s₀:Ul)(H₀:Hp)(ex:List Uo):Cx:=
 {X with N:=N',s₀:=s₀,H₀:=H₀,env:=compEnvC scope cl C X.env,outer:=X.stack,ex:=ex,fn:=λ_=>false,xe:=λ_ _=>False}
section
variable{X:Cx}{N':List Str}{scope:Scope}{cl:List (Str×Uo)}{C:Uo}{s₀:Ul}{H₀:Hp}{ex:List Uo}{x:Str}
theorem Ep(h:scope.names.lookup x=some .local∨scope.names.lookup x=some .free):Vis (X.blk N' scope cl C s₀ H₀ ex).env.scope x:=by
 rcases h with h|h
 ·exact .inl (lookup_relabel_local h)
 ·rcases Hs (env:=X.env) h with z|z
  ·exact .inr (.inr z)
  ·exact .inr (.inl z)
theorem PV(h:scope.names.lookup x=some .local):Loc (X.blk N' scope cl C s₀ H₀ ex).env.scope x:=.inl (lookup_relabel_local h)
theorem Po(h:scope.names.lookup x=some .local):(X.blk N' scope cl C s₀ H₀ ex).env.scope.names.lookup x=some .local:=lookup_relabel_local h
theorem GK(h:scope.names.lookup x=some .globalImplicit):Gl (X.blk N' scope cl C s₀ H₀ ex) x:=L4 h
end
def Rb(names:List (Str×NameKind))(N N2:List Str)(k:Nat):Bool:=
 N2.length==N.length+k&&(Uv N2.length).all λi=>match N2[i]? with
  |none=>true
  |some x=>match names.lookup x with
   |some .free=>N[i]?==some x
   |some .local=>decide (N.length<=i)&&decide (i<N.length+k)
   |some .cell=>false
   |_=>true
theorem qJ{names:List (Str×NameKind)}{N N2:List Str}{k:Nat}(h:Rb names N N2 k=true) :
  N2.length=N.length+k/\∀(i:Nat) x,N2[i]?=some x->(names.lookup x=some .free->N[i]?=some x)/\(names.lookup x=some .local->N.length<=i/\i<N.length+k):=by
 unfold Rb at h;simp only[Jc,beq_iff_eq,Jn,Q8]at h;refine⟨h.1,λi x e=>?_⟩;have hi:=(Qg.mp e).1;have:=h.2 i hi;rw[e]at this;refine⟨λq=>?_,λq=>?_⟩
 ·simp only[q]at this;simpa using this
 ·simp only[q]at this;simpa using this
theorem Inv.enter{X:Cx}{pins:List (Uo×Obj)}{σ:St}{H:Hp}{s3:Ul}(I:Inv X pins σ H s3){scope:Scope}{cl:List (Str×Uo)}{N2:List Str}{k:Nat}{h':Heap}{fp:List Uo}{t':Nat}{m0:Str->Option Uk}
  (hb:Rb scope.names X.N N2 k=true) (hkind:scope.kind=.function) (hcell:∀y∈scope.names,y.2≠.cell)
  (hfree:∀y∈scope.names,y.2=.free->X.env.scope.names.lookup y.1=some .cell∨X.env.scope.names.lookup y.1=some .free)
  (cl1:∀x c,cl.lookup x=some c->X.env.cells.lookup x=some c) (cl2:∀y∈scope.names,y.2=.free->∃c,cl.lookup y.1=some c)
  (hn:h'.Ns s3.heap.objs.size m0) (hk:∀b o,s3.heap.get? b=some o->h'.get? b=some o) (hf:∀b∈fp,Zn X pins H b) (hfo:∀b∈fp,∃o,s3.heap.get? b=some o) :
  Inv (X.blk N2 scope cl s3.heap.objs.size s3 H fp) pins (σ++Uw k none) H {s3 with heap:=h',toks:=t'}:=by
 obtain⟨hl,hN⟩:=qJ hb;have lt:∀b o,s3.heap.get? b=some o->b≠s3.heap.objs.size:=λb o e=>QL (Qi e);have ofl:∀x,scope.names.lookup x=some .free->(x,NameKind.free)∈scope.names:=λx h=>mem_of_lookup h;have kinv:∀x kk,(X.blk N2 scope cl s3.heap.objs.size s3 H fp).env.scope.names.lookup x=some kk->scope.names.lookup x=some kk∨(scope.names.lookup x=some .free/\kk=.cell):=λx kk h=>LW (env:=X.env) h
 have isfree:∀x,(X.blk N2 scope cl s3.heap.objs.size s3 H fp).env.scope.names.lookup x=some .cell∨(X.blk N2 scope cl s3.heap.objs.size s3 H fp).env.scope.names.lookup x=some .free->scope.names.lookup x=some .free:=λx h=>by
  rcases h with h|h
  ·rcases kinv x _ h with z|z
   ·exact absurd rfl (hcell _ (mem_of_lookup z))
   ·exact z.1
  ·rcases kinv x _ h with z|z
   ·exact z
   ·exact z.1
 have ok:(X.blk N2 scope cl s3.heap.objs.size s3 H fp).Ok:=
  {
   mod:=I.ok.mod
   kind:=hkind
   glob:=I.ok.glob
   blt:=I.ok.blt
   above:=Qv _
   inj:=λx y c a b=>I.ok.inj x y c (cl1 x c a) (cl1 y c b)
   has:=λx h=>cl2 (x,.free) (ofl x (isfree x h)) rfl
   cab:=λx c h=>by cases h
   hd:=I.ok.hd
   frames:=I.ok.frames
   stk:=.inl rfl
   exf:=λb hb=>⟨let ⟨o,e⟩:=hfo b hb;lt b o e,λx c e=>(hf b hb).2.2.2.2.1 x c (cl1 x c e)⟩
   bs:=I.bs
   bsz:=QP I.ok.bsz I.sz
   noex:=λb o e hb=>by
    rcases(hf b hb).2.2.2.1 with z|z
    ·exact I.ok.noex b o e z
    ·exact absurd (QE (Qi e) (QP I.ok.bsz z)) (Js _)
   exfs:=λb hb hx=>by
    rcases QO.mp (I.stkSub b hx)with z|z
    ·exact(hf b hb).2.1 z
    ·exact(hf b hb).2.2.1 z
   funs:=I.stack
   frf:=I.stkFree}
 refine⟨ok,rfl,I.bare,Un.kept hk,⟨m0,hn,λi x v e1 e2 e3=>?_⟩,λx c e=>?_,I.hok.fresh (Qv _),λx c e=>I.freeC x c (cl1 x c e),λp hp=>?_,I.hok.kept hk,?_⟩
 ·have nl:scope.names.lookup x≠some .local:=λz=>by
   obtain⟨g1,g2⟩:=(hN i x e1).2 z;rw[←I.len]at g1 g2;rw[Qw g1,QA]at e2;split at e2<;>cases e2
  have fr:scope.names.lookup x=some .free:=by
   rcases e3 with z|z|z
   ·rcases kinv x _ z with q|q
    ·exact absurd q nl
    ·cases q.2
   ·exact isfree x (.inl z)
   ·exact isfree x (.inr z)
  have eN:=(hN i x e1).1 fr;have hi:i<σ.length:=by rw[I.len];exact(Qg.mp eN).1
  rw[Qs hi]at e2;obtain⟨m,hm,hlk⟩:=I.loc;have hkd:=hfree _ (ofl x fr) rfl;obtain⟨u,r,l⟩:=hlk i x v eN e2 (.inr hkd);refine⟨u,r,.inr ⟨?_,?_⟩⟩
  ·rcases e3 with z|z|z
   ·rcases kinv x _ z with q|q
    ·exact absurd q nl
    ·cases q.2
   ·exact .inl z
   ·exact .inr z
  ·rcases l with l|⟨_,c,ec,z⟩
   ·have:X.env.scope.names.lookup x=some .local:=l.1;rcases hkd with q|q<;>(dsimp only at q;rw[this]at q;cases q)
   ·obtain⟨c',ec'⟩:=cl2 _ (ofl x fr) rfl;have:=cl1 _ _ ec';dsimp only at this ec';rw[ec]at this;cases this;obtain⟨o,ho,hd⟩:=z;exact⟨c,ec',o,hk c o ho,hd⟩
 ·obtain⟨v,o,ho,hd⟩:=I.cell x c (cl1 x c e);exact⟨v,o,hk c o ho,hd⟩
 ·obtain⟨e,n,ne,nf,d⟩:=I.pin p hp;refine⟨hk _ _ e,n,lt _ _ e,λz=>?_,d⟩;rcases QO.mp (I.stkSub _ z)with q|q
  ·exact ne q
  ·exact nf q
 ·rw[Ql,QU,I.len];exact hl.symm
section
variable{prog:Um}{w:World}{A:Around}{R:Result->Ul->Prop}{s:Ul}
end
abbrev nox:Uk->Ul->Prop:=λ_ _=>False
def Ra(prog:Um)(w:World)(A:Around)(tg:Uq)(ifs:List Uq)(env:Env)(it:Uk)(code:Code)(W:(Ul->Prop)->Ul->Prop):Prop:=
 ∀(R:Result->Ul->Prop)(I:Nat->Ul->Prop)(n:Nat)(s:Ul),I n s ->
  (∀n s,I n s->Us (model prog w) A (pyNext it) (λr s₁=>match r with
   |none=>R (.ok .next) s₁
   |some v=>Us (model prog w) A (letOwnedTupleGo tg it v) (λ_ s₁'=>Us (model prog w) A (assign tg env v) (λ_ s₂=>
     Us (model prog w) A (forIn ifs true λc r=>if r=true then do let ok ←isTrue c env (eval c env);pure (ForInStep.yield ok)else pure (ForInStep.yield r)) (λok s₃=>
      if ok=true then W (λs₅=>∃m,m<n/\I m s₅) s₃ else ∃m,m<n/\I m s₃) nox s₂) nox s₁') nox s₁) nox s)->codeAny (model prog w) A code R s
section
variable{prog:Um}{w:World}{A:Around}{elt tg i:Uq}{ifs:List Uq}{gens:List Comprehension}{scope:Scope}{pos:Pos}{it acc:Uk}{env:Env}{j:Nat}
theorem BQ(hg:gens[j]?=some ⟨tg,i,ifs,0⟩)(hn:gens[j+1]?=none):Ra prog w A tg ifs env it (.compLoop (.ListComp elt gens scope pos) j it acc env)
  (λQ s=>Us (model prog w) A (eval elt env) (λx s₄=>Us (model prog w) A (call (.builtin "list.append") [acc,x]) (λ_ s₅=>Q s₅) nox s₄) nox s):=by
 intro R I n s h turn;refine codeAny_loop rfl I (λn s hI=>?_) n h;show Us _ A ((compTurn (.ListComp elt gens scope pos) j it acc env).onRaise (λx=>do noteFrame x env;theTreesLotGoes x)) _ _ s;refine wpAny_noted ?_;unfold compTurn;dsimp only;simp only[hg,hn];refine Qf (Jj (Qf (QK (turn n s hI) (λr s₁ h₁=>?_) λ_ _ h'=>h'.elim)));cases r with
 |none=>exact Qn h₁
 |some v=>
  refine Qf (QK h₁ (λ_ s₁' h₁'=>?_) λ_ _ h'=>h'.elim);refine Qf (QK h₁' (λ_ s₂ h₂=>Qf (QK h₂ (λok s₃ h₃=>?_) λ_ _ h'=>h'.elim)) λ_ _ h'=>h'.elim);cases ok with
  |false=>exact Qn ⟨rfl,h₃⟩
  |true=>exact Qf (Qf (QK h₃ (λx s₄ h₄=>Qf (QK h₄ (λ_ s₅ h₅=>Qn (Qn ⟨rfl,h₅⟩)) λ_ _ h'=>h'.elim)) λ_ _ h'=>h'.elim))
theorem BP{tg1 i1:Uq}{ifs1:List Uq}(hg:gens[j]?=some ⟨tg,i,ifs,0⟩)(hn:gens[j+1]?=some ⟨tg1,i1,ifs1,0⟩)(hs:∀x,UJ i1 env x=pure x):Ra prog w A tg ifs env it (.compLoop (.ListComp elt gens scope pos) j it acc env)
  (λQ s=>Us (model prog w) A (eval i1 env) (λx s₄=>Us (model prog w) A (pyIter x) (λit1 s₅=>codeAny (model prog w) A (.compStart (.ListComp elt gens scope pos) (j+1) it1 acc env)
   (λr s₆=>match r with | .ok _=>Q s₆ | .error _=>False) s₅) nox s₄) nox s):=by
 intro R I n s h turn;refine codeAny_loop rfl I (λn s hI=>?_) n h;show Us _ A ((compTurn (.ListComp elt gens scope pos) j it acc env).onRaise (λx=>do noteFrame x env;theTreesLotGoes x)) _ _ s;refine wpAny_noted ?_;unfold compTurn;dsimp only;simp only[hg,hn];refine Qf (Jj (Qf (QK (turn n s hI) (λr s₁ h₁=>?_) λ_ _ h'=>h'.elim)));cases r with
 |none=>exact Qn h₁
 |some v=>
  refine Qf (QK h₁ (λ_ s₁' h₁'=>?_) λ_ _ h'=>h'.elim);refine Qf (QK h₁' (λ_ s₂ h₂=>Qf (QK h₂ (λok s₃ h₃=>?_) λ_ _ h'=>h'.elim)) λ_ _ h'=>h'.elim);cases ok with
  |false=>exact Qn ⟨rfl,h₃⟩
  |true=>
   refine Qf (QK h₃ (λx s₄ h₄=>Qf (Jj (Qf (wpAny_of_eq (hs x) (Qf (Jy (QK h₄ (λit1 s₅ h₅=>?_) λ_ _ h'=>h'.elim))))))) λ_ _ h'=>h'.elim);refine Qf (wpAny_runOwn (codeAny_mono h₅ λr s₆ h₆=>?_));cases r with
   |ok f=>exact Qn ⟨rfl,h₆⟩
   |error x=>exact h₆.elim
theorem qQ{R:Result->Ul->Prop}{s:Ul}(hg:gens[j]?=some ⟨tg,i,ifs,0⟩)
  (h0:codeAny (model prog w) A (.compLoop (.ListComp elt gens scope pos) j it acc env) R s)
  (h:Us (model prog w) A (pyIter it) (λit' s'=>codeAny (model prog w) A (.compLoop (.ListComp elt gens scope pos) j it' acc env) R s') nox s) :
  codeAny (model prog w) A (.compStart (.ListComp elt gens scope pos) j it acc env) R s:=by
 refine codeAny_of_tree ?_;show Us _ _ ((compStart (.ListComp elt gens scope pos) j it acc env).onRaise (λx=>do noteFrame x env;standAt theWindowsPlace)) _ _ s;refine wpAny_notedAt ?_;unfold compStart;have hc:(clausesOf (.ListComp elt gens scope pos))[j]?=some ⟨tg,i,ifs,0⟩:=hg;simp only[hc];show Us _ _ (ask >>= _) _ _ s;refine Qf (wpAny_askSetting (wpAny_ite ?_));split
 ·first
   |exact Qf (Qn (Qn (And.intro rfl h0)))
   |exact Qn (And.intro rfl h0)
 ·first
   |exact Qf (wpAny_rule (Qf (Jj (Qf (QK h (λit' s' h'=>Qn (And.intro rfl h')) λ_ _ x=>x.elim)))))
   |(refine Qf (wpAny_rule ?_);show Us _ _ (standAt _ >>= _) _ _ s;exact Qf (Jj (Qf (QK h (λit' s' h'=>Qn (And.intro rfl h')) λ_ _ x=>x.elim))))
end
end L2
namespace DL
open PySem PySem.Spec L2
open PyProof.Rows hiding St
def YW:Option Sl->Option Sl
 |some (.own _)=>none
 |some (.deep _ _)=>none
 |x=>x
def Kf(Z:UG):UG:=Z.map YW
theorem BO{Z:UG}{i:Nat}{d:D}(h:(Kf Z)[i]?=some (some (.pub d))):Z[i]?=some (some (.pub d)):=by
 unfold Kf at h;rw[Qe]at h;cases e:Z[i]? with
 |none=>rw[e]at h;cases h
 |some o=>
  rw[e]at h;cases o with
  |none=>cases h
  |some sl=>cases sl with
   |pub d'=>cases h;rfl
   |own ds=>cases h
   |deep p d'=>cases h
theorem We{Z:UG}{i:Nat}{ds:List D}(h:(Kf Z)[i]?=some (some (.own ds))):False:=by
 unfold Kf at h;rw[Qe]at h;cases e:Z[i]? with
 |none=>rw[e]at h;cases h
 |some o=>
  rw[e]at h;cases o with
  |none=>cases h
  |some sl=>cases sl with
   |pub d'=>cases h
   |own ds=>cases h
   |deep p d'=>cases h
theorem OA{Z:UG}{i:Nat}{p:Pat}{d:D}(h:(Kf Z)[i]?=some (some (.deep p d))):False:=by
 unfold Kf at h;rw[Qe]at h;cases e:Z[i]? with
 |none=>rw[e]at h;cases h
 |some o=>
  rw[e]at h;cases o with
  |none=>cases h
  |some sl=>cases sl<;>cases h
def K0(s:D->UG->Option UG)(t:M Bool)(g:M D):List D->UG->List D->Option (List D)
 |[],_,es=>some es
 |d::r,Z,es=>match s d Z with
  |none=>none
  |some Z1=>match t Z1 with
   |.bad=>none
   |.ok b Z2=>if b=true then(match g Z2 with
     |.bad=>none
     |.ok e Z3=>if es.length<1000000 then K0 s t g r (Kf Z3) (es++[e])else none)
    else K0 s t g r (Kf Z2) es
def Zr(f:M (List D))(k:Nat)(s:D->UG->Option UG)(t:M Bool)(g:M D):M (List D):=λZ=>match f Z with
 |.bad=>.bad
 |.ok ds Z1=>match K0 s t g ds (Kf Z1++Uw k none) []with
  |none=>.bad
  |some es=>.ok es Z1
def YM(X:Cx)(ifs:List Uq)(t:TT):Prop:=
 ∀(pins:List (Uo×Obj))(s:Ul)(σ:St)(H:Hp)(Q:Bool->Hp->Prop),Inv X pins σ H s->t σ H Q ->
  Us (model X.prog X.w) X.A (forIn ifs true λc r=>if r=true then do let ok ←isTrue c X.env (eval c X.env);pure (ForInStep.yield ok)else pure (ForInStep.yield r)) (TP X pins σ Q) X.xe s
section
variable{X:Cx}{B G0:Hp}
theorem Eo:YM X [] (tBo X.K B G0 (UN true)):=λpins s σ H Q I ⟨G,Z,k,a⟩=>wpAny_tests_nil ⟨H,I,a true G H k (.refl _) rfl⟩
theorem NR{c:Uq}{t:M Bool}(h:PT X c (tBo X.K B G0 t)):YM X [c] (tBo X.K B G0 t):=λpins s σ H Q I q=>wpAny_tests_one (h pins s σ H Q I q)
theorem EOk.rebase{K:Frag}{G H:Hp}{σ:St}{Z:UG}(k:EOk K B G0 G H σ Z):EOk K H G G H σ (Kf Z) where
 bh:=.refl _
 gh:=k.gh
 g0:=.refl _
 np:=λ_ _ _ n=>n
 len:=by unfold Kf;rw[Qb];exact k.len
 pub:=λi d q=>k.pub i d (BO q)
 own:=λi ds q=>(We q).elim
 sep:=λi j a ds es q=>(We q).elim
 dp:=.of (λ_ _ _ q=>OA q) λ_ _ q=>We q
theorem EOk.more{K:Frag}{G H:Hp}{σ:St}{Z:UG}(k:EOk K H G G H σ (Kf Z))(n:Nat):EOk K H G G H (σ++Uw n none) (Kf Z++Uw n none) where
 bh:=.refl _
 gh:=k.gh
 g0:=.refl _
 np:=λ_ _ _ n=>n
 len:=by rw[Ql,Ql,k.len,QU,QU]
 pub:=λi d q=>by
  by_cases hi:i<(Kf Z).length
  ·rw[Qs hi]at q;rw[Qs (by rw[←k.len];exact hi)];exact k.pub i d q
  ·rw[Qw (Jb hi),QA]at q;split at q<;>cases q
 own:=λi ds q=>by
  by_cases hi:i<(Kf Z).length
  ·rw[Qs hi]at q;exact(We q).elim
  ·rw[Qw (Jb hi),QA]at q;split at q<;>cases q
 sep:=λi j a ds es q=>by
  by_cases hi:i<(Kf Z).length
  ·rw[Qs hi]at q;exact(We q).elim
  ·rw[Qw (Jb hi),QA]at q;split at q<;>cases q
 dp:=by
  refine .of (λi p d q=>?_) λi ds q=>?_
  ·by_cases hi:i<(Kf Z).length
   ·rw[Qs hi]at q;exact OA q
   ·rw[Qw (Jb hi),QA]at q;split at q<;>cases q
  ·by_cases hi:i<(Kf Z).length
   ·rw[Qs hi]at q;exact We q
   ·rw[Qw (Jb hi),QA]at q;split at q<;>cases q
theorem EOk.beside{K:Frag}{G H:Hp}{σ:St}{Z:UG}{a:Uo}{o:HO}(k:EOk K B G0 G H σ Z)(hg:G a=none):EOk K (upd H a o) G G (upd H a o) σ (Kf Z) where
 bh:=.refl _
 gh:=λb u e=>by rw[KY (λz=>by subst z;rw[hg]at e;cases e)];exact k.gh b u e
 g0:=.refl _
 np:=λ_ _ _ n=>n
 len:=k.rebase.len
 pub:=k.rebase.pub
 own:=λi ds q=>(We q).elim
 sep:=λi j a ds es q=>(We q).elim
 dp:=.of (λ_ _ _ q=>OA q) λ_ _ q=>We q
theorem lim1:1000000<=Ur:=lim
def R8:Option Sl->Option Sl
 |some (.own ds)=>some (.pub (.list ds))
 |some (.deep _ d)=>some (.pub d)
 |x=>x
def Zq(Z:UG):UG:=Z.map R8
theorem LN{Z:UG}{i:Nat}{d:D}(h:(Zq Z)[i]?=some (some (.pub d))):Z[i]?=some (some (.pub d))∨(∃ds,d=.list ds/\Z[i]?=some (some (.own ds))) ∨ ∃p,Z[i]?=some (some (.deep p d)):=by
 unfold Zq at h;rw[Qe]at h;cases e:Z[i]? with
 |none=>rw[e]at h;cases h
 |some o=>
  rw[e]at h;cases o with
  |none=>cases h
  |some sl=>cases sl with
   |pub d'=>cases h;exact .inl rfl
   |own ds=>cases h;exact .inr (.inl ⟨ds,rfl,rfl⟩)
   |deep p d'=>cases h;exact .inr (.inr ⟨p,rfl⟩)
theorem Sn{Z:UG}{i:Nat}{ds:List D}(h:(Zq Z)[i]?=some (some (.own ds))):False:=by
 unfold Zq at h;rw[Qe]at h;cases e:Z[i]? with
 |none=>rw[e]at h;cases h
 |some o=>
  rw[e]at h;cases o with
  |none=>cases h
  |some sl=>cases sl with
   |pub d'=>cases h
   |own ds=>cases h
   |deep p d'=>cases h
theorem L1{Z:UG}{i:Nat}{p:Pat}{d:D}(h:(Zq Z)[i]?=some (some (.deep p d))):False:=by
 unfold Zq at h;rw[Qe]at h;cases e:Z[i]? with
 |none=>rw[e]at h;cases h
 |some o=>
  rw[e]at h;cases o with
  |none=>cases h
  |some sl=>cases sl<;>cases h
def flat:D->Bool
 |.none=>true | .bool _=>true | .int _=>true | .str _=>true|_=>false
theorem Rep.flat{K:Frag}{G G':Hp}{v:V}{d:D}(r:Rep K G v d)(h:DL.flat d=true):Rep K G' v d:=by
 cases r with
 |non=>exact .non
 |bl b=>exact .bl b
 |int i=>exact .int i
 |str x=>exact .str x
 |lst _ _=>cases h
 |tup _ _=>cases h
 |dic _=>cases h
 |exc _ _ _ _=>cases h
 |dct _ _ _ _ _=>cases h
 |dtt _ _ _ _=>cases h
theorem Reps.flat{K:Frag}{G G':Hp}:∀{vs:List V}{ds:List D},Reps K G vs ds->ds.all DL.flat=true->Reps K G' vs ds
 |_,_,.nil,_=>.nil
 |_,_,.cons r t,h=>by rw[List.all_cons,Jc]at h;exact .cons (r.flat h.1) (Reps.flat t h.2)
theorem EOk.lend{K:Frag}{B G0 G H:Hp}{σ:St}{Z:UG}{D:Uo}{o:HO}(k:EOk K B G0 G H σ Z)(hD:H D=none)(n:Nat):EOk K (upd H D o) H H (upd H D o) (σ++Uw n none) (Zq Z++Uw n none) where
 bh:=.refl _
 gh:=Zt hD
 g0:=.refl _
 np:=λ_ _ _ n=>n
 len:=by unfold Zq;rw[Ql,Ql,Qb,k.len,QU,QU]
 pub:=λi d q=>by
  have hl:(Zq Z).length=Z.length:=by unfold Zq;rw[Qb]
  by_cases hi:i<(Zq Z).length
  ·rw[Qs hi]at q;rw[Qs (by rw[←k.len,←hl];exact hi)];rcases LN q with e|⟨ds,rfl,e⟩|⟨p,e⟩
   ·obtain⟨v,h1,h2⟩:=k.pub i d e;exact⟨v,h1,h2.mono k.gh⟩
   ·obtain⟨a,vs,h1,h2,h3,h4,h5⟩:=k.own i ds e;exact⟨.ref a,h1,.lst (SqL.of h4) (h5.mono k.gh)⟩
   ·obtain⟨ω,k1,k2⟩:=k.dp;obtain⟨v,fp,s,r,_⟩:=k1 i p d e;exact⟨v,s,r.rep k.gh⟩
  ·rw[Qw (Jb hi),QA]at q;split at q<;>cases q
 own:=λi ds q=>by
  by_cases hi:i<(Zq Z).length
  ·rw[Qs hi]at q;exact(Sn q).elim
  ·rw[Qw (Jb hi),QA]at q;split at q<;>cases q
 sep:=λi j a ds es q=>by
  by_cases hi:i<(Zq Z).length
  ·rw[Qs hi]at q;exact(Sn q).elim
  ·rw[Qw (Jb hi),QA]at q;split at q<;>cases q
 dp:=by
  refine .of (λi p d q=>?_) λi ds q=>?_
  ·by_cases hi:i<(Zq Z).length
   ·rw[Qs hi]at q;exact L1 q
   ·rw[Qw (Jb hi),QA]at q;split at q<;>cases q
  ·by_cases hi:i<(Zq Z).length
   ·rw[Qs hi]at q;exact Sn q
   ·rw[Qw (Jb hi),QA]at q;split at q<;>cases q
def SJ(f:M (List D))(k:Nat)(s:D->UG->Option UG)(t:M Bool)(g:M D):M (List D):=λZ=>match f Z with
 |.bad=>.bad
 |.ok ds Z1=>match K0 s t g ds (Zq Z1++Uw k none) []with
  |none=>.bad
  |some es=>if es.all flat=true then .ok es Z1 else .bad
end
def Yy(s:D->UG->Option UG)(t:M Bool)(g:M D):List D->UG->List D->Option (List D×UG)
 |[],Z,es=>some (es,Z)
 |d::r,Z,es=>match s d Z with
  |none=>none
  |some Z1=>match t Z1 with
   |.bad=>none
   |.ok b Z2=>if b=true then(match g Z2 with
     |.bad=>none
     |.ok e Z3=>if es.length<1000000 then Yy s t g r (Kf Z3) (es++[e])else none)
    else Yy s t g r (Kf Z2) es
def Xy(s0:D->UG->Option UG)(t0:M Bool)(f1:M (List D))(s1:D->UG->Option UG)(t1:M Bool)(g:M D):List D->UG->List D->Option (List D)
 |[],_,es=>some es
 |d::r,Z,es=>match s0 d Z with
  |none=>none
  |some Z1=>match t0 Z1 with
   |.bad=>none
   |.ok b Z2=>if b=true then(match f1 Z2 with
     |.bad=>none
     |.ok ds Z3=>match Yy s1 t1 g ds (Kf Z3) es with
      |none=>none
      |some (es',Z4)=>Xy s0 t0 f1 s1 t1 g r Z4 es')
    else Xy s0 t0 f1 s1 t1 g r (Kf Z2) es
def SI(f:M (List D))(k:Nat)(s:D->UG->Option UG)(t:M Bool)(f1:M (List D))(s1':D->UG->Option UG)(t1':M Bool)(g:M D):M (List D):=λZ=>match f Z with
 |.bad=>.bad
 |.ok ds Z1=>match Xy s t f1 s1' t1' g ds (Kf Z1++Uw k none) []with
  |none=>.bad
  |some es=>.ok es Z1
def YU(s0:D->UG->Option UG)(t0:M Bool)(f1:M (List D))(Rd:List D->UG->List D->Option (List D×UG)):List D->UG->List D->Option (List D×UG)
 |[],Z,es=>some (es,Z)
 |d::r,Z,es=>match s0 d Z with
  |none=>none
  |some Z1=>match t0 Z1 with
   |.bad=>none
   |.ok b Z2=>if b=true then(match f1 Z2 with
     |.bad=>none
     |.ok ds Z3=>match Rd ds (Kf Z3) es with
      |none=>none
      |some (es',Z4)=>YU s0 t0 f1 Rd r Z4 es')
    else YU s0 t0 f1 Rd r (Kf Z2) es
def VJ(Rd:List D->UG->List D->Option (List D×UG))(ds:List D)(Z:UG)(es:List D):Option (List D):=(Rd ds Z es).map (·.1)
def SH(f:M (List D))(k:Nat)(s:D->UG->Option UG)(t:M Bool)(f1:M (List D))(s1':D->UG->Option UG)(t1':M Bool)(fx2:M (List D))(s2':D->UG->Option UG)(t2':M Bool)(g:M D):M (List D):=λZ=>match f Z with
 |.bad=>.bad
 |.ok ds Z1=>match VJ (YU s t f1 (YU s1' t1' fx2 (Yy s2' t2' g))) ds (Kf Z1++Uw k none) []with
  |none=>.bad
  |some es=>.ok es Z1
abbrev RdB:=UG->List D->Option (List D×UG)
def rL(g:M D):RdB:=λZ es=>match g Z with
 |.bad=>none
 |.ok e Z3=>if es.length<1000000 then some (es++[e],Kf Z3)else none
def cT(s:D->UG->Option UG)(t:M Bool)(rd:RdB):List D->UG->List D->Option (List D×UG)
 |[],Z,es=>some (es,Z)
 |d::r,Z,es=>match s d Z with
  |none=>none
  |some Z1=>match t Z1 with
   |.bad=>none
   |.ok b Z2=>if b=true then(match rd Z2 es with
     |none=>none
     |some (es',Z')=>cT s t rd r Z' es')
    else cT s t rd r (Kf Z2) es
def rN(f:M (List D))(s:D->UG->Option UG)(t:M Bool)(rd:RdB):RdB:=λZ es=>match f Z with
 |.bad=>none
 |.ok ds Z3=>cT s t rd ds (Kf Z3) es
structure Left(Y:Cx)(D':Uo)(pins:List (Uo×Obj))(H G:Hp)(es':List D)(Z':UG)(σ':St)(H' G':Hp)(vs':List V)(s':Ul):Prop where
 inv:Inv Y pins σ' H' s'
 eok:EOk Y.K H' G' G' H' σ' Z'
 hh:∀a o,a≠D'->H a=some o->H' a=some o
 gg:Same G G'
 np:∀a(u:MO),a≠D'->H a=some u.ho->G a=none->G' a=none
 hd:H' D'=some (.lst vs')
 gd:G' D'=none
 rp:Reps Y.K G' vs' es'
def Sr(Y:Cx)(D':Uo)(W:(Ul->Prop)->Ul->Prop)(rd:RdB):Prop:=
 ∀(pins:List (Uo×Obj))(sh:Ul)(σ:St)(B1 G1 H G:Hp)(Z Z':UG)(vs:List V)(es es':List D)(Q:Ul->Prop),
  Inv Y pins σ H sh->EOk Y.K B1 G1 G H σ Z->B1 D'=some (.lst vs)->G1 D'=none->Reps Y.K G1 vs es->rd Z es=some (es',Z') ->
  (∀σ' H' G' vs' s',Left Y D' pins B1 G1 es' Z' σ' H' G' vs' s'->Q s')->W Q sh
section
variable{Y:Cx}{D':Uo}
theorem BN{elt:Uq}{g:M D}(hx:Y.xe=nox)(he:∀B1 G1,PE Y elt (tD Y.K B1 G1 g)) :
  Sr Y D' (λQ s=>Us (model Y.prog Y.w) Y.A (eval elt Y.env) (λx s₄=>Us (model Y.prog Y.w) Y.A (call (.builtin "list.append") [.ref D',x]) (λ_ s₅=>Q s₅) nox s₄) nox s) (rL g):=by
 intro pins sh σ B1 G1 H G Z Z' vs es es' Q I k hD gD r z fin;unfold rL at z;cases zg:g Z with
 |bad=>rw[zg]at z;cases z
 |ok e Z4=>
 rw[zg]at z;dsimp only at z;split at z
 ·rename_i hle;cases z;have h:=he B1 G1 pins sh σ H (λv H8=>∃G8,EOk Y.K B1 G1 G8 H8 σ Z4/\Rep Y.K G8 v e) I ⟨G,Z,k,by unfold aft;rw[zg];exact λv G8 H8 k8 _ q=>⟨G8,k8,q⟩⟩;rw[hx]at h;refine thn h λev s8 ⟨v,H8,I8,rv,G8,k8,r8⟩=>?_;have h2:=LC pins s8 σ H8 (.ref D') [v] (.ref D') [ev] (λ_ H9=>H9=upd H8 D' (.lst (vs++[v]))) I8 rfl (.cons rv .nil) ⟨D',vs,v,rfl,rfl,k8.bh _ _ hD,by have:=lim1;rw[r.length];omega,rfl⟩
  rw[hx]at h2;refine thn h2 λ_ s9 ⟨_,H9,I9,_,e9⟩=>?_;subst e9;have g8:=k8.np _ (.l _) hD gD;exact fin σ _ G8 _ s9 ⟨I9,k8.beside g8,λa o z q=>by rw[KY z];exact k8.bh a o q,k8.g0,λa o _ q w=>k8.np a o q w,Zu,g8,(r.mono k8.g0).append (.cons r8 .nil)⟩
 ·cases z
theorem M0{tg:Uq}{ifs:List Uq}{code:Code}{W:(Ul->Prop)->Ul->Prop}{s:D->UG->Option UG}{t:M Bool}{rd:RdB}{it:Uo}(hx:Y.xe=nox)(hc:Y.calm=true)(rule:Ra Y.prog Y.w Y.A tg ifs Y.env (.ref it) code W)
  (hg:∀B1 G1,PG Y tg (tG Y.K B1 G1 s)) (ht:∀B1 G1,YM Y ifs (tBo Y.K B1 G1 t)) (hb:Sr Y D' W rd)
  {pins:List (Uo×Obj)} {sh:Ul} {σ:St} {H G:Hp} {Z ZF:UG} {fp:List Uo} {tn:Nat->Heap->Prop} {J:It} {ds es esF:List D} {vs:List V} {R:Result->Ul->Prop}
  (I:Inv Y pins σ H sh) (T:Turn Y.prog Y.w Y.K tg J fp it tn) (st:tn 0 sh.heap) (hf:∀b∈fp,Zn Y pins H b)
  (k:EOk Y.K H G G H σ Z) (its:Xo Y.K J ds G) (hD:H D'=some (.lst vs)) (gD:G D'=none) (r:Reps Y.K G vs es) (zl:cT s t rd ds Z es=some (esF,ZF))
  (hfin:∀σ' H' G' vs' s',Left Y D' pins H G esF ZF σ' H' G' vs' s'->R (.ok .next) s'):codeAny (model Y.prog Y.w) Y.A code R sh:=by
 have stat:∀{H':Hp},(∀b∈fp,H' b=none)->∀b∈fp,Zn Y pins H' b:=λhn b hb=>⟨hn b hb,(hf b hb).2⟩
 refine rule R (λn s'=>∃i σ' H' G' Z' vs' es',n=ds.length-i/\tn i s'.heap/\(∀b∈fp,H' b=none)/\Left Y D' pins H G es' Z' σ' H' G' vs' s'/\cT s t rd (ds.drop i) Z' es'=some (esF,ZF)) ds.length sh
  ⟨0,σ,H,G,Z,vs,es,rfl,st,λb hb=>(hf b hb).1,⟨I,k,λ_ _ _ q=>q,.refl _,λ_ _ _ _ n=>n,hD,gD,r⟩,by rw[List.drop_zero];exact zl⟩ ?_
 rintro n s' ⟨i,σ',H',G',Z',vs',es',rfl,tn',fr',⟨I',k',sh',sg',np',hD',gD',r'⟩,zc⟩;by_cases hlt:i<ds.length
 ·rw[QR hlt,cT]at zc;cases zs:s ds[i] Z' with
  |none=>rw[zs]at zc;cases zc
  |some Z2=>
  rw[zs]at zc;dsimp only at zc;cases zt:t Z2 with
  |bad=>rw[zt]at zc;cases zc
  |ok b Z3=>
  rw[zt]at zc;dsimp only at zc;refine thn (T.item Y rfl rfl rfl hc i pins s' σ' H' nox I' (stat fr') tn' (its.go i G' H' sg' k'.gh hlt)) λrr s4 ⟨u,hr,h4⟩=>?_;subst hr;refine thn h4 λ_ s5 ⟨x,H5,I5,r5,y5,st5,fr5⟩=>?_
  obtain⟨G5,e5,rx⟩:=its.yld i G' H' x H5 ds[i] sg' k'.gh (Qd hlt) y5;have h6:=hg H' G' _ s5 σ' H5 x u (λσ6 H6=>∃G6,EOk Y.K H' G' G6 H6 σ6 Z2) (I5.pinned (stat fr5) (T.obj _ _ st5)) r5 ⟨G5,Z',ds[i],Z2,k'.ext e5,rx,zs,λσ6 G6 H6 k6 _=>⟨G6,k6⟩⟩;rw[hx]at h6;refine thn h6 λ_ s6 ⟨σ6,H6,I6,G6,k6⟩=>?_;have h7:=ht H' G' _ s6 σ6 H6 (λc H7=>c=b/\∃G7,EOk Y.K H' G' G7 H7 σ6 Z3) I6 ⟨G6,Z2,k6,by unfold aft;rw[zt];exact λc G7 H7 k7 _ q=>⟨q,G7,k7⟩⟩
  rw[hx]at h7;refine thn h7 λok s7 ⟨H7,I7,hb7,G7,k7⟩=>?_;subst hb7
  have again:∀{H9:Hp}{σ9:St}{s9:Ul},Inv Y (pins++SF fp s5.heap) σ9 H9 s9->Inv Y pins σ9 H9 s9/\tn (i+1) s9.heap/\∀b∈fp,H9 b=none:=λ{H9 σ9 s9} I9=>by refine⟨I9.unpinned,T.keep _ _ _ st5 λb hb o e=>(I9.pin (b,o) (QI _ (QI _ (R1 hb e)))).1,λb hb=>?_⟩;obtain⟨o,e,d⟩:=T.obj _ _ st5 b hb;exact(I9.pin (b,o) (QI _ (QI _ (R1 hb e)))).2.1
  have lt:ds.length-(i+1)<ds.length-i:=Nat.sub_lt_sub_left hlt (Ub i);cases ok with
  |false=>rw[Qu (by decide)]at zc⊢;obtain⟨J1,J2,J3⟩:=again I7;exact⟨_,lt,i+1,σ6,H7,G7,Kf Z3,vs',es',rfl,J2,J3,⟨J1,k7.rebase,λa o z q=>k7.bh a o (sh' a o z q),sg'.trans k7.g0,λa o z q w=>k7.np a o (sh' a _ z q) (np' a o z q w),k7.bh _ _ hD',k7.np _ (.l _) hD' gD',r'.mono k7.g0⟩,zc⟩
  |true=>
   rw[Qm rfl]at zc⊢;cases ze:rd Z3 es' with
   |none=>rw[ze]at zc;cases zc
   |some pr=>
   obtain⟨es1,Z5⟩:=pr;rw[ze]at zc;refine hb _ s7 σ6 H' G' H7 G7 Z3 Z5 vs' es' es1 _ I7 k7 hD' gD' r' ze λσ9 H9 G9 vs9 s9 L=>?_
   obtain⟨J1,J2,J3⟩:=again L.inv;exact⟨_,lt,i+1,σ9,H9,G9,Z5,vs9,es1,rfl,J2,J3,⟨J1,L.eok,λa o z q=>L.hh a o z (sh' a o z q),sg'.trans L.gg,λa o z q w=>L.np a o z (sh' a _ z q) (np' a o z q w),L.hd,L.gd,L.rp⟩,zc⟩
 ·rw[JX (Jb hlt),cT]at zc;cases zc;refine thn (T.done Y rfl rfl rfl hc i pins s' σ' H' nox I' (stat fr') tn' (its.stop i G' H' sg' k'.gh (Jb hlt))) λrr s4 ⟨hr,I6⟩=>?_
  subst hr;exact hfin σ' H' G' vs' s4 ⟨I6,k',sh',sg',np',hD',gD',r'⟩
theorem BM{elt tg1 i1:Uq}{ifs1:List Uq}{gens:List Comprehension}{scope:Scope}{pos:Pos}{j:Nat}{W:Uk->(Ul->Prop)->Ul->Prop}{f:M (List D)}{s:D->UG->Option UG}{t:M Bool}{rd:RdB}(hx:Y.xe=nox)(hc:Y.calm=true)
  (hn:gens[j+1]?=some ⟨tg1,i1,ifs1,0⟩) (rule:∀it1,Ra Y.prog Y.w Y.A tg1 ifs1 Y.env it1 (.compLoop (.ListComp elt gens scope pos) (j+1) it1 (.ref D') Y.env) (W it1))
  (hi:∀B1 G1,PI Y tg1 i1 (iD Y.K B1 G1 f)) (hg:∀B1 G1,PG Y tg1 (tG Y.K B1 G1 s)) (ht:∀B1 G1,YM Y ifs1 (tBo Y.K B1 G1 t)) (hb:∀it1,Sr Y D' (W it1) rd) :
  Sr Y D' (λQ s=>Us (model Y.prog Y.w) Y.A (eval i1 Y.env) (λx s₄=>Us (model Y.prog Y.w) Y.A (pyIter x) (λit1 s₅=>codeAny (model Y.prog Y.w) Y.A (.compStart (.ListComp elt gens scope pos) (j+1) it1 (.ref D') Y.env)
   (λr s₆=>match r with | .ok _=>Q s₆ | .error _=>False) s₅) nox s₄) nox s) (rN f s t rd):=by
 intro pins sh σ B1 G1 H G Z Z' vs es es' Q I k hD gD r z fin;unfold rN at z;cases zf:f Z with
 |bad=>rw[zf]at z;cases z
 |ok ds Z3=>
 rw[zf]at z;have h:=hi B1 G1 pins sh σ H (λJ1 H8=>∃G8,EOk Y.K B1 G1 G8 H8 σ Z3/\Xo Y.K J1 ds G8) I ⟨G,Z,k,by rw[zf];exact λJ1 G8 H8 k8 _ q=>⟨G8,k8,q⟩⟩;rw[hx]at h;refine thn h λxv s8 h8=>thn h8 λitv s9 h9=>?_
 obtain⟨it1,fp1,tn1,J1,H9,rfl,I9,T1,st9,f9,G9,k9,its9⟩:=h9
 have loop:codeAny (model Y.prog Y.w) Y.A (.compLoop (.ListComp elt gens scope pos) (j+1) (.ref it1) (.ref D') Y.env) (λr s₆=>match r with | .ok _=>Q s₆ | .error _=>False) s9:=
  M0 hx hc (rule (.ref it1)) hg ht (hb _) I9 T1 st9 f9 k9.rebase its9 (k9.bh _ _ hD) (k9.np _ (.l _) hD gD) (r.mono k9.g0) z λσ' H' G' vs' s' L=>
   fin σ' H' G' vs' s' ⟨L.inv,L.eok,λa o z q=>L.hh a o z (k9.bh a o q),k9.g0.trans L.gg,λa o z q w=>L.np a o z (k9.bh a _ q) (k9.np a o q w),L.hd,L.gd,L.rp⟩
 exact qQ hn loop (T1.self Y.A 0 _ _ _ st9 loop)
end
def Sq(Y:Cx)(e:Uq)(j:Nat)(tg:Uq)(ifs:List Uq)(rd:RdB):Prop:=
 ∀(D':Uo)(it:Uk),∃W,Ra Y.prog Y.w Y.A tg ifs Y.env it (.compLoop e j it (.ref D') Y.env) W/\Sr Y D' W rd
section
variable{Y:Cx}{elt tg i:Uq}{ifs:List Uq}{gens:List Comprehension}{scope:Scope}{pos:Pos}{j:Nat}
theorem LM{g:M D}(hx:Y.xe=nox)(hg:gens[j]?=some ⟨tg,i,ifs,0⟩)(hn:gens[j+1]?=none)(he:∀B1 G1,PE Y elt (tD Y.K B1 G1 g)):Sq Y (.ListComp elt gens scope pos) j tg ifs (rL g):=
 λ_ _=>⟨_,BQ hg hn,BN hx he⟩
theorem BL{tg1 i1:Uq}{ifs1:List Uq}{f:M (List D)}{s:D->UG->Option UG}{t:M Bool}{rd:RdB}(hx:Y.xe=nox)(hc:Y.calm=true)(hg:gens[j]?=some ⟨tg,i,ifs,0⟩)(hn:gens[j+1]?=some ⟨tg1,i1,ifs1,0⟩)(hs:∀x,UJ i1 Y.env x=pure x)
  (hi:∀B1 G1,PI Y tg1 i1 (iD Y.K B1 G1 f)) (hgt:∀B1 G1,PG Y tg1 (tG Y.K B1 G1 s)) (ht:∀B1 G1,YM Y ifs1 (tBo Y.K B1 G1 t)) (hb:Sq Y (.ListComp elt gens scope pos) (j+1) tg1 ifs1 rd):Sq Y (.ListComp elt gens scope pos) j tg ifs (rN f s t rd):=
 λD' _=>⟨_,BP hg hn hs,BM hx hc hn (λit1=>(Classical.choose_spec (hb D' it1)).1) hi hgt ht (λit1=>(Classical.choose_spec (hb D' it1)).2)⟩
end
def Yt(l:Bool)(Z:UG):UG:=match l with|true=>Zq Z|false=>Kf Z
theorem HM{K:Frag}{B G0 G1 H2:Hp}{σ:St}{Z1:UG}{D:Uo}(l:Bool)(k1:EOk K B G0 G1 H2 σ Z1)(hfr:H2 D=none)(n:Nat) :
  ∃Gb,EOk K (upd H2 D (.lst [])) Gb Gb (upd H2 D (.lst [])) (σ++Uw n none) (Yt l Z1++Uw n none)/\Same G1 Gb/\Gb D=none /\
   ∀(G' H':Hp) vs es,(l=true->es.all flat=true)->Same Gb G'->Same H2 H'->Same G' H'->(∀a(u:MO),H2 a=some u.ho->Gb a=none->G' a=none)->G' D=none->Reps K G' vs es->∃Gf,Ext G1 H2 Gf H'/\Gf D=none/\Reps K Gf vs es:=by
 have gD:G1 D=none:=k1.gh.free hfr;cases l with
 |false=>exact⟨G1,(k1.beside gD).more n,.refl _,gD,λG' H' vs es _ g h gh np d r=>⟨G',⟨h,g,gh,np⟩,d,r⟩⟩
 |true=>exact⟨H2,k1.lend hfr n,k1.gh,hfr,λG' H' vs es fl _ h _ _ _ r=>⟨G1,⟨h,.refl _,k1.gh.trans h,λ_ _ _ n=>n⟩,gD,r.flat (fl rfl)⟩⟩
def dCG(l:Bool)(f:M (List D))(k:Nat)(s:D->UG->Option UG)(t:M Bool)(rd:RdB):M (List D):=λZ=>match f Z with
 |.bad=>.bad
 |.ok ds Z1=>match cT s t rd ds (Yt l Z1++Uw k none) []with
  |none=>.bad
  |some (es,_)=>if l=true->es.all flat=true then .ok es Z1 else .bad
theorem PU{l:Bool}{f:M (List D)}{k:Nat}{s:D->UG->Option UG}{t:M Bool}{rd:RdB}{Z Z':UG}{es:List D}(h:dCG l f k s t rd Z=.ok es Z'):∃ds ZF,f Z=.ok ds Z'/\cT s t rd ds (Yt l Z'++Uw k none) []=some (es,ZF)/\(l=true->es.all flat=true):=by
 unfold dCG at h;cases zf:f Z with
 |bad=>rw[zf]at h;cases h
 |ok ds Z1=>
 rw[zf]at h;dsimp only at h;cases zl:cT s t rd ds (Yt l Z1++Uw k none) []with
 |none=>rw[zl]at h;cases h
 |some pr=>
 obtain⟨esF,ZF⟩:=pr;rw[zl]at h;dsimp only at h;split at h
 ·rename_i hf;cases h;exact⟨ds,ZF,rfl,zl,hf⟩
 ·cases h
section
variable{X:Cx}{B G0:Hp}{KX:XW}
def Ye(X:Cx)(N2:List Str)(scope:Scope)(e tg:Uq)(ifs:List Uq)(s:D->UG->Option UG)(t:M Bool)(rd:RdB):Prop:=
 ∀(cl:List (Str×Uo))(C:Uo)(s₀:Ul)(H₀:Hp)(ex:List Uo),(∀B' G',PG (X.blk N2 scope cl C s₀ H₀ ex) tg (tG X.K B' G' s))/\(∀B' G',YM (X.blk N2 scope cl C s₀ H₀ ex) ifs (tBo X.K B' G' t))/\Sq (X.blk N2 scope cl C s₀ H₀ ex) e 0 tg ifs rd
structure TU(SC scope:Scope)(N1 N2:List Str)(k:Nat):Prop where
 b:Rb scope.names N1 N2 k=true
 kind:scope.kind=.function
 cell:∀y∈scope.names,y.2≠.cell
 names:∀y∈scope.names,y.2=.local->scope.names.lookup y.1=some .local
 free:∀y∈scope.names,y.2=.free->SC.names.lookup y.1=some .cell∨SC.names.lookup y.1=some .free
theorem P9{l:Bool}{tg elt iter:Uq}{ifs:List Uq}{gs:List Comprehension}{scope:Scope}{pos pos':Pos}{N2:List Str}{k:Nat}{f:M (List D)}{s:D->UG->Option UG}{t:M Bool}{rd:RdB}{use:Option (Uk->Sem Unit)}{Qc:Uk->Ul->Prop}(hc:X.calm=true)
  (hi:PI X tg iter (iD X.K B G0 f)) (hblk:Ye X N2 scope (.ListComp elt (⟨tg,iter,ifs,0⟩::gs) scope pos) tg ifs s t rd) (hb:TU X.env.scope scope X.N N2 k) (hs:∀x,UJ iter X.env x=pure x)
  {pins:List (Uo×Obj)} {s0:Ul} {σ:St} {G H:Hp} {Z Z1 ZF:UG} {ds esF:List D} (I:Inv X pins σ H s0) (k0:EOk X.K B G0 G H σ Z) (zf:f Z=.ok ds Z1) (zl:cT s t rd ds (Yt l Z1++Uw k none) []=some (esF,ZF)) (hfl:l=true->esF.all flat=true)
  (hfin:∀(C D:Uo)(vs:List V)(G' H':Hp)(s4:Ul)(m:Str->Option Uk),Inv X pins σ H' s4->s4.heap.Ns C m->H' C=none->C≠X.env.locals->X.s₀.heap.objs.size<=C->(∀x c,X.env.cells.lookup x=some c->c≠C)->(∀p∈X.pn++pins,p.1≠C) ->
   EOk X.K B G0 G' H' σ Z1->Same G G'->NewL X.K B G' H' σ Z1 D vs esF->compPost (model X.prog X.w) X.A X.xe use Qc (.ref D) C (.ok .next) s4) :
  Us (model X.prog X.w) X.A (comprehension (.ListComp elt (⟨tg,iter,ifs,0⟩::gs) scope pos) scope X.env pos' (newList []) false (eval iter X.env) use) Qc X.xe s0:=by
 obtain⟨cl,hcl,cl1,cl2⟩:=AS (scope:=scope) (env:=X.env) λy hy hf=>I.ok.has y.1 (hb.free y hy hf)
 refine wpAny_comprehension_free (use:=use) rfl hs hcl hb.kind hb.names (thn (hi pins s0 σ H (λJ H1=>∃G1,EOk X.K B G0 G1 H1 σ Z1/\Same G G1/\Xo X.K J ds G1) I ⟨G,Z,k0,by rw[zf];exact λJ G1 H1 k1 s1 it=>⟨G1,k1,s1,it⟩⟩) λv s1 h1=>thn h1 λitv s2 h2=>?_);obtain⟨it,fp,tn,J,H2,rfl,I2,T,st2,f2,G1,k1,sg1,its⟩:=h2;refine wpAny_newObj_type (wpAny_newFunctionEnv hb.cell (by intro y hy;simp at hy) (λh₁ hns₁ hsb₁=>?_) hb.kind);dsimp only at hns₁ hsb₁⊢;have hfr:H2 s2.heap.objs.size=none:=I2.hok.fresh (Qv _)
 have I3:Inv X pins σ (upd H2 s2.heap.objs.size (.lst [])) {s2 with heap:=s2.heap.push {cls:=.type "list", dict:=none,data:=.seq ([]:List Uk).toArray}}:=
  I2.laid (t':=s2.toks) (λb u e=>Qj _ e) (Qv _) ⟨Ua _,[],0,.nil,QD _ rfl⟩
 generalize hP:s2.heap.push {cls:=.type "list", dict:=none,data:=.seq ([]:List Uk).toArray}=P at I3 hns₁ hsb₁⊢;have old:∀b o,s2.heap.get? b=some o->P.get? b=some o:=λb o e=>hP ▸ Qj _ e;have kept:∀b o,P.get? b=some o->h₁.get? b=some o:=λb o e=>hsb₁.extBut b o (QL (Qi e)) (Qj _ e);have fpo:∀b∈fp,∃o,s2.heap.get? b=some o:=λb hb=>let ⟨o,e,_⟩:=T.obj _ _ st2 b hb;⟨o,e⟩
 have fpD:∀b∈fp,b≠s2.heap.objs.size:=λb hb=>let ⟨o,e⟩:=fpo b hb;QL (Qi e)
 have f3:∀b∈fp,Zn X pins (upd H2 s2.heap.objs.size (.lst [])) b:=λb hb=>⟨by rw[KY (fpD b hb)];exact(f2 b hb).1,(f2 b hb).2⟩
 have I4:=I3.enter (scope:=scope) (cl:=cl) (N2:=N2) (k:=k) (fp:=fp) (t':=s2.toks+([]:List (Str×Uk)).length) hb.b hb.kind hb.cell hb.free cl1 cl2 hns₁ kept f3 (λb hb=>let ⟨o,e⟩:=fpo b hb;⟨o,old b o e⟩);dsimp only at I4;obtain⟨Gb,kb,sgb,gbD,ex⟩:=HM l k1 hfr k;have sH:Same H2 (upd H2 s2.heap.objs.size (.lst [])):=Zt hfr;have hD3:upd H2 s2.heap.objs.size (.lst []) s2.heap.objs.size=some (.lst []):=Zu;generalize upd H2 s2.heap.objs.size (.lst [])=H3 at I3 I4 f3 kb sH hD3;generalize s2.heap.objs.size=D at *;have tn0:tn 0 h₁:=T.keep 0 _ _ st2 λb hb o e=>kept b o (old b o e)
 have stat:∀b∈fp,Zn (X.blk N2 scope cl P.objs.size {s2 with heap:=P} H3 fp) pins H3 b:=λb hb=>by
  obtain⟨z0,z1,z2,z3,z4,z5⟩:=f3 b hb;obtain⟨o,e⟩:=fpo b hb;refine⟨z0,QL (Qi (old b o e)),λz=>?_,.inl hb,λx c q=>z4 x c (cl1 x c q),z5⟩;rcases QO.mp (I3.stkSub b z)with q|q
  ·exact z1 q
  ·exact z2 q
 have neD:∀a o,H2 a=some o->a≠D:=λa o q z=>by subst z;rw[hfr]at q;cases q
 obtain⟨hg,ht,hcl'⟩:=hblk cl P.objs.size {s2 with heap:=P} H3 fp;obtain⟨W,rule,body⟩:=hcl' D (.ref it)
 have loop:=M0 (Y:=X.blk N2 scope cl P.objs.size {s2 with heap:=P} H3 fp) (D':=D) (R:=compPost (model X.prog X.w) X.A X.xe use Qc (.ref D) P.objs.size) rfl hc rule hg ht body I4 T tn0 stat kb
  ⟨λi G H s1 s2 hi=>its.go i G H (sgb.trans s1) s2 hi,λi G H s1 s2 hi=>its.stop i G H (sgb.trans s1) s2 hi,λi G H x H' d s1 s2 e y=>its.yld i G H x H' d (sgb.trans s1) s2 e y⟩ hD3 gbD .nil zl λσ' H' G' vs' s4 L=>by
   obtain⟨m,hm,_⟩:=id L.inv.loc;have I7:Inv X pins σ H' s4:=I3.call' (ch:=fp) L.inv.os L.inv.base L.inv.hok L.inv.bare λb hb=>⟨(f3 b hb).2.2.2.1,(f3 b hb).2.1,(f3 b hb).2.2.2.2.1,(f3 b hb).2.2.2.2.2⟩
   obtain⟨Gf,eF,dF,rF⟩:=ex G' H' vs' esF hfl L.gg (λa o q=>L.hh a o (neD a o q) (sH a o q)) L.eok.gh (λa o q z=>L.np a o (neD a _ q) (sH a _ q) z) L.gd L.rp
   refine hfin P.objs.size D vs' Gf H' s4 m I7 hm L.inv.free (JO I3.lt) I3.sz (λx c e z=>by obtain⟨_,q⟩:=I3.cell x c e;exact absurd q.lt (by rw[z];exact Js _)) (λp hp z=>by have:=Qi (I3.pin p hp).1;exact absurd this (by rw[z];exact Js _))
    (k1.ext eF) (sg1.trans eF.g) ⟨k1.bh.free hfr,dF,L.hd,rF,λj es' q z=>?_,λj pt d v fp q s r=>k1.freshD eF.h hfr q s r⟩
   obtain⟨a',ws,h1',h2',h3',h4',h5'⟩:=k1.own j es' q;rw[z]at h1';cases h1';rw[hfr]at h4';cases h4'
 exact codeAny_compStart_list loop (T.self X.A 0 _ _ _ tn0 loop)
theorem HL{l:Bool}{tg elt iter:Uq}{ifs:List Uq}{gs:List Comprehension}{scope:Scope}{pos:Pos}{N2:List Str}{k:Nat}{f:M (List D)}{s:D->UG->Option UG}{t:M Bool}{rd:RdB}(hc:X.calm=true)
  (hi:PI X tg iter (iD X.K B G0 f)) (hblk:Ye X N2 scope (.ListComp elt (⟨tg,iter,ifs,0⟩::gs) scope pos) tg ifs s t rd) (hb:TU X.env.scope scope X.N N2 k) (hs:∀x,UJ iter X.env x=pure x:=by intro _;rfl) :
  PE X (.ListComp elt (⟨tg,iter,ifs,0⟩::gs) scope pos) (tL X.K B G0 (dCG l f k s t rd)):=by
 intro pins s0 σ H Q I ⟨G,Z,k0,a⟩;cases z:dCG l f k s t rd Z with
 |bad=>rw[z]at a;exact a.elim
 |ok es Z1=>
 rw[z]at a;obtain⟨ds,ZF,zf,zl,hfl⟩:=PU z;rw[eval_ListComp];refine P9 hc hi hblk hb hs I k0 zf zl hfl λC D vs G' H' s4 m I7 hm hC hL hz hcl hp k' s' n=>?_
 exact⟨m,hm,λh' sb=>⟨.ref D,H',I7.turned (t':=s4.toks) (it:=C) (λb o hb e=>(sb.2 b hb).trans e) hC hL (.inr hz) hcl hp,rfl,a D vs G' H' k' s' n⟩⟩
theorem sD_g{l:Bool}{y:Str}{j:Nat}{py:Pos}{spos:Pos}{tg elt iter:Uq}{ifs:List Uq}{gs:List Comprehension}{scope:Scope}{pos:Pos}{N2:List Str}{k:Nat}{f:M (List D)}{s:D->UG->Option UG}{t:M Bool}{rd:RdB}(hN:X.N.Nodup)(hj:X.N[j]?=some y)(hy:X.env.scope.names.lookup y=some .local)(hc:X.calm=true)
  (hi:PI X tg iter (iD X.K B G0 f)) (hblk:Ye X N2 scope (.ListComp elt (⟨tg,iter,ifs,0⟩::gs) scope pos) tg ifs s t rd) (hb:TU X.env.scope scope X.N N2 k) (hs:∀x,UJ iter X.env x=pure x:=by intro _;rfl)
  (hsw:swapsWith (.ListComp elt (⟨tg,iter,ifs,0⟩::gs) scope pos) (some (.Name y py)) spos.line X.env=pure true:=by rfl) :
  PS X (.Assign [.Name y py] (.ListComp elt (⟨tg,iter,ifs,0⟩::gs) scope pos) spos) (tS X.K B G0 KX (K4 j (dCG l f k s t rd))):=by
 intro pins s0 σ H Dn I ⟨G,Z,k0,a⟩;unfold K4 sB at a;cases z:dCG l f k s t rd Z with
 |bad=>rw[z]at a;exact a.elim
 |ok es Z1=>
 rw[z]at a;dsimp only at a;by_cases hl:j<Z1.length
 ·rw[Qm hl]at a;obtain⟨ds,ZF,zf,zl,hfl⟩:=PU z;rw[exec_Assign_Name_used _ _ _ _ hsw];refine Qf (Jj (Qf ?_));show Us _ X.A (do let _ ←comprehension (.ListComp elt (⟨tg,iter,ifs,0⟩::gs) scope pos) scope X.env _ (newList []) false (eval iter X.env) (some (assign (.Name y py) X.env))) _ _ s0;refine Qf (QK (P9 (use:=some (assign (.Name y py) X.env)) (Qc:=λ_ s'=>SP X pins Dn .next s') hc hi hblk hb hs I k0 zf zl hfl λC D vs G' H' s4 m I7 hm hC hL hz hcl hp k' s' n=>?_) (λ_ s' hq=>Qn (Qn hq)) λ_ _ e=>e);show Us _ X.A (assign (.Name y py) X.env (.ref D)) _ _ s4;refine wpAny_assign_Name (OH I7 hN hj (.inl hy) (v:=.ref D) rfl (λs5 I8 ⟨ad,sb,hx⟩=>?_) (.inr hy))
  have hCa:C≠ad:=by
   rcases hx with e|e
   ·rw[e];exact hL
   ·exact Ne.symm (hcl y ad e)
  refine⟨m,hm.sameBut sb hCa,λh' sb'=>⟨_,H',I8.turned (t':=s5.toks) (it:=C) (λb o hb e=>(sb'.2 b hb).trans e) hC hL (.inr hz) hcl hp,?_⟩⟩;exact a _ G' H' (k'.setOwn n hl) s'
 ·rw[Qu hl]at a;exact a.elim
theorem HK{K:Frag}{f f':M (List D)}(h:∀Z es Z',f Z=.ok es Z'->f' Z=.ok es Z'){σ:St}{H:Hp}{Q:VK}(q:tL K B G0 f σ H Q):tL K B G0 f' σ H Q:=by
 obtain⟨G,Z,k,a⟩:=q;refine⟨G,Z,k,?_⟩;cases z:f Z with
 |bad=>rw[z]at a;exact a.elim
 |ok es Z'=>rw[z]at a;rw[h Z es Z' z];exact a
theorem Nj{K:Frag}{f f':M (List D)}{j:Nat}(h:∀Z es Z',f Z=.ok es Z'->f' Z=.ok es Z'){Dn:_}{σ:St}{H:Hp}(q:tS K B G0 KX (K4 j f) Dn σ H):tS K B G0 KX (K4 j f') Dn σ H:=by
 obtain⟨G,Z,k,a⟩:=q;refine⟨G,Z,k,?_⟩;unfold K4 sB at a⊢;cases z:f Z with
 |bad=>rw[z]at a;exact a.elim
 |ok es Z'=>rw[z]at a;rw[h Z es Z' z];exact a
end
theorem RS{s:D->UG->Option UG}{t:M Bool}{g:M D}:∀{ds:List D}{Z:UG}{es esF:List D},K0 s t g ds Z es=some esF->∃ZF,cT s t (rL g) ds Z es=some (esF,ZF)
 |[],Z,es,esF,h=>by rw[K0]at h;cases h;exact⟨Z,rfl⟩
 |d::r,Z,es,esF,h=>by
  rw[K0]at h;rw[cT];cases zs:s d Z with
  |none=>rw[zs]at h;cases h
  |some Z1=>
  rw[zs]at h;dsimp only at h⊢;cases zt:t Z1 with
  |bad=>rw[zt]at h;cases h
  |ok b Z2=>
  rw[zt]at h;dsimp only at h⊢;cases b with
  |false=>exact RS (ds:=r) h
  |true=>
   rw[Qm rfl]at h⊢;unfold rL;cases zg:g Z2 with
   |bad=>rw[zg]at h;cases h
   |ok e Z3=>
   rw[zg]at h;dsimp only at h⊢;split at h
   ·rename_i hl;rw[Qm hl];exact RS (ds:=r) h
   ·cases h
theorem R7{s:D->UG->Option UG}{t:M Bool}{g:M D}:∀{ds:List D}{Z:UG}{es:List D},Yy s t g ds Z es=cT s t (rL g) ds Z es
 |[],Z,es=>rfl
 |d::r,Z,es=>by
  rw[Yy,cT];cases s d Z with
  |none=>rfl
  |some Z1=>
  dsimp only;cases t Z1 with
  |bad=>rfl
  |ok b Z2=>
  dsimp only;cases b with
  |false=>exact R7 (ds:=r)
  |true=>
   rw[Qm rfl,Qm rfl];unfold rL;cases g Z2 with
   |bad=>rfl
   |ok e Z3=>
   dsimp only;split
   ·exact R7 (ds:=r)
   ·rfl
theorem R6{s s1:D->UG->Option UG}{t t1:M Bool}{f:M (List D)}{Rd:List D->UG->List D->Option (List D×UG)}{rd:RdB}(hR:∀ds Z es,Rd ds Z es=cT s1 t1 rd ds Z es) :
  ∀{ds:List D}{Z:UG}{es:List D},YU s t f Rd ds Z es=cT s t (rN f s1 t1 rd) ds Z es
 |[],Z,es=>rfl
 |d::r,Z,es=>by
  rw[YU,cT];cases s d Z with
  |none=>rfl
  |some Z1=>
  dsimp only;cases t Z1 with
  |bad=>rfl
  |ok b Z2=>
  dsimp only;cases b with
  |false=>exact R6 hR (ds:=r)
  |true=>
   rw[Qm rfl,Qm rfl];unfold rN;cases f Z2 with
   |bad=>rfl
   |ok ds Z3=>
   dsimp only;rw[hR];cases cT s1 t1 rd ds (Kf Z3) es with
   |none=>rfl
   |some pr=>exact R6 hR (ds:=r)
theorem Os{s s1:D->UG->Option UG}{t t1:M Bool}{f:M (List D)}{g:M D}:∀{ds:List D}{Z:UG}{es esF:List D},Xy s t f s1 t1 g ds Z es=some esF->∃ZF,cT s t (rN f s1 t1 (rL g)) ds Z es=some (esF,ZF)
 |[],Z,es,esF,h=>by rw[Xy]at h;cases h;exact⟨Z,rfl⟩
 |d::r,Z,es,esF,h=>by
  rw[Xy]at h;rw[cT];cases zs:s d Z with
  |none=>rw[zs]at h;cases h
  |some Z1=>
  rw[zs]at h;dsimp only at h⊢;cases zt:t Z1 with
  |bad=>rw[zt]at h;cases h
  |ok b Z2=>
  rw[zt]at h;dsimp only at h⊢;cases b with
  |false=>exact Os (ds:=r) h
  |true=>
   rw[Qm rfl]at h⊢;unfold rN;cases zg:f Z2 with
   |bad=>rw[zg]at h;cases h
   |ok ds Z3=>
   rw[zg]at h;dsimp only at h⊢;rw[←R7];cases zl:Yy s1 t1 g ds (Kf Z3) es with
   |none=>rw[zl]at h;cases h
   |some pr=>rw[zl]at h;exact Os (ds:=r) h
theorem MZ{f:M (List D)}{k:Nat}{s:D->UG->Option UG}{t:M Bool}{g:M D}(Z:UG)(es:List D)(Z':UG)(h:Zr f k s t g Z=.ok es Z'):dCG false f k s t (rL g) Z=.ok es Z':=by
 unfold Zr at h;unfold dCG;cases zf:f Z with
 |bad=>rw[zf]at h;cases h
 |ok ds Z1=>
 rw[zf]at h;dsimp only[Yt]at h⊢;cases zl:K0 s t g ds (Kf Z1++Uw k none) []with
 |none=>rw[zl]at h;cases h
 |some esF=>
 rw[zl]at h;cases h;obtain⟨ZF,e⟩:=RS zl;rw[e];exact Qm λz=>by cases z
theorem BK{f:M (List D)}{k:Nat}{s:D->UG->Option UG}{t:M Bool}{g:M D}(Z:UG)(es:List D)(Z':UG)(h:SJ f k s t g Z=.ok es Z'):dCG true f k s t (rL g) Z=.ok es Z':=by
 unfold SJ at h;unfold dCG;cases zf:f Z with
 |bad=>rw[zf]at h;cases h
 |ok ds Z1=>
 rw[zf]at h;dsimp only[Yt]at h⊢;cases zl:K0 s t g ds (Zq Z1++Uw k none) []with
 |none=>rw[zl]at h;cases h
 |some esF=>
 rw[zl]at h;dsimp only at h;split at h
 ·rename_i hf;cases h;obtain⟨ZF,e⟩:=RS zl;rw[e];exact Qm λ_=>hf
 ·cases h
theorem BJ{f f1:M (List D)}{k:Nat}{s s1:D->UG->Option UG}{t t1:M Bool}{g:M D}(Z:UG)(es:List D)(Z':UG)(h:SI f k s t f1 s1 t1 g Z=.ok es Z'):dCG false f k s t (rN f1 s1 t1 (rL g)) Z=.ok es Z':=by
 unfold SI at h;unfold dCG;cases zf:f Z with
 |bad=>rw[zf]at h;cases h
 |ok ds Z1=>
 rw[zf]at h;dsimp only[Yt]at h⊢;cases zl:Xy s t f1 s1 t1 g ds (Kf Z1++Uw k none) []with
 |none=>rw[zl]at h;cases h
 |some esF=>
 rw[zl]at h;cases h;obtain⟨ZF,e⟩:=Os zl;rw[e];exact Qm λz=>by cases z
theorem BI{f f1 f2:M (List D)}{k:Nat}{s s1 s2:D->UG->Option UG}{t t1 t2:M Bool}{g:M D}(Z:UG)(es:List D)(Z':UG)(h:SH f k s t f1 s1 t1 f2 s2 t2 g Z=.ok es Z'):dCG false f k s t (rN f1 s1 t1 (rN f2 s2 t2 (rL g))) Z=.ok es Z':=by
 unfold SH at h;unfold dCG;cases zf:f Z with
 |bad=>rw[zf]at h;cases h
 |ok ds Z1=>
 rw[zf]at h;dsimp only[Yt,VJ]at h⊢;rw[R6 λ_ _ _=>R6 λ_ _ _=>R7]at h;cases zl:cT s t (rN f1 s1 t1 (rN f2 s2 t2 (rL g))) ds (Kf Z1++Uw k none) []with
 |none=>rw[zl]at h;cases h
 |some pr=>
 rw[zl]at h;cases h;exact Qm λz=>by cases z
def W6(q:Option NameKind->Bool)(SC scope:Scope)(N1 N2:List Str)(k:Nat):Bool:=
 Rb scope.names N1 N2 k&&decide (scope.kind=.function)&&scope.names.all λy=>match y.2 with
  |.cell=>false
  |.local=>decide (scope.names.lookup y.1=some .local)
  |.free=>q (SC.names.lookup y.1)
  |_=>true
def TR:Option NameKind->Bool
 |some .cell=>true|some .free=>true|_=>false
theorem AR{q:Option NameKind->Bool}{SC SC' scope:Scope}{N1 N2:List Str}{k:Nat}(h:W6 q SC scope N1 N2 k=true)(f:∀x,q (SC.names.lookup x)=true->SC'.names.lookup x=some .cell∨SC'.names.lookup x=some .free):TU SC' scope N1 N2 k:=by
 unfold W6 at h;rw[Jc,Jc,Jn]at h;obtain⟨⟨h1,h2⟩,h3⟩:=h;refine⟨h1,Qa h2,λy hy e=>?_,λy hy e=>?_,λy hy e=>?_⟩
 ·have:=h3 y hy;rw[e]at this;cases this
 ·have:=h3 y hy;rw[e]at this;exact Qa this
 ·have:=h3 y hy;rw[e]at this;exact f _ this
theorem PR{SC scope:Scope}{N1 N2:List Str}{k:Nat}(h:W6 TR SC scope N1 N2 k=true):TU SC scope N1 N2 k:=AR h λx e=>by
 cases z:SC.names.lookup x with
 |none=>rw[z]at e;cases e
 |some y=>rw[z]at e;cases y<;>first|exact .inl rfl|exact .inr rfl|cases e
section
variable{X:Cx}{B G0:Hp}{KX:XW}
theorem HJ{l:Bool}{tg elt iter:Uq}{ifs:List Uq}{gs:List Comprehension}{scope:Scope}{pos:Pos}{f:M (List D)}{s:D->UG->Option UG}{t:M Bool}{rd:RdB}{F:M (List D)}(SC:Scope)(N1 N2:List Str)(k:Nat)(le:∀Z es Z',F Z=.ok es Z'->dCG l f k s t rd Z=.ok es Z')(hc:X.calm=true)
  (hi:PI X tg iter (iD X.K B G0 f)) (hblk:Ye X N2 scope (.ListComp elt (⟨tg,iter,ifs,0⟩::gs) scope pos) tg ifs s t rd) (h1:X.env.scope=SC) (h2:X.N=N1) (hb:W6 TR SC scope N1 N2 k=true) (hs:∀x,UJ iter X.env x=pure x:=by intro _;rfl) :
  PE X (.ListComp elt (⟨tg,iter,ifs,0⟩::gs) scope pos) (tL X.K B G0 F):=
 Ko (HL hc hi hblk (by rw[h1,h2];exact PR hb) hs) λ_ _ _ q=>HK le q
theorem sD_1{l:Bool}{y:Str}{j:Nat}{py:Pos}{spos:Pos}{tg elt iter:Uq}{ifs:List Uq}{gs:List Comprehension}{scope:Scope}{pos:Pos}{f:M (List D)}{s:D->UG->Option UG}{t:M Bool}{rd:RdB}{F:M (List D)}(SC:Scope)(N1 N2:List Str)(k:Nat)(le:∀Z es Z',F Z=.ok es Z'->dCG l f k s t rd Z=.ok es Z')(hN:X.N.Nodup)(hj:X.N[j]?=some y)(hy:X.env.scope.names.lookup y=some .local)(hc:X.calm=true)
  (hi:PI X tg iter (iD X.K B G0 f)) (hblk:Ye X N2 scope (.ListComp elt (⟨tg,iter,ifs,0⟩::gs) scope pos) tg ifs s t rd) (h1:X.env.scope=SC) (h2:X.N=N1) (hb:W6 TR SC scope N1 N2 k=true) (hs:∀x,UJ iter X.env x=pure x:=by intro _;rfl)
  (hsw:swapsWith (.ListComp elt (⟨tg,iter,ifs,0⟩::gs) scope pos) (some (.Name y py)) spos.line X.env=pure true:=by rfl) :
  PS X (.Assign [.Name y py] (.ListComp elt (⟨tg,iter,ifs,0⟩::gs) scope pos) spos) (tS X.K B G0 KX (K4 j F)):=
 Zl (sD_g hN hj hy hc hi hblk (by rw[h1,h2];exact PR hb) hs hsw) λ_ _ _ q=>Nj le q
end
theorem D0{f:M (List D)}{k:Nat}{s s1' s2':D->UG->Option UG}{t t1' t2':M Bool}{f1 f2:M (List D)}{g:M D}{Z Z1 Z2:UG}{ds es:List D}(h1:f Z=.ok ds Z1)(h2:YU s t f1 (YU s1' t1' f2 (Yy s2' t2' g)) ds (Kf Z1++Uw k none) []=some (es,Z2)) :
  SH f k s t f1 s1' t1' f2 s2' t2' g Z=.ok es Z1:=by
 unfold SH;rw[h1];dsimp only[VJ];rw[h2];rfl
section
variable{X:Cx}{B G0:Hp}{e a b c tg:Uq}{pos:Pos}{es rest:List Uq}
theorem EOk.given{K:Frag}{G H:Hp}{σ:St}{Z:UG}{a:Uo}{vs:List V}{ds:List D}(k:EOk K B G0 G H σ Z)(n:NewL K B G H σ Z a vs ds):EOk K B G0 (upd G a (.lst vs)) H σ Z where
 bh:=k.bh
 gh:=λb u q=>by
  by_cases z:b=a
  ·subst z;rw[Zu]at q;cases q;exact n.h
  ·rw[KY z]at q;exact k.gh b u q
 g0:=k.g0.trans (Zt n.g)
 np:=λb o q z=>by
  have zb:b≠a:=λz=>by subst z;rw[n.b]at q;cases q
  rw[KY zb];exact k.np b o q z
 len:=k.len
 pub:=λi d q=>let ⟨v,h1,h2⟩:=k.pub i d q;⟨v,h1,h2.mono (Zt n.g)⟩
 own:=λi ds q=>by
  obtain⟨b,ws,h1,h2,h3,h4,h5⟩:=k.own i ds q;have zb:b≠a:=λz=>by subst z;exact n.f i ds q h1
  exact⟨b,ws,h1,h2,by rw[KY zb];exact h3,h4,h5.mono (Zt n.g)⟩
 sep:=k.sep
 dp:=k.dp.map (λ_ _ _ q=>⟨q,rfl⟩) (λ_ ds q=>⟨ds,q,rfl⟩) λi p d v fp q s r w nn=>⟨r.mono (Zt n.g) (.refl _),λb m=>⟨(w b m).1,by rw[KY (λz=>n.dp i p d v fp q s r (by rw[←z];exact m))];exact(w b m).2⟩⟩
theorem Dd{f:M (List D)}(h:PE X e (tL X.K B G0 f)):PE X e (tD X.K B G0 (UW Ux f)):=
 Ko h λσ H Q ⟨G,Z,k,a⟩=>by
  refine⟨G,Z,k,?_⟩;unfold UW U6 at a;cases z:f Z with
  |bad=>rw[z]at a;exact a.elim
  |ok ds Z1=>rw[z]at a;intro ad vs G' H' k' s' n;exact a (.ref ad) _ H' (k'.given n) (s'.trans (Zt n.g)) (.lst (SqL.of Zu) (n.r.mono (Zt n.g)))
theorem CM(hc:X.calm=true):YF X (.builtin "all") (λxs H Q=>∃l,∃bs:List Bool,xs=[.ref l]/\SqL X.K H l (bs.map V.bl)/\Q (.bl (bs.all id)) H):=by
 intro pins s σ H xs us Q I rx h;obtain⟨l,bs,rfl,hq,q⟩:=h;obtain⟨u,rfl,ru⟩:=rx.one;cases ru;obtain⟨its,rv,p,hz⟩:=I.list hq;have hl:=p.isList;have hlt:l<s.heap.objs.size:=by obtain⟨_,e,_⟩:=id hl;exact Qi e
 have key:∀(i:Nat) v,its.toArray[i]?=some v->∃t,bs[i]?=some t/\v=.bool t:=λi v e=>by
  have e:its[i]?=some v:=by simpa using e
  have hi:i<bs.length:=by have:=(Qg.mp e).1;have h2:=rv.length;rw[Qb]at h2;omega
  obtain⟨u,e2,r2⟩:=rv.get (i:=i) (x:=.bl bs[i]) (by rw[Qe,Qd hi];rfl);rw[e]at e2;cases e2;exact⟨bs[i],Qd hi,r2⟩
 refine call_all_walk (JH hl ?_)
 refine⟨s.heap.objs.size,[s.heap.objs.size,l],[s.heap.objs.size],its.toArray.size,_,_,λi=>(bs[i]?).getD true,rfl,Walks.list (A:=X.A.in1) (I.ok.hd hc) _ l (QL hlt) its.toArray,
  ⟨⟨_,QD _ rfl,rfl,rfl⟩,hl.push _⟩,λi v s' Q' E' hP hQ=>?_,λh' tk hk=>?_⟩
 ·obtain⟨b,e,rfl⟩:=key i v hP;simp only[e,JT]at hQ;exact QZ hQ
 ·have hn:its.toArray.size=bs.length:=by have:=rv.length;rw[List.length_map]at this;simp;omega
  have e:((Uv its.toArray.size).all λi=>(bs[i]?).getD true)=bs.all id:=by
   rw[hn,JD,Jn,Jn];constructor
   ·intro h b hb;obtain⟨i,hi,e⟩:=List.getElem_of_mem hb;have:=h i (Q8.mpr hi);simp only[Qd hi,JT,e]at this;exact this
   ·intro h i hi;have hi':=Q8.mp hi;simp only[Qd hi',JT];exact h _ (JK hi')
  rw[e];exact⟨.bl (bs.all id),H,I.kept (t':=tk) λb x e=>hk b x (λhm=>by rw[Je.mp hm]at e;exact Js _ (Qi e)) (Qj _ e),rfl,q⟩
def Vc:List D->Option (List Bool)
 |[]=>some []
 |.bool b::r=>(Vc r).map (b :: ·)
 |_=>none
theorem Hr{K:Frag}{G:Hp}:∀{vs:List V}{ds:List D}{bs:List Bool},Reps K G vs ds->Vc ds=some bs->vs=bs.map V.bl
 |_,_,bs,.nil,e=>by cases e;rfl
 |_,_,bs,.cons (d:=d) r t,e=>by
  cases d with
  |bool b=>
   unfold Vc at e;cases z:Vc _ with
   |none=>rw[z]at e;cases e
   |some cs=>rw[z]at e;cases e;rw[r.bl_inv,Hr t z];rfl
  |_=>cases e
def Yr:List D->Option D
 |[.list ds]=>(Vc ds).map λbs=>.bool (bs.all id)
 |_=>none
theorem HI(hc:X.calm=true):YX X (.builtin "all") Yr:=by
 refine⟨_,CM hc,λvs G H ds d Q s r e k=>?_⟩;unfold Yr at e;split at e
 ·rename_i ds;cases z:Vc ds with
  |none=>rw[z]at e;cases e
  |some bs=>rw[z]at e;cases e;obtain⟨v,rfl,q⟩:=r.one_inv;obtain⟨l,ws,rfl,h1,r1⟩:=q.lst_inv;have hw:=Hr r1 z;subst hw;exact⟨l,bs,rfl,s.seq h1,k _ G H (.refl s) (.bl _)⟩
 ·cases e
def Its(x:Str):It:=⟨λi _=>i<x.cps.size,λi H v H'=>H'=H/\∃c,x.cps[i]?=some c/\v=.str ⟨#[c]⟩,λi _=>x.cps.size<=i⟩
theorem CL{P:Um}{w:World}{K:Frag}{tg:Uq}(x:Str)(t:Tok)(it:Uo):Turn P w K tg (Its x) [it] it (λi h=>h.IsStrIter it (strIterType x) x t i) where
 mem:=by simp
 obj:=λi h st b hb=>by
  have e:b=it:=by simpa using hb
  subst e;obtain⟨o,e,c,d⟩:=st;exact⟨o,e,λv z=>by rw[d]at z;cases z⟩
 keep:=λi h h' st k=>by obtain⟨o,e,c,d⟩:=st;exact⟨o,k it (by simp) o e,c,d⟩
 item:=by
  intro X hP hw hK hc i pins s σ H E I hf st hg;subst hP hw hK;obtain⟨f0,f1,f2,f3,f4,f5⟩:=hf it (by simp);have hx:x.cps[i]?=some x.cps[i]:=JM hg
  have fin:∀h' tk(T:String),strIterType x=T->h'.IsStrIter it T x t (i+1)->Heap.SameBut it s.heap h'->["enumerate", "zip", "dict_itemiterator", "dict_reverseitemiterator", "odict_iterator", "itertools.zip_longest", "itertools.pairwise"].contains T=false ->
    ∃u,some (Value.str ⟨#[x.cps[i]]⟩ s.toks)=some u/\Us (model X.prog X.w) X.A (letOwnedTupleGo tg (.ref it) u) (λ_ s2=>∃v H',Inv X pins σ H' s2/\RelV v u/\(Its x).yld i H v H'/\s2.heap.IsStrIter it (strIterType x) x t (i+1)/\∀b∈[it],H' b=none) E {s with heap:=h',toks:=tk}:=by
   intro h' tk T eT st' sb hn;have I1:Inv X pins σ H {s with heap:=h',toks:=tk}:=I.turned (t':=tk) (λb o hb e=>(sb.2 b hb).trans e) f0 f1 f3 f4 f5;obtain⟨o,e,c,d⟩:=id st';refine⟨_,rfl,Rj (s:={s with heap:=h',toks:=tk}) e c d hn ⟨.str ⟨#[x.cps[i]]⟩,H,I1,⟨_,rfl⟩,⟨rfl,_,hx,rfl⟩,by rw[eT];exact st',λb hb=>(hf b hb).1⟩⟩
  cases ha:x.cps.all (· < 128)with
  |true=>
   have eT:strIterType x = "str_ascii_iterator" :=by simp[strIterType,ha]
   rw[eT]at st;exact wpAny_pyNext_ascii_item st hx λh' st' sb=>fin h' _ _ eT st' sb (by decide)
  |false=>
   have eT:strIterType x = "str_iterator" :=by simp[strIterType,ha]
   rw[eT]at st;exact wpAny_pyNext_wide_item st hx λh' st' sb=>fin h' _ _ eT st' sb (by decide)
 done:=by
  intro X hP hw hK hc i pins s σ H E I hf st hg;subst hP hw hK;obtain⟨f0,f1,f2,f3,f4,f5⟩:=hf it (by simp);have hx:x.cps[i]?=none:=Array.getElem?_eq_none hg;cases ha:x.cps.all (· < 128)with
  |true=>
   have eT:strIterType x = "str_ascii_iterator" :=by simp[strIterType,ha]
   rw[eT]at st;exact wpAny_pyNext_ascii_end (I.ok.hd hc) st hx λh' eb=>⟨rfl,I.turned (t':=s.toks) (λb o hb e=>eb b o hb e) f0 f1 f3 f4 f5⟩
  |false=>
   have eT:strIterType x = "str_iterator" :=by simp[strIterType,ha]
   rw[eT]at st;exact wpAny_pyNext_wide_end (I.ok.hd hc) st hx λh' eb=>⟨rfl,I.turned (t':=s.toks) (λb o hb e=>eb b o hb e) f0 f1 f3 f4 f5⟩
 self:=λA i s Q E st h=>by
  cases ha:x.cps.all (· < 128)with
  |true=>
   have eT:strIterType x = "str_ascii_iterator" :=by simp[strIterType,ha]
   rw[eT]at st;exact wpAny_pyIter_striter_ascii st h
  |false=>
   have eT:strIterType x = "str_iterator" :=by simp[strIterType,ha]
   rw[eT]at st;exact wpAny_pyIter_striter_wide st h
def iAny(K:Frag)(tl:TE):TI:=λσ H R=>tl σ H λx H1=>(∃a,x=.ref a/\(∃xs,SqL K H1 a xs)/\R (Itl K a) H1)∨(∃a,x=.ref a/\(∃xs,SqT K H1 a xs)/\R (Itt K a) H1) ∨ ∃z,x=.str z/\R (Its z) H1
theorem GJ{l:Uq}{tl:TE}(hl:PE X l tl):PI X tg l (iAny X.K tl):=by
 intro pins s σ H R I h;refine thn (hl pins s σ H _ I h) λv s1 ⟨x,H1,I1,r1,q1⟩=>?_
 have fpOk:∀b∈[s1.heap.objs.size],Zn X pins H1 b:=λb hb=>by
  have e:b=s1.heap.objs.size:=by simpa using hb
  subst e;exact I1.fpOk (Qv _) (I1.hok.fresh (Qv _))
 rcases q1 with ⟨a,e,⟨xs,hq⟩,q⟩|⟨a,e,⟨xs,hq⟩,q⟩|⟨z,e,q⟩
 ·subst e;cases r1;obtain⟨its,rv,p,hz⟩:=I1.list hq;refine JH p.isList ?_;exact⟨s1.heap.objs.size,[s1.heap.objs.size],_,_,H1,rfl,I1.kept (t':=s1.toks) λb o e=>Qj _ e,AK a _,⟨_,QD _ rfl,rfl,rfl⟩,fpOk,q⟩
 ·subst e;cases r1;obtain⟨its,rv,p,hz⟩:=I1.tuple hq;refine wpAny_pyIter_tuple p ?_;exact⟨s1.heap.objs.size,[s1.heap.objs.size],_,_,H1,rfl,I1.kept (t':=s1.toks) λb o e=>Qj _ e,A0 a _,⟨_,QD _ rfl,rfl,rfl⟩,fpOk,q⟩
 ·subst e;obtain⟨t,rfl⟩:=r1;refine wpAny_pyIter_strU ?_;exact⟨s1.heap.objs.size,[s1.heap.objs.size],_,_,H1,rfl,I1.kept (t':=s1.toks) λb o e=>Qj _ e,CL z t _,⟨_,QD _ rfl,rfl,rfl⟩,fpOk,q⟩
def SG(z:Str):List D:=z.cps.toList.map λc=>.str ⟨#[c]⟩
def Py:D->Option (List D)
 |.list ds=>some ds
 |.tuple ds=>some ds
 |.str z=>some (SG z)
 |_=>none
theorem qp{K:Frag}{G1:Hp}{ad:Uo}{vs:List V}{ds:List D}(h:SqT K G1 ad vs)(r:Reps K G1 vs ds):Xo K (Itt K ad) ds G1 where
 go:=λi G H s1 s2 hi=>by
  have hi':i<vs.length:=by rw[r.length];exact hi
  exact⟨vs,vs[i],YR (s1.trans s2) h,Qd hi'⟩
 stop:=λi G H s1 s2 hi=>⟨vs,YR (s1.trans s2) h,by rw[r.length];exact hi⟩
 yld:=λi G H x H' d s1 s2 e y=>by obtain⟨rfl,y⟩:=y;obtain⟨v,e1,r1⟩:=r.get e;have:=y vs (YR (s1.trans s2) h);rw[e1]at this;cases this;exact⟨G,.refl s2,r1.mono s1⟩
theorem BH{K:Frag}{G1:Hp}{z:Str}:Xo K (Its z) (SG z) G1 where
 go:=λi G H s1 s2 hi=>by unfold SG at hi;simpa[Its]using hi
 stop:=λi G H s1 s2 hi=>by unfold SG at hi;simpa[Its]using hi
 yld:=λi G H x H' d s1 s2 e y=>by
  obtain⟨rfl,c,hc,rfl⟩:=y;unfold SG at e;rw[Qe]at e;have:z.cps.toList[i]?=some c:=by simpa using hc
  rw[this]at e;cases e;exact⟨G,.refl s2,.str _⟩
def KS(f:M D):M (List D):=U6 f λx=>U9 (Py x)
theorem Pj{f:M D}(h:PE X e (tD X.K B G0 f)):PI X tg e (iD X.K B G0 (KS f)):=Y9 (GJ h) λσ H R q=>tM.toI (R0:=Rep X.K) q λv H' G' Z' x k r a=>by
 cases x with
 |list ds=>obtain⟨ad,vs,rfl,h1,r1⟩:=r.lst_inv;exact .inl ⟨ad,rfl,⟨vs,k.gh.seq h1⟩,a _ G' H' k (.refl _) (AU h1 r1)⟩
 |tuple ds=>obtain⟨ad,vs,rfl,h1,r1⟩:=r.tup_inv;exact .inr (.inl ⟨ad,rfl,⟨vs,YR k.gh h1⟩,a _ G' H' k (.refl _) (qp h1 r1)⟩)
 |str z=>have:=r.str_inv;subst this;exact .inr (.inr ⟨z,rfl,a _ G' H' k (.refl _) BH⟩)
 |_=>exact a.elim
def inS(i j:Str):Bool:=!(Builtin.Str.occurrences j i 0 j.length 1).isEmpty
def oInS:D->D->Option Bool
 |.str i,.str j=>some (inS i j)
 |_,_=>none
def OM:D->D->Option Bool
 |.str i,.str j=>some (!inS i j)
 |_,_=>none
theorem HH:OpB X (Uu .In) oInS:=⟨_,AG,λv u G H x y d Q s rx ry e k=>by
 unfold oInS at e;split at e
 ·cases e;have:=rx.str_inv;subst this;have:=ry.str_inv;subst this;exact⟨_,_,rfl,rfl,k⟩
 ·cases e⟩
theorem GI:OpB X (Uu .NotIn) OM:=⟨_,qM,λv u G H x y d Q s rx ry e k=>by
 unfold OM at e;split at e
 ·cases e;have:=rx.str_inv;subst this;have:=ry.str_inv;subst this;exact⟨_,_,rfl,rfl,k⟩
 ·cases e⟩
theorem HG{x:Str}{i:Int}(hg:Gl X x)(hm:∃t,X.mg x=some (.int i t))(hd:(x==("__debug__" : Str))=false:=by decide):PE X (.Name x pos) (tD X.K B G0 (UN (.int i))):=by obtain⟨t,hm⟩:=hm;exact Ko (Mj (v:=.int i) hg hm ⟨t,rfl⟩ hd) λσ H Q ⟨G,Z,k,a⟩=>aft.now a k (.int _)
end
section
variable{X:Cx}{B G0:Hp}{KX:XW}{e o a b c tg i:Uq}{pos p2:Pos}{es rest:List Uq}{te to ti:TE}
def GH(te to ti:TE):TS:=λD σ H=>te σ H λv H1=>to σ H1 λx H2=>ti σ H2 λk H3=>∃l xs n,x=.ref l/\H3 l=some (.lst xs)/\k=.int n/\0<=n/\n<xs.length/\D.nx σ (upd H3 l (.lst (xs.set n.toNat v)))
theorem CK(he:PE X e te)(ho:PE X o to)(hi:PE X i ti)(hs:swapsWith e (some (.Subscript o i p2)) pos.line X.env=pure false:=by rfl):PS X (.Assign [.Subscript o i p2] e pos) (GH te to ti):=by
 intro pins s σ H D I h;refine wpAny_Assign_Subscript (thn (he pins s σ H _ I h) λv s1 ⟨x,H1,I1,r1,q1⟩=>thn (ho pins s1 σ H1 _ I1 q1) λov s2 ⟨y,H2,I2,r2,q2⟩=>thn (hi pins s2 σ H2 _ I2 q2) λiv s3 ⟨k,H3,I3,r3,q3⟩=>?_) hs;obtain⟨l,xs,n,rfl,hl,rfl,h0,h1,q⟩:=q3;cases r2;obtain⟨t,rfl⟩:=r3;obtain⟨z,its,m,r,hlen,ee⟩:=I3.lstM hl
 refine PySem.W.ki_setAt (items:=its.toArray) (n:=m) ee h0 (by
                                  have:Ur<2 ^ 63:=by decide
                                  omega) (by simp;omega) ?_
 refine⟨σ,_,I3.lset (t':=s3.toks) (its:=its) (its':=its.set n.toNat v) (f:=(·.setIfInBounds n.toNat v)) hl ee (by simp) (r.set r1 n.toNat) (by rw[List.length_set];exact z),q⟩
def W0(j:Nat)(g f:M D):SM:=sB f λd Z1=>match Z1[j]? with
 |some (some (.own _))=>sB g (λy Z2=>match y with
  |.int k=>(match Z2[j]? with
   |some (some (.own ds))=>if 0<=k/\k<ds.length then .nx (Z2.set j (some (.own (ds.set k.toNat d))))else .bad
   |_=>.bad)
  |_=>.bad) Z1
 |_=>.bad
theorem NQ{j:Nat}{f g:M D}(he:PE X e (tD X.K B G0 f))(ho:PE X o (Zw j))(hi:PE X i (tD X.K B G0 g))(hs:swapsWith e (some (.Subscript o i p2)) pos.line X.env=pure false:=by rfl) :
  PS X (.Assign [.Subscript o i p2] e pos) (tS X.K B G0 KX (W0 j g f)):=
 Zl (CK he ho hi hs) λD σ H q=>tS.bnd (R:=Rep X.K) q λv H1 G1 Z1 d k r a=>by
  cases q0:Z1[j]? with
  |none=>rw[q0]at a;exact a.elim
  |some o0=>
   cases o0 with
   |none=>rw[q0]at a;exact a.elim
   |some sl0=>
    cases sl0 with
    |deep _ _=>rw[q0]at a;exact a.elim
    |pub d=>rw[q0]at a;exact a.elim
    |own ds0=>
     rw[q0]at a;obtain⟨ad,vs0,h1,h2,h3,h4,h5⟩:=k.own j ds0 q0;refine⟨.ref ad,h1,G1,Z1,k,?_⟩;dsimp only at a;unfold sB at a;cases z:g Z1 with
     |bad=>rw[z]at a;exact a.elim
     |ok y Z2=>
      rw[z]at a;dsimp only at a;intro kv G' H' k' s' r';cases y with
      |int n=>
       dsimp only at a;cases q:Z2[j]? with
       |none=>rw[q]at a;exact a.elim
       |some oo=>
        cases oo with
        |none=>rw[q]at a;exact a.elim
        |some sl=>
         cases sl with
         |deep _ _=>rw[q]at a;exact a.elim
         |pub d=>rw[q]at a;exact a.elim
         |own ds=>
          rw[q]at a;dsimp only at a;split at a
          ·rename_i hn;obtain⟨ad',vs,g1,g2,g3,g4,g5⟩:=k'.own j ds q;rw[h1]at g1;cases g1;refine⟨ad,vs,n,rfl,g4,r'.int_inv,hn.1,by rw[g5.length];exact hn.2,?_⟩;exact a σ G' _ (k'.change q h1 (g5.set (r.mono s') n.toNat)) s'
          ·exact a.elim
      |_=>exact a.elim
def Xf(z:Str)(lo hi:Option Int):Str:=if(Builtin.Str.strSliceIndices lo hi 1 z.length).length=z.length then z else⟨((Builtin.Str.strSliceIndices lo hi 1 z.length).filterMap (z.cps[·]?)).toArray⟩
theorem GF:SlR X (λx lo hi H Q=>∃z,x=.str z/\(Xf z lo hi).length<=Ur/\Q (.str (Xf z lo hi)) H):=by
 intro pins s σ H x v vl vu lo hi sl Q I rx hs pl pu h;obtain⟨z,rfl,hz,q⟩:=h;obtain⟨t,rfl⟩:=rx;refine⟨"str", _,F.slot_str_getitem.lookup,typeIs_str s z t,?_⟩
 obtain⟨l,el,e1⟩:∃l:Option (Int×Tok),vl=partValue l/\l.map (·.1)=lo:=by
  cases pl with
  |none=>exact⟨none,rfl,rfl⟩
  |int k t'=>exact⟨some (k,t'),rfl,rfl⟩
 obtain⟨u,eu,e2⟩:∃u:Option (Int×Tok),vu=partValue u/\u.map (·.1)=hi:=by
  cases pu with
  |none=>exact⟨none,rfl,rfl⟩
  |int k t'=>exact⟨some (k,t'),rfl,rfl⟩
 subst el eu;refine wpAny_getItem_str_slice (l:=l) (u:=u) (st:=none) hs rfl ?_;unfold sliceMade slicePicked;rw[e1,e2];unfold Xf at hz q;by_cases hw:(Builtin.Str.strSliceIndices lo hi 1 z.length).length=z.length
 ·rw[Qm hw]at hz q;rw[if_pos (by simp[hw])];exact⟨.str z,H,I,⟨t,rfl⟩,q⟩
 ·rw[Qu hw]at hz q;rw[if_neg (by simp[hw])];exact⟨hz,.str _,H,I.tok _,⟨_,rfl⟩,q⟩
end
section
variable{X:Cx}{B G0:Hp}{KX:XW}{e o a b c tg i:Uq}{pos p2:Pos}{es rest:List Uq}{te to ti:TE}
theorem pvb(i:Nat){x:Str}{pos:Pos}{N':List Str}{scope:Scope}{cl:List (Str×Uo)}{C:Uo}{s₀:Ul}{H₀:Hp}{ex:List Uo}(hN:N'[i]?=some x:=by rfl)
  (h:scope.names.lookup x=some .local∨scope.names.lookup x=some .free:=by first|exact .inl rfl|exact .inr rfl) (hd:(x==("__debug__" : Str))=false:=by decide) (hcd:(x==("__classdict__" : Str))=false:=by decide) :
  PE (X.blk N' scope cl C s₀ H₀ ex) (.Name x pos) (Zw i):=O9 hN (Ep h) hd hcd
def YA:D->Option Int->Option Int->Option D
 |.list xs,lo,hi=>some (.list (DL.cutD xs lo hi))
 |.str z,lo,hi=>if(Xf z lo hi).length<=1000000 then some (.str (Xf z lo hi))else none
 |_,_,_=>none
def ZT(f:M D)(lo hi:M (Option Int)):M D:=U6 f λx=>U6 lo λl=>U6 hi λh=>U9 (YA x l h)
theorem AQ{lo hi:Option Uq}{f:M D}{l h:M (Option Int)}(he:PE X e (tD X.K B G0 f))(hl:PO X lo (tOi X.K B G0 l))(hu:PO X hi (tOi X.K B G0 h)) :
  PE X (.Subscript e (.Slice lo hi none p2) pos) (tD X.K B G0 (ZT f l h)):=
 Ko (Cd (DX.or GF) he hl hu) λσ H Q q=>by
  refine tM.one (R:=Rep X.K) q λv H2 G Z x k r a=>?_;refine tM.nx (R:=λ_ b c=>b=c) k a λl' H3 G3 Z3 xl k3 s3 r3 a3=>?_;refine tM.nx (R:=λ_ b c=>b=c) k3 a3 λh' H4 G4 Z4 xh k4 s4 r4 a4=>?_;have r3:l'=xl:=r3;have r4:h'=xh:=r4;subst r3 r4;unfold U9 YA at a4
  cases x with
  |list xs=>obtain⟨ad,vs,rfl,h1,r1⟩:=((r.mono s3).mono s4).lst_inv;exact .inl ⟨ad,vs,rfl,k4.gh.seq h1,λp hp=>aft.done a4 k4 (Ext.new k4.gh hp) (.lst (SqL.of Zu) ((r1.cut l' h').mono (Zt (k4.gh.free hp))))⟩
  |str z=>
   dsimp only at a4;have:=r.str_inv;subst this;by_cases hc:(Xf z l' h').length<=1000000
   ·rw[Qm hc]at a4;exact .inr ⟨z,rfl,QP hc lim,aft.now a4 k4 (.str _)⟩
   ·rw[Qu hc]at a4;exact a4.elim
  |_=>exact a4.elim
end
section
variable{X:Cx}{B G0:Hp}{e o a b c tg:Uq}{pos p2:Pos}{es rest:List Uq}{te to ti:TE}
def Zi{β:Type}(p:D->D->Option β)(i:Nat)(g:M D):M β:=λZ=>match Z[i]? with
 |some (some (.pub d))=>(U6 g λy=>U9 (p d y)) Z
 |some (some (.own _))=>(U6 g λy=>λZ'=>match Z'[i]? with|some (some (.own ds))=>U9 (p (.list ds) y) Z'|_=>.bad) Z
 |_=>.bad
theorem OL{K:Frag}{σ:St}{H:Hp}{p:D->D->Option Bool}{r:R2}{i:Nat}{g:M D}{Q:Bool->Hp->Prop}{QV:VK}(hq:∀t H3,Q t H3->QV (.bl t) H3)(hr:∀v u G H x y d Q,Same G H->Rep K G v x->Rep K G u y->p x y=some d->Q (.bl d) H->r v u H Q)
  (q:tBo K B G0 (Zi p i g) σ H Q):Zw i σ H λx H1=>tD K B G0 g σ H1 λy H2=>r x y H2 QV:=by
 obtain⟨G,Z,k,a⟩:=q;unfold Zi at a;cases q:Z[i]? with
 |none=>rw[q]at a;exact a.elim
 |some o=>
  cases o with
  |none=>rw[q]at a;exact a.elim
  |some sl=>
   cases sl with
   |deep _ _=>rw[q]at a;exact a.elim
   |pub d=>
    rw[q]at a;obtain⟨v,h1,h2⟩:=k.pub i d q;refine⟨v,h1,G,Z,k,?_⟩;dsimp only[U6]at a;cases z:g Z with
    |bad=>rw[z]at a;exact a.elim
    |ok y Z1=>rw[z]at a;intro u G' H' k' s' r';obtain⟨d',e',a'⟩:=aft.opt a;exact hr v u G' H' d y d' _ k'.gh (h2.mono s') r' e' (hq _ _ (a' d' G' H' k' s' rfl))
   |own ds=>
    rw[q]at a;obtain⟨ad,vs,h1,h2,h3,h4,h5⟩:=k.own i ds q;refine⟨.ref ad,h1,G,Z,k,?_⟩;dsimp only[U6]at a;cases z:g Z with
    |bad=>rw[z]at a;exact a.elim
    |ok y Z1=>
     rw[z]at a;dsimp only at a;intro u G' H' k' s' r';cases q1:Z1[i]? with
     |none=>rw[q1]at a;exact a.elim
     |some oo=>
      cases oo with
      |none=>rw[q1]at a;exact a.elim
      |some sl1=>
       cases sl1 with
       |deep _ _=>rw[q1]at a;exact a.elim
       |pub d1=>rw[q1]at a;exact a.elim
       |own ds1=>
        rw[q1]at a;dsimp only at a;obtain⟨ad',ws,g1,g2,g3,g4,g5⟩:=k'.own i ds1 q1;rw[h1]at g1;cases g1;obtain⟨d',e',a'⟩:=aft.opt a;have sg:Same G' (upd G' ad (.lst ws)):=Zt g3
        have sh:Same (upd G' ad (.lst ws)) H':=λb o q=>by
         by_cases z:b=ad
         ·subst z;rw[Zu]at q;cases q;exact g4
         ·rw[KY z]at q;exact k'.gh b o q
        exact hr (.ref ad) u _ H' (.list ds1) y d' _ sh (.lst (SqL.of Zu) (g5.mono sg)) (r'.mono sg) e' (hq _ _ (a' d' G' H' k' s' rfl))
theorem Dc{op:CmpOp}{p:D->D->Option Bool}{i:Nat}{g:M D}(o:OpB X (Uu op) p)(ha:PE X a (Zw i))(hb:PE X b (tD X.K B G0 g))(hm:behindInMarks op b=false) :
  PT X (.Compare a [op] [b] pos) (tBo X.K B G0 (Zi p i g)):=by
 obtain⟨r,h,j⟩:=o;exact Yz (Mg h ha hb hm) λσ H Q q=>OL (λt H3 z=>⟨t,rfl,z⟩) j q
theorem Db{op:CmpOp}{p:D->D->Option Bool}{i:Nat}{g:M D}(o:OpB X (Uu op) p)(ha:PE X a (Zw i))(hb:PE X b (tD X.K B G0 g))(hm:behindInMarks op b=false) :
  PE X (.Compare a [op] [b] pos) (tD X.K B G0 (UW Uy (Zi p i g))):=by
 obtain⟨r,h,j⟩:=o;exact Ko (Mh h ha hb hm) λσ H Q q=>OL (λt H3 z=>z) j (tBo.val q)
end
end DL
namespace L2
open PySem PySem.Spec PyProof.Rows
def Itz(K:Frag)(a b:Uo):It:=
 ⟨λi H=>∃xs x ys y,SqL K H a xs/\xs[i]?=some x/\SqL K H b ys/\ys[i]?=some y,
  λi H v H'=>∃p x y,H p=none/\v=.ref p/\(∀xs,SqL K H a xs->xs[i]?=some x)/\(∀ys,SqL K H b ys->ys[i]?=some y)/\H'=upd H p (.tup [x,y]),
  λi H=>∃xs ys,SqL K H a xs/\SqL K H b ys/\(xs.length<=i∨ys.length<=i)⟩
theorem CJ{P:Um}{w:World}{K:Frag}{elts:List Uq}{x1}{tp:Pos}(a b z TI TO i1 i2:Uo)(Dz:ZipApart z TI TO i1 i2 a b) :
  Turn P w K (.Tuple elts x1 tp) (Itz K a b) [z,TI,TO,i1,i2] z (λi h=>IsZip h z TI TO .none/\IsPair h TI (.ref i1) (.ref i2)/\(∃c d,IsPair h TO c d)/\h.IsListIter i1 a i/\h.IsListIter i2 b i) where
 mem:=by simp
 obj:=λi h st c hc=>by
  obtain⟨h1,h2,⟨c0,d0,h3⟩,⟨o4,h4,_,d4⟩,⟨o5,h5,_,d5⟩⟩:=st;have hc':c=z∨c=TI∨c=TO∨c=i1∨c=i2:=by simpa using hc
  rcases hc' with rfl|rfl|rfl|rfl|rfl
  ·exact⟨_,h1,λv q=>by have q':Data.fields _=Data.cell v:=q;cases q'⟩
  ·exact⟨_,h2,λv q=>by have q':Data.seq _ _=Data.cell v:=q;cases q'⟩
  ·exact⟨_,h3,λv q=>by have q':Data.seq _ _=Data.cell v:=q;cases q'⟩
  ·exact⟨o4,h4,λv q=>by rw[d4]at q;cases q⟩
  ·exact⟨o5,h5,λv q=>by rw[d5]at q;cases q⟩
 keep:=λi h h' st k=>by obtain⟨h1,h2,⟨c0,d0,h3⟩,h4,h5⟩:=st;exact⟨k z (by simp) _ h1,k TI (by simp) _ h2,⟨c0,d0,k TO (by simp) _ h3⟩,h4.at λo q=>k i1 (by simp) o q,h5.at λo q=>k i2 (by simp) o q⟩
 item:=by
  intro X hP hw hK hc i pins s σ H E I hf st hg;subst hP hw hK;obtain⟨h1,h2,⟨c0,d0,h3⟩,h4,h5⟩:=st;obtain⟨xs,x,ys,y,hq,hx,hq',hy⟩:=hg;obtain⟨its,rv,p,hz⟩:=I.list hq;obtain⟨its',rv',p',hz'⟩:=I.list hq';obtain⟨u,hu,ru⟩:=rv.get hx;obtain⟨u',hu',ru'⟩:=rv'.get hy;refine wpAny_pyNext_zip_item Dz h1 h2 h3 h4 h5 p.isList p'.isList (x:=u) (y:=u') (by simpa using hu) (by simpa using hu') λh' g1 g3 g4 g5 gp gs gk=>?_
  refine⟨_,rfl,wpAny_letOwnedTupleGo_zip g1 λh2' gz sb=>?_⟩;have hzl:z<s.heap.objs.size:=Qi h1;have sb':Heap.SameBut z h' h2':=sb;have gp2:h2'.get? s.heap.objs.size=some {cls:=.type "tuple", data:=.seq #[u,u']}:=(sb'.2 _ (JO hzl)).trans gp
  have kk:∀c o,c∉[z,TI,TO,i1,i2]->s.heap.get? c=some o->h2'.get? c=some o:=λc o hc q=>by
   have n1:c≠z:=λe=>hc (by simp[e])
   have n3:c≠TO:=λe=>hc (by simp[e])
   have n4:c≠i1:=λe=>hc (by simp[e])
   have n5:c≠i2:=λe=>hc (by simp[e])
   exact(sb'.2 c n1).trans (gk c o n1 n3 n4 n5 q)
  have hn:H s.heap.objs.size=none:=I.hok.fresh (Qv _)
  have I2:Inv X pins σ (upd H s.heap.objs.size (.tup [x,y])) {s with heap:=h2'}:=
   I.turnedNew (t':=s.toks) (fp:=[z,TI,TO,i1,i2]) hf kk (Qv _) ⟨by show 2<=Ur;decide,[u,u'],.cons ru (.cons ru' .nil),⟨_,gp2,rfl,_,rfl⟩⟩
  have gTI:IsPair h' TI (.ref i1) (.ref i2):=gk TI _ Dz.TIz Dz.TITO Dz.TIi1 Dz.TIi2 h2
  refine⟨.ref s.heap.objs.size,_,I2,rfl,⟨_,x,y,hn,rfl,λws hw=>by rw[I.list_inj hw hq];exact hx,λws hw=>by rw[I.list_inj hw hq'];exact hy,rfl⟩,
   ⟨gz,(sb'.2 _ Dz.TIz).trans gTI,⟨u,u',(sb'.2 _ Dz.TOz).trans g3⟩,g4.at λo q=>(sb'.2 _ Dz.i1z).trans q,g5.at λo q=>(sb'.2 _ Dz.i2z).trans q⟩,λc hc=>?_⟩
  have hlt:c<s.heap.objs.size:=by
   have hc':c=z∨c=TI∨c=TO∨c=i1∨c=i2:=by simpa using hc
   rcases hc' with rfl|rfl|rfl|rfl|rfl
   ·exact hzl
   ·exact Qi h2
   ·exact Qi h3
   ·obtain⟨o,ho,_⟩:=h4;exact Qi ho
   ·obtain⟨o,ho,_⟩:=h5;exact Qi ho
  rw[KY (QL hlt)];exact(hf c hc).1
 done:=by
  intro X hP hw hK hc i pins s σ H E I hf st hg;subst hP hw hK;obtain⟨h1,h2,⟨c0,d0,h3⟩,h4,h5⟩:=st;obtain⟨xs,ys,hq,hq',hx⟩:=hg;obtain⟨its,rv,p,hz⟩:=I.list hq;obtain⟨its',rv',p',hz'⟩:=I.list hq';have hl:=rv.length;have hl':=rv'.length;refine wpAny_pyNext_zip_end (I.ok.hd hc) Dz h1 h2 h3 h4 h5 p.isList p'.isList ?_ λh' eb=>⟨rfl,I.turnedL (t':=s.toks) hf λc o hb q=>eb c o (λe=>hb (by simp[e])) (λe=>hb (by simp[e])) (λe=>hb (by simp[e])) (λe=>hb (by simp[e])) q⟩
  rcases hx with hx|hx
  ·exact .inl (by simp;omega)
  ·exact .inr (by simp;omega)
 self:=λ_ _ _ _ _ st h=>wpAny_pyIter_zip st.1 h
section
variable{X:Cx}
def iZip(K:Frag)(ta:TA):TI:=λσ H R=>ta σ H λvs H1=>∃a b xs ys,vs=[.ref a,.ref b]/\SqL K H1 a xs/\SqL K H1 b ys/\R (Itz K a b) H1
theorem GE{a b:Uq}{ta:TA}{p pos:Pos}{elts:List Uq}{x1}{tp:Pos}(hg:Gl X "zip")(hm:X.mg "zip" = none)(ha:PA X [a,b] ta)
  (hs:Ut [a,b] X.env=[(false,eval a X.env),(false,eval b X.env)]:=by rfl) (hs2:Ut [b] X.env=[(false,eval b X.env)]:=by rfl):PI X (.Tuple elts x1 tp) (.Call (.Name "zip" p) [a,b] [] pos) (iZip X.K ta):=by
 intro pins s σ H R I h;refine Call_ (W7 I hg hm boot_zip (Jx (thn (ha pos pins s σ H _ I h) λus s1 ⟨vs,H1,I1,r1,q1⟩=>?_) (by rw[hs,hs2]) (by rw[hs2];rfl)));obtain⟨l1,l2,xs,ys,e,hq,hq',q⟩:=q1;subst e;cases r1 with
 |cons r rr=>
  cases rr with
  |cons r' rr=>
   cases rr;cases (show _=Value.ref l1 from r);cases (show _=Value.ref l2 from r');obtain⟨its,rv,pl,hz⟩:=I1.list hq;obtain⟨its',rv',pl',hz'⟩:=I1.list hq';have n1:l1<s1.heap.objs.size:=by obtain⟨_,e,_⟩:=id pl.isList;exact Qi e
   have n2:l2<s1.heap.objs.size:=by obtain⟨_,e,_⟩:=id pl'.isList;exact Qi e
   have ne:∀i j:Nat,i≠j->s1.heap.objs.size+i≠s1.heap.objs.size+j:=λi j h e=>h (Nat.add_left_cancel e);have m1:∀m:Nat,l1≠s1.heap.objs.size+m:=λm=>QL (QE n1 (Nat.le_add_right _ _));have m2:∀m:Nat,l2≠s1.heap.objs.size+m:=λm=>QL (QE n2 (Nat.le_add_right _ _));refine call_zip_2 pl.isList pl'.isList λh' g1 g2 g3 g4 g5 gs kk=>?_;have I2:Inv X pins σ H1 {s1 with heap:=h'}:=I1.kept (t':=s1.toks) kk;refine wpAny_pyIter_zip g1 ?_
   refine⟨s1.heap.objs.size+4,[s1.heap.objs.size+4,s1.heap.objs.size+2,s1.heap.objs.size+3,s1.heap.objs.size,s1.heap.objs.size+1],_,_,H1,rfl,I2,
    CJ l1 l2 (s1.heap.objs.size+4) (s1.heap.objs.size+2) (s1.heap.objs.size+3) s1.heap.objs.size (s1.heap.objs.size+1) ⟨ne 2 4 (by decide),ne 3 4 (by decide),ne 0 4 (by decide),ne 1 4 (by decide),ne 2 3 (by decide),ne 2 0 (by decide),ne 2 1 (by decide),ne 3 0 (by decide),ne 3 1 (by decide),ne 0 1 (by decide),m1 4,m1 3,m1 0,m1 1,m2 4,m2 3,m2 0,m2 1⟩,⟨g1,g2,⟨_,_,g3⟩,g4,g5⟩,λc hc=>?_,q⟩
   have hc':s1.heap.objs.size<=c:=by
    have hc':c=s1.heap.objs.size+4∨c=s1.heap.objs.size+2∨c=s1.heap.objs.size+3∨c=s1.heap.objs.size∨c=s1.heap.objs.size+1:=by simpa using hc
    rcases hc' with rfl|rfl|rfl|rfl|rfl<;>first|exact Nat.le_add_right _ _|exact Qv _
   exact I1.fpOk hc' (I1.hok.fresh hc')
end
end L2
namespace DL
open PySem PySem.Spec L2
open PyProof.Rows hiding St
section
variable{X:Cx}{B G0:Hp}{e a b c tg:Uq}{pos:Pos}{es rest:List Uq}
def Ym(xs ys:List D):List D:=(xs.zip ys).map λp=>.tuple [p.1,p.2]
theorem BG{K:Frag}{G1:Hp}{a b:Uo}{vs ws:List V}{ds es:List D}(h:SqL K G1 a vs)(h':SqL K G1 b ws)(r:Reps K G1 vs ds)(r':Reps K G1 ws es):Xo K (Itz K a b) (Ym ds es) G1 where
 go:=λi G H s1 s2 hi=>by
  unfold Ym at hi;rw[Qb,J0]at hi;have hi1:i<vs.length:=by rw[r.length];omega
  have hi2:i<ws.length:=by rw[r'.length];omega
  exact⟨vs,vs[i],ws,ws[i],(s1.trans s2).seq h,Qd hi1,(s1.trans s2).seq h',Qd hi2⟩
 stop:=λi G H s1 s2 hi=>by unfold Ym at hi;rw[Qb,J0]at hi;refine⟨vs,ws,(s1.trans s2).seq h,(s1.trans s2).seq h',?_⟩;rw[r.length,r'.length];omega
 yld:=λi G H x H' d s1 s2 e y=>by
  obtain⟨p,u,v,hp,rfl,y1,y2,rfl⟩:=y;have z1:=y1 vs ((s1.trans s2).seq h);have z2:=y2 ws ((s1.trans s2).seq h');unfold Ym at e;rw[Qe]at e;cases q:(ds.zip es)[i]? with
  |none=>rw[q]at e;cases e
  |some pr=>rw[q]at e;cases e;rw[JN]at q;obtain⟨u',e1,r1⟩:=r.get q.1;obtain⟨v',e2,r2⟩:=r'.get q.2;rw[z1]at e1;rw[z2]at e2;cases e1;cases e2;exact⟨upd G p (.tup [u,v]),Ext.new s2 hp,.tup (SqT.of Zu) (.cons ((r1.mono s1).mono (Zt (s2.free hp))) (.cons ((r2.mono s1).mono (Zt (s2.free hp))) .nil))⟩
def XF:List D->Option (List D)
 |[.list xs,.list ys]=>some (Ym xs ys)
 |_=>none
theorem CI{x l:List D}(h:XF x=some l):∃xs ys,x=[.list xs,.list ys]/\l=Ym xs ys:=by
 unfold XF at h;split at h
 ·cases h;exact⟨_,_,rfl,rfl⟩
 ·cases h
def Xd(f:M (List D)):M (List D):=U6 f λx=>U9 (XF x)
theorem GD{f:M (List D)}{p2:Pos}{elts:List Uq}{x1}{tp:Pos}(hg:Gl X "zip")(hm:X.mg "zip" = none)(ha:PA X [a,b] (tDs X.K B G0 f))(hs:Ut [a,b] X.env=[(false,eval a X.env),(false,eval b X.env)]:=by rfl)(hs2:Ut [b] X.env=[(false,eval b X.env)]:=by rfl) :
  PI X (.Tuple elts x1 tp) (.Call (.Name "zip" p2) [a,b] [] pos) (iD X.K B G0 (Xd f)):=Y9 (GE hg hm ha hs hs2) λσ H R q=>tM.toI (R0:=Reps X.K) q λv H' G' Z' x k r a=>by
 cases z:XF x with
 |none=>rw[z]at a;exact a.elim
 |some l=>
  rw[z]at a;obtain⟨xs,ys,rfl,rfl⟩:=CI z;cases r with
  |cons r1 rr=>
   cases rr with
   |cons r2 rr=>cases rr;obtain⟨l1,vs,rfl,h1,q1⟩:=r1.lst_inv;obtain⟨l2,ws,rfl,h2,q2⟩:=r2.lst_inv;exact⟨l1,l2,vs,ws,rfl,k.gh.seq h1,k.gh.seq h2,a _ G' H' k (.refl _) (BG h1 h2 q1 q2)⟩
end
section
variable{X:Cx}{B G0:Hp}{e o a b c tg:Uq}{pos p2 p3:Pos}{es rest:List Uq}{te to ti:TE}
def oIn:D->D->Option Bool
 |.str i,.str j=>some (inS i j)
 |x,.list xs=>if x.canLay0=true/\UB xs=true/\x.depth<=60 then some (xs.any λy=>UD y x)else none
 |x,.tuple xs=>if x.canLay0=true/\UB xs=true/\x.depth<=60 then some (xs.any λy=>UD y x)else none
 |_,_=>none
def YI(x y:D):Option Bool:=(oIn x y).map λt=>!t
def Xa(x y:D):Option Bool:=match y with
 |.list xs=>if x.canLay0=true/\UB xs=true/\x.depth<=60 then some (xs.any λy=>UD y x)else none
 |.tuple xs=>if x.canLay0=true/\UB xs=true/\x.depth<=60 then some (xs.any λy=>UD y x)else none
 |_=>none
theorem HF(hu:X.A.units+64<cLine):OpB X (Uu .In) Xa:=by
 refine⟨λv u H Q=>∃G x y d,Same G H/\Rep X.K G v x/\Rep X.K G u y/\Xa x y=some d/\Q (.bl d) H,?_,λv u G H x y d Q s rx ry e k=>⟨G,x,y,d,s,rx,ry,e,k⟩⟩;intro pins s σ H x y v u Q I rx ry ⟨G,dx,dy,d,sg,px,py,e,q⟩;unfold Xa at e;split at e
 ·split at e
  ·rename_i c;cases e;obtain⟨as,ra⟩:=YH I sg px rx c.1;obtain⟨bs,rb⟩:=YH I sg py ry (show UB _=true from c.2.1);exact SeqAt.in_list_reads rb ra c.2.1 c.1 (by have:=c.2.2;omega) ⟨.bl _,H,I,rfl,q⟩
  ·cases e
 ·split at e
  ·rename_i c;cases e;obtain⟨as,ra⟩:=YH I sg px rx c.1;obtain⟨bs,rb⟩:=YH I sg py ry (show UB _=true from c.2.1);exact SeqAt.in_tuple_reads rb ra c.2.1 c.1 (by have:=c.2.2;omega) ⟨.bl _,H,I,rfl,q⟩
  ·cases e
 ·cases e
theorem GC(hu:X.A.units+64<cLine):OpB X (Uu .NotIn) (λx y=>(Xa x y).map λt=>!t):=by
 refine⟨λv u H Q=>∃G x y d,Same G H/\Rep X.K G v x/\Rep X.K G u y/\(Xa x y).map (λt=>!t)=some d/\Q (.bl d) H,?_,λv u G H x y d Q s rx ry e k=>⟨G,x,y,d,s,rx,ry,e,k⟩⟩;intro pins s σ H x y v u Q I rx ry ⟨G,dx,dy,d,sg,px,py,e,q⟩;unfold Xa at e;split at e
 ·split at e
  ·rename_i c;cases e;obtain⟨as,ra⟩:=YH I sg px rx c.1;obtain⟨bs,rb⟩:=YH I sg py ry (show UB _=true from c.2.1);exact SeqAt.notIn_list_reads rb ra c.2.1 c.1 (by have:=c.2.2;omega) ⟨.bl _,H,I,rfl,q⟩
  ·cases e
 ·split at e
  ·rename_i c;cases e;obtain⟨as,ra⟩:=YH I sg px rx c.1;obtain⟨bs,rb⟩:=YH I sg py ry (show UB _=true from c.2.1);exact SeqAt.notIn_tuple_reads rb ra c.2.1 c.1 (by have:=c.2.2;omega) ⟨.bl _,H,I,rfl,q⟩
  ·cases e
 ·cases e
theorem B_in(hu:X.A.units+64<cLine):OpB X (Uu .In) oIn:=(HH.or (HF hu)).congr λx y=>by cases x<;>cases y<;>rfl
theorem HE(hu:X.A.units+64<cLine):OpB X (Uu .NotIn) YI:=(GI.or (GC hu)).congr λx y=>by cases x<;>cases y<;>rfl
theorem BF{tl th ts:TO}{lo hi:Option Uq}{st:Uq}(he:PE X e te)(hl:PO X lo tl)(hu:PO X hi th)(hst:PO X (some st) ts):PE X (.Subscript e (.Slice lo hi (some st) p2) pos)
  (λσ H Q=>te σ H λx H1=>tl σ H1 λl H2=>th σ H2 λu H3=>ts σ H3 λt H4=>∃a xs,x=.ref a/\SqL X.K H4 a xs/\l=none/\u=none/\t=some (-1)/\∀p,H4 p=none->Q (.ref p) (upd H4 p (.lst xs.reverse))):=by
 intro pins s σ H Q I h;refine Subscript_ (thn (he pins s σ H _ I h) λv s1 ⟨x,H1,I1,r1,q1⟩=>?_);refine wpAny_Slice (thn (hl pins s1 σ H1 _ I1 q1) λvl s2 ⟨l,H2,I2,pl,q2⟩=>thn (hu pins s2 σ H2 _ I2 q2) λvu s3 ⟨u,H3,I3,pu,q3⟩=>thn (hst pins s3 σ H3 _ I3 q3) λvt s4 ⟨t,H4,I4,pt,q4⟩=>?_);obtain⟨a,xs,rfl,hx,rfl,rfl,rfl,q⟩:=q4;cases r1;have I5:Inv X pins σ H4 {s4 with heap:=s4.heap.push {cls:=.type "slice", data:=.fields #[vl,vu,vt]}}:=I4.kept (t':=s4.toks) λb ob q=>Qj _ q
 obtain⟨its,r,ht,hz⟩:=I5.list hx;have hlen:=r.length;have hg:Us (model X.prog X.w) X.A (getItem (.ref a) (.ref s4.heap.objs.size)) (EP X pins σ Q) X.xe {s4 with heap:=s4.heap.push {cls:=.type "slice", data:=.fields #[vl,vu,vt]}}:=by refine wpAny_getItem_list_slice ht.isList (Heap.IsSliceOf.new ..) pl pu pt (by simp) ?_ (by rw[List.size_toArray]<;>omega);rw[PySem.W.krv_pick];refine⟨.ref _,_,I5.laid (t':=s4.toks) (o:=.lst xs.reverse) (λb ob q=>Qj _ q) (Qv _) ?_,rfl,q _ (I5.hok.fresh (Qv _))⟩;exact⟨by rw[Q9];exact hz,its.reverse,0,r.reverse,QD _ rfl⟩
 show Us (model X.prog X.w) X.A (subscriptTail e (.Slice lo hi (some st) p2) (.ref a) (.ref s4.heap.objs.size)) (EP X pins σ Q) X.xe {s4 with heap:=s4.heap.push {cls:=.type "slice", data:=.fields #[vl,vu,vt]}};exact tail_any (ops:=[.ref a,.ref s4.heap.objs.size]) ht.isList.typeIs slot_list_getitem.lookup hg (by with_unfolding_all rfl)
def Wj:D->Option Int->Option Int->Option Int->Option D
 |.list xs,none,none,some i=>if i = -1 then some (.list xs.reverse)else none
 |_,_,_,_=>none
def XJ(f:M D)(lo hi st:M (Option Int)):M D:=U6 f λx=>U6 lo λl=>U6 hi λh=>U6 st λt=>U9 (Wj x l h t)
theorem Da{lo hi:Option Uq}{st:Uq}{f:M D}{l h t:M (Option Int)}(he:PE X e (tD X.K B G0 f))(hl:PO X lo (tOi X.K B G0 l))(hu:PO X hi (tOi X.K B G0 h))(hst:PO X (some st) (tOi X.K B G0 t)) :
  PE X (.Subscript e (.Slice lo hi (some st) p2) pos) (tD X.K B G0 (XJ f l h t)):=
 Ko (BF he hl hu hst) λσ H Q q=>by
  refine tM.one (R:=Rep X.K) q λv H2 G Z x k r a=>?_;refine tM.nx (R:=λ_ b c=>b=c) k a λl' H3 G3 Z3 xl k3 s3 r3 a3=>?_;refine tM.nx (R:=λ_ b c=>b=c) k3 a3 λh' H4 G4 Z4 xh k4 s4 r4 a4=>?_;refine tM.nx (R:=λ_ b c=>b=c) k4 a4 λt' H5 G5 Z5 xt k5 s5 r5 a5=>?_;have r3:l'=xl:=r3;have r4:h'=xh:=r4;have r5:t'=xt:=r5;subst r3 r4 r5
  cases x with
  |list xs=>
   cases l' with
   |some _=>exact a5.elim
   |none=>
   cases h' with
   |some _=>exact a5.elim
   |none=>
   cases t' with
   |none=>exact a5.elim
   |some i=>
   obtain⟨ad,vs,rfl,h1,r1⟩:=(((r.mono s3).mono s4).mono s5).lst_inv;by_cases hi:i = -1
   ·subst hi;exact⟨ad,vs,rfl,k5.gh.seq h1,rfl,rfl,rfl,λp hp=>aft.done a5 k5 (Ext.new k5.gh hp) (.lst (SqL.of Zu) (r1.reverse.mono (Zt (k5.gh.free hp))))⟩
   ·unfold U9 Wj at a5;dsimp only at a5;rw[Qu hi]at a5;exact a5.elim
  |_=>unfold U9 Wj at a5;exact a5.elim
def Xu:List D->Option (List D)
 |[.list xs]=>some xs
 |[.tuple xs]=>some xs
 |_=>none
theorem LK{x l:List D}(h:Xu x=some l):x=[.list l]∨x=[.tuple l]:=by
 unfold Xu at h;split at h
 ·cases h;exact .inl rfl
 ·cases h;exact .inr rfl
 ·cases h
theorem L0:bootBuiltins "list" = some (.type "list"):=by decide +kernel
theorem CH{f:M (List D)}(hg:Gl X "list")(hm:X.mg "list" = none)(ha:PA X [a] (tDs X.K B G0 f))(he:Ut [a] X.env=(false,eval a X.env)::Ut [] X.env:=by rfl) :
  PE X (.Call (.Name "list" p2) [a] [] pos) (tL X.K B G0 (U6 f λxs=>U9 (Xu xs))):=
 Ko (OG Ht hg hm L0 ha (by decide) (by decide) he rfl) λσ H Q ⟨G,Z,k,q⟩=>by
  refine⟨G,Z,k,?_⟩;unfold U6 at q;cases z:f Z with
  |bad=>rw[z]at q;exact q.elim
  |ok xs Z1=>
   rw[z]at q;dsimp only[U9]at q;intro vs G' H' k' s' r;cases z2:Xu xs with
   |none=>rw[z2]at q;exact q.elim
   |some l=>
    rw[z2]at q;rcases LK z2 with rfl|rfl
    ·obtain⟨v,rfl,q1⟩:=r.one_inv;obtain⟨p,ws,rfl,h1,r1⟩:=q1.lst_inv;exact⟨p,ws,rfl,.inl (k'.gh.seq h1),λad hp=>q ad ws G' _ (k'.ext (Ext.hid k'.gh hp)) s' (NewL.of k' hp r1)⟩
    ·obtain⟨v,rfl,q1⟩:=r.one_inv;obtain⟨p,ws,rfl,h1,r1⟩:=q1.tup_inv;exact⟨p,ws,rfl,.inr (YR k'.gh h1),λad hp=>q ad ws G' _ (k'.ext (Ext.hid k'.gh hp)) s' (NewL.of k' hp r1)⟩
def T4(i:Nat):M (List D):=λZ=>match Z[i]? with
 |some (some (.pub d))=>U9 (Xu [d]) Z
 |some (some (.own ds))=>.ok ds Z
 |_=>.bad
theorem BE{i:Nat}(hg:Gl X "list")(hm:X.mg "list" = none)(ho:PE X a (Zw i))(he:Ut [a] X.env=(false,eval a X.env)::Ut [] X.env:=by rfl) :
  PE X (.Call (.Name "list" p2) [a] [] pos) (tL X.K B G0 (T4 i)):=
 Ko (OG Ht hg hm L0 (VA ho T6 he) (by decide) (by decide) he rfl) λσ H Q ⟨G,Z,k,q⟩=>by
  unfold T4 at q;cases z:Z[i]? with
  |none=>rw[z]at q;exact q.elim
  |some oo=>
   cases oo with
   |none=>rw[z]at q;exact q.elim
   |some sl=>
    cases sl with
    |deep _ _=>rw[z]at q;exact q.elim
    |own ds=>rw[z]at q;dsimp only at q;obtain⟨ad,vs,h1,h2,h3,h4,h5⟩:=k.own i ds z;exact⟨.ref ad,h1,ad,vs,rfl,.inl (SqL.of h4),λl hp=>q l vs G _ (k.ext (Ext.hid k.gh hp)) (.refl _) (NewL.of k hp h5)⟩
    |pub d=>
     rw[z]at q;dsimp only[U9]at q;obtain⟨v,h1,h2⟩:=k.pub i d z;cases z2:Xu [d]with
     |none=>rw[z2]at q;exact q.elim
     |some l=>
      rw[z2]at q;dsimp only at q;rcases LK z2 with e|e
      ·cases e;obtain⟨p,ws,rfl,g1,r1⟩:=h2.lst_inv;exact⟨_,h1,p,ws,rfl,.inl (k.gh.seq g1),λad hp=>q ad ws G _ (k.ext (Ext.hid k.gh hp)) (.refl _) (NewL.of k hp r1)⟩
      ·cases e;obtain⟨p,ws,rfl,g1,r1⟩:=h2.tup_inv;exact⟨_,h1,p,ws,rfl,.inr (YR k.gh g1),λad hp=>q ad ws G _ (k.ext (Ext.hid k.gh hp)) (.refl _) (NewL.of k hp r1)⟩
def HD(K:Frag)(n:Nat)(t:TGs):TG:=λv σ H Q=>∃a xs,v=.ref a/\SqL K H a xs/\xs.length=n/\t xs σ H Q
theorem E9{es:List Uq}{k:Nat}{t:TGs}{n:Nat}(hc:X.calm=true)(h:PGs X es t)
  (hn:(UI es X.env).length=n:=by rfl) (hst:(UI es X.env).findIdx? (·.1)=none:=by rfl):PG X (.Tuple es k pos) (HD X.K n t):=by
 intro pins s σ H v u Q I r hw;obtain⟨a,xs,e1,hq,hl,hw⟩:=hw;subst e1;cases r;obtain⟨its,rv,ht,hz⟩:=I.list hq;rw[assign_Tuple];refine Qf (Jj ?_);unfold unpack;have hl2:(UI es X.env).length=its.toArray.size:=by simp[hn,←hl,rv.length]
 rw[hl2,hst];refine Qf (Jy (PySem.W.kun_itemsOf (I.ok.hd hc) ht.isList λh' hx=>?_));have I1:Inv X pins σ H {s with heap:=h'}:=I.kept (t':=s.toks) λb o e=>hx b o (QL (Qi e)) e;exact h pins _ σ H xs _ Q I1 (by simpa using rv) hw
def gL(n:Nat)(t:List D->UG->Option UG):D->UG->Option UG:=λd Z=>match d with | .list ds=>if ds.length=n then t ds Z else none|_=>none
theorem GB{k1:Nat}{t:List D->UG->Option UG}{n:Nat}(hc:X.calm=true)(h:PGs X es (tGs X.K B G0 t))
  (hn:(UI es X.env).length=n:=by rfl) (hst:(UI es X.env).findIdx? (·.1)=none:=by rfl):PG X (.Tuple es k1 pos) (tG X.K B G0 (gL n t)):=VI (E9 hc h hn hst) λv σ H Q ⟨G,Z,d,Z',k,r,e,q⟩=>by
 unfold gL at e;split at e
 ·split at e
  ·rename_i hl;obtain⟨ad,vs,rfl,h1,r1⟩:=r.lst_inv;exact⟨ad,vs,rfl,k.gh.seq h1,by rw[r1.length];exact hl,G,Z,_,Z',k,r1,e,q⟩
  ·cases e
 ·cases e
theorem HC{x:Str}{zs:List Str}(hg:Gl X x)(hm:∃ad o its n,X.mg x=some (.ref ad)/\X.K.lookup ad=some o/\o.cls=.type "tuple" /\ o.data=.seq its n/\its.size<=Ur/\Vals (zs.map V.str) its.toList)(hd:(x==("__debug__" : Str))=false:=by decide) :
  PE X (.Name x pos) (tD X.K B G0 (UN (.tuple (zs.map Uz)))):=by
 obtain⟨ad,o,its,n,hm,h1,h2,h3,h4,h5⟩:=hm;refine Ko (Mj (v:=.ref ad) hg hm rfl hd) λσ H Q ⟨G,Z,k,a⟩=>aft.now a k (.tup (.inr ⟨o,its,n,h1,h2,h3,h4,h5⟩) ?_)
 have:∀zs:List Str,Reps X.K G (zs.map V.str) (zs.map Uz):=λzs=>by
  induction zs with
  |nil=>exact .nil
  |cons z r ih=>exact .cons (.str _) ih
 exact this zs
end
section
variable{X:Cx}{B G0:Hp}{e o a b c tg:Uq}{pos p2 p3 p4:Pos}{es rest:List Uq}{te to ti:TE}
theorem Vk:∀{ns:List Int}{us:List Uk},Vals (ns.map V.int) us->PyProof.Rows.IntsAre us ns
 |[],_,.nil=>.nil
 |n::ns,_,.cons h t=>by obtain⟨tk,rfl⟩:=h;exact .cons n tk (Vk t)
def Vs(ns:List Int):Nat:=(PyProof.Rows.firstMet (λi=>ns.getD i 0) ns.length).length
theorem BD(hc:X.calm=true):YF X (.type "set") (λxs H Q=>∃l,∃ns:List Int,xs=[.ref l]/\SqL X.K H l (ns.map V.int)/\ns.length+1<4096/\∀S p,H p=none->Q (.ref p) (upd H p (.set S (Vs ns)))):=by
 intro pins s σ H xs us Q I rx h;obtain⟨l,ns,rfl,hq,hb,q⟩:=h;obtain⟨u,rfl,ru⟩:=rx.one;cases ru;obtain⟨its,rv,p,hz⟩:=I.list hq;have hi:=Vk rv;have hn:its.toArray.size=ns.length:=by have:=rv.length;rw[List.length_map]at this;simp;omega
 refine call_set_list (I.ok.hd hc) p.isList (ns:=ns) (by simpa using hi) (by rw[hn];exact hb) λh' tk hS hk=>?_
 rw[hn]at hS;refine⟨.ref s.heap.objs.size,_,I.laid (t':=tk) (λb o e=>hk b o (Qi e) e) (Qv _) (show Yb X.prog X.w _ h' _ (.set _ (Vs ns))from hS),rfl,q _ _ (I.hok.fresh (Qv _))⟩
theorem BC:YF X (.builtin "len") (λxs H Q=>∃p S n,xs=[.ref p]/\H p=some (.set S n)/\Q (.int n) H):=by
 intro pins s σ H xs us Q I rx h;obtain⟨p,S,n,rfl,hp,q⟩:=h;obtain⟨u,rfl,ru⟩:=rx.one;cases ru;obtain⟨o,es,ep,t,h1,h2,h3,h4,h5,h6,h7,h8⟩:=(show s.heap.SetOf (intKind X.prog X.w) p S n from I.hok p _ hp)
 have hsb:scanBound=4096:=rfl;refine call_len_set h1 h2 h3 h7 (by omega) ?_;rw[h8];exact⟨.int n,H,I.tok _,⟨_,rfl⟩,q⟩
def ZV:List D->Option (List Int)
 |[]=>some []
 |.int i::r=>(ZV r).map (i :: ·)
 |_=>none
theorem VD{K:Frag}{G:Hp}:∀{vs:List V}{ds:List D}{ns:List Int},Reps K G vs ds->ZV ds=some ns->vs=ns.map V.int
 |_,_,ns,.nil,e=>by cases e;rfl
 |_,_,ns,.cons (d:=d) r t,e=>by
  cases d with
  |int b=>
   unfold ZV at e;cases z:ZV _ with
   |none=>rw[z]at e;cases e
   |some cs=>rw[z]at e;cases e;rw[r.int_inv,VD t z];rfl
  |_=>cases e
theorem VH(ns:List Int):ZV (ns.map int)=some ns:=by
 induction ns with
 |nil=>rfl
 |cons b r ih=>rw[Qx,ZV,ih];rfl
def Wb:List D->Option D
 |[.list ds]=>(match ZV ds with
  |some ns=>if ns.length+1<4096 then some (.int (Vs ns))else none
  |none=>none)
 |_=>none
theorem qo{xs:List D}{d:D}(h:Wb xs=some d):∃ds ns,xs=[.list ds]/\ZV ds=some ns/\ns.length+1<4096/\d=.int (Vs ns):=by
 unfold Wb at h;split at h
 ·rename_i ds;cases z:ZV ds with
  |none=>rw[z]at h;cases h
  |some ns=>
   rw[z]at h;dsimp only at h;split at h
   ·rename_i c;cases h;exact⟨ds,ns,rfl,z,c,rfl⟩
   ·cases h
 ·cases h
theorem BB:bootBuiltins "set" = some (.type "set"):=by decide +kernel
theorem AO{f:M (List D)}(hc:X.calm=true)(hg:Gl X "len")(hm:X.mg "len" = none)(hg2:Gl X "set")(hm2:X.mg "set" = none)(ha:PA X [a] (tDs X.K B G0 f))(he:Ut [a] X.env=(false,eval a X.env)::Ut [] X.env:=by rfl)
  (he2:Ut [.Call (.Name "set" p2) [a] [] p3] X.env=(false,eval (.Call (.Name "set" p2) [a] [] p3) X.env)::Ut [] X.env:=by rfl) :
  PE X (.Call (.Name "len" p4) [.Call (.Name "set" p2) [a] [] p3] [] pos) (tD X.K B G0 (Zo Wb f)):=
 Ko (RT BC hg hm boot_len (VA (OG (BD hc) hg2 hm2 BB ha (by decide) (by decide) he rfl) T6 he2) (by decide) (by decide) he2 rfl) λσ H Q q=>tM.one (R:=Reps X.K) q λvs H2 G Z x k r a=>by obtain⟨d,e,a⟩:=a.opt;obtain⟨ds,ns,rfl,z,c,rfl⟩:=qo e;obtain⟨v,rfl,q1⟩:=r.one_inv;obtain⟨l,ws,rfl,h1,r1⟩:=q1.lst_inv;have:=VD r1 z;subst this;refine⟨l,ns,rfl,k.gh.seq h1,c,λS p hp=>⟨p,S,Vs ns,rfl,Zu,?_⟩⟩;exact aft.done a k (Ext.hid k.gh hp) (.int _)
end
end DL
namespace L2
open PySem PySem.Spec PyProof.Rows
section
variable{X:Cx}{tg:Uq}
end
end L2
namespace DL
open PySem PySem.Spec L2
open PyProof.Rows hiding St
section
variable{X:Cx}{B G0:Hp}{e a b c tg:Uq}{pos:Pos}{es rest:List Uq}
end
end DL
namespace L2
open PySem PySem.Spec PyProof.Rows
section
variable{prog:Um}{w:World}{A:Around}{E:Uk->Ul->Prop}{s:Ul}{M:Model}{env:Env}
theorem E8{pos:Pos}{T:String}{args:List (Bool×Sem Uk)}{kws:List (Option Str×Sem Uk)}{Q:Uk->Ul->Prop}(hp:args.any (·.1)=false)(hk:kws.any (·.1.isNone)=false)
  (h:Us M A (evalArgs (.type T) true args kws) (λa s1=>Us M A (call (.type T) a.pos a.kw) Q E s1) E s):Us M A (callWith pos (.type T) [] args kws) Q E s:=by
 unfold callWith;refine Qf (Jy (QK h (λa s1 h1=>Qf (Jj ?_)) λ_ _ z=>z));simp only[hp,hk,Bool.false_or];refine Qf (Qn ?_);exact Qf (QK h1 (λr s2 hr=>Qf (Jy (wpAny_point (Qn hr)))) λ_ _ z=>z)
theorem CG(l:Uo)(t:Tok)(items:Array Uk)(n:Nat)(dct:Option Uo)(sl:Array (Option Uk)) :
  Meets (Builtin.«enumerate.__new__» ⟨[.type "enumerate", .ref l],[("start", .int 1 t)]⟩) (λ_ R s=>s.heap.get? l=some ⟨.type "list", dct,.seq items n,sl⟩ /\
   R (.ok (.ret (.ref (s.heap.push {cls:=.type "list_iterator", data:=.fields #[.ref l,.int 0 0]}).objs.size))) {s with heap:=(s.heap.push {cls:=.type "list_iterator", data:=.fields #[.ref l,.int 0 0]}).push {cls:=.type "enumerate", data:=.fields #[.none,.bool false,.ref s.heap.objs.size,rawInt 1,.none,.none]}}):=
 .of_wp λprog w A R s h=>by
  obtain⟨hp,g,d,tk,os⟩:=s;obtain⟨hl,h⟩:=h;have hsub:=sub_enumerate;have hL:Heap.IsList (Shared.heap ⟨hp,g,d,tk,os⟩) l items:=⟨_,hl,rfl,n,rfl⟩
  wp_walk using AutoSeq1.wpAny_loadPart' hl
  refine wpAny_stack_any λst=>(Qn ?_);split
  ·rename_i c _ _ _ _ _;cases (c==Value.type "enumerate")<;>(wp_walk using(AutoSeq1.wpAny_loadPart' hl),(JH hL))<;>exact⟨_,rfl,h⟩
  ·(wp_walk using(AutoSeq1.wpAny_loadPart' hl),(JH hL));exact⟨_,rfl,h⟩
theorem qH{T newId initId:String}{Bn Bi:Builtin}{args:List Uk}{kw:List (Str×Uk)}{S:PySem.Spec}{Q Q1:Uk->Ul->Prop}(ft:TypeCalled T newId initId)
  (hct:checkTypeCall T ⟨args,kw⟩=pure ()) (hcn:checkBuiltinCall newId ⟨.type T::args,kw⟩=pure ()) (eN:entryFor table newId=some Bn) (eI:entryFor table initId=some Bi)
  (g:Meets (Bn ⟨.type T::args,kw⟩) S) (h:S A.in1 (wants Q1 E) s)
  (hnext:∀obj s1,Q1 obj s1->s1.TypeIs obj T/\argsOk initId ⟨obj::args,kw⟩/\∃Si,Meets (Bi ⟨obj::args,kw⟩) Si/\Si A.in1 (wants (λr s2=>r=.none/\Q obj s2) E) s1) :
  Us (model prog w) A (call (.type T) args kw) Q E s:=by
 obtain⟨c,tl,hmro⟩:=ft.mro;have hmade:=ft.made;have hsub:=ft.sub;refine wpAny_call (codeAny_of_tree ?_);show Us _ _ (callAny (.type T) _) _ _ _;refine Qn ⟨Code.quiet_builtin _ (by decide +kernel),(JE F.entry_type_call ?_)⟩;rw[Around.under_plain (weight_type_call_type T args kw) (units_type_call_type T args kw)];have h1:=ft.notType;have h2:=ft.canCreate
 repeat' (any_goals (first|wp_step|assumption))
 refine codeAny_mono (codeAny_call_builtin ft.plain eN (wpAny_of_eq hcn (g prog w A.in1 _ s h))) λr s1 hr=>?_
 match r,hr with
 |.error e,hr=>exact hr
 |.ok (.ret obj),hr=>
  obtain⟨hT,hok,Si,gi,hsi⟩:=hnext _ _ hr;have hli:=ft.init.lookup;have hbi:=ft.init.bind obj
  repeat' (any_goals (first|wp_step|assumption))
  refine codeAny_mono (codeAny_call_builtin ft.init.plain eI (ft.init.check _ _ _ _ _ _ _ _ hT hok (gi prog w A.in1 _ s1 hsi))) λr2 s2 hr2=>?_
  match r2,hr2 with
  |.error e,hr2=>exact hr2
  |.ok (.ret r),hr2=>
   obtain⟨rfl,hq⟩:=hr2
   repeat' (any_goals (first|wp_step|assumption))
  |.ok .next,hr2=>exact hr2.elim
  |.ok .brk,hr2=>exact hr2.elim
  |.ok .cont,hr2=>exact hr2.elim
 |.ok .next,hr=>exact hr.elim
 |.ok .brk,hr=>exact hr.elim
 |.ok .cont,hr=>exact hr.elim
theorem qm{T newId:String}{self:Uk}{rest:List Uk}{kw:List (Str×Uk)}(hl:typeLookup (.type T) "__init__" = pure (some (.builtin "object.__init__")))
  (hm:Bind.madeBy (.type T)=pure (some newId)) (hne:(some newId != some "object.__new__")=true) :
  Meets (Builtin.«object.__init__» ⟨self::rest,kw⟩) (λ_ R s=>s.TypeIs self T/\R (.ok (.ret .none)) s):=by
 refine .of_wp λprog w A R s hs=>?_
 obtain⟨hT,hq⟩:=hs;cases rest with
 |nil=>
  cases kw with
  |nil=>exact Qn ⟨_,rfl,hq⟩
  |cons k kw=>(repeat' (any_goals (first|wp_step|assumption)));exact⟨_,rfl,hq⟩
 |cons a rest=>(repeat' (any_goals (first|wp_step|assumption)));exact⟨_,rfl,hq⟩
theorem ql(a:Uk)(t:Tok):checkTypeCall "enumerate" ⟨[a],[("start", .int 1 t)]⟩=pure ():=by kernel_rfl
theorem AN(a:Uk)(t:Tok):checkBuiltinCall "enumerate.__new__" ⟨[.type "enumerate", a],[("start", .int 1 t)]⟩=pure ():=by kernel_rfl
theorem qk(o a:Uk)(t:Tok):argsOk "object.__init__" ⟨[o,a],[("start", .int 1 t)]⟩:=by unfold argsOk;kernel_rfl
theorem A9{l:Uo}{items:Array Uk}{t:Tok}{Q:Uk->Ul->Prop}(hL:s.heap.IsList l items)
  (h:∀h',IsEnum h' (s.heap.objs.size+1) s.heap.objs.size 1 .none->h'.IsListIter s.heap.objs.size l 0->(∀b o,s.heap.get? b=some o->h'.get? b=some o)->Q (.ref (s.heap.objs.size+1)) {s with heap:=h'}) :
  Us (model prog w) A (call (.type "enumerate") [.ref l] [("start", .int 1 t)]) Q E s:=by
 obtain⟨⟨c,dct,dt,sl⟩,hl,hc,n,hd⟩:=hL;replace hc:c=.type "list" :=hc;replace hd:dt=.seq items n:=hd;subst hc hd;have hz:(s.heap.push {cls:=.type "list_iterator", data:=.fields #[.ref l,.int 0 0]}).objs.size=s.heap.objs.size+1:=Heap.size_push ..;have he:IsEnum ((s.heap.push {cls:=.type "list_iterator", data:=.fields #[.ref l,.int 0 0]}).push {cls:=.type "enumerate", data:=.fields #[.none,.bool false,.ref s.heap.objs.size,rawInt 1,.none,.none]}) (s.heap.objs.size+1) s.heap.objs.size 1 .none:=by rw[←hz];exact QD _ rfl
 refine qH F.called_enumerate (ql _ t) (AN _ t) F.entry_enumerate_new F.entry_object_init (CG l t items n dct sl) (Q1:=λobj s1=>s1.TypeIs obj "enumerate" /\ Q obj s1) ⟨hl,?_⟩ λobj s1 hq=>
  ⟨hq.1,qk obj _ t,_,qm F.called_enumerate.init.lookup F.called_enumerate.made (by decide),hq.1,rfl,hq.2⟩
 show _/\_;rw[hz];exact⟨⟨_,he,rfl⟩,h _ he ⟨_,Qj _ (QD _ rfl),rfl,rfl⟩ λb o x=>Qj _ (Qj _ x)⟩
end
section
variable{prog:Um}{w:World}{A:Around}{E:Uk->Ul->Prop}{s:Ul}
theorem BA{en it l:Uo}{i:Nat}{j:Int}{items:Array Uk}{x old:Uk}{Q:Option Uk->Ul->Prop}(st:IsEnum s.heap en it j old)(li:s.heap.IsListIter it l i)(ls:s.heap.IsList l items)
  (at_:items[i]?=some x) (ne:en≠it)
  (k:∀h',IsEnumOut h' en it (j+1) x s.heap.objs.size->h'.IsListIter it l (i+1)->h'.get? s.heap.objs.size=some {cls:=.type "tuple", data:=.seq #[.int j s.toks,x]}->(∀b o,b≠en->b≠it->s.heap.get? b=some o->h'.get? b=some o) ->
   Q (some (.ref s.heap.objs.size)) {s with heap:=h',toks:=s.toks+1}):Us (model prog w) A (pyNext (.ref en)) Q E s:=by
 have ty:s.TypeIs (.ref en) "enumerate" :=⟨_,st,rfl⟩
 have lt:en<s.heap.objs.size:=Qi st;unfold pyNext;refine Qf (wpAny_attempt (wpAny_callSpecial?_slot (name:=UF "__next__") ty F.slot_enumerate_next (wpAny_call_entry F.slot_enumerate_next ty F.entry_enumerate_next ?_ (F.args_enumerate_next_1 _))));show Us _ _ (field (.ref en) 2 >>= _) _ _ s;refine Qf (wpAny_field st rfl (x:=.ref it) rfl ?_);refine Qf (wpAny_nextOf_list_item li ls at_ λm1 li1 c1=>?_);have c1:Heap.SameBut it s.heap m1:=c1;have st1:IsEnum m1 en it j old:=(c1.2 en ne).trans st;show Us _ _ (field (.ref en) 3 >>= _) _ _ {s with heap:=m1};refine Qf (wpAny_field st1 rfl (x:=rawInt j) rfl ?_);show Us _ _ (field (.ref en) 4 >>= _) _ _ {s with heap:=m1};refine Qf (wpAny_field st1 rfl (x:=.none) rfl ?_);show Us _ _ (mkInt j >>= _) _ _ {s with heap:=m1};refine Qf (wpAny_mkInt ?_);show Us _ _ (setField (.ref en) 3 (rawInt (j+1)) >>= _) _ _ {s with heap:=m1,toks:=s.toks+1};refine wpAny_bind (wpAny_setField_rec st1 (by simp) λm2 st2 c2=>?_);have c2:Heap.SameBut en m1 m2:=c2;have st2:IsEnum m2 en it (j+1) old:=st2;show Us _ _ (setField (.ref en) 4 .none >>= _) _ _ {s with heap:=m2,toks:=s.toks+1};refine wpAny_bind (wpAny_setField_rec st2 (by simp) λm3 st3 c3=>?_);have c3:Heap.SameBut en m2 m3:=c3;have st3:IsEnum m3 en it (j+1) old:=st3;show Us _ _ (newTuple [.int j s.toks,x] >>= _) _ _ {s with heap:=m3,toks:=s.toks+1};refine Qf (wpAny_newTuple ?_);have z3:m3.objs.size=s.heap.objs.size:=c3.1.trans (c2.1.trans c1.1);have st4:IsEnum (m3.push {cls:=.type "tuple", data:=.seq #[.int j s.toks,x]}) en it (j+1) old:=Qj _ (show IsEnum m3 en it (j+1) old from st3);have tp4:(m3.push {cls:=.type "tuple", data:=.seq #[.int j s.toks,x]}).get? s.heap.objs.size=some {cls:=.type "tuple", data:=.seq #[.int j s.toks,x]}:=by rw[←z3];exact QD _ rfl
 have kp4:∀b o,b≠en->b≠it->s.heap.get? b=some o->(m3.push {cls:=.type "tuple", data:=.seq #[.int j s.toks,x]}).get? b=some o:=λb o n1 n2 q=>Qj _ ((c3.2 b n1).trans ((c2.2 b n1).trans ((c1.2 b n2).trans q)))
 have li4:(m3.push {cls:=.type "tuple", data:=.seq #[.int j s.toks,x]}).IsListIter it l (i+1):=by obtain⟨o,q,r⟩:=li1;exact⟨o,Qj _ ((c3.2 it (Ne.symm ne)).trans ((c2.2 it (Ne.symm ne)).trans q)),r⟩
 generalize m3.push {cls:=.type "tuple", data:=.seq #[.int j s.toks,x]}=m4 at st4 tp4 kp4 li4;show Us _ _ (Builtin.SmallTypes.ownedTupleIsFree (.ref en) >>= _) _ _ {s with heap:=m4,toks:=s.toks+1};rw[z3];refine Qf ?_;unfold Builtin.SmallTypes.ownedTupleIsFree Builtin.SmallTypes.ownedTupleHandOut;refine Qf (wpAny_field st4 rfl (x:=.none) rfl (Qn ?_));simp only[if_true];refine wpAny_bind (wpAny_rule (wpAny_bind (wpAny_field st4 rfl (x:=old) rfl (wpAny_bind (wpAny_setField_rec st4 (by simp) λm5 st5 c5=>?_)))));have c5:Heap.SameBut en m4 m5:=c5;have st5:IsEnum m5 en it (j+1) x:=st5;refine wpAny_bind (wpAny_bind (wpAny_setField_rec st5 (by simp) λm6 st6 c6=>?_));have c6:Heap.SameBut en m5 m6:=c6;have st6:IsEnumOut m6 en it (j+1) x s.heap.objs.size:=st6;refine wpAny_setField_rec st6 (by simp) λm7 st7 c7=>?_
 have c7:Heap.SameBut en m6 m7:=c7;have st7:IsEnumOut m7 en it (j+1) x s.heap.objs.size:=st7;have up:∀b,b≠en->m7.get? b=m4.get? b:=λb n=>(c7.2 b n).trans ((c6.2 b n).trans (c5.2 b n));refine Qf (wpAny_letGo (Qn ⟨_,rfl,Qn (k m7 st7 ?_ ((up _ (JO lt)).trans tp4) λb o n1 n2 q=>(up b n1).trans (kp4 b o n1 n2 q))⟩))
 obtain⟨o,q,r⟩:=li4;exact⟨o,(up it (Ne.symm ne)).trans q,r⟩
theorem Bz{en it l:Uo}{i:Nat}{j:Int}{items:Array Uk}{old:Uk}{Q:Option Uk->Ul->Prop}(hh:A.handled=none)(st:IsEnum s.heap en it j old)(li:s.heap.IsListIter it l i)(ls:s.heap.IsList l items)
  (at_:items[i]?=none) (k:∀h',Heap.ExtBut it s.heap h'->Q none {s with heap:=h'}):Us (model prog w) A (pyNext (.ref en)) Q E s:=by
 have ty:s.TypeIs (.ref en) "enumerate" :=⟨_,st,rfl⟩
 unfold pyNext;refine Qf (wpAny_attempt (wpAny_callSpecial?_slot (name:=UF "__next__") ty F.slot_enumerate_next (wpAny_call_entry F.slot_enumerate_next ty F.entry_enumerate_next ?_ (F.args_enumerate_next_1 _))));show Us _ _ (field (.ref en) 2 >>= _) _ _ s;refine Qf (wpAny_field st rfl (x:=.ref it) rfl (Qf (m:=Builtin.SmallTypes.nextOf (.ref it)) (wpAny_nextOf_list_end hh li ls at_ λh' z c y=>?_)));obtain⟨o,q,t⟩:=y;exact Qf (wpAny_isInstance (T:= "StopIteration") (b:=true) ⟨o,q,t⟩ isSubtype_stop (Qn (k _ c)))
end
def TM(K:Frag)(a:Uo):It:=
 ⟨λi H=>∃xs x,SqL K H a xs/\xs[i]?=some x,
  λi H v H'=>∃p x,H p=none/\v=.ref p/\(∀xs,SqL K H a xs->xs[i]?=some x)/\H'=upd H p (.tup [.int (1+(i:Int)),x]),
  λi H=>∃xs,SqL K H a xs/\xs.length<=i⟩
theorem A8{P:Um}{w:World}{K:Frag}{elts:List Uq}{x1}{tp:Pos}(a e it:Uo)(hne:e≠it) :
  Turn P w K (.Tuple elts x1 tp) (TM K a) [e,it] e (λi h=>(∃old,IsEnum h e it (1+(i:Int)) old)/\h.IsListIter it a i) where
 mem:=by simp
 obj:=λi h st b hb=>by
  obtain⟨⟨old,he⟩,o,ho,c,d⟩:=st;have hb':b=e∨b=it:=by simpa using hb
  rcases hb' with rfl|rfl
  ·exact⟨_,he,λv z=>by have z':Data.fields _=Data.cell v:=z;cases z'⟩
  ·exact⟨o,ho,λv z=>by rw[d]at z;cases z⟩
 keep:=λi h h' st k=>by obtain⟨⟨old,he⟩,hi⟩:=st;exact⟨⟨old,k e (by simp) _ he⟩,hi.at λo q=>k it (by simp) o q⟩
 item:=by
  intro X hP hw hK hc i pins s σ H E I hf st hg;subst hP hw hK;obtain⟨⟨old,he⟩,hi⟩:=st;obtain⟨xs,x,hq,hx⟩:=hg;obtain⟨its,rv,p,hz⟩:=I.list hq;obtain⟨u,hu,ru⟩:=rv.get hx;refine BA he hi p.isList (x:=u) (by simpa using hu) hne λh1 out hi1 ht kk=>?_
  refine⟨_,rfl,wpAny_letOwnedTupleGo_enum out λh2 he2 hs2=>?_⟩;have hel:e<s.heap.objs.size:=Qi he;have hs2':Heap.SameBut e h1 h2:=hs2;have ht2:h2.get? s.heap.objs.size=some {cls:=.type "tuple", data:=.seq #[.int (1+(i:Int)) s.toks,u]}:=(hs2'.2 _ (JO hel)).trans ht
  have kk2:∀b o,b∉[e,it]->s.heap.get? b=some o->h2.get? b=some o:=λb o hb q=>by
   have hbe:b≠e:=λz=>hb (by simp[z])
   have hbi:b≠it:=λz=>hb (by simp[z])
   exact(hs2'.2 b hbe).trans (kk b o hbe hbi q)
  have hn:H s.heap.objs.size=none:=I.hok.fresh (Qv _)
  have I2:Inv X pins σ (upd H s.heap.objs.size (.tup [.int (1+(i:Int)),x])) {s with heap:=h2,toks:=s.toks+1}:=
   I.turnedNew (fp:=[e,it]) hf kk2 (Qv _) ⟨by show 2<=Ur;decide,[.int (1+(i:Int)) s.toks,u],.cons ⟨_,rfl⟩ (.cons ru .nil),⟨_,ht2,rfl,_,rfl⟩⟩
  refine⟨.ref s.heap.objs.size,_,I2,rfl,⟨_,x,hn,rfl,λys hy=>by rw[I.list_inj hy hq];exact hx,rfl⟩,⟨⟨u,?_⟩,?_⟩,λb hb=>?_⟩
  ·have e2:(1+((i+1:Nat):Int))=1+(i:Int)+1:=by omega
   rw[e2];exact he2
  ·exact hi1.at λo q=>(hs2'.2 it (Ne.symm hne)).trans q
  ·have hlt:b<s.heap.objs.size:=by
    have hb':b=e∨b=it:=by simpa using hb
    rcases hb' with rfl|rfl
    ·exact hel
    ·obtain⟨o,ho,_⟩:=hi;exact Qi ho
   rw[KY (QL hlt)];exact(hf b hb).1
 done:=by intro X hP hw hK hc i pins s σ H E I hf st hg;subst hP hw hK;obtain⟨⟨old,he⟩,hi⟩:=st;obtain⟨xs,hq,hx⟩:=hg;obtain⟨its,rv,p,hz⟩:=I.list hq;have hl:=rv.length;exact Bz (I.ok.hd hc) he hi p.isList (by simp;omega) λh' eb=>⟨rfl,I.turnedL (t':=s.toks) hf λb o hb q=>eb b o (λz=>hb (by simp[z])) q⟩
 self:=λ_ _ _ _ _ st h=>by obtain⟨⟨old,he⟩,_⟩:=st;exact wpAny_pyIter_enum he h
section
variable{X:Cx}
theorem CF{a:Uq}{ta:TA}{p pos k1 k2:Pos}{j}{elts:List Uq}{x1}{tp:Pos}(hg:Gl X "enumerate")(hm:X.mg "enumerate" = none)(ha:PA X [a] ta)
  (hs:backTo pos (Ut [a] X.env)=(false,eval a X.env)::backTo pos (Ut [] X.env):=by rfl) (hpl:(backTo pos (Ut [a] X.env)).any (·.1)=false:=by rfl) :
  PI X (.Tuple elts x1 tp) (.Call (.Name "enumerate" p) [a] [⟨some "start", .Constant (.int 1) j k1,k2⟩] pos) (λσ H R=>ta σ H λvs H1=>∃a xs,vs=[.ref a]/\SqL X.K H1 a xs/\R (TM X.K a) H1):=by
 intro pins s σ H R I h;refine wpAny_Call_Name_kw (W7 I hg hm boot_enumerate (E8 hpl rfl ?_));rw[hs];refine evalArgs_kwB rfl ?_;rw[←hs];refine thn (ha pos pins s σ H _ I h) λus s1 ⟨vs,H1,I1,r1,q1⟩=>?_;refine kws_cons (wpAny_Constant_int (kws_nil ?_))
 obtain⟨l,xs,e,hq,q⟩:=q1;subst e;cases r1 with
 |cons r rr=>
  cases rr;cases (show _=Value.ref l from r);have I1':=I1.tok (s1.toks+1);obtain⟨its,rv,pl,hz⟩:=I1'.list hq;refine A9 pl.isList λh' he hi kk=>?_;have I2:Inv X pins σ H1 {s1 with heap:=h',toks:=s1.toks+1}:=I1'.kept (t':=s1.toks+1) kk;refine wpAny_pyIter_enum he ?_
  refine⟨s1.heap.objs.size+1,[s1.heap.objs.size+1,s1.heap.objs.size],_,_,H1,rfl,I2,A8 l _ _ (Nat.succ_ne_self _),⟨⟨_,he⟩,hi⟩,λb hb=>?_,q⟩;have hb':b=s1.heap.objs.size+1∨b=s1.heap.objs.size:=by simpa using hb
  rcases hb' with rfl|rfl
  ·exact I1.fpOk (JV _) (I1.hok.fresh (JV _))
  ·exact I1.fpOk (Qv _) (I1.hok.fresh (Qv _))
end
end L2
namespace DL
open PySem PySem.Spec L2
open PyProof.Rows hiding St
section
variable{X:Cx}{B G0:Hp}{e a b c tg:Uq}{pos:Pos}{es rest:List Uq}
theorem qi{K:Frag}{G1:Hp}{ad:Uo}{vs:List V}{ds:List D}(h:SqL K G1 ad vs)(r:Reps K G1 vs ds):Xo K (TM K ad) (Z8 1 ds) G1 where
 go:=λi G H s1 s2 hi=>by
  rw[Yo]at hi;have hi':i<vs.length:=by rw[r.length];exact hi
  exact⟨vs,vs[i],(s1.trans s2).seq h,Qd hi'⟩
 stop:=λi G H s1 s2 hi=>by rw[Yo]at hi;exact⟨vs,(s1.trans s2).seq h,by rw[r.length];exact hi⟩
 yld:=λi G H x H' d s1 s2 e y=>by
  obtain⟨p,v,hp,rfl,y1,rfl⟩:=y;have z1:=y1 vs ((s1.trans s2).seq h);rw[Ot]at e;cases q:ds[i]? with
  |none=>rw[q]at e;cases e
  |some dd=>
   rw[q]at e;cases e;obtain⟨v',e1,r1⟩:=r.get q;rw[z1]at e1;cases e1;refine⟨upd G p (.tup [.int (1+(i:Int)),v]),Ext.new s2 hp,.tup (SqT.of Zu) (.cons ?_ (.cons ((r1.mono s1).mono (Zt (s2.free hp))) .nil))⟩;have:((1+i:Nat):Int)=1+(i:Int):=by omega
   rw[this];exact .int _
def T3:List D->Option (List D)
 |[.list ds]=>some (Z8 1 ds)
 |_=>none
def Ry(f:M (List D)):M (List D):=U6 f λx=>U9 (T3 x)
theorem A7{x l:List D}(h:T3 x=some l):∃ds,x=[.list ds]/\l=Z8 1 ds:=by
 unfold T3 at h;split at h
 ·cases h;exact⟨_,rfl,rfl⟩
 ·cases h
theorem CD{f:M (List D)}{p2 k1 k2:Pos}{j}{elts:List Uq}{x1}{tp:Pos}(hg:Gl X "enumerate")(hm:X.mg "enumerate" = none)(ha:PA X [a] (tDs X.K B G0 f))
  (hs:backTo pos (Ut [a] X.env)=(false,eval a X.env)::backTo pos (Ut [] X.env):=by rfl) (hpl:(backTo pos (Ut [a] X.env)).any (·.1)=false:=by rfl) :
  PI X (.Tuple elts x1 tp) (.Call (.Name "enumerate" p2) [a] [⟨some "start", .Constant (.int 1) j k1,k2⟩] pos) (iD X.K B G0 (Ry f)):=Y9 (CF hg hm ha hs hpl) λσ H R q=>tM.toI (R0:=Reps X.K) q λv H' G' Z' x k r a=>by
 cases z:T3 x with
 |none=>rw[z]at a;exact a.elim
 |some l=>rw[z]at a;obtain⟨ds,rfl,rfl⟩:=A7 z;obtain⟨v,rfl,q⟩:=r.one_inv;obtain⟨l,ws,rfl,h1,r1⟩:=q.lst_inv;exact⟨l,ws,rfl,k.gh.seq h1,a _ G' H' k (.refl _) (qi h1 r1)⟩
end
section
variable{X:Cx}
def most:List Int->Int
 |[]=>0
 |[n]=>n
 |n::r=>if most r > n then most r else n
theorem RR:∀{ns:List Int},0<ns.length->most ns∈ns
 |[n],_=>List.mem_singleton.2 rfl
 |n::m::r,_=>by
  have ih:=RR (ns:=m::r) (Nat.succ_pos _);unfold most;split
  ·exact Qk _ ih
  ·exact Qo ..
theorem Px:∀{ns:List Int}{a:Int},a∈ns->a<=most ns
 |[n],a,h=>by rw[List.mem_singleton.1 h];exact QW _
 |n::m::r,a,h=>by
  have ih:∀b,b∈m::r->b<=most (m::r):=λb hb=>Px hb;unfold most;rcases QO.1 h with e|h
  ·subst e;split<;>omega
  ·have:=ih a h;split<;>omega
theorem E7{ns:List Int}{M:Int}(h1:M∈ns)(h2:∀a,a∈ns->a<=M):most ns=M:=
 J4 (h2 _ (RR (List.length_pos_of_mem h1))) (Px h1)
theorem By(hc:X.calm=true):YF X (.builtin "max") (λxs H Q=>∃l,∃ns:List Int,xs=[.ref l]/\SqL X.K H l (ns.map V.int)/\0<ns.length/\Q (.int (most ns)) H):=by
 intro pins s σ H xs us Q I rx h;obtain⟨l,ns,rfl,hq,hb,q⟩:=h;obtain⟨u,rfl,ru⟩:=rx.one;cases ru;obtain⟨its,rv,p,hz⟩:=I.list hq;have hi:=Vk rv;obtain⟨ys,e⟩:=hi.allInts.items;have hns:ns=ys.toList.map (·.1):=by rw[←hi.numsOf,←nums_intItems,←e]
 have hsz:0<ys.size:=by rw[hns,Qb,JA]at hb;exact hb
 have hl:=p.isList;rw[e]at hl;refine max_intList (I.ok.hd hc) hl hsz λv h' tk hv hk=>?_
 obtain⟨t,rfl⟩:=intItems_at hv;obtain⟨h1,h2⟩:=argBest_gt (numAt ys) (ys.size-1);refine⟨.int (most ns),H,I.kept hk,⟨t,?_⟩,q⟩;rw[E7 (M:=_) ?_ ?_]
 ·rw[hns,numAt_eq];exact getD_mem (by rw[Qb,JA];omega)
 ·intro a ha;rw[hns]at ha;obtain⟨j,hj,rfl⟩:=mem_getD ha;rw[Qb,JA]at hj;rw[←numAt_eq];exact h2 j (by omega)
def Vo:List D->Option D
 |[.list ds]=>(match ZV ds with
  |some ns=>if 0<ns.length then some (.int (most ns))else none
  |none=>none)
 |_=>none
theorem Bx{xs:List D}{d:D}(h:Vo xs=some d):∃ds ns,xs=[.list ds]/\ZV ds=some ns/\0<ns.length/\d=.int (most ns):=by
 unfold Vo at h;split at h
 ·rename_i ds;cases z:ZV ds with
  |none=>rw[z]at h;cases h
  |some ns=>
   rw[z]at h;dsimp only at h;split at h
   ·rename_i c;cases h;exact⟨ds,ns,rfl,z,c,rfl⟩
   ·cases h
 ·cases h
theorem GA(hc:X.calm=true):YX X (.builtin "max") Vo:=by refine⟨_,By hc,λvs G H ds d Q s r e k=>?_⟩;obtain⟨ds,ns,rfl,z,c,rfl⟩:=Bx e;obtain⟨v,rfl,q1⟩:=r.one_inv;obtain⟨l,ws,rfl,h1,r1⟩:=q1.lst_inv;have:=VD r1 z;subst this;exact⟨l,ns,rfl,s.seq h1,c,k _ G H (.refl s) (.int _)⟩
theorem MY{ns:List Int}(h:0<ns.length):Vo [.list (ns.map .int)]=some (.int (most ns)):=by unfold Vo;simp only[VH,Qm h]
end
section
variable{X:Cx}{B G0:Hp}{e o:Uq}{es:List Uq}
theorem qh{h:Heap}{vs:List Uk}{xs:List D}{as:List Uo}{d:D}(rs:ReadsAll h vs xs as)(hxs:UB xs=true) :
  vs.countP (λy=>UD (SeqAt.readOf h y) d)=xs.countP (λy=>UD y d):=by
 have key:xs=vs.map (SeqAt.readOf h):=(SeqAt.readsAll_map xs vs as hxs rs).symm;rw[key,List.countP_map];rfl
def Vb(y x:D):Option D:=match y with
 |.list ds=>if x.canLay0=true/\UB ds=true/\x.depth<=60 then some (.int (ds.countP λy=>UD y x))else none
 |_=>none
theorem CC(hu:X.A.units+64<cLine):MtR X "list.count" (λv vs H Q=>∃G u y x d,vs=[u]/\Same G H/\Rep X.K G v y/\Rep X.K G u x/\Vb y x=some (.int d)/\Q (.int d) H):=by
 intro pins s σ H x xs v us Q I rx rs h;obtain⟨G,u,dy,dx,d,rfl,sg,py,px,e,q⟩:=h;obtain⟨w,rfl,rw'⟩:=rs.one;unfold Vb at e;split at e
 ·rename_i ds;split at e
  ·rename_i c;obtain⟨bs,rb⟩:=YH I sg py rx (show UB _=true from c.2.1);obtain⟨as,ra⟩:=YH I sg px rw' c.1;cases rb with
   |list h1 h2 h3 h4=>rename_i l ob its cs n;obtain⟨cls,dd,data,sl⟩:=ob;simp only at h2 h3;subst h2 h3;refine call_meets F.slot_list_count ⟨_,h1,rfl⟩ F.entry_list_count (F.args_list_count_2 _ _) (SeqAt.list_countAt _ _ _ dd sl _ (λy=>UD (SeqAt.readOf s.heap y) dx)) ⟨h1,SeqAt.items_eqAt h4 ra c.2.1 c.1 (by have:=c.2.2;omega),?_⟩;rw[qh h4 c.2.1];cases e;exact⟨.int _,H,I.tok _,⟨_,rfl⟩,q⟩
  ·cases e
 ·cases e
def RG(y:D)(xs:List D):Option D:=match xs with
 |[x]=>Vb y x
 |_=>none
theorem qg{ds xs:List D}{d:D}(h:RG (.list ds) xs=some d):∃x n,xs=[x]/\d=.int n/\Vb (.list ds) x=some (.int n):=by
 unfold RG at h;split at h
 ·rename_i x;have h':=h;unfold Vb at h;dsimp only at h;split at h
  ·cases h;exact⟨x,_,rfl,rfl,h'⟩
  ·cases h
 ·cases h
def T2(f:M D)(g:M (List D)):M D:=U6 f λy=>U6 g λxs=>U9 (match y with | .list ds=>RG (.list ds) xs|_=>none)
theorem Bw{apos cpos:Pos}{f:M D}{g:M (List D)}(hu:X.A.units+64<cLine)(ho:PE X o (tD X.K B G0 f))(ha:PA X (e::es) (tDs X.K B G0 g))
  (hbase:attributeBase o "count" X.env (eval o X.env)=eval o X.env:=by rfl)
  (hfew:((backTo cpos (Ut (e::es) X.env)).all (λx=>!x.1)&&(backToKw cpos (keywordEach [] X.env)).all (λx=>x.1.isSome)
   && decide ((e::es).length+([]:List Keyword).length+(if([]:List Keyword).isEmpty then 0 else 1)<30))=true:=by rfl)
  (hline:(apos.endLine==cpos.line)=true:=by rfl) (hs:Ut (e::es) X.env=(false,eval e X.env)::Ut es X.env:=by rfl) (hplain:(backTo cpos (Ut es X.env)).any (·.1)=false:=by rfl) :
  PE X (.Call (.Attribute o "count" apos) (e::es) [] cpos) (tD X.K B G0 (T2 f g)):=
 Ko (Pe F.plainAttrs_list F.slot_list_count F.type_list_count (CC hu) ho ha hbase hfew hline hs hplain) λσ H Q q=>by
  refine tM.one (R:=Rep X.K) q λv H2 G Z y k r a=>?_
  cases y with
  |list ds=>
   obtain⟨l,ws,rfl,h1,r1⟩:=r.lst_inv;refine⟨.inl ⟨rfl,ws,k.gh.seq h1⟩,?_⟩;refine tM.nx (R:=Reps X.K) k a λxs H3 G3 Z3 es k3 s3 r3 a3=>?_
   obtain⟨d,e,a3⟩:=a3.opt;obtain⟨x,n,rfl,rfl,e'⟩:=qg e;obtain⟨u,rfl,ru⟩:=r3.one_inv;exact⟨G3,u,.list ds,x,n,rfl,k3.gh,r.mono s3,ru,e',aft.now a3 k3 (.int _)⟩
  |_=>
   unfold U6 at a;cases z:g Z with
   |bad=>rw[z]at a;exact a.elim
   |ok xs Z1=>rw[z]at a;exact a.elim
theorem MX{f:M D}{g:M (List D)}{Z Z1 Z2:UG}{ds:List D}{x d:D}(h1:f Z=.ok (.list ds) Z1)(h2:g Z1=.ok [x] Z2)(h3:Vb (.list ds) x=some d):T2 f g Z=.ok d Z2:=by unfold T2 U6;rw[h1];dsimp only;rw[h2];dsimp only[RG];rw[h3];rfl
end
section
variable{prog:Um}{w:World}{A:Around}{R:Result->Ul->Prop}{h0:Heap}{l I S:Uo}{rs:List (Uo×List Uk)}
def Xh(h h':Heap):Prop:=∀b o,h.get? b=some o->h'.get? b=some o
def Ls1(h:Heap)(a:Uo)(its:List Uk)(sl:Array (Option Uk)):Prop:=∃n,h.get? a=some {cls:=.type "list", dict:=none,data:=.seq its.toArray n,slots:=sl}
def Ls(h:Heap)(a:Uo)(its:List Uk):Prop:=∃n sl,h.get? a=some {cls:=.type "list", dict:=none,data:=.seq its.toArray n,slots:=sl}
theorem Ls.kept{h h':Heap}{a:Uo}{its:List Uk}(x:Ls h a its)(k:Xh h h'):Ls h' a its:=by obtain⟨n,sl,e⟩:=x;exact⟨n,sl,k _ _ e⟩
theorem A6(hh:A.in1.handled=none)(hI:h0.objs.size<=I)(hS:h0.objs.size<=S)(hIS:S≠I)(hl:h0.IsList l (rs.map λp=>Value.ref p.1).toArray)(hr:∀p∈rs,Ls h0 p.1 p.2) :
  ∀(k i:Nat)(s:Ul)(t:Uo)(acc:List Uk)(c:Nat)(sl:Array (Option Uk)),rs.length-i=k->i<=rs.length->Xh h0 s.heap->s.heap.IsListIter I l i ->
   s.heap.get? S=some {cls:=.type "list", dict:=none,data:=.seq #[.ref t] c,slots:=#[]}->t≠S->t≠I->Ls1 s.heap t acc sl->acc.length+((rs.drop i).map (·.2)).flatten.length<=Ur ->
   (∀p h' tk sl',Xh h0 h'->Ls1 h' p (acc++((rs.drop i).map (·.2)).flatten) sl'->(p=t/\i=rs.length/\sl'=sl∨h0.objs.size<=p/\sl'=#[])->R (.ok (.ret (.ref p))) {s with heap:=h',toks:=tk}) ->
   codeAny (model prog w) A (.builtin "sum.loop" ⟨[.ref I,.ref S,rawInt 2,rawInt 0],[]⟩) R s:=by
 intro k;induction k with
 |zero=>
  intro i s t acc c sl hk hi hK hit hSS htS htI ht hz hR;have hin:i=rs.length:=by omega
  subst hin;refine JE F.entry_sum_loop ?_;rw[Around.under_plainId F.plain_sum_loop _];show Us _ A.in1 (seqItems? (.ref S) >>= _) _ _ s;refine Qf (wpAny_seqItems hSS rfl ?_);show Us _ A.in1 (tryCatch (pyNext (.ref I)) _ >>= _) _ _ s;have hl':s.heap.IsList l (rs.map λp=>Value.ref p.1).toArray:=by obtain⟨o,e,r⟩:=hl;exact⟨o,hK _ _ e,r⟩
  refine wpAny_bind (wpAny_tryCatch (wpAny_pyNext_list_end hh hit hl' (by simp) λh' ex=>?_));refine Qn (hR t h' s.toks sl (λb o e=>?_) ?_ (.inl ⟨rfl,rfl,rfl⟩))
  ·exact ex b o (QL (QE (Qi e) hI)) (hK b o e)
  ·obtain⟨n,e⟩:=ht;rw[List.drop_length,JJ,List.flatten_nil,Q5];exact⟨n,ex _ _ htI e⟩
 |succ k ih=>
  intro i s t acc c sl hk hi hK hit hSS htS htI ht hz hR;have hlt:i<rs.length:=by omega
  refine JE F.entry_sum_loop ?_;rw[Around.under_plainId F.plain_sum_loop _];show Us _ A.in1 (seqItems? (.ref S) >>= _) _ _ s;refine Qf (wpAny_seqItems hSS rfl ?_);show Us _ A.in1 (tryCatch (pyNext (.ref I)) _ >>= _) _ _ s;have hl':s.heap.IsList l (rs.map λp=>Value.ref p.1).toArray:=by obtain⟨o,e,r⟩:=hl;exact⟨o,hK _ _ e,r⟩
  refine wpAny_bind (wpAny_tryCatch (wpAny_pyNext_list_item (x:=.ref (rs[i]'hlt).1) hit hl' (by simp[hlt]) λh' hit' sb=>?_));show Us _ A.in1 ((holding [Value.ref (rs[i]'hlt).1] (binaryOp .Add (.ref t) (.ref (rs[i]'hlt).1))).attempt >>= _) _ _ _;refine Qf (wpAny_attempt (Jy ?_));have hm:rs[i]'hlt∈rs:=JK hlt;have hd:rs.drop i=rs[i]'hlt::rs.drop (i+1):=QR hlt;have hK':Xh h0 h':=λb o e=>(sb.2 b (QL (QE (Qi e) hI))).trans (hK b o e)
  obtain⟨n1,e1⟩:=ht;have e1':=(sb.2 t htI).trans e1;obtain⟨n2,s2,e2⟩:=(hr _ hm).kept hK';have hSS':=(sb.2 S hIS).trans hSS;rw[hd,Qx,QM,Ql]at hz;refine concat_meets ⟨_,e1',rfl⟩ ⟨_,e2,rfl⟩ noFill_list_add seq_list_add PySem.F.slot_list_add PySem.F.entry_list_add (PySem.F.args_list_add_2 _ _) (list_addW t _ acc.toArray _ n1 n2 none none sl s2 (by rw[QG,QG];omega)) ⟨e1',e2,?_⟩;have hlS:S<h'.objs.size:=Qi hSS';have hlI:I<h'.objs.size:=by obtain⟨o,e,_⟩:=hit';exact Qi e
  have ea:acc.toArray++(rs[i]'hlt).2.toArray=(acc++(rs[i]'hlt).2).toArray:=by simp
  rw[ea];have hP:∀b o,h'.get? b=some o->(h'.push {cls:=Value.type "list", data:=Data.seq (acc++(rs[i]'hlt).2).toArray}).get? b=some o:=λb o e=>Qj _ e
  have hS1:=hP _ _ hSS';have hNew:(h'.push {cls:=Value.type "list", data:=Data.seq (acc++(rs[i]'hlt).2).toArray}).get? h'.objs.size=some {cls:=Value.type "list", data:=Data.seq (acc++(rs[i]'hlt).2).toArray}:=QD _ rfl;show Us _ A.in1 (updateSeq S (λ_=>#[.ref h'.objs.size]) >>= _) _ _ _;refine Qf (wpAny_updateSeq hS1 rfl ?_);have hS2:=Heap.get?_update_self (Obj.mapSeq λ_=>#[Value.ref h'.objs.size]) hS1 rfl;refine Qf (wpAny_letGo ?_);refine Qf (wpAny_updateSeq hS2 rfl (Qn ⟨plainId_quiet F.plain_sum_loop _,?_⟩));have oth:∀b o,b≠S->(h'.push {cls:=Value.type "list", data:=Data.seq (acc++(rs[i]'hlt).2).toArray}).get? b=some o->(((h'.push {cls:=Value.type "list", data:=Data.seq (acc++(rs[i]'hlt).2).toArray}).update S (Obj.mapSeq λx=>#[Value.ref h'.objs.size])).update S (Obj.mapSeq λx=>#[Value.ref h'.objs.size])).get? b=some o:=λb o hb e=>(Heap.get?_update_other _ _ (Ne.symm hb)).trans ((Heap.get?_update_other _ _ (Ne.symm hb)).trans e)
  refine ih (i+1) _ h'.objs.size (acc++(rs[i]'hlt).2) _ #[] (by omega) hlt ?_ ?_ (Heap.get?_update_self _ hS2 rfl) (JO hlS) (JO hlI) ?_ (by rw[Ql];omega) λp h'' tk sl' hk'' hp hq=>?_
  ·exact λb o e=>oth b o (QL (QE (Qi e) hS)) (hP b o (hK' b o e))
  ·obtain⟨o,e,r⟩:=hit';exact⟨o,oth I o (Ne.symm hIS) (hP I o e),r⟩
  ·exact⟨_,oth _ _ (JO hlS) hNew⟩
  ·refine hR p h'' tk sl' hk'' ?_ (.inr ?_)
   ·rw[hd,Qx,QM,←Jk];exact hp
   ·rcases hq with ⟨rfl, -,e⟩|hq
    ·exact⟨Nat.le_of_lt (Nat.lt_of_le_of_lt hS hlS),e⟩
    ·exact hq
end
section
variable{prog:Um}{w:World}{A:Around}{E:Uk->Ul->Prop}{s:Ul}{l z:Uo}{rs:List (Uo×List Uk)}
theorem B8(a b:Uk):argsOk "sum" ⟨[a,b],[]⟩:=by unfold argsOk;kernel_rfl
theorem A5{Q:Uk->Ul->Prop}(hh:A.handled=none)(hl:s.heap.IsList l (rs.map λp=>Value.ref p.1).toArray)(hr:∀p∈rs,Ls s.heap p.1 p.2)(hz:Ls s.heap z [])(hb:(rs.map (·.2)).flatten.length<=Ur)
  (h:∀p h' tk sl',Xh s.heap h'->Ls1 h' p (rs.map (·.2)).flatten sl'->(p=z/\rs=[]∨s.heap.objs.size<=p/\sl'=#[])->Q (.ref p) {s with heap:=h',toks:=tk}) :
  Us (model prog w) A (call (.builtin "sum") [.ref l,.ref z]) Q E s:=by
 refine call_function_tree F.kind_sum F.plain_sum F.entry_sum (B8 _ _) ?_;unfold Builtin.«sum»;simp only[QC,QN];rw[Qu (by decide)];refine Qf (wpAny_of_eq (show Builtin.Builtins.bindParams "sum" ["start"] 0 ⟨[.ref z],[]⟩=pure [some (.ref z)]from rfl) ?_);refine Qf (JH hl ?_);refine Qf (Qn ?_);obtain⟨n,sl,ez⟩:=id hz;have ty:∀h:Heap,h.get? z=some {cls:=.type "list", dict:=none,data:=.seq [].toArray n,slots:=sl}->({s with heap:=h}:Ul).TypeIs (.ref z) "list" :=λh e=>⟨_,e,rfl⟩
 have ez':(s.heap.push {cls:=.type "list_iterator", data:=.fields #[.ref l,.int 0 0]}).get? z=_:=Qj _ ez;simp only[List.forIn_cons,List.forIn_nil];refine Qf (Qf (Qf (wpAny_isInstance (T:= "list") (b:=false) (ty _ ez') F.sub_list_str ?_)));simp only[JY,if_false];refine Qn (Qf (Qf (wpAny_isInstance (T:= "list") (b:=false) (ty _ ez') F.sub_list_bytes ?_)));simp only[JY,if_false];refine Qn (Qf (Qf (wpAny_isInstance (T:= "list") (b:=false) (ty _ ez') F.sub_list_bytearray ?_)));simp only[JY,if_false];refine Qn (Qn ?_);refine Qf (wpAny_newObj_type ?_);have hzs:=Qi ez;have s1:(s.heap.push {cls:=.type "list_iterator", data:=.fields #[.ref l,.int 0 0]}).objs.size=s.heap.objs.size+1:=Heap.size_push ..;have k2:Xh s.heap ((s.heap.push {cls:=.type "list_iterator", data:=.fields #[.ref l,.int 0 0]}).push {cls:=.type "list", data:=.seq #[.ref z]}):=λb o e=>Qj _ (Qj _ e)
 refine Qn ⟨plainId_quiet F.plain_sum_loop _,A6 (h0:=s.heap) (l:=l) (I:=s.heap.objs.size) (S:=(s.heap.push {cls:=.type "list_iterator", data:=.fields #[.ref l,.int 0 0]}).objs.size) (rs:=rs) hh (Qv _) (by rw[s1];exact JV _) (by rw[s1];exact Nat.succ_ne_self _) hl hr rs.length 0 _ z [] 0 sl rfl (Ua _)
  k2 ⟨_,Heap.get?_push_of_some _ (Heap.get?_push_size _ rfl),rfl,rfl⟩ (Heap.get?_push_size _ rfl) (by rw[s1];exact Nat.ne_of_lt (Nat.lt_succ_of_lt hzs)) (Nat.ne_of_lt hzs) ⟨n,k2 _ _ ez⟩ (by simpa using hb) λp h' tk sl' hk hp hq=>?_⟩
 exact h p h' tk sl' hk (by simpa using hp) (hq.imp (λe=>⟨e.1,List.eq_nil_of_length_eq_zero e.2.1.symm⟩) id)
end
section
variable{X:Cx}{pins:List (Uo×Obj)}{σ:St}{H:Hp}{s:Ul}
theorem NZ(I:Inv X pins σ H s):∀{rs:List (Uo×List V)},(∀p∈rs,SqL X.K H p.1 p.2) ->
  ∃ts:List (Uo×List Uk),(ts.map λp=>Value.ref p.1)=(rs.map λp=>Value.ref p.1)/\(∀p∈ts,Ls s.heap p.1 p.2)/\Vals (rs.map (·.2)).flatten (ts.map (·.2)).flatten
 |[],_=>⟨[],rfl,(λ_ h=>by cases h),(show Vals [] []from Paired.nil)⟩
 |p::rs,h=>by
  obtain⟨ts,e,hl,hv⟩:=NZ I λq hq=>h q (Qk _ hq)
  obtain⟨its,rv,⟨⟨c1,d1,t1,sl⟩,n,e1,ec,ed,et⟩,z⟩:=I.list (h p (Qo ..));simp only at ec ed et;subst ec ed et;refine⟨(p.1,its)::ts,by rw[Qx,Qx,e],λq hq=>?_,?_⟩
  ·rcases QO.1 hq with rfl|hq
   ·exact⟨n,sl,e1⟩
   ·exact hl q hq
  ·rw[Qx,Qx,QM,QM];exact rv.append hv
theorem LJ:∀{as:List Uo}{us:List Uk},Vals (as.map V.ref) us->us=as.map Value.ref
 |[],_,.nil=>rfl
 |a::as,_,.cons h t=>by cases h;rw[LJ t];rfl
theorem B7(hc:X.calm=true):YF X (.builtin "sum") (λxs H Q=>∃l z,∃rs:List (Uo×List V),xs=[.ref l,.ref z]/\SqL X.K H l (rs.map λp=>V.ref p.1)/\(∀p∈rs,SqL X.K H p.1 p.2)/\SqL X.K H z []/\(rs.map (·.2)).flatten.length<=Ur /\
  (rs=[]->Q (.ref z) H)/\∀p,H p=none->Q (.ref p) (upd H p (.lst (rs.map (·.2)).flatten))):=by
 intro pins s σ H xs us Q I rx h;obtain⟨l,z,rs,rfl,hq,hr,hz,hb,q0,q⟩:=h;obtain⟨u,u',rfl,ru,ru'⟩:=Pc rx;cases ru;cases ru';obtain⟨its,rv,pl, -⟩:=I.list hq;obtain⟨ts,e,hl,hv⟩:=NZ I hr;have ei:its=ts.map λp=>Value.ref p.1:=by rw[e];have:=LJ (as:=rs.map (·.1)) (us:=its) (by rw[Q4];exact rv);rw[this,Q4];rfl
 subst ei;obtain⟨zi,rz,⟨⟨c1,d1,t1,sl⟩,n,e1,ec,ed,et⟩, -⟩:=I.list hz;cases rz;simp only at ec ed et;subst ec ed et;have hlen:=hv.length;refine A5 (I.ok.hd hc) pl.isList hl ⟨n,sl,e1⟩ (by omega) λp h' tk sl' hk hp hq=>?_
 rcases hq with ⟨rfl,rfl⟩|⟨hp',rfl⟩
 ·have hr0:rs=[]:=by
   cases rs with
   |nil=>rfl
   |cons a b=>cases e
  exact⟨.ref _,H,I.kept hk,rfl,q0 hr0⟩
 ·obtain⟨m,ep⟩:=hp;exact⟨.ref p,_,I.laid (t':=tk) hk hp' (show Yb X.prog X.w _ h' _ (.lst _)from⟨hb,_,m,hv,ep⟩),rfl,q p (I.hok.fresh hp')⟩
def Wd:List D->Option (List (List D))
 |[]=>some []
 |.list xs::r=>(Wd r).map (xs :: ·)
 |_=>none
theorem LV{K:Frag}{G:Hp}:∀{vs:List V}{ds:List D}{ls:List (List D)},Reps K G vs ds->Wd ds=some ls ->
  ∃rs:List (Uo×List V),vs=(rs.map λp=>V.ref p.1)/\(∀p∈rs,SqL K G p.1 p.2)/\Reps K G (rs.map (·.2)).flatten ls.flatten/\rs.length=ls.length
 |_,_,ls,.nil,e=>by cases e;exact⟨[],rfl,(λ_ h=>by cases h),.nil,rfl⟩
 |_,_,ls,.cons (d:=d) r t,e=>by
  cases d with
  |list xs=>
   unfold Wd at e;cases z:Wd _ with
   |none=>rw[z]at e;cases e
   |some cs=>
    rw[z]at e;cases e;obtain⟨rs,rfl,h1,h2,h3⟩:=LV t z;obtain⟨a,ws,rfl,h,rr⟩:=r.lst_inv;refine⟨(a,ws)::rs,rfl,λp hp=>?_,?_,congrArg (· + 1) h3⟩
    ·rcases QO.1 hp with rfl|hp
     ·exact h
     ·exact h1 p hp
    ·rw[Qx,QM,QM];exact rr.append h2
  |_=>cases e
theorem A4(ls:List (List D)):Wd (ls.map Ux)=some ls:=by
 induction ls with
 |nil=>rfl
 |cons b r ih=>rw[Qx,Wd,ih];rfl
def TX:List D->Option D
 |[.list ds,.list []]=>(match Wd ds with
  |some ls=>if ls.flatten.length<=1000000 then some (.list ls.flatten)else none
  |none=>none)
 |_=>none
theorem B6{xs:List D}{d:D}(h:TX xs=some d):∃ds ls,xs=[.list ds,.list []]/\Wd ds=some ls/\ls.flatten.length<=1000000/\d=.list ls.flatten:=by
 unfold TX at h;split at h
 ·rename_i ds;cases z:Wd ds with
  |none=>rw[z]at h;cases h
  |some ls=>
   rw[z]at h;dsimp only at h;split at h
   ·rename_i c;cases h;exact⟨ds,ls,rfl,z,c,rfl⟩
   ·cases h
 ·cases h
theorem Gz(hc:X.calm=true):YX X (.builtin "sum") TX:=by
 refine⟨_,B7 hc,λvs G H ds d Q s r e k=>?_⟩;obtain⟨ds,ls,rfl,z,c,rfl⟩:=B6 e;obtain⟨v,v',rfl,q1,q2⟩:=r.two_inv;obtain⟨l,ws,rfl,h1,r1⟩:=q1.lst_inv;obtain⟨a,ws2,rfl,h2,r2⟩:=q2.lst_inv;have:=r2.nil_inv;subst this;obtain⟨rs,rfl,g1,g2,g3⟩:=LV r1 z;refine⟨l,a,rs,rfl,s.seq h1,λp hp=>s.seq (g1 p hp),s.seq h2,?_,λe0=>?_,λp hp=>?_⟩
 ·rw[g2.length];exact QP c lim
 ·subst e0;have:ls=[]:=List.eq_nil_of_length_eq_zero g3.symm;subst this;exact k _ G H (.refl s) (.lst h2 .nil)
 ·exact k _ _ _ (.new s hp) (.lst (SqL.of Zu) (g2.mono (Zt (s.free hp))))
end
section
variable{X:Cx}
def Yj(ns:List Int):List Int:=ns.mergeSort λa b=>decide (a<=b)
theorem XB(ns:List Int):(Yj ns).Perm ns:=List.mergeSort_perm ..
theorem Lh(ns:List Int):(Yj ns).Pairwise (· <= ·):=by have:=List.pairwise_mergeSort (le:=λa b:Int=>decide (a<=b)) (by intro a b c;simp;omega) (by intro a b;simp;omega) ns;exact this.imp (by simp)
theorem NY:∀{a b:List Int},a.Perm b->a.Pairwise (· <= ·)->b.Pairwise (· <= ·)->a=b
 |[],b,p,_,_=>by rw[List.nil_perm.1 p]
 |x::a,[],p,_,_=>by have:=p.length_eq;simp at this
 |x::a,y::b,p,ha,hb=>by
  have hx:y<=x:=by
   rcases QO.1 (p.mem_iff.1 (Qo ..))with e|e
   ·exact Int.le_of_eq e.symm
   ·exact(Ju.1 hb).1 x e
  have hy:x<=y:=by
   rcases QO.1 (p.mem_iff.2 (Qo ..))with e|e
   ·exact Int.le_of_eq e.symm
   ·exact(Ju.1 ha).1 y e
  have e:=J4 hy hx;subst e;rw[NY (List.Perm.cons_inv p) (Ju.1 ha).2 (Ju.1 hb).2]
theorem Lg:∀{us:List Uk}{ns:List Int},PyProof.Rows.IntsAre us ns->Vals (ns.map V.int) us
 |_,_,.nil=>Paired.nil
 |_,_,.cons n t h=>Paired.cons ⟨t,rfl⟩ (Lg h)
theorem A3:YF X (.builtin "sorted") (λxs H Q=>∃l,∃ns:List Int,xs=[.ref l]/\SqL X.K H l (ns.map V.int)/\ns.length<64/\∀p,H p=none->Q (.ref p) (upd H p (.lst ((Yj ns).map V.int)))):=by
 intro pins s σ H xs us Q I rx h;obtain⟨l,ns,rfl,hq,hb,q⟩:=h;obtain⟨u,rfl,ru⟩:=rx.one;cases ru;obtain⟨its,rv,p,hz⟩:=I.list hq;have hi:=Vk rv;have hn:its.length=ns.length:=by have:=rv.length;rw[Qb]at this;omega
 refine sorted_ints p.isList hi (by omega) λout ns' a1 a2 a3=>?_
 obtain⟨e,he⟩:=sortedAll_at s.heap its out;have en:ns'=Yj ns:=NY (a2.trans (XB ns).symm) a3 (Lh ns);subst en;refine⟨.ref (s.heap.objs.size+1),_,I.laid (t':=s.toks) (λb o=>sortedAll_old) (JV _) (show Yb X.prog X.w _ _ _ (.lst ((Yj ns).map V.int))from⟨?_,out.toList,e,Lg a1,he⟩),rfl,q _ (I.hok.fresh (JV _))⟩;rw[Qb,(XB ns).length_eq];rw[Qb]at hz;exact hz
def Vr:List D->Option D
 |[.list ds]=>(match ZV ds with
  |some ns=>if ns.length<64 then some (.list ((Yj ns).map .int))else none
  |none=>none)
 |_=>none
theorem A2{xs:List D}{d:D}(h:Vr xs=some d):∃ds ns,xs=[.list ds]/\ZV ds=some ns/\ns.length<64/\d=.list ((Yj ns).map .int):=by
 unfold Vr at h;split at h
 ·rename_i ds;cases z:ZV ds with
  |none=>rw[z]at h;cases h
  |some ns=>
   rw[z]at h;dsimp only at h;split at h
   ·rename_i c;cases h;exact⟨ds,ns,rfl,z,c,rfl⟩
   ·cases h
 ·cases h
theorem Lf{K:Frag}{G:Hp}:∀ns:List Int,Reps K G (ns.map V.int) (ns.map int)
 |[]=>.nil
 |n::r=>.cons (.int n) (Lf r)
theorem E6:YX X (.builtin "sorted") Vr:=by refine⟨_,A3,λvs G H ds d Q s r e k=>?_⟩;obtain⟨ds,ns,rfl,z,c,rfl⟩:=A2 e;obtain⟨v,rfl,q1⟩:=r.one_inv;obtain⟨l,ws,rfl,h1,r1⟩:=q1.lst_inv;have:=VD r1 z;subst this;exact⟨l,ns,rfl,s.seq h1,c,λp hp=>k _ _ _ (.new s hp) (.lst (SqL.of Zu) (Lf _))⟩
theorem B5{ns:List Int}(h:ns.length<64):Vr [.list (ns.map .int)]=some (.list ((Yj ns).map .int)):=by unfold Vr;simp only[VH,Qm h]
end
@[simp] theorem mBind_ok{α β:Type}{f:M α}{k:α->M β}{Z Z':UG}{x:α}(h:f Z=.ok x Z'):U6 f k Z=k x Z':=by unfold U6;rw[h]
theorem Le{s:D->UG->Option UG}{g:SM}{P:Nat->UG->Prop}{R:Out->Prop}:∀(ds:List D)(n:Nat)(Z:UG),P n Z ->
  (∀i d Z,ds[i]?=some d->P (n+i) Z->∃Z1,s d Z=some Z1/\((∃Z2,(g Z1=.nx Z2∨g Z1=.ct Z2)/\P (n+i+1) Z2)∨(∃x,g Z1=.rt x/\R (.rt x))∨(∃Z2,g Z1=.bk Z2/\R (.nx Z2)) ∨ ∃Z2 x,g Z1=.ex Z2 x/\R (.ex Z2 x)))->(∀Z,P (n+ds.length) Z->R (.nx Z))->R (WY s g ds Z)
 |[],n,Z,h,_,f=>f Z h
 |d::r,n,Z,h,st,f=>by
  obtain⟨Z1,e1,e2⟩:=st 0 d Z rfl h;rw[WY,e1];dsimp only;rcases e2 with ⟨Z2,e2,h2⟩|⟨x,e2,h2⟩|⟨Z2,e2,h2⟩|⟨Z2,x,e2,h2⟩
  ·have goal:=Le (R:=R) r (n+1) Z2 h2 (λi d' Z3 q p=>by
    have e:n+1+i=n+(i+1):=by omega
    rw[e]at p⊢;exact st (i+1) d' Z3 (by simpa using q) p) (λZ3 p=>f Z3 (by
    have e:n+1+r.length=n+(d::r).length:=by rw[QC];omega
    rw[e]at p;exact p))
   rcases e2 with e2|e2<;>(rw[e2];exact goal)
  ·rw[e2];exact h2
  ·rw[e2];exact h2
  ·rw[e2];exact h2
theorem VG{lo hi:Int}{i:Nat}{d:D}(h:(ZW lo hi)[i]?=some d):d=.int (lo+i)/\(i:Int)<hi-lo:=by have hl:i<(ZW lo hi).length:=(Qg.mp h).1;rw[X7]at hl;unfold ZW at h;rw[Qe,Qd (by rw[Qq];exact hl),JW]at h;cases h;exact⟨rfl,by omega⟩
theorem Gy{α:Type}{xs:List α}{i:Int}{v:α}(h0:0<=i)(h:xs[i.toNat]?=some v):atI xs i=some v:=by have:=ZB (xs:=xs) (j:=i.toNat) h;rw[Int.toNat_of_nonneg h0]at this;exact this
section
variable{α β:Type}{Z Z1 Z2 Z3 Z':UG}{f g h:M D}
theorem UU{a:α}:UN a Z=.ok a Z:=rfl
theorem UT:UH Z=.ok [] Z:=rfl
theorem Yi{o:Option α}{a:α}(h:o=some a):U9 o Z=.ok a Z:=by subst h;rfl
theorem KT{f:M α}{k:α->M β}{x:α}{r:Res β}(h:f Z=.ok x Z1)(h2:k x Z1=r):U6 f k Z=r:=by unfold U6;rw[h];exact h2
theorem Kx{f:M α}{k:α->β}{x:α}(h:f Z=.ok x Z1):UW k f Z=.ok (k x) Z1:=by unfold UW U6;rw[h];rfl
theorem UK{i:Nat}{d:D}(h:Z[i]?=some (some (.pub d))):UA i Z=.ok d Z:=by unfold UA;rw[h]
theorem Yl{i:Nat}{ds:List D}(h:Z[i]?=some (some (.own ds)))(h2:Z.set i (some (.pub (.list ds)))=Z'):UA i Z=.ok (.list ds) Z':=by unfold UA;rw[h];subst h2;rfl
theorem U2{op:D->D->Option β}{x y:D}{r:β}(h1:f Z=.ok x Z1)(h2:g Z1=.ok y Z2)(h3:op x y=some r):UO op f g Z=.ok r Z2:=by unfold UO;exact KT h1 (KT h2 (Yi h3))
theorem UM{g:M (List D)}{x:D}{xs:List D}(h1:f Z=.ok x Z1)(h2:g Z1=.ok xs Z2):UL f g Z=.ok (x::xs) Z2:=by unfold UL;exact KT h1 (KT h2 rfl)
theorem YT{g:M (List D)}{xs:List D}(h1:g Z=.ok xs Z1)(h2:xs.length<=1000000):Ku g Z=.ok (.tuple xs) Z1:=by unfold Ku;exact KT h1 (by rw[Qm h2];rfl)
theorem ZI{g:M (List D)}{xs:List D}(h1:g Z=.ok xs Z1)(h2:xs.length<=1000000):Ks g Z=.ok (.list xs) Z1:=by unfold Ks;exact KT h1 (by rw[Qm h2];rfl)
theorem Va{g:M (List D)}{xs:List D}(h1:g Z=.ok xs Z1)(h2:xs.length<=1000000):(U6 g λxs=>if xs.length<=1000000 then UN xs else λ_=>.bad) Z=.ok xs Z1:=
 KT h1 (by rw[Qm h2];rfl)
theorem KH{i:Nat}{d y r:D}(h:Z[i]?=some (some (.pub d)))(h1:g Z=.ok y Z1)(h2:oIx d y=some r):UZ i g Z=.ok r Z1:=by unfold UZ;rw[h];exact KT h1 (Yi h2)
theorem Rx{i:Nat}{ds es:List D}{y r:D}(h:Z[i]?=some (some (.own ds)))(h1:g Z=.ok y Z1)(h3:Z1[i]?=some (some (.own es)))(h2:oIx (.list es) y=some r):UZ i g Z=.ok r Z1:=by unfold UZ;rw[h];exact KT h1 (by rw[h3];exact Yi h2)
theorem ZO{p:List D->Option D}{g:M (List D)}{xs:List D}{r:D}(h1:g Z=.ok xs Z1)(h2:p xs=some r):Zo p g Z=.ok r Z1:=by unfold Zo;exact KT h1 (Yi h2)
theorem Kj{n:Nat}{F:List D->Option D}{g:M (List D)}{xs:List D}{r:D}(h1:g Z=.ok xs Z1)(h2:xs.length=n)(h3:F xs=some r):US n F g Z=.ok r Z1:=by unfold US;exact KT h1 (by rw[Qm h2];exact Yi h3)
theorem Y2{i:Int}(h1:f Z=.ok (.int i) Z1):Ze f Z=.ok (.int (-i)) Z1:=by unfold Ze;exact KT h1 rfl
theorem Zs{i:Nat}{d r:D}(h:Z[i]?=some (some (.pub d)))(h2:Kb [d]=some r):K9 i Z=.ok r Z:=by unfold K9;rw[h];exact Yi h2
theorem E5{i:Nat}{ds:List D}(h:Z[i]?=some (some (.own ds))):K9 i Z=.ok (.int ds.length) Z:=by unfold K9;rw[h]
theorem W9{g:M (List D)}{i:Int}{r:List D}(h1:g Z=.ok [.int i] Z1)(h2:TW [.int i]=some r):Xv g Z=.ok r Z1:=by unfold Xv;exact KT h1 (Yi h2)
theorem E4{g:M (List D)}{i j:Int}{r:List D}(h1:g Z=.ok [.int i,.int j] Z1)(h2:TV [.int i,.int j]=some r):Rf g Z=.ok r Z1:=by unfold Rf;exact KT h1 (Yi h2)
theorem Xs{g:M (List D)}{xs r:List D}(h1:g Z=.ok xs Z1)(h2:Sv xs=some r):YB g Z=.ok r Z1:=by unfold YB;exact KT h1 (Yi h2)
theorem Y4{i:Int}(h1:f Z=.ok (.int i) Z1):(U6 f λx=>U9 (YE x)) Z=.ok (some i) Z1:=KT h1 rfl
theorem Y1{f:M Bool}{t:Bool}(h1:f Z=.ok t Z1):KP f Z=.ok (!t) Z1:=Kx h1
theorem XA{t:Bool}(h1:f Z=.ok (.bool t) Z1):ZX f Z=.ok t Z1:=by unfold ZX;exact KT h1 rfl
theorem Gx{f g:M Bool}{t u:Bool}(h1:f Z=.ok t Z)(h2:t=true->g Z=.ok u Z):Zd f g Z=.ok (t&&u) Z:=by
 unfold Zd;refine KT h1 ?_;cases t with
 |true=>rw[Qm rfl];exact h2 rfl
 |false=>rfl
theorem RF{t u:Bool}(h1:f Z=.ok (.bool t) Z)(h2:t=true->g Z=.ok (.bool u) Z):Vp f g Z=.ok (.bool (t&&u)) Z:=by
 unfold Vp;refine KT h1 ?_;cases t with
 |true=>exact h2 rfl
 |false=>rfl
theorem Rw{t u:Bool}(h1:f Z=.ok (.bool t) Z)(h2:t=false->g Z=.ok (.bool u) Z):Xc f g Z=.ok (.bool (t || u)) Z:=by
 unfold Xc;refine KT h1 ?_;cases t with
 |false=>exact h2 rfl
 |true=>rfl
theorem NX{t:Bool}(h1:f Z=.ok (.bool t) Z1):Su f Z=.ok (.bool (!t)) Z1:=by unfold Su;exact KT h1 rfl
theorem Ni{f:M Bool}{g h:M α}{r:Res α}(h1:f Z=.ok true Z1)(h2:g Z1=r):mIf f g h Z=r:=by unfold mIf;exact KT h1 (by rw[Qm rfl];exact h2)
theorem Pl{f:M Bool}{g h:M α}{r:Res α}(h1:f Z=.ok false Z1)(h2:h Z1=r):mIf f g h Z=r:=by unfold mIf;exact KT h1 (by rw[Qu (by decide)];exact h2)
theorem HB{f:M Bool}{g h:M α}{t:Bool}{x y:α}(h1:f Z=.ok t Z1)(h2:g Z1=.ok x Z1)(h3:h Z1=.ok y Z1):mIf f g h Z=.ok (if t=true then x else y) Z1:=by
 unfold mIf;refine KT h1 ?_;cases t with
 |true=>rw[Qm rfl,Qm rfl];exact h2
 |false=>rw[Qu (by decide),Qu (by decide)];exact h3
theorem P8{p q:D->D->Option Bool}{x y z:D}{t u:Bool}(h1:f Z=.ok x Z)(h2:g Z=.ok y Z)(h3:p x y=some t)(h4:t=true->h Z=.ok z Z)(h5:t=true->q y z=some u):Vt p q f g h Z=.ok (t&&u) Z:=by
 unfold Vt;refine KT h1 (KT h2 (KT (Yi h3) ?_));cases t with
 |true=>rw[Qm rfl];exact KT (h4 rfl) (Yi (h5 rfl))
 |false=>rfl
theorem Zp{i j:Int}:U0 (.int i) (.int j)=some (.int (i+j)):=rfl
theorem Xz{x y:List D}(h:x.length+y.length<=1000000):U0 (.list x) (.list y)=some (.list (x++y)):=by unfold U0;exact Qm h
theorem YC{i j:Int}:KZ (.int i) (.int j)=some (.int (i-j)):=rfl
theorem S9{i j:Int}(h1 : -18446744073709551616<i)(h2:i<18446744073709551616):Kr (.int i) (.int j)=some (.int (i*j)):=by unfold Kr Yd;exact Qm (.inl ⟨by omega,by omega⟩)
theorem Sj{i j:Int}(h1 : -18446744073709551616<j)(h2:j<18446744073709551616):Kr (.int i) (.int j)=some (.int (i*j)):=by unfold Kr Yd;exact Qm (.inr ⟨by omega,by omega⟩)
theorem RZ{x:List D}{k:Int}(h : -1000000<=k/\k<=1000000/\x.length*k.toNat<=1000000):Kr (.list x) (.int k)=some (.list (Uw k.toNat x).flatten):=by unfold Kr;exact Qm h
theorem Vz{i j:Int}(h:0<j):Yc (.int i) (.int j)=some (.int (i % j)):=by unfold Yc Wn;exact Qm h
theorem NW{i j:Int}(h:0<j)(h2:j<18446744073709551616):XI (.int i) (.int j)=some (.int (i / j)):=by unfold XI Wo;exact Qm ⟨h,h2⟩
theorem E3{i j:Int}(h:0<=j/\j<=1000000/\i.natAbs<2 ^ 64):XG (.int i) (.int j)=some (.int (i ^ j.toNat)):=by unfold XG Wm;exact Qm h
theorem Rv{p:Int->Int->Bool}{i j:Int}:oIB p (.int i) (.int j)=some (p i j):=rfl
theorem Wa{i j:Int}:oEq (.int i) (.int j)=some (decide (i=j)):=by unfold oEq;rw[if_pos ⟨rfl,rfl,by simp[UC]⟩];congr 1
theorem Zh{xs:List D}:Kb [.list xs]=some (.int xs.length):=rfl
theorem NV{i j:Int}:Sw [.int i,.int j]=some (.int (if j > i then j else i)):=rfl
theorem Vi{j:Int}(h1:j<=1000000)(h2 : -1000000<=j):TW [.int j]=some (ZW 0 j):=by unfold TW;exact Qm ⟨h1,h2⟩
theorem CB{i j:Int}(h1:j<=1000000)(h2 : -1000000<=j)(h3:i<=1000000)(h4 : -1000000<=i):TV [.int i,.int j]=some (ZW i j):=by unfold TV;exact Qm ⟨h1,h2,h3,h4⟩
theorem Xr{xs:List D}:Sv [.list xs]=some (Z8 0 xs):=rfl
theorem KR{i:Nat}{d:D}(h1:f Z=.ok d Z1)(h2:i<Z1.length)(h3:Z1.set i (some (.pub d))=Z'):U8 i f Z=.nx Z':=by unfold U8 Zx sB gN;rw[h1];dsimp only;rw[if_pos h2];subst h3;rfl
theorem Z7{i:Nat}{f:M (List D)}{ds:List D}(h1:f Z=.ok ds Z1)(h2:i<Z1.length)(h3:Z1.set i (some (.own ds))=Z'):K4 i f Z=.nx Z':=by unfold K4 sB;rw[h1];dsimp only;rw[if_pos h2];subst h3;rfl
theorem X3{i:Nat}{d:D}{ds0 ds:List D}(h0:Z[i]?=some (some (.own ds0)))(h1:f Z=.ok d Z1)(h2:Z1[i]?=some (some (.own ds)))(h3:ds.length<1000000)(h4:Z1.set i (some (.own (ds++[d])))=Z'):ZG i f Z=.nx Z':=by unfold ZG sB;rw[h0];dsimp only;rw[h1];dsimp only;rw[h2];dsimp only;rw[if_pos h3];subst h4;rfl
theorem W5{d:D}{s:D->UG->Option UG}(h1:f Z=.ok d Z1)(h2:s d Z1=some Z'):Zx f s Z=.nx Z':=by unfold Zx sB;rw[h1];dsimp only;rw[h2]
theorem W8{d:D}(h1:f Z=.ok d Z1):Xw f Z=.nx Z1:=by unfold Xw sB;rw[h1]
theorem UR{i:Nat}{d:D}(h:i<Z.length)(h2:Z.set i (some (.pub d))=Z'):gN i d Z=some Z':=by unfold gN;rw[Qm h,h2]
theorem Kq:gN0 [] Z=some Z:=rfl
theorem UX{s:D->UG->Option UG}{t:List D->UG->Option UG}{d:D}{r:List D}(h1:s d Z=some Z1)(h2:t r Z1=some Z'):gNC s t (d::r) Z=some Z':=by unfold gNC;dsimp only;rw[h1];exact h2
theorem Kt{n:Nat}{t:List D->UG->Option UG}{ds:List D}(h1:ds.length=n)(h2:t ds Z=some Z'):gT n t (.tuple ds) Z=some Z':=by unfold gT;dsimp only;rw[if_pos h1];exact h2
structure Ho(g:SM)(Z:UG)(Q:Out->Prop):Prop where
 out:Q (g Z)
def HA(h:SM)(Q:Out->Prop):Out->Prop
 |.nx Z'=>Ho h Z' Q
 |o=>Q o
structure Pa(h:SM)(Q:Out->Prop)(o:Out):Prop where
 out:HA h Q o
variable{Q:Out->Prop}{s t u:SM}
theorem Kz(h:Ho s Z (Pa t Q)):Ho (UP s t) Z Q:=by
 have h:=h.out.out;constructor;unfold UP;cases e:s Z with
 |nx o=>rw[e]at h;exact h.out
 |_=>rw[e]at h;exact h
theorem Ki(h1:s Z=.nx Z1)(h2:Ho t Z1 Q):Ho (UP s t) Z Q:=by
 constructor;unfold UP;rw[h1];exact h2.out
theorem ZA{o:Out}(h1:s Z=o)(h2:Q o):Ho s Z Q:=by constructor;rw[h1];exact h2
theorem KU(h:Q (.nx Z)):Ho sNx Z Q:=⟨h⟩
theorem KB{o:UG}(h:Ho t o Q):Pa t Q (.nx o):=⟨h⟩
theorem Vx{d:D}(h:Q (.rt d)):Pa t Q (.rt d):=⟨h⟩
theorem Kw{f:M Bool}{b:Bool}(h1:f Z=.ok b Z1)(h2:b=true->Ho s Z1 Q)(h3:b=false->Ho t Z1 Q):Ho (sIf f s t) Z Q:=by
 constructor;unfold sIf sB;rw[h1];dsimp only
 cases b with
 |true=>rw[Qm rfl];exact(h2 rfl).out
 |false=>rw[Qu (by decide)];exact(h3 rfl).out
theorem Kv{d:D}(h1:f Z=.ok d Z1)(h2:Q (.rt d)):Ho (UY f) Z Q:=by constructor;unfold UY sB;rw[h1];exact h2
theorem E2{P:Out->Prop}(h:Ho s Z P)(k:∀o,P o->Q o):Ho s Z Q:=⟨k _ h.out⟩
def Hz(I:UG->Prop)(Q:Out->Prop):Out->Prop
 |.nx Z | .ct Z=>I Z
 |.bk Z=>Q (.nx Z)
 |.rt d=>Q (.rt d)
 |.ex Z d=>Q (.ex Z d)
 |.bad=>False
structure Vn(I:UG->Prop)(Q:Out->Prop)(o:Out):Prop where
 out:Hz I Q o
theorem K5{I:UG->Prop}(h:I Z):Vn I Q (.nx Z):=⟨h⟩
theorem S8{I:UG->Prop}{d:D}(h:Q (.rt d)):Vn I Q (.rt d):=⟨h⟩
theorem Zv{f:M (List D)}{tg:D->UG->Option UG}{ds:List D}(I:Nat->UG->Prop)(h1:f Z=.ok ds Z1)(h0:I 0 Z1)
  (hst:∀i d Z,ds[i]?=some d->I i Z->∃Z2,tg d Z=some Z2/\Ho s Z2 (Vn (I (i+1)) Q)) (hend:∀Z,I ds.length Z->Q (.nx Z)):Ho (Kn f tg s) Z Q:=by
 constructor;unfold Kn sB;rw[h1];dsimp only
 refine Le (P:=I) (R:=Q) ds 0 Z1 h0 (λi d Z e p=>?_) (λZ p=>hend Z (by rw[QS]at p;exact p));rw[QS]at p;obtain⟨Z2,e2,q⟩:=hst i d Z e p;refine⟨Z2,e2,?_⟩;rw[QS];have q:=q.out.out;cases z:s Z2 with
 |nx o=>rw[z]at q;exact .inl ⟨o,.inl rfl,q⟩
 |ct o=>rw[z]at q;exact .inl ⟨o,.inr rfl,q⟩
 |rt o=>rw[z]at q;exact .inr (.inl ⟨o,rfl,q⟩)
 |bk o=>rw[z]at q;exact .inr (.inr (.inl ⟨o,rfl,q⟩))
 |ex o x=>rw[z]at q;exact .inr (.inr (.inr ⟨o,x,rfl,q⟩))
 |bad=>rw[z]at q;exact q.elim
theorem W4{N:List Str}{ds:List D}{P:D->Prop}(h0:Y5 N ds=Z)(h:Ho s Z λo=>∃d,o=.rt d/\P d):∃d,U5 N s ds=some d/\P d:=by subst h0;obtain⟨d,e,p⟩:=h.out;refine⟨d,?_,p⟩;unfold U5;rw[e]
theorem K7{N:List Str}{ds:List D}{d:D}(h0:Y5 N ds=Z)(h:Ho s Z λo=>o=.rt d):U5 N s ds=some d:=by obtain⟨d',e,p⟩:=W4 (P:=λx=>x=d) h0 (E2 h λo e=>⟨d,e,rfl⟩);rw[e,p]
end
section
variable{α β:Type}{Z Z1 Z2 Z3 Z':UG}{f g h:M D}
theorem W3{l u:M (Option Int)}{x r:D}{a b:Option Int}(h1:f Z=.ok x Z1)(h2:l Z1=.ok a Z2)(h3:u Z2=.ok b Z3)(h4:YA x a b=some r):ZT f l u Z=.ok r Z3:=by unfold ZT;exact KT h1 (KT h2 (KT h3 (Yi h4)))
theorem X2{f g:M Bool}{u:Bool}(h1:f Z=.ok false Z1)(h2:g Z1=.ok u Z2):mOr f g Z=.ok u Z2:=by unfold mOr;exact KT h1 (by rw[Qu (by decide)];exact h2)
theorem RE{f g:M Bool}(h1:f Z=.ok false Z1):Zd f g Z=.ok false Z1:=by unfold Zd;exact KT h1 rfl
theorem RD{f g:M Bool}{u:Bool}(h1:f Z=.ok true Z1)(h2:g Z1=.ok u Z2):Zd f g Z=.ok u Z2:=by unfold Zd;exact KT h1 (by rw[Qm rfl];exact h2)
theorem Vh{c:String}{d:D}{t:Bool}(h:f Z=.ok d Z1)(ht:(!KF d c)=t):KP (ZX (UW (λd=>.bool (KF d c)) f)) Z=.ok t Z1:=by subst ht;exact Y1 (XA (Kx (k:=λd=>Uy (KF d c)) h))
theorem Zj{x:D}{r:List D}(h1:f Z=.ok x Z1)(h2:Py x=some r):KS f Z=.ok r Z1:=by unfold KS;exact KT h1 (Yi h2)
theorem Z6{p:D->D->Option β}{i:Nat}{d y:D}{r:β}(h:Z[i]?=some (some (.pub d)))(h1:g Z=.ok y Z1)(h2:p d y=some r):Zi p i g Z=.ok r Z1:=by unfold Zi;rw[h];exact KT h1 (Yi h2)
theorem CA{p:D->D->Option β}{i:Nat}{ds es:List D}{y:D}{r:β}(h:Z[i]?=some (some (.own ds)))(h1:g Z=.ok y Z1)(h3:Z1[i]?=some (some (.own es)))(h2:p (.list es) y=some r):Zi p i g Z=.ok r Z1:=by unfold Zi;rw[h];exact KT h1 (by rw[h3];exact Yi h2)
theorem Yk{f:M (List D)}{k:Nat}{s:D->UG->Option UG}{t:M Bool}{ds es:List D}(h1:f Z=.ok ds Z1)(h2:K0 s t g ds (Kf Z1++Uw k none) []=some es):Zr f k s t g Z=.ok es Z1:=by unfold Zr;rw[h1];dsimp only;rw[h2]
theorem Se{s:D->UG->Option UG}{t:M Bool}(p:D->Bool)(q:D->D)(I:UG->Prop):∀(ds:List D)(Z:UG)(es:List D),(∀d∈ds,∀Z,I Z->∃Z1,s d Z=some Z1/\t Z1=.ok (p d) Z1/\(p d=true->g Z1=.ok (q d) Z1)/\I (Kf Z1))->I Z->es.length+ds.length<=1000000 ->
  K0 s t g ds Z es=some (es++(ds.filter p).map q)
 |[],Z,es,_,_,_=>by rw[K0];simp
 |d::r,Z,es,st,h0,hz=>by
  obtain⟨Z1,e1,e2,e3,h1⟩:=st d Qo Z h0;have ih:=λes' hz'=>Se p q I r (Kf Z1) es' (λd' hd=>st d' (Qk _ hd)) h1 hz';rw[QC]at hz;rw[K0,e1];dsimp only;rw[e2];dsimp only
  cases hp:p d with
  |true=>rw[Qm rfl,e3 hp];dsimp only;rw[Qm (by omega),ih _ (by rw[Ql,Jh];omega),List.filter_cons_of_pos hp,Qx,Jk];rfl
  |false=>rw[Qu (by decide),ih _ (by omega),List.filter_cons_of_neg (by rw[hp];decide)]
theorem SN{j:Nat}{d:D}{k:Int}{ds0 ds:List D}(h1:f Z=.ok d Z1)(h0:Z1[j]?=some (some (.own ds0)))(h2:g Z1=.ok (.int k) Z2)(h3:Z2[j]?=some (some (.own ds)))(h4:0<=k/\k<ds.length)(h5:Z2.set j (some (.own (ds.set k.toNat d)))=Z'):W0 j g f Z=.nx Z':=by unfold W0 sB;rw[h1];dsimp only;rw[h0];dsimp only;rw[h2];dsimp only;rw[h3];dsimp only;rw[if_pos h4];subst h5;rfl
theorem Vg{xs:List D}{a b:Option Int}:YA (.list xs) a b=some (.list (DL.cutD xs a b)):=rfl
theorem ZZ{xs:List D}:Py (.list xs)=some xs:=rfl
theorem qf(bs:List Bool):Vc (bs.map Uy)=some bs:=by
 induction bs with
 |nil=>rfl
 |cons b r ih=>rw[Qx,Vc,ih];rfl
theorem E1{bs:List Bool}:Yr [.list (bs.map Uy)]=some (.bool (bs.all id)):=by unfold Yr;dsimp only;rw[qf];rfl
end
section
variable{α β:Type}{Z Z1 Z2 Z3 Z4 Z':UG}{f g h:M D}{s:SM}
theorem Nh{g:M (List D)}{xs r:List D}(h1:g Z=.ok xs Z1)(h2:XF xs=some r):Xd g Z=.ok r Z1:=by unfold Xd;exact KT h1 (Yi h2)
theorem Ng{l u t:M (Option Int)}{xs:List D}(h1:f Z=.ok (.list xs) Z1)(h2:l Z1=.ok none Z2)(h3:u Z2=.ok none Z3)(h4:t Z3=.ok (some (-1)) Z4):XJ f l u t Z=.ok (.list xs.reverse) Z4:=by unfold XJ;exact KT h1 (KT h2 (KT h3 (KT h4 (Yi (by unfold Wj;exact Qm rfl)))))
theorem MW{i:Nat}{d:D}{ds:List D}(h:Z[i]?=some (some (.pub d)))(h2:Xu [d]=some ds):T4 i Z=.ok ds Z:=by unfold T4;rw[h];exact Yi h2
theorem tg_L{n:Nat}{t:List D->UG->Option UG}{ds:List D}(h1:ds.length=n)(h2:t ds Z=some Z'):gL n t (.list ds) Z=some Z':=by unfold gL;dsimp only;rw[if_pos h1];exact h2
theorem SD{N:List Str}{ds:List D}(h0:Y5 N ds=Z)(h:Ho s Z λo=>∃Z',o=.nx Z'):U5 N s ds=some .none:=by subst h0;obtain⟨Z',e⟩:=h.out;unfold U5;rw[e]
theorem T8{i j:Int}:oNe (.int i) (.int j)=some (!decide (i=j)):=by unfold oNe;rw[if_pos ⟨rfl,rfl,by simp[UC]⟩];congr 1
theorem P7{xs:List Int}{j:Nat}{v:Int}:(xs.map int).set j (.int v)=(xs.set j v).map int:=by rw[List.map_set]
theorem Cz{xs:List Int}{a b:Int}(ha:0<=a)(hb:0<=b)(hl:b<=xs.length):DL.cutD (xs.map int) (some a) (some b)=((xs.drop a.toNat).take (b.toNat-a.toNat)).map int:=by
 unfold DL.cutD HT.sIx;dsimp only;rw[Qu (by omega),Qu (by omega),Qb,Ui,List.map_drop];have e2:min b.toNat xs.length=b.toNat:=by omega
 rw[e2];by_cases hab:a.toNat<=xs.length
 ·have e1:min a.toNat xs.length=a.toNat:=by omega
  rw[e1]
 ·have e3:b.toNat-a.toNat=0:=by omega
  have e4:b.toNat-min a.toNat xs.length=0:=by omega
  rw[e3,e4,JS,JS]
end
section
variable{Z Z1:UG}
theorem Cy{g:M (List D)}{xs r:List D}(h1:g Z=.ok xs Z1)(h2:T3 xs=some r):Ry g Z=.ok r Z1:=by unfold Ry;exact KT h1 (Yi h2)
theorem B4{xs:List D}:T3 [.list xs]=some (Z8 1 xs):=rfl
end
section
variable{X:Cx}{B G0:Hp}{KX:XW}{e o a b c tg i:Uq}{pos p2:Pos}{es rest:List Uq}
def X1(f:M Bool)(g:SM):Nat->SM
 |0,_=>.bad
 |n+1,Z=>match f Z with
  |.bad=>.bad
  |.ok t Z1=>if t=true then(match g Z1 with
   |.nx Z2=>X1 f g n Z2
   |.ct Z2=>X1 f g n Z2
   |.bk Z2=>.nx Z2
   |.rt d=>.rt d
   |.ex Z2 d=>.ex Z2 d
   |.bad=>.bad)else .nx Z1
theorem Cw{body:List Stmt}{f:M Bool}{g:SM}(n:Nat)(hp:PassesOwn (model X.prog X.w) X.A X.env X.xe)(hc:PT X c (tBo X.K B G0 f))(hb:PSs X body (tS X.K B G0 KX g)):PS X (.While c body [] pos) (tS X.K B G0 KX (X1 f g n)):=
 Zl (Ci hp hc hb) λDn σ H ⟨G,Z,k,a⟩=>by
  refine⟨λm σ' H'=>∃G' Z',EOk X.K B G0 G' H' σ' Z'/\aftS X.K B G0 KX (X1 f g m Z') G' Dn,⟨n,G,Z,k,a⟩,?_⟩;rintro m σ' H' ⟨G',Z',k',a'⟩;cases m with
  |zero=>exact a'.elim
  |succ m=>
   rw[X1]at a';refine⟨G',Z',k',?_⟩;cases z:f Z' with
   |bad=>rw[z]at a';exact a'.elim
   |ok t Z1=>
    rw[z]at a';dsimp only at a';intro v G1 H1 k1 s1 e1;subst e1;cases v with
    |false=>rw[Qu JF]at a'⊢;exact a' _ G1 H1 k1 s1
    |true=>
     rw[Qm rfl]at a'⊢;refine⟨λσ2 H2=>∃G2 Z2,EOk X.K B G0 G2 H2 σ2 Z2/\aftS X.K B G0 KX (X1 f g m Z2) G2 Dn,λσ2 H2 h2=>⟨m,Ub m,h2⟩,G1,Z1,k1,?_⟩;cases z2:g Z1 with
     |nx Z2=>rw[z2]at a';exact λσ4 G4 H4 k4 s4=>⟨G4,Z2,k4,aftS.mono (s1.trans s4) a'⟩
     |ct Z2=>rw[z2]at a';exact λσ4 G4 H4 k4 s4=>⟨G4,Z2,k4,aftS.mono (s1.trans s4) a'⟩
     |bk Z2=>rw[z2]at a';exact λσ4 G4 H4 k4 s4=>a' σ4 G4 H4 k4 (s1.trans s4)
     |rt d=>rw[z2]at a';exact a'
     |ex Z2 d=>rw[z2]at a';exact λv σ4 G4 H4 k4 s4 r4=>a' v σ4 G4 H4 k4 (s1.trans s4) r4
     |bad=>rw[z2]at a';exact a'.elim
def Y8(op:Int->Int->Option D)(j:Nat)(f:M D):SM:=λZ=>match Z[j]? with
 |some (some (.pub (.int a)))=>sB f (λy Z1=>match y with
  |.int b=>(match op a b with
   |some d=>if j<Z1.length then .nx (Z1.set j (some (.pub d)))else .bad
   |none=>.bad)
  |_=>.bad) Z
 |_=>.bad
def IpD(X:Cx)(op:Operator)(p:Int->Int->Option D):Prop:=∃ti,PIp X op ti/\∀i j d,p i j=some d->∃v:V,(∀G,Rep X.K G v d)/\∀H(Q:VK),Q v H->ti (.int i) (.int j) H Q
theorem EZ:IpD X .Add (λi j=>some (.int (i+j))):=⟨_,Fw,λi j d e=>by cases e;exact⟨_,λ_=>.int _,λH Q q=>⟨i,j,rfl,rfl,q⟩⟩⟩
theorem EY:IpD X .Mult Yd:=⟨_,DG,λi j d e=>by
 unfold Yd at e;split at e
 ·rename_i h;cases e;exact⟨_,λ_=>.int _,λH Q q=>⟨i,j,rfl,rfl,h,q⟩⟩
 ·cases e⟩
theorem Gw{j:Nat}{x:Str}{op:Operator}{p:Int->Int->Option D}{f:M D}{pos':Pos}(hN:X.N.Nodup)(hi:X.N[j]?=some x)(hx:Loc X.env.scope x)(ho:IpD X op p)(he:PE X e (tD X.K B G0 f))(hf:X.fn x=true∨X.env.scope.names.lookup x=some .local:=by first|exact .inl rfl|exact .inr rfl|assumption) :
  PS X (.AugAssign (.Name x pos') op e pos) (tS X.K B G0 KX (Y8 p j f)):=by
 obtain⟨ti,hti,hp⟩:=ho;refine Zl (Fx hN hi hx he hti hf) λDn σ H ⟨G,Z,k,a⟩=>?_;unfold Y8 at a
 cases q:Z[j]? with
 |none=>rw[q]at a;exact a.elim
 |some o0=>
  cases o0 with
  |none=>rw[q]at a;exact a.elim
  |some sl=>
   cases sl with
   |deep _ _=>rw[q]at a;exact a.elim
   |own ds=>rw[q]at a;exact a.elim
   |pub d0=>
    rw[q]at a;cases d0 with
    |int i0=>
     dsimp only at a;obtain⟨v,h1,h2⟩:=k.pub j _ q;cases h2.int_inv;refine⟨.int i0,h1,G,Z,k,?_⟩;unfold sB at a;cases z:f Z with
     |bad=>rw[z]at a;exact a.elim
     |ok y Z1=>
      rw[z]at a;dsimp only at a;intro u G1 H1 k1 s1 r1;cases y with
      |int i1=>
       cases r1.int_inv;dsimp only at a;cases w:p i0 i1 with
       |none=>rw[w]at a;exact a.elim
       |some d=>
        rw[w]at a;dsimp only at a;split at a
        ·rename_i hl;obtain⟨v',rv,hq⟩:=hp i0 i1 d w;exact hq H1 _ (a _ G1 H1 (k1.setPub (rv G1) hl) s1)
        ·exact a.elim
      |_=>exact a.elim
    |_=>exact a.elim
theorem Cv:PGet X (λo i H Q=>∃p xs k v,o=.ref p/\i=.int k/\H p=some (.lst xs)/\atI xs k=some v/\Q v H):=by
 intro pins s σ H x y v u Q I rx ry h;obtain⟨p,xs,k,z,rfl,rfl,hp,he,q⟩:=h;cases rx;obtain⟨t,rfl⟩:=ry;obtain⟨its,n,r,ho,hz⟩:=I.lst hp;obtain⟨j,h1,h2,h3,h4,h5⟩:=RH he;have hl:=r.length;have hn:=Vu;obtain⟨w,ew,rw'⟩:=r.get h2;have fin:EP X pins σ Q w s:=⟨z,H,I,rw',q⟩;have il:s.heap.IsList p its.toArray:=⟨_,ho,rfl,⟨_,rfl⟩⟩
 by_cases h0:0<=k
 ·have hj:k.toNat=j:=by
   rw[seqIndex_of h0 h5]at h1;exact QT h1
  exact wpAny_getItem_list il h0 (by omega) (by rw[hj];simpa using ew) fin
 ·have hj:(k+(its.toArray.size:Int)).toNat=j:=by
   rw[seqIndex_neg (by omega) h4]at h1;rw[QG,←hl];exact QT h1
  exact wpAny_getItem_list_neg il (by omega) (by rw[List.size_toArray,←hl];exact h4) (by omega) (by rw[hj];simpa using ew) fin
def XZ(Z:UG)(j:Nat):Option (List D):=match Z[j]? with
 |some (some (.own ds))=>some ds
 |_=>none
theorem R5{Z:UG}{j:Nat}{ds:List D}(h:XZ Z j=some ds):Z[j]?=some (some (.own ds)):=by
 unfold XZ at h;split at h
 ·rename_i es e;cases h;exact e
 ·cases h
theorem P6{Z:UG}{j:Nat}{ds:List D}(h:Z[j]?=some (some (.own ds))):XZ Z j=some ds:=by unfold XZ;rw[h]
def WV(op:Int->Int->Option D)(j:Nat)(g f:M D):SM:=λZ=>match XZ Z j with
 |none=>.bad
 |some _=>sB g (λy Z1=>match y with
  |.int k=>(match (XZ Z1 j).bind (atI · k)with
   |some (.int a)=>sB f (λy2 Z2=>match y2 with
    |.int b=>(match op a b,XZ Z2 j with
     |some d,some es=>(match ixN es.length k with
      |some n=>.nx (Z2.set j (some (.own (es.set n d))))
      |none=>.bad)
     |_,_=>.bad)
    |_=>.bad) Z1
   |_=>.bad)
  |_=>.bad) Z
theorem EX{j:Nat}{op:Operator}{p:Int->Int->Option D}{f g:M D}{tpos:Pos}(ho:PE X o (Zw j))(hi:PE X i (tD X.K B G0 g))(hp:IpD X op p)(he:PE X e (tD X.K B G0 f))
  (ha:∀ov iv new,augStore i ov iv new=(do holding [new,ov,iv] (setItem ov iv new);release [new,ov,iv] [];pure .next):=by intros;rfl):PS X (.AugAssign (.Subscript o i tpos) op e pos) (tS X.K B G0 KX (WV p j g f)):=by
 obtain⟨ti,hti,hp⟩:=hp;refine Zl (DH ho hi Cv he hti Cc ha) λDn σ H ⟨G,Z,k,a⟩=>?_;unfold WV at a
 cases q0:XZ Z j with
 |none=>rw[q0]at a;exact a.elim
 |some ds0=>
 rw[q0]at a;dsimp only at a;obtain⟨ad,vs0,h1,h2,h3,h4,h5⟩:=k.own j ds0 (R5 q0);refine⟨.ref ad,h1,G,Z,k,?_⟩;unfold sB at a;cases z:g Z with
 |bad=>rw[z]at a;exact a.elim
 |ok y Z1=>
 rw[z]at a;dsimp only at a;intro kv G1 H1 k1 s1 r1;cases y with
 |int n=>
  cases r1.int_inv;dsimp only at a;cases q1:XZ Z1 j with
  |none=>rw[q1]at a;exact a.elim
  |some ds1=>
  rw[q1]at a;dsimp only[Option.bind_some]at a;cases q2:atI ds1 n with
  |none=>rw[q2]at a;exact a.elim
  |some d1=>
  rw[q2]at a;obtain⟨ad1,vs1,g1,g2,g3,g4,g5⟩:=k1.own j ds1 (R5 q1);rw[h1]at g1;cases g1;obtain⟨v1,e1,rv1⟩:=g5.atI q2;cases d1 with
  |int i0=>
   cases rv1.int_inv;dsimp only at a;refine⟨ad,vs1,n,.int i0,rfl,rfl,g4,e1,G1,Z1,k1,?_⟩;cases z2:f Z1 with
   |bad=>rw[z2]at a;exact a.elim
   |ok y2 Z2=>
   rw[z2]at a;dsimp only at a;intro u G2 H2 k2 s2 r2;cases y2 with
   |int i1=>
    cases r2.int_inv;dsimp only at a;cases w:p i0 i1 with
    |none=>rw[w]at a;exact a.elim
    |some d=>
    cases q3:XZ Z2 j with
    |none=>rw[w,q3]at a;exact a.elim
    |some es=>
    rw[w,q3]at a;dsimp only at a;obtain⟨ad2,vs2,f1,f2,f3,f4,f5⟩:=k2.own j es (R5 q3);rw[h1]at f1;cases f1;cases q4:ixN es.length n with
    |none=>rw[q4]at a;exact a.elim
    |some m=>
    rw[q4]at a;dsimp only at a;obtain⟨v',rv,hq⟩:=hp i0 i1 d w;refine hq H2 _ ⟨ad,vs2,n,m,rfl,rfl,f4,by rw[f5.length];exact q4,?_⟩;exact a σ G2 _ (k2.change (R5 q3) h1 (f5.set (rv G2) m)) (s1.trans s2)
   |_=>exact a.elim
  |_=>exact a.elim
 |_=>exact a.elim
end
section
variable{X:Cx}{B G0:Hp}{KX:XW}
end
section
variable{X:Cx}{B G0:Hp}{e o a b c tg i:Uq}{pos p2:Pos}{es rest:List Uq}
theorem B3:MtR X "list.index" (λv vs H Q=>∃l k,∃ns:List Int,v=.ref l/\vs=[.int k]/\SqL X.K H l (ns.map V.int)/\PyData.layable0 (.list (ns.map .int))=true/\k∈ns/\Q (.int (ns.idxOf k:Nat)) H):=by intro pins s σ H x vs v us Q I rx rv h;obtain⟨l,k,ns,rfl,rfl,hq,hl,hk,q⟩:=h;cases rx;obtain⟨u,rfl,ru⟩:=rv.one;obtain⟨t,rfl⟩:=ru;obtain⟨its,rv,p,hz⟩:=I.list hq;exact index_list_ints p.isList (Vk rv) hl hk ⟨.int _,H,I.tok _,⟨_,rfl⟩,q⟩
def T7(y:D)(xs:List D):Option D:=match y,xs with
 |.list ds,[.int k]=>(match ZV ds with
  |some ns=>if PyData.layable0 (.list (ns.map .int))=true/\k∈ns then some (.int (ns.idxOf k:Nat))else none
  |none=>none)
 |_,_=>none
theorem qe{ds xs:List D}{d:D}(h:T7 (.list ds) xs=some d):∃k ns,xs=[.int k]/\ZV ds=some ns/\PyData.layable0 (.list (ns.map .int))=true/\k∈ns/\d=.int (ns.idxOf k:Nat):=by
 unfold T7 at h;split at h
 ·rename_i ds' k e1;cases e1;cases z:ZV ds with
  |none=>rw[z]at h;cases h
  |some ns=>
   rw[z]at h;dsimp only at h;split at h
   ·rename_i c;cases h;exact⟨k,ns,rfl,rfl,c.1,c.2,rfl⟩
   ·cases h
 ·cases h
def Rq(f:M D)(g:M (List D)):M D:=U6 f λy=>U6 g λxs=>U9 (match y with | .list ds=>T7 (.list ds) xs|_=>none)
theorem B2{apos cpos:Pos}{f:M D}{g:M (List D)}(ho:PE X o (tD X.K B G0 f))(ha:PA X (e::es) (tDs X.K B G0 g))
  (hbase:attributeBase o "index" X.env (eval o X.env)=eval o X.env:=by rfl)
  (hfew:((backTo cpos (Ut (e::es) X.env)).all (λx=>!x.1)&&(backToKw cpos (keywordEach [] X.env)).all (λx=>x.1.isSome)
   && decide ((e::es).length+([]:List Keyword).length+(if([]:List Keyword).isEmpty then 0 else 1)<30))=true:=by rfl)
  (hline:(apos.endLine==cpos.line)=true:=by rfl) (hs:Ut (e::es) X.env=(false,eval e X.env)::Ut es X.env:=by rfl) (hplain:(backTo cpos (Ut es X.env)).any (·.1)=false:=by rfl) :
  PE X (.Call (.Attribute o "index" apos) (e::es) [] cpos) (tD X.K B G0 (Rq f g)):=
 Ko (Pe F.plainAttrs_list F.slot_list_index F.type_list_index B3 ho ha hbase hfew hline hs hplain) λσ H Q q=>by
  refine tM.one (R:=Rep X.K) q λv H2 G Z y k r a=>?_
  cases y with
  |list ds=>
   obtain⟨l,ws,rfl,h1,r1⟩:=r.lst_inv;refine⟨.inl ⟨rfl,ws,k.gh.seq h1⟩,?_⟩;refine tM.nx (R:=Reps X.K) k a λxs H3 G3 Z3 es k3 s3 r3 a3=>?_
   obtain⟨d,e,a3⟩:=a3.opt;obtain⟨x,ns,rfl,z,hl,hk,rfl⟩:=qe e;obtain⟨u,rfl,ru⟩:=r3.one_inv;have:=VD r1 z;subst this;exact⟨l,x,ns,rfl,by rw[ru.int_inv],k3.gh.seq (s3.seq h1),hl,hk,aft.now a3 k3 (.int _)⟩
  |_=>
   unfold U6 at a;cases z:g Z with
   |bad=>rw[z]at a;exact a.elim
   |ok xs Z1=>rw[z]at a;exact a.elim
theorem Cu{f:M D}{g:M (List D)}{Z Z1 Z2:UG}{ds:List D}{x d:D}(h1:f Z=.ok (.list ds) Z1)(h2:g Z1=.ok [x] Z2)(h3:T7 (.list ds) [x]=some d):Rq f g Z=.ok d Z2:=by unfold Rq U6;rw[h1];dsimp only;rw[h2];dsimp only;rw[h3];rfl
end
end DL
namespace DL
open PySem PySem.Spec PySem.W PyProof.Rows
def Kc{α:Type}(lt:Nat->Nat->Bool):KasT α->α
 |.ret a=>a
 |.ask i j k=>Kc lt (k (lt i j))
theorem Sd{α β:Type}{lt:Nat->Nat->Bool}{f:α->KasT β}:∀t:KasT α,Kc lt (t.bind f)=Kc lt (f (Kc lt t))
 |.ret _=>rfl
 |.ask i j k=>by show Kc lt ((k (lt i j)).bind f)=_;rw[Sd];rfl
section
variable{key:Nat->Int}{p:Array Nat}
def KA(key:Nat->Int)(p:Array Nat)(i:Nat):Int:=key (p.getD i 0)
def srt(key:Nat->Int)(p:Array Nat)(m:Nat):Prop:=∀i j,i<=j->j<m->KA key p i<=KA key p j
def dsc(key:Nat->Int)(p:Array Nat)(m:Nat):Prop:=∀i j,i<=j->j<m->KA key p j<=KA key p i
abbrev kl(key:Nat->Int)(i j:Nat):Bool:=decide (key i<key j)
theorem Ld{k d i:Nat}(hk:k<p.size)(hd:d<=k):KA key (bubble p k d) i=if i=k-d then KA key p k else if k-d<i/\i<=k then KA key p (i-1)else KA key p i:=by
 unfold KA;simp only[Jg];rw[getElem?_bubble hk d hd]
 repeat' split
 all_goals rfl
theorem SB{i j k:Nat}(hj:j<=p.size):KA key (kas_rev p i j) k=if i<=k/\k<j then KA key p (i+j-1-k)else KA key p k:=by
 unfold KA kas_rev;simp only[Jg];rw[getElem?_mirror_all hj]
 split<;>rfl
theorem Vw{i j:Nat}:(kas_rev p i j).size=p.size:=mirror_size _ _ _ _
theorem Wg{i j:Nat}:(kas_rev p i j).Perm p:=mirror_perm _ _ _ _
theorem P5:∀(f n:Nat),1<=n->srt key p n->srt key p (Kc (kl key) (kas_asc p f n))/\n<=Kc (kl key) (kas_asc p f n)/\Kc (kl key) (kas_asc p f n)<=n+f /\
  (Kc (kl key) (kas_asc p f n)<n+f->KA key p (Kc (kl key) (kas_asc p f n))<KA key p (Kc (kl key) (kas_asc p f n)-1))
 |0,n,h1,hs=>⟨hs,Qv _,Qv _,λh=>absurd h (Js _)⟩
 |f+1,n,h1,hs=>by
  unfold kas_asc Kc;cases c:kl key (p.getD n 0) (p.getD (n-1) 0)with
  |true=>dsimp only;rw[Qm rfl];exact⟨hs,Qv _,by show n<=n+(f+1);omega,λ_=>Qa c⟩
  |false=>
   dsimp only;rw[Qu (by decide)];have hle:KA key p (n-1)<=KA key p n:=Uj.mp (Jf c)
   obtain⟨a1,a2,a3,a4⟩:=P5 f (n+1) (by omega) (λi j hij hj=>by
    by_cases hjn:j=n
    ·subst hjn;by_cases hin:i=j
     ·subst hin;exact QW _
     ·exact JP (hs i (j-1) (by omega) (by omega)) hle
    ·exact hs i j hij (by omega))
   exact⟨a1,by omega,by omega,λh=>a4 (by omega)⟩
def eqs(key:Nat->Int)(p:Array Nat)(n q:Nat):Prop:=∀i,n-1-q<=i->i<n->KA key p i=KA key p (n-1)
theorem R4:∀(f:Nat)(p:Array Nat)(n q:Nat),1<=n->q+1<=n->n+f<=p.size->dsc key p n->eqs key p n q ->
  let r:=Kc (kl key) (kas_desc f p n q)
  r.1.Perm p/\r.1.size=p.size/\dsc key r.1 r.2.1/\eqs key r.1 r.2.1 r.2.2/\r.2.2+1<=r.2.1/\n<=r.2.1/\r.2.1<=n+f
 |0,p,n,q,h1,hq,hz,hd,he=>⟨Ug _,rfl,hd,he,hq,Qv _,Qv _⟩
 |f+1,p,n,q,h1,hq,hz,hd,he=>by
  intro r;have hr:r=Kc (kl key) (kas_desc (f+1) p n q):=rfl;unfold kas_desc Kc at hr;cases c:kl key (p.getD n 0) (p.getD (n-1) 0)with
  |true=>
   rw[c]at hr;(try dsimp only at hr);rw[if_pos rfl]at hr;have hlt:KA key p n<KA key p (n-1):=Qa c
   have ext:∀p':Array Nat,(∀i,KA key p' i=KA key p i)->dsc key p' (n+1)/\eqs key p' (n+1) 0:=λp' hp=>⟨λi j hij hj=>by
     rw[hp,hp];by_cases hjn:j=n
     ·subst hjn;by_cases hin:i=j
      ·subst hin;exact QW _
      ·exact JP (Int.le_of_lt hlt) (hd i (j-1) (by omega) (by omega))
     ·exact hd i j hij (by omega),λi hi1 hi2=>by
     have:i=n:=by omega
     subst this;rfl⟩
   by_cases hq0:q > 0
   ·rw[Qm hq0]at hr
    have same:∀i,KA key (kas_rev p (n-(q+1)) n) i=KA key p i:=λi=>by
     rw[SB (by omega)];split
     ·rw[he _ (by omega) (by omega),he i (by omega) (by omega)]
     ·rfl
    obtain⟨d1,e1⟩:=ext _ same;obtain⟨a1,a2,a3,a4,a5,a6,a7⟩:=R4 f (kas_rev p (n-(q+1)) n) (n+1) 0 (by omega) (by omega) (by rw[Vw];omega) d1 e1;rw[←hr]at a1 a2 a3 a4 a5 a6 a7;exact⟨a1.trans Wg,a2.trans Vw,a3,a4,a5,by omega,by omega⟩
   ·rw[Qu hq0]at hr;obtain⟨d1,e1⟩:=ext p λ_=>rfl
    obtain⟨a1,a2,a3,a4,a5,a6,a7⟩:=R4 f p (n+1) 0 (by omega) (by omega) (by omega) d1 e1;rw[←hr]at a1 a2 a3 a4 a5 a6 a7;exact⟨a1,a2,a3,a4,a5,by omega,by omega⟩
  |false=>
   rw[c]at hr;(try dsimp only at hr);rw[if_neg (by decide)]at hr;unfold Kc at hr;have hle:KA key p (n-1)<=KA key p n:=Uj.mp (Jf c);cases d:kl key (p.getD (n-1) 0) (p.getD n 0)with
   |true=>rw[d]at hr;(try dsimp only at hr);rw[if_pos rfl]at hr;unfold Kc at hr;rw[hr];exact⟨Ug _,rfl,hd,he,hq,Qv _,by show n<=n+(f+1);omega⟩
   |false=>
    rw[d]at hr;(try dsimp only at hr);rw[if_neg (by decide)]at hr;have hge:KA key p n<=KA key p (n-1):=Uj.mp (Jf d)
    obtain⟨a1,a2,a3,a4,a5,a6,a7⟩:=R4 f p (n+1) (q+1) (by omega) (by omega) (by omega) (λi j hij hj=>by
     by_cases hjn:j=n
     ·subst hjn;by_cases hin:i=j
      ·subst hin;exact QW _
      ·exact JP hge (hd i (j-1) (by omega) (by omega))
     ·exact hd i j hij (by omega)) (λi hi1 hi2=>by
     have e0:KA key p n=KA key p (n-1):=J4 hge hle;show KA key p i=KA key p (n+1-1);rw[Nat.add_sub_cancel,e0];by_cases hin:i=n
     ·subst hin;exact e0
     ·exact he i (by omega) (by omega))
    rw[←hr]at a1 a2 a3 a4 a5 a6 a7;exact⟨a1,a2,a3,a4,a5,by omega,by omega⟩
theorem LZ{n nrem:Nat}(h1:1<=n)(hn:n<=nrem)(hz:nrem<=p.size)(hd:dsc key p n) :
  let r:=Kc (kl key) (kas_tail3 n nrem p)
  r.2.Perm p/\r.2.size=p.size/\srt key r.2 r.1/\1<=r.1/\r.1<=nrem:=by
 intro r;have hr:r=Kc (kl key) (kas_tail3 n nrem p):=rfl;unfold kas_tail3 at hr;rw[Sd]at hr;have hs:srt key (kas_rev p 0 n) n:=λi j hij hj=>by rw[SB (by omega),SB (by omega),Qm (by omega),Qm (by omega)];exact hd _ _ (by omega) (by omega)
 obtain⟨a1,a2,a3,_⟩:=P5 (key:=key) (p:=kas_rev p 0 n) (nrem-n) n h1 hs;rw[hr];exact⟨Wg,Vw,a1,by show 1<=Kc _ _;omega,by show Kc _ _<=_;omega⟩
theorem Hx{n nrem:Nat}(h1:1<=n)(hn:n+1<=nrem)(hz:nrem<=p.size)(hd:dsc key p (n+1)) :
  let r:=Kc (kl key) (kas_descPart n nrem p)
  r.2.Perm p/\r.2.size=p.size/\srt key r.2 r.1/\1<=r.1/\r.1<=nrem:=by
 intro r;have hr:r=Kc (kl key) (kas_descPart n nrem p):=rfl;unfold kas_descPart at hr;rw[Sd]at hr
 obtain⟨a1,a2,a3,a4,a5,a6,a7⟩:=R4 (key:=key) (nrem-(n+1)) p (n+1) 0 (by omega) (by omega) (by omega) hd (λi hi1 hi2=>by
  have:i=n:=by omega
  subst this;rfl)
 generalize Kc (kl key) (kas_desc (nrem-(n+1)) p (n+1) 0)=d at hr a1 a2 a3 a4 a5 a6 a7;obtain⟨p1,n1,q1⟩:=d;dsimp only at hr a1 a2 a3 a4 a5 a6 a7;by_cases hq:q1 > 0
 ·rw[Qm hq]at hr
  have same:∀i,KA key (kas_rev p1 (n1-(q1+1)) n1) i=KA key p1 i:=λi=>by
   rw[SB (by omega)];split
   ·rw[a4 _ (by omega) (by omega),a4 i (by omega) (by omega)]
   ·rfl
  obtain⟨b1,b2,b3,b4,b5⟩:=LZ (key:=key) (p:=kas_rev p1 (n1-(q1+1)) n1) (n:=n1) (nrem:=nrem) (by omega) (by omega) (by rw[Vw];omega) (λi j hij hj=>by rw[same,same];exact a3 i j hij hj);rw[hr];exact⟨(b1.trans Wg).trans a1,(b2.trans Vw).trans a2,b3,b4,b5⟩
 ·rw[Qu hq]at hr;obtain⟨b1,b2,b3,b4,b5⟩:=LZ (key:=key) (p:=p1) (n:=n1) (nrem:=nrem) (by omega) (by omega) (by omega) a3;rw[hr];exact⟨b1.trans a1,b2.trans a2,b3,b4,b5⟩
theorem A1{nrem:Nat}(h1:1<=nrem)(hz:nrem<=p.size) :
  let r:=Kc (kl key) (kas_count nrem p)
  r.2.Perm p/\r.2.size=p.size/\srt key r.2 r.1/\1<=r.1/\r.1<=nrem:=by
 intro r;have hr:r=Kc (kl key) (kas_count nrem p):=rfl;unfold kas_count at hr;rw[Sd]at hr
 obtain⟨a1,a2,a3,a4⟩:=P5 (key:=key) (p:=p) (nrem-1) 1 (Qv _) (λi j hij hj=>by
  have:i=j:=by omega
  subst this;exact QW _)
 generalize Kc (kl key) (kas_asc p (nrem-1) 1)=n at hr a1 a2 a3 a4;by_cases hn:(n==nrem)=true
 ·rw[Qm hn]at hr;unfold Kc at hr;rw[hr];exact⟨Ug _,rfl,a1,a2,by show n<=nrem;omega⟩
 ·rw[Qu hn]at hr;have hne:n≠nrem:=by simpa using hn
  have hlt:=a4 (by omega);by_cases hn1:n > 1
  ·rw[Qm hn1]at hr;unfold Kc at hr;cases c:kl key (p.getD 0 0) (p.getD (n-1) 0)with
   |true=>rw[c]at hr;(try dsimp only at hr);rw[if_pos rfl]at hr;unfold Kc at hr;rw[hr];exact⟨Ug _,rfl,a1,a2,by show n<=nrem;omega⟩
   |false=>
    rw[c]at hr;(try dsimp only at hr);rw[if_neg (by decide)]at hr;have hge:KA key p (n-1)<=KA key p 0:=Uj.mp (Jf c);have all:∀i,i<n->KA key p i=KA key p 0:=λi hi=>J4 (JP (a1 i (n-1) (by omega) (by omega)) hge) (a1 0 i (by omega) hi)
    have same:∀i,KA key (kas_rev p 0 n) i=KA key p i:=λi=>by
     rw[SB (by omega)];split
     ·rw[all _ (by omega),all i (by omega)]
     ·rfl
    obtain⟨b1,b2,b3,b4,b5⟩:=Hx (key:=key) (p:=kas_rev p 0 n) (n:=n) (nrem:=nrem) a2 (by omega) (by rw[Vw];exact hz) (λi j hij hj=>by
     rw[same,same];by_cases hjn:j=n
     ·subst hjn;by_cases hin:i=j
      ·subst hin;exact QW _
      ·rw[all i (by omega)];rw[all (j-1) (by omega)]at hlt;exact Int.le_of_lt hlt
     ·rw[all i (by omega),all j (by omega)];exact QW _)
    rw[hr];exact⟨b1.trans Wg,b2.trans Vw,b3,b4,b5⟩
  ·rw[Qu hn1]at hr;have:n=1:=by omega
   subst this
   obtain⟨b1,b2,b3,b4,b5⟩:=Hx (key:=key) (p:=p) (n:=1) (nrem:=nrem) (Qv _) (by omega) hz (λi j hij hj=>by
    by_cases hij2:i=j
    ·subst hij2;exact QW _
    ·have h0:i=0:=by omega
     have h1:j=1:=by omega
     subst h0;subst h1;exact Int.le_of_lt hlt)
   rw[hr];exact⟨b1,b2,b3,b4,b5⟩
theorem Oz{k:Nat}(hs:srt key p k):∀(f l r:Nat),l<=r->r<=k->r-l<=f->(∀i,i<l->KA key p i<=KA key p k)->(∀i,r<=i->i<k->KA key p k<KA key p i) ->
  let m:=Kc (kl key) (kas_place p k f l r)
  m<=k/\(∀i,i<m->KA key p i<=KA key p k)/\(∀i,m<=i->i<k->KA key p k<KA key p i)
 |0,l,r,hlr,hrk,hf,h1,h2=>⟨by show l<=k;omega,h1,λi (hi:l<=i)=>h2 i (by omega)⟩
 |f+1,l,r,hlr,hrk,hf,h1,h2=>by
  intro m;have hm:m=Kc (kl key) (kas_place p k (f+1) l r):=rfl;unfold kas_place at hm;by_cases hge:l ≥ r
  ·rw[Qm hge]at hm;unfold Kc at hm;rw[hm];exact⟨by omega,h1,λi hi=>h2 i (by omega)⟩
  ·rw[Qu hge]at hm;unfold Kc at hm;cases c:kl key (p.getD k 0) (p.getD ((l+r) / 2) 0)with
   |true=>rw[c]at hm;(try dsimp only at hm);rw[if_pos rfl]at hm;rw[hm];have hlt:KA key p k<KA key p ((l+r) / 2):=Qa c;exact Oz hs f l ((l+r) / 2) (by omega) (by omega) (by omega) h1 λi hi hik=>Int.lt_of_lt_of_le hlt (hs _ _ hi hik)
   |false=>rw[c]at hm;(try dsimp only at hm);rw[if_neg (by decide)]at hm;rw[hm];have hle:KA key p ((l+r) / 2)<=KA key p k:=Uj.mp (Jf c);exact Oz hs f ((l+r) / 2+1) r (by omega) hrk (by omega) (λi hi=>JP (hs i ((l+r) / 2) (by omega) (by omega)) hle) h2
theorem MG:∀(f:Nat)(p:Array Nat)(k:Nat),k+f<=p.size->srt key p k->let r:=Kc (kl key) (kas_bin f p k);r.Perm p/\r.size=p.size/\srt key r (k+f)
 |0,p,k,_,hs=>⟨Ug _,rfl,hs⟩
 |f+1,p,k,hz,hs=>by
  intro r;have hr:r=Kc (kl key) (kas_bin (f+1) p k):=rfl;unfold kas_bin at hr;rw[Sd]at hr;obtain⟨a1,a2,a3⟩:=Oz (key:=key) hs k 0 k (Ua _) (Qv _) (by omega) (λi hi=>by omega) (λi h1 h2=>by omega);generalize Kc (kl key) (kas_place p k k 0 k)=l at hr a1 a2 a3;have hk:k<p.size:=by omega
  obtain⟨b1,b2,b3⟩:=MG f (bubble p k (k-l)) (k+1) (by rw[bubble_size];omega) (λi j hij hj=>by
   rw[Ld hk (by omega),Ld hk (by omega),show k-(k-l)=l by omega];by_cases hi:i=l
   ·rw[Qm hi];by_cases hjl:j=l
    ·rw[Qm hjl];exact QW _
    ·rw[Qu hjl,Qm (by omega)];exact Int.le_of_lt (a3 (j-1) (by omega) (by omega))
   ·rw[Qu hi];by_cases hi2:l<i/\i<=k
    ·rw[Qm hi2,Qu (show ¬j=l by omega),Qm (by omega)];exact hs _ _ (by omega) (by omega)
    ·rw[Qu hi2];by_cases hjl:j=l
     ·rw[Qm hjl];exact a2 i (by omega)
     ·rw[Qu hjl];split
      ·exact hs _ _ (by omega) (by omega)
      ·exact hs _ _ (by omega) (by omega))
  rw[hr];exact⟨b1.trans (bubble_perm _ _ _),b2.trans (bubble_size _ _ _),by rw[show k+(f+1)=k+1+f by omega];exact b3⟩
theorem B0{n:Nat}(h1:1<=n):let r:=Kc (kl key) (kas_sort n);r.Perm (List.toArray (Uv n))/\r.size=n/\srt key r n:=by
 intro r;have hr:r=Kc (kl key) (kas_sort n):=rfl;unfold kas_sort at hr;rw[Sd]at hr;have hsz:(List.toArray (Uv n)).size=n:=by simp
 obtain⟨a1,a2,a3,a4,a5⟩:=A1 (key:=key) (p:=List.toArray (Uv n)) (nrem:=n) h1 (by rw[hsz];exact Qv _);generalize Kc (kl key) (kas_count n (List.toArray (Uv n)))=d at hr a1 a2 a3 a4 a5;by_cases hlt:d.1<n
 ·rw[Qm hlt]at hr;have hmax:max d.1 1=d.1:=by omega
  rw[hmax]at hr;obtain⟨b1,b2,b3⟩:=MG (key:=key) (n-d.1) d.2 d.1 (by omega) a3;rw[hr];exact⟨b1.trans a1,by omega,by rw[show d.1+(n-d.1)=n by omega]at b3;exact b3⟩
 ·rw[Qu hlt]at hr;unfold Kc at hr;rw[hr];exact⟨a1,by omega,by rw[show d.1=n by omega]at a3;exact a3⟩
def Asks{α:Type}(N:Nat)(R:α->Prop):KasT α->Prop
 |.ret a=>R a
 |.ask i j k=>i<N/\j<N/\∀b,Asks N R (k b)
theorem Asks.bind{α β:Type}{N:Nat}{R:α->Prop}{S:β->Prop}{f:α->KasT β}(hf:∀a,R a->Asks N S (f a)):∀{t:KasT α},Asks N R t->Asks N S (t.bind f)
 |.ret a,h=>hf a h
 |.ask _ _ k,⟨h1,h2,h3⟩=>⟨h1,h2,λb=>Asks.bind hf (h3 b)⟩
theorem MF{α:Type}{lt:Nat->Nat->Bool}{cmp:Nat->Nat->(Bool->Ul->Prop)->Ul->Prop}{s:Ul}{N:Nat}{R:α->Prop}(hc:∀i j C,i<N->j<N->C (lt i j) s->cmp i j C s):∀(t:KasT α)(Q:α->Ul->Prop),Asks N R t->Q (Kc lt t) s->t.kasWp cmp Q s
 |.ret _,_,_,h=>h
 |.ask i j k,Q,⟨h1,h2,h3⟩,h=>hc i j _ h1 h2 (MF hc (k (lt i j)) Q (h3 _) h)
def bnd(N:Nat)(p:Array Nat):Prop:=∀i,p.getD i 0<N
theorem Sh{N:Nat}{p q:Array Nat}(hN:0<N)(h:bnd N p)(e:q.Perm p):bnd N q:=λi=>by
 rw[Jg];cases z:q[i]? with
 |none=>exact hN
 |some v=>have hm:v∈q:=Array.mem_of_getElem? z;have hm2:v∈p:=e.mem_iff.mp hm;obtain⟨j,hj,e2⟩:=Array.mem_iff_getElem.mp hm2;have:=h j;rw[Jg,JM hj,e2]at this;exact this
section
variable{N:Nat}(hN:0<N)
include hN
theorem P4{p:Array Nat}(h:bnd N p):∀(f n:Nat),Asks N (λ_=>True) (kas_asc p f n)
 |0,_=>trivial
 |f+1,n=>⟨h _,h _,λb=>by
  cases b with
  |true=>(try dsimp only);rw[if_pos rfl];trivial
  |false=>(try dsimp only);rw[if_neg (by decide)];exact P4 h f (n+1)⟩
theorem RQ:∀(f:Nat)(p:Array Nat)(n q:Nat),bnd N p->Asks N (λr=>bnd N r.1) (kas_desc f p n q)
 |0,p,_,_,h=>h
 |f+1,p,n,q,h=>⟨h _,h _,λb=>by
  cases b with
  |true=>
   dsimp only;rw[Qm rfl];split
   ·exact RQ f _ _ _ (Sh hN h Wg)
   ·exact RQ f _ _ _ h
  |false=>
   dsimp only;rw[Qu (by decide)];refine⟨h _,h _,λb=>?_⟩;cases b with
   |true=>(try dsimp only);rw[if_pos rfl];exact h
   |false=>(try dsimp only);rw[if_neg (by decide)];exact RQ f _ _ _ h⟩
theorem LY{p:Array Nat}{n nrem:Nat}(h:bnd N p):Asks N (λr=>bnd N r.2) (kas_tail3 n nrem p):=
 Asks.bind (N:=N) (R:=λ_=>True) (S:=λr:Nat×Array Nat=>bnd N r.2) (f:=λm=>.ret (m,kas_rev p 0 n)) (λ_ _=>Sh (p:=p) (q:=kas_rev p 0 n) hN h Wg) (P4 hN (Sh hN h Wg) _ _)
theorem Hk{p:Array Nat}{n nrem:Nat}(h:bnd N p):Asks N (λr=>bnd N r.2) (kas_descPart n nrem p):=
 Asks.bind (λr hr=>by
  split
  ·exact LY hN (Sh hN hr Wg)
  ·exact LY hN hr) (RQ hN _ _ _ _ h)
theorem Aw{p:Array Nat}{nrem:Nat}(h:bnd N p):Asks N (λr=>bnd N r.2) (kas_count nrem p):=
 Asks.bind (R:=λ_=>True) (λn _=>by
  split
  ·exact h
  ·split
   ·refine⟨h _,h _,λb=>?_⟩;cases b with
    |true=>(try dsimp only);rw[if_pos rfl];exact h
    |false=>(try dsimp only);rw[if_neg (by decide)];exact Hk hN (Sh hN h Wg)
   ·exact Hk hN h) (P4 hN h _ _)
theorem Oy{p:Array Nat}(h:bnd N p)(k:Nat):∀(f l r:Nat),Asks N (λ_=>True) (kas_place p k f l r)
 |0,_,_=>trivial
 |f+1,l,r=>by
  unfold kas_place;split
  ·trivial
  ·refine⟨h _,h _,λb=>?_⟩;cases b with
   |true=>(try dsimp only);rw[if_pos rfl];exact Oy h k f _ _
   |false=>(try dsimp only);rw[if_neg (by decide)];exact Oy h k f _ _
theorem ME:∀(f:Nat)(p:Array Nat)(k:Nat),bnd N p->Asks N (λ_=>True) (kas_bin f p k)
 |0,_,_,_=>trivial
 |f+1,p,k,h=>Asks.bind (R:=λ_=>True) (λl _=>ME f _ _ (Sh hN h (bubble_perm _ _ _))) (Oy hN h k _ _ _)
end
theorem BZ{n:Nat}(hn:0<n):Asks n (λ_=>True) (kas_sort n):=by
 have hb:bnd n (List.toArray (Uv n)):=λi=>by
  rw[Jg];by_cases hi:i<n
  ·simp[hi]
  ·simp[hi,hn]
 refine Asks.bind (λr hr=>?_) (Aw hn hb);split
 ·exact ME hn _ _ _ hr
 ·trivial
end
def Kp(q:Int×Int):Int:=q.1*10000000+q.2
def okP(q:Int×Int):Prop:=-1000000<=q.2/\q.2<=1000000
theorem EW{x y:Int×Int}(hx:okP x)(hy:okP y):Kp x<Kp y ↔ (x.1<y.1∨x.1=y.1/\x.2<y.2):=by unfold Kp okP at *;omega
theorem Ct{x y:Int×Int}(hx:okP x)(hy:okP y)(h:Kp x=Kp y):x=y:=by
 unfold Kp okP at *;have h1:x.1=y.1:=by omega
 have h2:x.2=y.2:=by omega
 exact Prod.ext h1 h2
section
variable{prog:Um}{w:World}{A:Around}{E:Uk->Ul->Prop}{s:Ul}
def Rp(h:Heap)(v:Uk)(q:Int×Int):Prop:=∃a t u o n,v=.ref a/\h.get? a=some o/\o.cls=.type "tuple" /\ o.data=.seq #[.int q.1 t,.int q.2 u] n
theorem EV{x y:Uk}{p q:Int×Int}{Q:Bool->Ul->Prop}(hx:Rp s.heap x p)(hy:Rp s.heap y q)(h:Q (decide (p.1<q.1∨p.1=q.1/\p.2<q.2)) s):Us (model prog w) A (keyLt' (tuples' true) x y) Q E s:=by
 obtain⟨a,t,u,o,n,rfl,e1,c1,d1⟩:=hx;obtain⟨b,t',u',o',n',rfl,e2,c2,d2⟩:=hy;refine kat_lt e1 d1 e2 d2 ?_;show KatLex prog w A true _ Q [(Value.int p.1 t,Value.int q.1 t'),(Value.int p.2 u,Value.int q.2 u')] 0 s;refine kat_cons (wpAny_eqBool_int ?_);by_cases h1:p.1=q.1
 ·have e:(p.1==q.1)=true:=by simpa using h1
  rw[e];refine kat_yes (kat_cons (wpAny_eqBool_int ?_));by_cases h2:p.2=q.2
  ·have e:(p.2==q.2)=true:=by simpa using h2
   rw[e];refine kat_yes (kat_nil ?_);have:decide (p.1<q.1∨p.1=q.1/\p.2<q.2)=false:=QH (by omega);rw[this]at h;exact h
  ·have e:(p.2==q.2)=false:=by simpa using h2
   rw[e];refine kat_no (kat_one _ _ (PyProof.Rows.lt_int ?_))
   have:decide (p.1<q.1∨p.1=q.1/\p.2<q.2)=decide (p.2<q.2):=by
    by_cases z:p.2<q.2
    ·rw[Q7 z,Q7 (.inr ⟨h1,z⟩)]
    ·rw[QH z,QH (by omega)]
   rw[this]at h;exact h
 ·have e:(p.1==q.1)=false:=by simpa using h1
  rw[e];refine kat_no (oneLt_int ?_)
  have:decide (p.1<q.1∨p.1=q.1/\p.2<q.2)=decide (p.1<q.1):=by
   by_cases z:p.1<q.1
   ·rw[Q7 z,Q7 (.inl z)]
   ·rw[QH z,QH (by omega)]
  rw[this]at h;exact h
def Yx(h:Heap):List Uk->LP->Prop
 |[],[]=>True
 |v::vs,q::qs=>Rp h v q/\Yx h vs qs
 |_,_=>False
theorem Yx.get{h:Heap}:∀{vs:List Uk}{qs:LP},Yx h vs qs->vs.length=qs.length/\∀(i:Nat)(hi:i<vs.length),Rp h (vs.getD i .none) (qs.getD i (0,0))
 |[],[],_=>⟨rfl,λi hi=>absurd hi (J5 _)⟩
 |v::vs,q::qs,⟨h1,h2⟩=>by
  obtain⟨e,f⟩:=Yx.get h2;refine⟨by simp[e],λi hi=>?_⟩;cases i with
  |zero=>exact h1
  |succ i=>exact f i (by simpa using hi)
theorem Yx.tups{h:Heap}:∀{vs:List Uk}{qs:LP},Yx h vs qs->∃fs:List Uk,KatTups h vs fs/\fs.length=vs.length/\∀v∈fs,∃i t,v=.int i t
 |[],[],_=>⟨[],trivial,rfl,λ_ h=>by cases h⟩
 |v::vs,q::qs,⟨hp,h2⟩=>by
  obtain⟨a,t,u,o,n,rfl,e1,c1,d1⟩:=hp;obtain⟨fs,f1,f2,f3⟩:=Yx.tups h2;refine⟨.int q.1 t::fs,.cons e1 c1 d1 rfl f1,by simp[f2],λv hv=>?_⟩;rcases QO.mp hv with rfl|hv
  ·exact⟨_,_,rfl⟩
  ·exact f3 v hv
theorem Yx.mono{h h':Heap}(k:∀b o,h.get? b=some o->h'.get? b=some o):∀{vs:List Uk}{qs:LP},Yx h vs qs->Yx h' vs qs
 |[],[],_=>trivial
 |v::vs,q::qs,⟨hp,h2⟩=>by obtain⟨a,t,u,o,n,rfl,e1,c1,d1⟩:=hp;exact⟨⟨a,t,u,o,n,rfl,k _ _ e1,c1,d1⟩,Yx.mono k h2⟩
def Rk(qs:LP)(π:List Nat):Prop:=π.Perm (Uv qs.length)/\(π.map λi=>qs.getD i (0,0)).Pairwise λx y=>Kp x<=Kp y
theorem qR{a:Uo}{vs:List Uk}{qs:LP}{n:Nat}{P:Fin->Ul->Prop}(ho:s.heap.get? a=some (seqObj "list" vs.toArray n))
  (hp:Yx ((s.heap.update a (Obj.mapSeq λ_=>#[]))) vs qs) (hq:∀q∈qs,okP q) (h64:vs.length<64)
  (h:∀π:List Nat,Rk qs π->P (.done (.ret .none)) {s with heap:=sortedHeap s.heap a vs (List.toArray (π.map λi=>vs.getD i .none))}) :
  Us (model prog w) A (Builtin.«list.sort» ⟨[.ref a],[]⟩) P E s:=by
 obtain⟨hl,hget⟩:=hp.get;rw[list_sort_plain];have ha:a<s.heap.objs.size:=Qi ho;refine Qf (listItems_at ho rfl ?_);refine Qf (listUpdate_at ho rfl ?_);obtain⟨e1,ho1⟩:∃e1,(s.heap.update a (Obj.mapSeq λ_=>#[])).get? a=some (seqObj "list" #[] e1):=⟨_,get?_update_seq ho (λ_=>#[])⟩
 refine Qf (seqEpoch_at ho1 rfl ?_);refine Qf (wpAny_newTuple ?_);refine Qf (wpAny_newList ?_);refine Jy ?_;have ho6:(((s.heap.update a (Obj.mapSeq λ_=>#[])).push (seqObj "tuple" vs.toArray 0)).push (seqObj "list" #[] 0)).get? a=some (seqObj "list" #[] e1):=by rw[Heap.get?_push_ne _ _ _ (by rw[size_push',Heap.size_update];exact QL (J9 ha)),Heap.get?_push_ne _ _ _ (by rw[Heap.size_update];exact QL ha)];exact ho1
 have hp6:Yx (((s.heap.update a (Obj.mapSeq λ_=>#[])).push (seqObj "tuple" vs.toArray 0)).push (seqObj "list" #[] 0)) vs qs:=hp.mono λb o e=>Qj _ (Qj _ e)
 show Us (model prog w) A _ P E {s with heap:=((s.heap.update a (Obj.mapSeq λ_=>#[])).push (seqObj "tuple" vs.toArray 0)).push (seqObj "list" #[] 0)};dsimp only;have hsz:vs.toArray.size=vs.length:=by simp
 by_cases h2:vs.toArray.size<2
 ·rw[Qm h2,Qm h2];refine Qf (Qn ?_);rw[StateT.run_pure];refine Qf (Qn ?_);dsimp only;refine Qf (seqEpoch_at ho6 rfl ?_);refine Qf (listUpdate_at ho6 rfl ?_ (hsz2:=by rw[Array.size_map];show(pairsOf vs).size<=_;rw[pairsOf_size,sizeLine_eq];omega));simp only[bne_self_eq_false,JY,if_false]
  have hid:(arrOf (SortSt.mk' general' (vs.toArray.zip vs.toArray) #[] 7 none)).map (·.2)=List.toArray ((Uv vs.length).map λi=>vs.getD i .none):=by
   show(vs.toArray.zip vs.toArray).map (·.2)=_
   apply Array.toList_inj.mp;apply Jq;intro i;simp only[Array.toList_map,Array.toList_zip,Qe,JN];by_cases hi:i<vs.length
   ·simp[List.getElem?_zip_eq_some,hi,List.getElem?_range]
   ·simp[hi]
  rw[hid];refine Qn (h (Uv vs.length) ⟨by rw[hl],?_⟩);rw[List.pairwise_map];rw[hsz]at h2
  rcases(show vs.length=0∨vs.length=1 by omega)with z|z<;>rw[z]
  ·exact .nil
  ·exact List.pairwise_singleton _ _
 ·rw[Qu h2,Qu h2];rw[hsz]at h2;obtain⟨fs,f1,f2,f3⟩:=hp6.tups;refine Qf (kat_kind (T:=.type "int") f1 (by omega) (λv hv=>by obtain⟨i,t,rfl⟩:=f3 v hv;exact(show Looks _ _ (pure (Value.type "int")) _ from .now)) rfl ?_)
  refine Qf (QK (kat_run (ks:=vs) (G:=λp s'=>s' = {s with heap:=((s.heap.update a (Obj.mapSeq λ_=>#[])).push (seqObj "tuple" vs.toArray 0)).push (seqObj "list" #[] 0)}/\p=Kc (kl λi=>Kp (qs.getD i (0,0))) (kas_sort vs.length))
   (Q:=λst' s'=>s' = {s with heap:=((s.heap.update a (Obj.mapSeq λ_=>#[])).push (seqObj "tuple" vs.toArray 0)).push (seqObj "list" #[] 0)}/\failedOf st'=none/\arrOf st'=(Kc (kl λi=>Kp (qs.getD i (0,0))) (kas_sort vs.length)).map (kas_item (vs.toArray.zip vs.toArray)))
   rfl (by omega) h64 (λp st' s' a1 a2 a3 a4=>⟨a4.1,a3,by rw[a2,a4.2]⟩) ?_) ?_ λ_ _ e=>e)
  ·refine MF (N:=vs.length) (R:=λ_=>True) (lt:=kl λi=>Kp (qs.getD i (0,0))) (λi j C hi hj hC=>?_) _ _ (BZ (by omega)) ⟨rfl,rfl⟩;refine EV (Yx.get hp6 |>.2 i hi) (Yx.get hp6 |>.2 j hj) ?_;have oi:okP (qs.getD i (0,0)):=hq _ (by rw[Qh,Qd (by omega)];exact JK _);have oj:okP (qs.getD j (0,0)):=hq _ (by rw[Qh,Qd (by omega)];exact JK _);have e:decide ((qs.getD i (0,0)).1<(qs.getD j (0,0)).1∨(qs.getD i (0,0)).1=(qs.getD j (0,0)).1/\(qs.getD i (0,0)).2<(qs.getD j (0,0)).2)=kl (λi=>Kp (qs.getD i (0,0))) i j:=by unfold kl;exact decide_eq_decide.mpr (EW oi oj).symm
   rw[e];exact hC
  ·rintro⟨⟨⟩,st'⟩ s' ⟨rfl,hf,har⟩;dsimp only;obtain⟨b1,b2,b3⟩:=B0 (key:=λi=>Kp (qs.getD i (0,0))) (n:=vs.length) (by omega);generalize Kc (kl λi=>Kp (qs.getD i (0,0))) (kas_sort vs.length)=p at har b1 b2 b3;have hout:=kat_snds (ks:=vs) (vs:=vs) rfl har;have hsz2:((arrOf st').map (·.2)).size=vs.length:=by rw[hout,QG,Qb,JA,b2]
   refine Qf (seqEpoch_at ho6 rfl ?_);refine Qf (listUpdate_at ho6 rfl ?_ (hsz2:=by rw[hsz2,sizeLine_eq];omega));rw[hf];simp only[bne_self_eq_false,JY,if_false];rw[hout];refine Qn (h p.toList ⟨?_,?_⟩)
   ·have:=Array.perm_iff_toList_perm.mp b1;rw[←hl];exact this
   ·rw[List.pairwise_map,List.pairwise_iff_getElem];intro i j hi hj hij;rw[JA,b2]at hi hj;have:=b3 i j (by omega) hj;unfold KA at this;rw[Jg,Jg,JM (by omega),JM (by omega)]at this;simpa using this
end
section
variable{prog:Um}{w:World}{A:Around}{E:Uk->Ul->Prop}{s:Ul}
theorem qy{l:Uo}{vs:List Uk}{qs:LP}{Q:Uk->Ul->Prop}(hl:s.heap.IsList l vs.toArray)(hp:Yx s.heap vs qs)(hq:∀q∈qs,okP q)(h64:vs.length<64)
  (h:∀π:List Nat,Rk qs π->Q (.ref (s.heap.objs.size+1)) {s with heap:=sortedAll s.heap vs (List.toArray (π.map λi=>vs.getD i .none))}) :
  Us (model prog w) A (call (.builtin "sorted") [.ref l]) Q E s:=by
 refine Calls.call_function_entry kind_sorted plain_sorted entry_sorted (args_sorted1 _) ?_;unfold Builtin.«sorted»;refine Qf (m:=checkCount "sorted" 1 1 _) (Qn ?_);refine Qf (collect_list hl ?_);refine Qf (wpAny_newList ?_);have hsz:((s.heap.push (seqObj "list" #[] 0)).update s.heap.objs.size (Obj.mapSeq (· ++ vs.toArray))).objs.size=s.heap.objs.size+1:=by rw[Heap.size_update,size_push']
 have hoL:(((s.heap.push (seqObj "list" #[] 0)).update s.heap.objs.size (Obj.mapSeq (· ++ vs.toArray))).push (seqObj "list" vs.toArray 0)).get? (s.heap.objs.size+1)=some (seqObj "list" vs.toArray 0):=by rw[←hsz];exact QD _ rfl
 show Us _ _ _ _ _ {s with heap:=((s.heap.push (seqObj "list" #[] 0)).update s.heap.objs.size (Obj.mapSeq (· ++ vs.toArray))).push (seqObj "list" vs.toArray 0)};rw[hsz];refine Qf (Jy (wpAny_call_entry slot_list_sort ⟨_,hoL,rfl⟩ entry_list_sort (qR (qs:=qs) hoL (hp.mono λb o e=>?_) hq h64 λπ a1=>⟨_,rfl,?_⟩) (args_list_sort _)))
 ·have hlt:b<s.heap.objs.size:=Qi e;dsimp only;have hlt':(b:Nat)<s.heap.objs.size:=hlt;rw[Heap.get?_update_ne _ _ _ _ (QL (J9 hlt')),Heap.get?_push_ne _ _ _ (by rw[hsz];exact QL (J9 hlt')),Heap.get?_update_ne _ _ _ _ (QL hlt),Heap.get?_push_ne _ _ _ (QL hlt)];exact e
 ·exact Qn ⟨_,rfl,h π a1⟩
end
end DL
namespace DL
open PySem PySem.Spec L2
open PyProof.Rows hiding St
section
variable{X:Cx}
theorem MD{pins:List (Uo×Obj)}{s:Ul}{σ:St}{H:Hp}(I:Inv X pins σ H s):∀{as:List Uo}{us:List Uk}{qs:LP},Vals (as.map V.ref) us->as.length=qs.length->(∀(i:Nat) a q,as[i]?=some a->qs[i]?=some q->SqT X.K H a [.int q.1,.int q.2])->Yx s.heap us qs
 |[],_,[],.nil,_,_=>trivial
 |a::as,_,q::qs,.cons r t,hl,h=>by refine⟨?_,MD I t (by simpa using hl) λi a q h1 h2=>h (i+1) a q (by simpa using h1) (by simpa using h2)⟩;cases r;obtain⟨its,rv,⟨o,e,c,n,d⟩,_⟩:=I.tuple (h 0 a q rfl rfl);obtain⟨u,v,rfl,r1,r2⟩:=rv.two;obtain⟨t1,rfl⟩:=r1;obtain⟨t2,rfl⟩:=r2;exact⟨a,t1,t2,o,n,rfl,e,c,by simpa using d⟩
theorem Lc{as:List Uo}{us:List Uk}(r:Vals (as.map V.ref) us):∀(π:List Nat),(∀i∈π,i<as.length)->Vals (π.map λi=>V.ref (as.getD i 0)) (π.map λi=>us.getD i .none)
 |[],_=>.nil
 |i::π,h=>by
  refine .cons ?_ (Lc r π λj hj=>h j (Qk _ hj));have hi:=h i Qo;have e:(as.map V.ref)[i]?=some (.ref (as.getD i 0)):=by rw[List.getElem?_map,List.getElem?_eq_getElem hi];simp[List.getD,List.getElem?_eq_getElem hi]
  obtain⟨u,e2,ru⟩:=r.get e;simp only[List.getD,e2,JT];exact ru
theorem Av:YF X (.builtin "sorted") (λxs H Q=>∃l,∃as:List Uo,∃qs:LP,xs=[.ref l]/\SqL X.K H l (as.map V.ref)/\as.length=qs.length/\(∀(i:Nat) a q,as[i]?=some a->qs[i]?=some q->SqT X.K H a [.int q.1,.int q.2])/\(∀q∈qs,okP q)/\qs.length<64 /\
  ∀π p,Rk qs π->H p=none->Q (.ref p) (upd H p (.lst (π.map λi=>V.ref (as.getD i 0))))):=by
 intro pins s σ H xs us Q I rx h;obtain⟨l,as,qs,rfl,hq,hl,ht,ho,hb,q⟩:=h;obtain⟨u,rfl,ru⟩:=rx.one;cases ru;obtain⟨its,rv,p,hz⟩:=I.list hq;have hn:its.length=qs.length:=by have:=rv.length;rw[Qb]at this;omega
 refine qy (qs:=qs) p.isList (MD I rv hl ht) ho (by omega) λπ hπ=>?_
 obtain⟨e,he⟩:=sortedAll_at s.heap its (List.toArray (π.map λi=>its.getD i .none));have hπl:∀i∈π,i<as.length:=λi hi=>by have:=hπ.1.mem_iff.mp hi;rw[Q8]at this;omega
 refine⟨.ref (s.heap.objs.size+1),_,I.laid (t':=s.toks) (λb o=>sortedAll_old) (JV _) (show Yb X.prog X.w _ _ _ (.lst (π.map λi=>V.ref (as.getD i 0)))from⟨?_,_,e,Lc rv π hπl,he⟩),rfl,q π _ hπ (I.hok.fresh (JV _))⟩;rw[Qb,hπ.1.length_eq,Qq];rw[Qb]at hz;omega
def Ro:D->Option (Int×Int)
 |.tuple [.int a,.int b]=>some (a,b)
 |_=>none
def Vf:List D->Option LP
 |[]=>some []
 |d::r=>(Ro d).bind λq=>(Vf r).map (q :: ·)
def KI(q:Int×Int):D:=.tuple [.int q.1,.int q.2]
theorem BY{d:D}{q:Int×Int}(h:Ro d=some q):d=KI q:=by
 unfold Ro at h;split at h
 ·cases h;rfl
 ·cases h
theorem LU:∀{ds:List D}{qs:LP},Vf ds=some qs->ds=qs.map KI
 |[],qs,h=>by cases h;rfl
 |d::r,qs,h=>by
  unfold Vf at h;cases z:Ro d with
  |none=>rw[z]at h;cases h
  |some q=>
   rw[z]at h;cases z2:Vf r with
   |none=>rw[z2]at h;cases h
   |some qs'=>rw[z2]at h;cases h;rw[BY z,LU z2];rfl
theorem Hq:∀qs:LP,Vf (qs.map KI)=some qs
 |[]=>rfl
 |q::r=>by rw[Qx,Vf,Hq r];rfl
def X8(qs:LP):LP:=qs.mergeSort λx y=>decide (Kp x<=Kp y)
theorem Hi(qs:LP):(X8 qs).Perm qs:=List.mergeSort_perm ..
theorem Lb(qs:LP):(X8 qs).Pairwise λx y=>Kp x<=Kp y:=by have:=List.pairwise_mergeSort (le:=λx y:Int×Int=>decide (Kp x<=Kp y)) (by intro a b c;simp;omega) (by intro a b;simp;omega) qs;exact this.imp (by simp)
theorem P3:∀{a b:LP},(∀x∈a,okP x)->a.Perm b->a.Pairwise (λx y=>Kp x<=Kp y)->b.Pairwise (λx y=>Kp x<=Kp y)->a=b
 |[],b,_,p,_,_=>by rw[List.nil_perm.1 p]
 |x::a,[],_,p,_,_=>by have:=p.length_eq;simp at this
 |x::a,y::b,ok,p,ha,hb=>by
  have hx:Kp y<=Kp x:=by
   rcases QO.1 (p.mem_iff.1 (Qo ..))with e|e
   ·rw[e];exact QW _
   ·exact(Ju.1 hb).1 x e
  have hy:Kp x<=Kp y:=by
   rcases QO.1 (p.mem_iff.2 (Qo ..))with e|e
   ·rw[e];exact QW _
   ·exact(Ju.1 ha).1 y e
  have oky:okP y:=ok y (p.mem_iff.2 (Qo ..));have e:=Ct (ok x (Qo ..)) oky (J4 hy hx);subst e;rw[P3 (λz hz=>ok z (Qk _ hz)) (List.Perm.cons_inv p) (Ju.1 ha).2 (Ju.1 hb).2]
theorem Cs{qs:LP}{π:List Nat}(ok:∀q∈qs,okP q)(h:Rk qs π):(π.map λi=>qs.getD i (0,0))=X8 qs:=by
 have hp:(π.map λi=>qs.getD i (0,0)).Perm qs:=by
  have h1:=h.1.map λi=>qs.getD i (0,0)
  have e:(Uv qs.length).map (λi=>qs.getD i (0,0))=qs:=by
   apply Jq;intro i;rw[Qe];by_cases hi:i<qs.length
   ·rw[List.getElem?_range hi,List.getElem?_eq_getElem hi];simp[List.getD,List.getElem?_eq_getElem hi]
   ·rw[QB (by rw[Qq];omega),QB (by omega)];rfl
  rw[e]at h1;exact h1
 exact P3 (λx hx=>ok x (hp.mem_iff.mp hx)) (hp.trans (Hi qs).symm) h.2 (Lb qs)
def okPB(q:Int×Int):Bool:=decide (-1000000<=q.2/\q.2<=1000000)
def SA:List D->Option D
 |[.list ds]=>(match Vf ds with
  |some qs=>if qs.length<64/\qs.all okPB=true then some (.list ((X8 qs).map KI))else none
  |none=>none)
 |_=>none
theorem Au{xs:List D}{d:D}(h:SA xs=some d):∃qs:LP,xs=[.list (qs.map KI)]/\qs.length<64/\(∀q∈qs,okP q)/\d=.list ((X8 qs).map KI):=by
 unfold SA at h;split at h
 ·rename_i ds;cases z:Vf ds with
  |none=>rw[z]at h;cases h
  |some qs=>
   rw[z]at h;dsimp only at h;split at h
   ·rename_i c;cases h;exact⟨qs,by rw[LU z],c.1,λq hq=>(show -1000000<=q.2/\q.2<=1000000 from Qa (Jn.mp c.2 q hq)),rfl⟩
   ·cases h
 ·cases h
theorem La{K:Frag}{G:Hp}:∀{vs:List V}{qs:LP},Reps K G vs (qs.map KI)->∃as:List Uo,vs=as.map V.ref/\as.length=qs.length/\∀(i:Nat) a q,as[i]?=some a->qs[i]?=some q->SqT K G a [.int q.1,.int q.2]
 |_,[],.nil=>⟨[],rfl,rfl,λi a q h=>by simp at h⟩
 |_,q::qs,.cons r t=>by
  obtain⟨as,rfl,hl,h⟩:=La t;obtain⟨a,ws,rfl,h1,r1⟩:=r.tup_inv;cases r1 with
  |cons ra rb=>
   obtain⟨v,rfl,rb'⟩:=rb.one_inv;refine⟨a::as,rfl,by simp[hl],λi a' q' e1 e2=>?_⟩;cases i with
   |zero=>cases e1;cases e2;rw[ra.int_inv,rb'.int_inv]at h1;exact h1
   |succ i=>exact h i a' q' (by simpa using e1) (by simpa using e2)
theorem Cr{K:Frag}{G:Hp}{a:Uo}{q:Int×Int}(h:SqT K G a [.int q.1,.int q.2]):Rep K G (.ref a) (KI q):=.tup h (.cons (.int _) (.cons (.int _) .nil))
theorem M9{K:Frag}{G:Hp}{as:List Uo}{qs:LP}(hl:as.length=qs.length)(h:∀(i:Nat) a q,as[i]?=some a->qs[i]?=some q->SqT K G a [.int q.1,.int q.2]):∀π:List Nat,(∀i∈π,i<qs.length)->Reps K G (π.map λi=>V.ref (as.getD i 0)) ((π.map λi=>qs.getD i (0,0)).map KI)
 |[],_=>.nil
 |i::π,hb=>by
  refine .cons ?_ (M9 hl h π λj hj=>hb j (Qk _ hj));have hi:=hb i Qo;refine Cr (h i _ _ ?_ ?_)
  ·rw[List.getElem?_eq_getElem (by omega)];simp[List.getD,List.getElem?_eq_getElem (show i<as.length by omega)]
  ·rw[List.getElem?_eq_getElem hi];simp[List.getD,List.getElem?_eq_getElem hi]
theorem EU:YX X (.builtin "sorted") SA:=by refine⟨_,Av,λvs G H ds d Q s r e k=>?_⟩;obtain⟨qs,rfl,h64,ok,rfl⟩:=Au e;obtain⟨v,rfl,q1⟩:=r.one_inv;obtain⟨l,ws,rfl,h1,r1⟩:=q1.lst_inv;obtain⟨as,rfl,hl,ht⟩:=La r1;refine⟨l,as,qs,rfl,s.seq h1,hl,λi a q e1 e2=>YR s (ht i a q e1 e2),ok,h64,λπ p hπ hp=>?_⟩;have hb:∀i∈π,i<qs.length:=λi hi=>Q8.mp (hπ.1.mem_iff.mp hi);have rr:=(M9 hl ht π hb).mono (Zt (s.free hp):Same G (upd G p (.lst (π.map λi=>V.ref (as.getD i 0)))));rw[Cs ok hπ]at rr;exact k _ _ _ (Ext.new s hp) (.lst (SqL.of Zu) rr)
theorem YX.or{f:Uk}{p q:List D->Option D}(h1:YX X f p)(h2:YX X f q):YX X f (λxs=>(p xs).orElse λ_=>q xs):=by
 obtain⟨r1,c1,k1⟩:=h1;obtain⟨r2,c2,k2⟩:=h2;refine⟨λxs H Q=>r1 xs H Q∨r2 xs H Q,λpins s σ H xs us Q I rx h=>?_,λvs G H ds d Q s r e k=>?_⟩
 ·rcases h with h|h
  ·exact c1 pins s σ H xs us Q I rx h
  ·exact c2 pins s σ H xs us Q I rx h
 ·dsimp only at e;cases z:p ds with
  |some d'=>rw[z]at e;cases e;exact .inl (k1 vs G H ds _ Q s r z k)
  |none=>rw[z]at e;exact .inr (k2 vs G H ds _ Q s r e k)
def Vm(xs:List D):Option D:=(Vr xs).orElse λ_=>SA xs
theorem Gv:YX X (.builtin "sorted") Vm:=E6.or EU
theorem Hh{ns:List Int}(h:ns.length<64):Vm [.list (ns.map .int)]=some (.list ((Yj ns).map .int)):=by unfold Vm;rw[B5 h];rfl
theorem BX{qs:LP}(h:qs.length<64)(ok:∀q∈qs,okP q):Vm [.list (qs.map KI)]=some (.list ((X8 qs).map KI)):=by
 cases qs with
 |nil=>
  have e1:X8 []=[]:=by unfold X8;simp
  have e2:Yj []=[]:=by unfold Yj;simp
  have:=Hh (ns:=[]) (by decide);rw[e2]at this;rw[e1];exact this
 |cons q r=>have e1:Vr [.list ((q::r).map KI)]=none:=rfl;unfold Vm;rw[e1,Option.orElse];unfold SA;dsimp only;rw[Hq];exact Qm ⟨h,Jn.mpr λq hq=>Q7 (show -1000000<=q.2/\q.2<=1000000 from ok q hq)⟩
end
section
variable{X:Cx}
end
section
variable{X:Cx}{B G0:Hp}{e o a b c tg:Uq}{pos p2:Pos}{es rest:List Uq}{te to ti:TE}
end
def Sz(Z:UG)(j:Nat):Option D:=match Z[j]? with
 |some (some (.pub d))=>some d
 |some (some (.own ds))=>some (.list ds)
 |some (some (.deep _ d))=>some d
 |_=>none
theorem EOk.tree{K:Frag}{B G0 G H:Hp}{σ:St}{Z:UG}{j:Nat}{d:D}(k:EOk K B G0 G H σ Z)(h:Sz Z j=some d):∃v,σ[j]?=some (some v)/\Rep K H v d:=by
 unfold Sz at h;split at h
 ·rename_i d' e;cases h;obtain⟨v,h1,h2⟩:=k.pub j _ e;exact⟨v,h1,h2.mono k.gh⟩
 ·rename_i ds e;cases h;obtain⟨a,vs,h1,h2,h3,h4,h5⟩:=k.own j ds e;exact⟨.ref a,h1,.lst (SqL.of h4) (h5.mono k.gh)⟩
 ·rename_i p d' e;cases h;obtain⟨ω,k1,k2⟩:=k.dp;obtain⟨v,fp,s,r,_⟩:=k1 j p _ e;exact⟨v,s,r.rep k.gh⟩
 ·cases h
section
variable{X:Cx}{B G0:Hp}{e o a b c tg:Uq}{pos p2:Pos}{es rest:List Uq}
end
end DL
namespace HT
open PySem PyProof.Rows
theorem Cq{xs ys:List Int}{i:Nat}(h1:xs.length<=i):ZC (ys.drop i) (xs.drop i)=false:=by rw[List.drop_of_length_le h1];cases ys.drop i<;>rfl
theorem Cp{xs ys:List Int}{i:Nat}(h1:ys.length<=i)(h2:i<xs.length):ZC (ys.drop i) (xs.drop i)=true:=by rw[List.drop_of_length_le h1,QR h2];rfl
theorem Co{xs ys:List Int}{i:Nat}{a c:Int}(h1:xs[i]?=some a)(h2:ys[i]?=some c):ZC (ys.drop i) (xs.drop i)=if c=a then ZC (ys.drop (i+1)) (xs.drop (i+1))else decide (c<a):=by obtain⟨l1,e1⟩:=Qg.mp h1;obtain⟨l2,e2⟩:=Qg.mp h2;rw[QR l1,QR l2,L6,e1,e2]
section
open PySem.SeqAt
open PySem.AutoSeq1 (wpAny_loadPart')
open PySem.MeetsSeq PySem.MeetsSeq2 PySem.MeetsSeq3
theorem Cn(A:Around)(s:Ul)(a:Int)(t:Tok)(c:Int)(u:Tok)(prog:Um)(w:World)(E:Uk->Ul->Prop)(Q:Uk->Ul->Prop)(h:Q (.bool (decide (c<a))) s) :
  Us (model prog w) A (richCompare .Gt (.int a t) (.int c u)) Q E s:=
 (PyProof.Rows.gt_int h:Us (model prog w) A (Uu .Gt (.int a t) (.int c u)) Q E s)
theorem BW{p q:Uo}{us vs:Array Uk}{m m':Nat}{dp dq:Option Uo}{sp sq:Array (Option Uk)}{xs ys:List Int}(ix:IntsAre us.toList xs)(iy:IntsAre vs.toList ys) :
  ∀d i:Nat,us.size-i=d->i<=us.size->i<=vs.size->Meets (Builtin.«list.__eq__.loop» ⟨[.ref p,.ref q,rawInt i,rawInt 4],[]⟩)
   (λ_ R s=>s.heap.get? p=some {cls:=.type "list", dict:=dp,data:=.seq us m,slots:=sp}/\s.heap.get? q=some {cls:=.type "list", dict:=dq,data:=.seq vs m',slots:=sq} /\
    R (.ok (.ret (.bool (ZC (ys.drop i) (xs.drop i))))) s):=by
 have zx:us.size=xs.length:=by rw[←ix.length];simp
 have zy:vs.size=ys.length:=by rw[←iy.length];simp
 intro d;induction d with
 |zero=>
  intro i hd h1 h2 prog w A R s h;obtain⟨hp,g,dd,tk,os⟩:=s;obtain⟨gp,gq,h⟩:=h
  wp_walk using wpAny_loadPart' gp,wpAny_loadPart' gq
  have n1:us[((i:Nat):Int).toNat]?=none:=by simp;omega
  rw[n1]
  wp_walk using wpAny_loadPart' gp,wpAny_loadPart' gq
  show R (.ok (.ret (.bool (decide (us.size > vs.size))))) _;rw[QH (by omega)];rw[Cq (by omega)]at h;exact h
 |succ d ih=>
  intro i hd h1 h2 prog w A R s h;obtain⟨hp,g,dd,tk,os⟩:=s;obtain⟨gp,gq,h⟩:=h
  wp_walk using wpAny_loadPart' gp,wpAny_loadPart' gq
  have lt1:i<us.size:=by omega
  have s1:us[((i:Nat):Int).toNat]?=some us[i]:=by simp[lt1]
  obtain⟨a,t,ea,xa⟩:=ix.at (i:=i) (v:=us[i]) (by simp[lt1]);rcases Nat.lt_or_ge i vs.size with lt2|ge2
  ·have s2:vs[((i:Nat):Int).toNat]?=some vs[i]:=by simp[lt2]
   obtain⟨c,u,ec,yc⟩:=iy.at (i:=i) (v:=vs[i]) (by simp[lt2]);rw[s1,s2,ea,ec];rw[Co xa yc]at h;obtain⟨e,he,hiff⟩:=Ce A.in1 ⟨hp,g,dd,tk,os⟩ a t c u;refine Qf (he prog w _ _ ?_);cases e with
   |true=>
    have hac:a=c:=hiff.mp rfl;rw[Qm hac.symm]at h
    wp_walk
    have up:((i:Int)+1)=((i+1:Nat):Int):=by omega
    rw[up];exact⟨plainId_quiet plain_eq_loop _,JE entry_eq_loop (by rw[Around.under_plainId plain_eq_loop _];exact ih (i+1) (by omega) (by omega) (by omega) prog w A R _ ⟨gp,gq,h⟩)⟩
   |false=>
    have hac:¬c=a:=λz=>absurd (hiff.mpr z.symm) JF;rw[Qu hac]at h;have rc:=Cn A.in1 ⟨hp,g,dd,tk,os⟩ a t c u prog w
    wp_walk using wpAny_loadPart' gp,wpAny_loadPart' gq
    rw[s1,s2,ea,ec]
    wp_walk using rc
    exact h
  ·have n2:vs[((i:Nat):Int).toNat]?=none:=by simp;omega
   rw[s1,n2]
   wp_walk using wpAny_loadPart' gp,wpAny_loadPart' gq
   show R (.ok (.ret (.bool (decide (us.size > vs.size))))) _;rw[Q7 (by omega)];rw[Cp (by omega) (by omega)]at h;exact h
theorem At{p q:Uo}{us vs:Array Uk}{m m':Nat}{dp dq:Option Uo}{sp sq:Array (Option Uk)}{xs ys:List Int}(ix:IntsAre us.toList xs)(iy:IntsAre vs.toList ys) :
  Meets (Builtin.«list.__gt__» ⟨[.ref p,.ref q],[]⟩)
   (λ_ R s=>s.heap.get? p=some {cls:=.type "list", dict:=dp,data:=.seq us m,slots:=sp}/\s.heap.get? q=some {cls:=.type "list", dict:=dq,data:=.seq vs m',slots:=sq} /\
    R (.ok (.ret (.bool (ZC ys xs)))) s):=by
 intro prog w A R s h;obtain⟨hp,g,dd,tk,os⟩:=s;obtain⟨gp,gq,h⟩:=h;have f3:=AutoSeq1.sub_list_list
 wp_walk using wpAny_loadPart' gp,wpAny_loadPart' gq
 exact⟨plainId_quiet plain_eq_loop _,JE entry_eq_loop (by rw[Around.under_plainId plain_eq_loop _];exact BW ix iy _ 0 rfl (Nat.zero_le _) (Nat.zero_le _) prog w A R _ ⟨gp,gq,by simpa using h⟩)⟩
end
section
variable{prog:Um}{w:World}{A:Around}{E:Uk->Ul->Prop}{s:Ul}
theorem qd{p q:Uo}{us vs:Array Uk}{xs ys:List Int}{Q:Uk->Ul->Prop}(hl:s.heap.IsList p us)(hb:s.heap.IsList q vs)(ix:IntsAre us.toList xs)(iy:IntsAre vs.toList ys)
  (hu:A.units<cLine) (h:Q (.bool (ZC ys xs)) s):Us (model prog w) A (Uu .Gt (.ref p) (.ref q)) Q E s:=by
 obtain⟨⟨cls,dd,data,sl⟩,ho,hc,n,hd⟩:=id hl;obtain⟨⟨cls2,dd2,data2,sl2⟩,ho2,hc2,n2,hd2⟩:=id hb;simp only at hc hd hc2 hd2;subst hc hd hc2 hd2
 exact richCompare_meets_room (op:=.Gt) ⟨_,ho,rfl⟩ ⟨_,ho2,rfl⟩ PySem.F.slot_list_gt PySem.F.entry_list_gt (PySem.F.args_list_gt_2 _ _) (At ix iy)
  ⟨ho,ho2,show Value.bool (ZC ys xs)≠Value.notImplemented/\Q (.bool (ZC ys xs)) s from⟨(λx=>nomatch x),h⟩⟩ hu
end
end HT
namespace DL
open PySem PySem.Spec L2
open PyProof.Rows hiding St
section
variable{X:Cx}
def XH(x y:D):Option Bool:=match x,y with
 |.list xs,.list ys=>(match ZV xs,ZV ys with
  |some ns,some ms=>some (HT.ZC ms ns)
  |_,_=>none)
 |_,_=>none
def rGtL(K:Frag):R2:=λx y H Q=>∃a b ns ms,x=.ref a/\y=.ref b/\SqL K H a (ns.map V.int)/\SqL K H b (ms.map V.int)/\Q (.bl (HT.ZC ms ns)) H
theorem Gu(hu:X.A.units<cLine):OpR X (Uu .Gt) (rGtL X.K):=by intro pins s σ H x y v u Q I rx ry h;obtain⟨a,b,ns,ms,rfl,rfl,ha,hb,q⟩:=h;cases rx;cases ry;obtain⟨its,r1,p1,_⟩:=I.list ha;obtain⟨its2,r2,p2,_⟩:=I.list hb;exact HT.qd p1.isList p2.isList (L5 r1) (L5 r2) hu ⟨.bl (HT.ZC ms ns),H,I,rfl,q⟩
theorem Hy(hu:X.A.units+64<cLine):OpB X (Uu .Gt) XH:=by
 refine⟨_,Gu (by omega),λv u G H x y d Q s rx ry e k=>?_⟩;unfold XH at e;split at e
 ·rename_i xs ys;cases z1:ZV xs with
  |none=>rw[z1]at e;cases e
  |some ns=>
   rw[z1]at e;cases z2:ZV ys with
   |none=>rw[z2]at e;cases e
   |some ms=>rw[z2]at e;cases e;obtain⟨a,vs,rfl,q1,w1⟩:=rx.lst_inv;obtain⟨b,us,rfl,q2,w2⟩:=ry.lst_inv;have e1:=VD w1 z1;have e2:=VD w2 z2;subst e1 e2;exact⟨a,b,ns,ms,rfl,rfl,s.seq q1,s.seq q2,k⟩
 ·cases e
def Wk(x y:D):Option Bool:=((oIB λi j=>decide (j<i)) x y).orElse λ_=>XH x y
theorem Gn(hu:X.A.units+64<cLine):OpB X (Uu .Gt) Wk:=OpB.or B_gt (Hy hu)
theorem ET{ns ms:List Int}:Wk (.list (ns.map .int)) (.list (ms.map .int))=some (HT.ZC ms ns):=by
 have e:XH (.list (ns.map .int)) (.list (ms.map .int))=some (HT.ZC ms ns):=by unfold XH;dsimp only;rw[VH,VH]
 unfold Wk;rw[e];rfl
end
section
variable{X:Cx}
def TQ(x y:D):Option (List D):=match x,y with
 |.list xs,.int k=>if -1000000<=k/\k<=1000000/\xs.length*k.toNat<=1000000 then some (Uw k.toNat xs).flatten else none
 |_,_=>none
theorem BV{x y:D}{ds:List D}(h:TQ x y=some ds):∃xs k,x=.list xs/\y=.int k/\(-1000000<=k/\k<=1000000/\xs.length*k.toNat<=1000000)/\ds=(Uw k.toNat xs).flatten:=by
 unfold TQ at h;split at h
 ·split at h
  ·rename_i xs k c;cases h;exact⟨xs,k,rfl,rfl,c,rfl⟩
  ·cases h
 ·cases h
def Vl(f g:M D):M (List D):=U6 f λx=>U6 g λy=>U9 (TQ x y)
theorem NU{f g:M D}(ha:PE X a (tD X.K B G0 f))(hb:PE X b (tD X.K B G0 g)):PE X (.BinOp a .Mult b pos) (tL X.K B G0 (Vl f g)):=
 Ko (OV Md ha hb) λσ H Q ⟨G,Z,k,q⟩=>by
  refine⟨G,Z,k,?_⟩;unfold Vl U6 at q;cases z:f Z with
  |bad=>rw[z]at q;exact q.elim
  |ok x Z1=>
   rw[z]at q;dsimp only at q;intro v G1 H1 k1 s1 r1;refine⟨G1,Z1,k1,?_⟩;cases z2:g Z1 with
   |bad=>rw[z2]at q;exact q.elim
   |ok y Z2=>
    rw[z2]at q;dsimp only[U9]at q;intro u G2 H2 k2 s2 r2;cases z3:TQ x y with
    |none=>rw[z3]at q;exact q.elim
    |some ds=>rw[z3]at q;obtain⟨xs,i,rfl,rfl,c,rfl⟩:=BV z3;obtain⟨l,vs,rfl,h1,w⟩:=r1.lst_inv;exact⟨l,i,vs,rfl,r2.int_inv,k2.gh.seq (s2.seq h1),by omega,by omega,by rw[w.length];exact QP c.2.2 lim,λp hp=>q p _ G2 _ (k2.ext (Ext.hid k2.gh hp)) (s1.trans s2) (NewL.of k2 hp ((w.mono s2).rep _))⟩
theorem Pw{f g:M D}{Z Z1 Z2:UG}{x:D}{n:Nat}(h1:f Z=.ok (.list [x]) Z1)(h2:g Z1=.ok (.int n) Z2)(h:n<=1000):Vl f g Z=.ok (Uw n x) Z2:=by
 unfold Vl U6;rw[h1];dsimp only;rw[h2];dsimp only[U9]
 have e:TQ (.list [x]) (.int n)=some (Uw n x):=by
  unfold TQ;dsimp only;rw[Qm ⟨by omega,by omega,by show 1*_<=_;omega⟩]
  congr 1
  rw[Qy];clear h2 h;induction n with
  |zero=>rfl
  |succ n ih=>rw[QX,QM,ih,QX];rfl
 rw[e]
end
end DL
namespace DL
open PySem
theorem lz0{P:List Uk->Prop}{us:List Uk}(hl:us.length=0)(h:P []):P us:=by
 cases us with
 |nil=>exact h
 |cons a r=>cases hl
theorem lzS{P:List Uk->Prop}{us:List Uk}{n:Nat}(hl:us.length=n+1)(h:∀a r,r.length=n->P (a::r)):P us:=by
 cases us with
 |nil=>cases hl
 |cons a r=>exact h a r (Nat.succ.inj hl)
theorem lz1{P:List Uk->Prop}{us:List Uk}(hl:us.length=1)(h:∀a,P [a]):P us:=lzS hl λa r e=>lz0 (P:=λr=>P (a::r)) e (h a)
theorem lz2{P:List Uk->Prop}{us:List Uk}(hl:us.length=2)(h:∀a b,P [a,b]):P us:=lzS hl λa r e=>lz1 (P:=λr=>P (a::r)) e (h a)
theorem lz3{P:List Uk->Prop}{us:List Uk}(hl:us.length=3)(h:∀a b c,P [a,b,c]):P us:=lzS hl λa r e=>lz2 (P:=λr=>P (a::r)) e (h a)
theorem lz4{P:List Uk->Prop}{us:List Uk}(hl:us.length=4)(h:∀a b c d,P [a,b,c,d]):P us:=lzS hl λa r e=>lz3 (P:=λr=>P (a::r)) e (h a)
theorem lz5{P:List Uk->Prop}{us:List Uk}(hl:us.length=5)(h:∀a b c d e,P [a,b,c,d,e]):P us:=lzS hl λa r e=>lz4 (P:=λr=>P (a::r)) e (h a)
theorem bz1{fd:Up}{ps:List Str}{us:List Uk}(hl:us.length=1)(h:∀a,bindArgs fd {pos:=[a]}=pure (ps.zip [a])):bindArgs fd {pos:=us}=pure (ps.zip us):=lz1 (P:=λus=>bindArgs fd {pos:=us}=pure (ps.zip us)) hl h
theorem bz2{fd:Up}{ps:List Str}{us:List Uk}(hl:us.length=2)(h:∀a b,bindArgs fd {pos:=[a,b]}=pure (ps.zip [a,b])):bindArgs fd {pos:=us}=pure (ps.zip us):=lz2 (P:=λus=>bindArgs fd {pos:=us}=pure (ps.zip us)) hl h
theorem bz3{fd:Up}{ps:List Str}{us:List Uk}(hl:us.length=3)(h:∀a b c,bindArgs fd {pos:=[a,b,c]}=pure (ps.zip [a,b,c])):bindArgs fd {pos:=us}=pure (ps.zip us):=lz3 (P:=λus=>bindArgs fd {pos:=us}=pure (ps.zip us)) hl h
theorem bz4{fd:Up}{ps:List Str}{us:List Uk}(hl:us.length=4)(h:∀a b c d,bindArgs fd {pos:=[a,b,c,d]}=pure (ps.zip [a,b,c,d])):bindArgs fd {pos:=us}=pure (ps.zip us):=lz4 (P:=λus=>bindArgs fd {pos:=us}=pure (ps.zip us)) hl h
theorem bz5{fd:Up}{ps:List Str}{us:List Uk}(hl:us.length=5)(h:∀a b c d e,bindArgs fd {pos:=[a,b,c,d,e]}=pure (ps.zip [a,b,c,d,e])):bindArgs fd {pos:=us}=pure (ps.zip us):=lz5 (P:=λus=>bindArgs fd {pos:=us}=pure (ps.zip us)) hl h
end DL
namespace DL
open PySem PySem.Spec L2
open PyProof.Rows hiding St
def whole(h:Heap):Frag:=(Uv h.objs.size).filterMap λa=>(h.get? a).map λo=>(a,o)
theorem M8{g:Uo->Option Obj}{x:Uo}:∀l:List Uo,(l.filterMap λa=>(g a).map λo=>(a,o)).lookup x=if x∈l then g x else none
 |[]=>rfl
 |y::l=>by
  have ih:=M8 (g:=g) (x:=x) l;by_cases e:x=y
  ·subst e;rw[Qm Qo];cases z:g x with
   |none=>rw[List.filterMap_cons_none (by rw[z];rfl),ih,z];split<;>rfl
   |some o=>rw[List.filterMap_cons_some (by rw[z];rfl),QY,beq_self_eq_true]
  ·have m:(x∈y::l)=(x∈l):=by simp[List.mem_cons,e]
   have b:(x==y)=false:=by simpa using e
   have ih':(if x∈y::l then g x else none)=_:=(by simp only[m];exact ih.symm)
   rw[ih'];cases z:g y with
   |none=>rw[List.filterMap_cons_none (by rw[z];rfl)]
   |some o=>rw[List.filterMap_cons_some (by rw[z];rfl),QY,b]
theorem SY{h:Heap}{a:Uo}:(whole h).lookup a=h.get? a:=by
 unfold whole;rw[M8];split
 ·rfl
 ·rename_i n;cases z:h.get? a with
  |none=>rfl
  |some o=>exact absurd (Q8.mpr (Qi z)) n
theorem Cm(h:Heap):(whole h).In h:=λa o e=>by rw[SY]at e;exact e
def Gm(st:Stmt):Option DefRec:=match st with
 |.FunctionDef name a b _ _ _ sc _ _ pos=>some ⟨name,a,b,sc,pos⟩
 |_=>none
def Pk(st:Stmt):Option Str:=match st with
 |.FunctionDef name _ _ _ _ _ _ _ _ _=>some name
 |_=>none
def Gk(st:Stmt):Pos:=match st with
 |.FunctionDef _ _ _ _ _ _ _ _ _ pos=>pos
 |_=>⟨0,0,0,0⟩
abbrev Zk(p:Um)(i:Nat):Stmt:=p.main.body.getD i (.Pass ⟨0,0,0,0⟩)
def Sy(p:Um)(ix:List Nat):List DefRec:=ix.filterMap λi=>Gm (Zk p i)
section
variable{p q:Um}{loose:List Str}{mean:ExcName->Option Uk}{mg mb:Str->Option Uk}{h:Heap}{w:World}
theorem Nf{ix:List Nat}(T:Top q loose mean mg mb h)(e:recsOf q=Sy p ix)(i:Nat)(x:Str)(hi:ix.contains i=true)(hn:Pk (Zk p i)=some x):∃f fd,mg x=some (.ref f)/\Fun (whole h) x x (Zk p i) f fd:=by
 cases hs:Zk p i with
 |FunctionDef name a b _ _ _ sc _ _ pos=>
  rw[hs]at hn;cases hn;have hd:(⟨x,a,b,sc,pos⟩:DefRec)∈recsOf q:=by rw[e];exact List.mem_filterMap.mpr ⟨i,by simpa using hi,by rw[hs];rfl⟩
  obtain⟨f,⟨oc,od,dt,osl⟩,pm,cd,doc,h1,h2,h3,h4⟩:=T.fn _ hd;have h3:dt=_:=h3;subst h3;refine⟨f,_,h1,⟨⟨oc,od,.none,doc,pm,_,cd,_,osl,rfl,by rw[SY];exact h2,?_⟩,?_⟩⟩
  ·obtain⟨c,⟨_,_,dc,_⟩,vs,t,rfl,g1,g2,g3⟩:=h4;have g2:dc=_:=g2;subst g2;unfold PySem.W.codeIn;dsimp only;rw[SY,g1];dsimp only;have g4:vs.toList[1]?=some (.str x t):=by rw[Array.getElem?_toList];exact g3
   cases hv:vs.toList with
   |nil=>rw[hv]at g4;cases g4
   |cons v0 r=>
    rw[hv]at g4;cases r with
    |nil=>cases g4
    |cons v1 r=>cases g4;exact beq_self_eq_true _
  ·unfold PySem.W.keepIn;dsimp only;rw[SY,h2]
 |_=>rw[hs]at hn;cases hn
theorem BU{K:Frag}{x qual y:Str}{st:Stmt}{f:Uo}{fd:Up}(F:Fun K x qual st f fd)
  (hb:∀(kV doc pm:Uk)(an:Option Uo)(cdv ct v:Uk),bindArgs (PySem.W.fnOf x qual (Sb st) (Vd st) (ZM st) .none kV doc pm an cdv ct) ⟨[v],[]⟩=pure [(y,v)]) (s:Ul) (v:Uk):BindsTo s fd ⟨[v],[]⟩ [(y,v)]:=by
 obtain⟨oc,od,kV,doc,pm,an,cdv,ct,osl,rfl,lk,hcd⟩:=F.ex;exact .of_eq (hb kV doc pm an cdv ct v)
def Rl(q:Um)(loose:List Str)(x:Str):Bool:=
 !startupNames.contains x && !loose.contains x && !((recsOf q).map (·.name)).contains x && !((litsOf q).map (·.1)).contains x && !((clssOf q loose).map (·.name)).contains x
theorem YG(T:Top q loose mean mg mb h){xs:List Str}(e:xs.all (Rl q loose)=true){x:Str}(hx:x∈xs):mg x=none:=by have:=Jn.mp e x hx;unfold Rl at this;simp only[Jc,Bool.not_eq_true',List.contains_eq_mem,decide_eq_false_iff_not]at this;exact T.free x this.1.1.1.1 this.1.1.1.2 this.1.1.2 this.1.2 this.2
theorem RP(T:Top q loose mean mg mb h){x:Str}{i:Int}(e:valOf q x=some (.int i)):∃t,mg x=some (.int i t):=by obtain⟨v,h1,h2⟩:=T.const x _ e;have:=h2 h;cases this;exact⟨_,h1⟩
theorem OK:∀{vs:List Uk}{ss:List Str},StrsAre vs ss->Vals (ss.map V.str) vs
 |_,_,.nil=>.nil
 |_,_,.cons y t r=>.cons ⟨t,rfl⟩ (OK r)
theorem BS(B:Tables q w mg h){x:Str}{ss:List Str}(e:tupStrsOf q x=some ss)(hl:ss.length<=1000) :
  ∃ad o its n,mg x=some (.ref ad)/\(whole h).lookup ad=some o/\o.cls=.type "tuple" /\ o.data=.seq its n/\its.size<=Ur/\Vals (ss.map V.str) its.toList:=by
 obtain⟨a,vs,h1,⟨o,h2,h3,n,h4⟩,h5⟩:=B.tupS x ss e;have r:=OK h5;refine⟨a,o,_,n,h1,by rw[SY];exact h2,h3,h4,?_,r⟩;have:=r.length;rw[Qb]at this;have l:(1000:Nat)<=Ur:=by decide
 rw[QG];omega
end
def scOk(sc:Scope)(N gl:List Str):Bool:=(N.all λx=>match sc.names.lookup x with|some .local=>true|some .cell=>true|_=>false)&&gl.all λx=>match sc.names.lookup x with|some .globalImplicit=>true|_=>false
def fnB(sc:Scope)(N gl:List Str):Bool:=decide (sc.kind=.function) && !sc.isCoroutine && !sc.isGenerator&&decide N.Nodup&&(sc.names.all λy=>match y.2 with | .free=>false|_=>true)&&scOk sc N gl
structure FnNm(sc:Scope)(N gl:List Str):Prop where
 kind:sc.kind=.function
 co:sc.isCoroutine=false
 gen:sc.isGenerator=false
 nd:N.Nodup
 nofree:∀y∈sc.names,y.2≠.free
 nm:∀x∈N,sc.names.lookup x=some .local∨sc.names.lookup x=some .cell
 gl:∀x∈gl,sc.names.lookup x=some .globalImplicit
theorem KM{sc:Scope}{N gl:List Str}(H:fnB sc N gl=true):FnNm sc N gl:=by
 unfold fnB scOk at H;simp only[Jc,Q3,Bool.not_eq_true',Jn]at H;obtain⟨⟨⟨⟨⟨h1,h2⟩,h3⟩,h4⟩,h5⟩,h6,h7⟩:=H;refine⟨h1,h2,h3,h4,λy hy e=>?_,λx hx=>?_,λx hx=>?_⟩
 ·have:=h5 y hy;rw[e]at this;cases this
 ·have:=h6 x hx;split at this
  ·rename_i e;exact .inl e
  ·rename_i e;exact .inr e
  ·cases this
 ·have:=h7 x hx;split at this
  ·rename_i e;exact e
  ·cases this
section
variable{sc:Scope}{N gl:List Str}{x:Str}
theorem nq(H:FnNm sc N gl):N.Nodup:=H.nd
theorem fq(H:FnNm sc N gl)(n:Nat):SU N (N.take n) sc:=⟨H.kind,H.co,H.gen,H.nd,by rw[Q0,List.take_eq_take_iff];omega,λx hx=>H.nm x (List.mem_of_mem_take hx),H.nofree⟩
theorem lq(H:FnNm sc N gl)(i:Nat)(h:N[i]?=some x:=by rfl):L2.Loc sc x:=H.nm x (Qp h)
theorem gq(H:FnNm sc N gl)(i:Nat)(h:gl[i]?=some x:=by rfl):sc.names.lookup x=some .globalImplicit:=H.gl x (Qp h)
theorem pq{X:Cx}{pos:Pos}(H:FnNm X.env.scope X.N gl)(i:Nat)(h:X.N[i]?=some x:=by rfl)(hd:(x==("__debug__" : Str))=false:=by decide)(hc:(x==("__classdict__" : Str))=false:=by decide):PE X (.Name x pos) (Zw i):=
 O9 h ((H.nm x (Qp h)).elim .inl λz=>.inr (.inl z)) hd hc
end
theorem KN{q p:Um}{loose:List Str}{mean:ExcName->Option Uk}{mg mb:Str->Option Uk}{h:Heap}{ix:List Nat}(P:Um)(w:World)(base:Heap){ps:List Str}{k n:Nat}{F:List D->Option D}(T:Top q loose mean mg mb h)(e:recsOf q=Sy p ix)(i:Nat)(x:Str)(hi:ix.contains i=true)(hn:Pk (Zk p i)=some x)
  (ok:∀{f:Uo}{fd:Up},Fun (whole h) x x (Zk p i) f fd->FnOk P w (whole h) mg base CX0 k f fd ps (spD (whole h) n F))
  (hb:∀(kV doc pm:Uk)(an:Option Uo)(cdv ct:Uk)(us:List Uk),us.length=ps.length->bindArgs (PySem.W.fnOf x x (Sb (Zk p i)) (Vd (Zk p i)) (ZM (Zk p i)) .none kV doc pm an cdv ct) ⟨us,[]⟩=pure (ps.zip us)):Def P w (whole h) mg base x k n F:=by
 obtain⟨f,fd,m,FU⟩:=Nf T e i x hi hn;exact Def.mk m FU (FU.binds hb) (ok FU)
section
variable{X:Cx}{B G0:Hp}{e:Uq}{pos:Pos}{es:List Uq}
theorem pdf{k kk n:Nat}{F:List D->Option D}{g:M (List D)}{x:Str}{p2:Pos}(d:Def X.prog X.w X.K X.mg X.base x k n F)(hr:Room kk X.A)(hg:Gl X x)(ha:PA X (e::es) (tDs X.K B G0 g))(hk:k<=kk:=by decide)(hn:(e::es).length=n:=by rfl)
  (hdb:(x==("__debug__" : Str))=false:=by decide) (he:Ut (e::es) X.env=(false,eval e X.env)::Ut es X.env:=by rfl) (hpl:(backTo pos (Ut es X.env)).any (·.1)=false:=by rfl) :
  PE X (.Call (.Name x p2) (e::es) [] pos) (tD X.K B G0 (US n F g)):=Er d (hr.mono hk) hg ha hn hdb he hpl
end
theorem Gj{q p:Um}{loose:List Str}{mean:ExcName->Option Uk}{mg mb:Str->Option Uk}{h:Heap}{ix:List Nat}{P:Um}{w:World}{k:Nat}{F:List D->Option D}{y:Str}{fa:Uo}(T:Top q loose mean mg mb h)(e:recsOf q=Sy p ix)(i:Nat)(x:Str)(hi:ix.contains i=true)(hn:Pk (Zk p i)=some x)(hfa:mg x=some (.ref fa))
  (hb:∀(kV doc pm:Uk)(an:Option Uo)(cdv ct v:Uk),bindArgs (PySem.W.fnOf x x (Sb (Zk p i)) (Vd (Zk p i)) (ZM (Zk p i)) .none kV doc pm an cdv ct) ⟨[v],[]⟩=pure [(y,v)])
  (ok:∀(base:Heap){f:Uo}{fd:Up},Fun (whole h) x x (Zk p i) f fd->FnOk P w (whole h) mg base CX0 k f fd [y] (spD (whole h) 1 F)) :
  ∃fd:Up,(∀(s:Ul)(v:Uk),BindsTo s fd ⟨[v],[]⟩ [(y,v)])/\∀base:Heap,FnOk P w (whole h) mg base CX0 k fa fd [y] (spD (whole h) 1 F):=by
 obtain⟨f,fd,m,FU⟩:=Nf T e i x hi hn;cases hfa.symm.trans m;exact⟨fd,BU FU hb,λbase=>ok base FU⟩
theorem CW{l:PySem.W.OpenLaw}{n k:Nat}{q:Um}{loose:List Str}{XP:(Str->Option Uk)->Heap->Prop}{YP:World->Heap->Prop}{d:DefRec}{F:List D->Option D}{x:Str}
  (hn:l.most=some n) (hn2:n<=Ur) (hdf:d.params.defaults=[]) (hr:Room k callerA)
  (hF:∀(w:World)(s₀:Ul)(mg mb:Str->Option Uk)(fa:Uo)(h:Heap),PySem.W.Ground q loose [] XP w s₀ mg mb h->mg d.name=some (.ref fa) ->
   ∃fd:Up,(∀(s:Ul)(u:Uk),BindsTo s fd ⟨[u],[]⟩ [(x,u)])/\∀base:Heap,FnOk l.prog w (whole h) mg base CX0 k fa fd [x] (spD (whole h) 1 F))
  (hl:∀ns:List Int,ns.length<=n->F [.list (ns.map int)]=some (.bool true)) :
  PySem.W.WalkO q loose XP YP l.row.toRowW d [] (λf vs=>PySem.call f vs):=by
 refine Att.attach_call hn hdf λw s₀ s₁ mg mb fa o pm cd doc a vs ns G Y ho hd hcd hmg hobj hints hlen hg=>?_
 obtain⟨fd,hb,hF⟩:=hF w s₀ mg mb fa _ G hmg;exact Ca (Cm _) G.T.g G.T.b G.T.builtins G.T.nolimit hg hobj hints (QP hlen hn2) hr (λbase _ _=>hF base) hb (λH hO hS=>GL hS (hl ns hlen)) λH e s' z=>z
section
variable{K:Frag}{G H H':Hp}{nm:Str}{C a:Uo}{bm:List Uk}{vs:List V}{ds fs:List D}{dd:Option Uo}
end
section
variable{X:Cx}{B G0:Hp}{KX:XW}{e a b c:Uq}{pos p2 cpos:Pos}{es:List Uq}{st:Stmt}{sts:List Stmt}{nm x:Str}{k kk n:Nat}
end
section
variable{K:Frag}{B G0 G H:Hp}{σ:St}{Z:UG}
end
section
variable{X:Cx}{B G0:Hp}{KX:XW}{e a b c:Uq}{pos p2 cpos np hpos:Pos}{es:List Uq}{x n:Str}{k kk:Nat}
end
section
variable{P:Um}{w:World}{K:Frag}{mg:Str->Option Uk}{base:Heap}{st:Stmt}{f f0 D:Uo}{fd fd0:Up}{q:Str}{p1 p2 p3 p4 p5 p6 p7 p8 p9 r1 r2 r3 r4 r5 r6 r7 r8 r9 q1 q2:Pos}{j1 j2:Nat}
end
section
variable{h h':Heap}{nm:Str}{own:Option Stmt}{C N:Uo}{bm:List Uk}{mN:Str->Option Uk}
end
section
variable{h h':Heap}{nm:Str}{own ownD:Option Stmt}{C N D ND:Uo}{bm:List Uk}{mN mD:Str->Option Uk}{M:Model}
end
section
variable{h:Heap}{mg:Str->Option Uk}{p:Um}{l:XL0}{i j:Nat}{c:Str×Option Nat}{p1 p2 p3 p4 p5 p6 p7 p8 p9 r1 r2 r3 r4 r5 r6 r7 r8 r9 q1 q2:Pos}{j1 j2:Nat}
end
section
variable{α β:Type}{Z Z1 Z2 Z3 Z':UG}{f:M D}{s t:SM}{Q:Out->Prop}{d:D}{ds fs:List D}{nm x:Str}{o:Out}
end
section
variable{X:Cx}{B G0:Hp}{KX:XW}{e o a b c:Uq}{pos p2:Pos}{es rest:List Uq}
end
end DL
namespace L2
open PySem PySem.Spec PyProof.Rows
end L2
namespace DL
open PySem PySem.Spec L2
open PyProof.Rows hiding St
section
variable{K:Frag}{B G0 G H:Hp}{σ:St}{Z:UG}
end
section
variable{X:Cx}{B G0:Hp}{KX:XW}{e o a b c:Uq}{pos p2:Pos}{es rest:List Uq}
end
section
variable{X:Cx}{B G0:Hp}{KX:XW}{e o a b c:Uq}{pos p2 cpos:Pos}{es rest:List Uq}
end
section
variable{X:Cx}
end
end DL
namespace DL
open PySem PySem.Spec L2 PySem.SeqAt PySem.AutoSeq1
open PyProof.Rows hiding St
section
variable{X:Cx}{pins:List (Uo×Obj)}{s:Ul}{σ:L2.St}{G H:Hp}{A:Around}
end
section
variable{X:Cx}{pins:List (Uo×Obj)}{s:Ul}{σ:L2.St}{G H:Hp}{A:Around}
end
end DL
namespace DL
open PySem PySem.Spec L2
open PyProof.Rows hiding St
section
variable{X:Cx}{pins:List (Uo×Obj)}{s:Ul}{σ:L2.St}{G H:Hp}
end
section
variable{X:Cx}
end
section
variable{X:Cx}{B G0:Hp}{KX:XW}{e:Uq}{pos cpos:Pos}{sts sts2:List Stmt}
end
end DL
namespace L2
open PySem PySem.Spec PyProof.Rows
section
variable{prog:Um}{w:World}{A:Around}{E:Uk->Ul->Prop}{s:Ul}{d it:Uo}{o:Obj}{es:Array DictEntry}{ep i:Nat}
end
section
variable{X:Cx}{tg:Uq}
end
end L2
namespace DL
open PySem PySem.Spec L2
open PyProof.Rows hiding St
section
variable{K:Frag}{B G0 G H:Hp}{σ:St}{Z:UG}
end
section
variable{X:Cx}{B G0:Hp}{KX:XW}{e a b c tg:Uq}{pos:Pos}
end
section
variable{X:Cx}{B G0:Hp}{KX:XW}{e a b c tg iter:Uq}{pos:Pos}
end
section
variable{X:Cx}
end
end DL
namespace L2
open PySem PySem.Spec PyProof.Rows
end L2
namespace DL
open PySem PySem.Spec L2
open PyProof.Rows hiding St
section
variable{X:Cx}{B G0:Hp}{KX:XW}{e1 e2 e3:Uq}{pos:Pos}
end
section
variable{X:Cx}{B G0:Hp}{e:Uq}{pos:Pos}{es:List Uq}{st:Stmt}{sts:List Stmt}
end
section
variable{prog:Um}{w:World}{A:Around}{E:Uk->Ul->Prop}{s:Ul}
end
end DL
namespace L2
open PySem PySem.Spec PyProof.Rows
section
variable{X:Cx}
end
end L2
namespace DL
open PySem PySem.Spec L2
open PyProof.Rows hiding St
section
variable{X:Cx}{B G0:Hp}{e a b c tg:Uq}{pos:Pos}{es rest:List Uq}
end
theorem EOk.lent{K:Frag}{B G0 G H:Hp}{σ:St}{Z:UG}(k:EOk K B G0 G H σ Z):EOk K H H H H σ (Zq Z) where
 bh:=.refl _
 gh:=.refl _
 g0:=.refl _
 np:=λ_ _ e n=>by rw[n]at e;cases e
 len:=by unfold Zq;rw[Qb];exact k.len
 pub:=λi d e=>by
  rcases LN e with e2|⟨ds,rfl,e2⟩|⟨p,e2⟩
  ·exact k.tree (by unfold Sz;rw[e2])
  ·exact k.tree (by unfold Sz;rw[e2])
  ·exact k.tree (by unfold Sz;rw[e2])
 own:=λi ds e=>(Sn e).elim
 sep:=λi j a ds es e=>(Sn e).elim
 dp:=.of (λ_ _ _ q=>L1 q) λ_ _ q=>Sn q
section
variable{X:Cx}{B G0:Hp}{KX:XW}{e a b c tg iter:Uq}{pos:Pos}
end
end DL
namespace L2
open PySem PySem.Spec PyProof.Rows
section
variable{X:Cx}
end
end L2
namespace DL
open PySem PySem.Spec L2
open PyProof.Rows hiding St
section
variable{X:Cx}{B G0:Hp}{e a b c tg:Uq}{pos:Pos}{es rest:List Uq}
end
section
variable{prog:Um}{w:World}{A:Around}{E:Uk->Ul->Prop}{s:Ul}
end
section
variable{X:Cx}{B G0:Hp}{e a b c:Uq}{pos p2 p3:Pos}
end
section
variable{X:Cx}{B G0:Hp}{KX:XW}{e o a b c tg i:Uq}{pos p2:Pos}{es rest:List Uq}{te to ti:TE}
end
section
variable{prog:Um}{w:World}{A:Around}{E:Uk->Ul->Prop}{s:Ul}
end
section
variable{prog:Um}{w:World}{A:Around}{E:Uk->Ul->Prop}
variable{K:Type}[DecidableEq K]{knd:KeyKind prog w K}
end
section
variable{prog:Um}{w:World}{A:Around}{E:Uk->Ul->Prop}{h:Heap}{g:Array GenState}{d:Drawn}{t:Nat}{os:OsState}{a:Uo}{o:Obj}
end
section
variable{prog:Um}{w:World}{A:Around}{E:Uk->Ul->Prop}
variable{K:Type}[DecidableEq K]{knd:KeyKind prog w K}
end
end DL
namespace L2
open PySem PySem.Spec PyProof.Rows
section
variable{X:Cx}
end
end L2
namespace DL
open PySem PySem.Spec L2
open PyProof.Rows hiding St
section
variable{X:Cx}{B G0:Hp}{a:Uq}{p p2 p3 pos:Pos}
end
section
variable{K:Frag}{B G0 G H:Hp}{σ:St}{Z:UG}
end
section
variable{X:Cx}{B G0:Hp}{KX:XW}{e o a b c:Uq}{pos:Pos}{es:List Uq}{st:Stmt}{sts:List Stmt}{pt:Pat}
end
section
variable{K:Frag}{B G0 G H:Hp}{σ:St}{Z:UG}
end
section
variable{X:Cx}{B G0:Hp}{KX:XW}{e o a b c:Uq}{pos:Pos}{es:List Uq}
end
section
variable{X:Cx}{B G0:Hp}{KX:XW}{e o a b c:Uq}{pos:Pos}{es:List Uq}
end
def isT:Option HO->Bool
 |some (.tup _)=>true
 |some (.frz _ (.tup _))=>true
 |_=>false
theorem Gs{u:MO}:isT (some u.ho)=false:=by cases u<;>rfl
def Zf(fp:List Uo)(G H:Hp):Hp:=λb=>if b∈fp∨isT (H b)=true then H b else G b
section
variable{K:Frag}{B G0 G H:Hp}{fp:List Uo}
theorem BR(gh:Same G H):Same G (Zf fp G H):=λb o e=>by
 unfold Zf;split
 ·exact gh b o e
 ·exact e
theorem ES(gh:Same G H):Same (Zf fp G H) H:=λb o e=>by
 unfold Zf at e;split at e
 ·exact e
 ·exact gh b o e
theorem NT{b:Uo}(h:b∈fp∨isT (H b)=true):Zf fp G H b=H b:=by unfold Zf;rw[Qm h]
theorem NS{b:Uo}(h:b∉fp)(h2:isT (H b)=false):Zf fp G H b=G b:=by
 unfold Zf;rw[Qu];rintro(z|z)
 ·exact h z
 ·rw[h2]at z;cases z
theorem Ext.pubT{G' H':Hp}(ex:Ext G H G' H')(fr:∀a∈fp,H a=none):Ext G H (Zf fp G' H') H':=
 ⟨ex.h,ex.g.trans (BR ex.gh),ES ex.gh,λa u e n=>by rw[NS (λm=>by rw[fr a m]at e;cases e) (by rw[ex.h a _ e];exact Gs)];exact ex.np a u e n⟩
def nl0:D->Bool
 |.tuple ds=>ds.all flat
 |d=>flat d
theorem Rep.nl{G' G2 H':Hp}{v:V}{d:D}(r:Rep K G' v d)(h:nl0 d=true)(gh:Same G' H'):Rep K (Zf fp G2 H') v d:=by
 cases r with
 |tup hs rr=>
  refine .tup ?_ (rr.flat h);rcases hs with (hs|⟨o,hs⟩)|hs
  ·have:=gh _ _ hs;exact .inl (.inl ((NT (.inr (by rw[this];rfl))).trans this))
  ·have:=gh _ _ hs;exact .inl (.inr ⟨o,(NT (.inr (by rw[this];rfl))).trans this⟩)
  ·exact .inr hs
 |non=>exact .non
 |bl b=>exact .bl b
 |int i=>exact .int i
 |str x=>exact .str x
 |lst _ _=>cases h
 |dic _=>cases h
 |exc _ _ _ _=>cases h
 |dct _ _ _ _ _=>cases h
 |dtt _ _ _ _=>cases h
theorem Reps.nl{G' G2 H':Hp}(gh:Same G' H'):∀{vs:List V}{ds:List D},Reps K G' vs ds->ds.all nl0=true->Reps K (Zf fp G2 H') vs ds
 |_,_,.nil,_=>.nil
 |_,_,.cons r t,h=>by rw[List.all_cons,Jc]at h;exact .cons (r.nl h.1 gh) (Reps.nl gh t h.2)
end
def X0(f:M (List D)):M (List D):=λZ=>match f (Zq Z)with
 |.ok ds _=>if ds.all nl0=true then .ok ds Z else .bad
 |.bad=>.bad
section
variable{X:Cx}{B G0:Hp}{KX:XW}{e o a b c:Uq}{pos:Pos}{es:List Uq}{pt:Pat}
end
section
variable{Z Z1 Z2 Z':UG}{pt:Pat}
theorem CV{f:M (List D)}{ds:List D}(h:f (Zq Z)=.ok ds Z')(hf:ds.all nl0=true):X0 f Z=.ok ds Z:=by unfold X0;rw[h];dsimp only;rw[if_pos hf]
end
section
variable{X:Cx}{B G0:Hp}{e:Uq}
end
section
variable{X:Cx}{B G0:Hp}{e o a b c:Uq}{pos:Pos}{es:List Uq}
end
section
variable{X:Cx}{B G0:Hp}{KX:XW}{e1 e2 e3 a b:Uq}{pos:Pos}{es:List Uq}
end
section
variable{K:Frag}{B G0 G H:Hp}{fp:List Uo}
end
section
variable{X:Cx}{B G0:Hp}{KX:XW}{e a b:Uq}{pos:Pos}{es:List Uq}
end
theorem NewL.back{K:Frag}{B G0 G H G' H':Hp}{σ:St}{Z Z1:UG}{ad:Uo}{vs:List V}{ds:List D}(k:EOk K B G0 G H σ Z)(k':EOk K H H G' H' σ Z1)(n:NewL K H G' H' σ Z1 ad vs ds)(hf:ds.all nl0=true) :
  EOk K B G0 (Zf [] G H') H' σ Z/\Same G (Zf [] G H')/\NewL K B (Zf [] G H') H' σ Z ad vs ds:=by
 have ex:Ext G H G H':=⟨k'.bh,.refl _,k.gh.trans k'.bh,λ_ _ _ n=>n⟩;have ex2:Ext G H (Zf [] G H') H':=ex.pubT (λa m=>by cases m);refine⟨k.ext ex2,ex2.g,⟨k.bh.free n.b,?_,n.h,n.r.nl k'.gh hf,λj es q w=>?_,λj pt d v fp q s r=>k.freshD k'.bh n.b q s r⟩⟩
 ·rw[NS (by simp) (by rw[n.h];rfl)];exact k.gh.free n.b
 ·obtain⟨b,us,g1,g2,g3,g4,g5⟩:=k.own j es q;rw[g1]at w;cases w;rw[n.b]at g4;cases g4
section
variable{X:Cx}{B G0:Hp}{KX:XW}
theorem Gi{l:Bool}{y:Str}{j:Nat}{py:Pos}{spos:Pos}{tg elt iter:Uq}{ifs:List Uq}{gs:List Comprehension}{scope:Scope}{pos:Pos}{N2:List Str}{k:Nat}{f:M (List D)}{s:D->UG->Option UG}{t:M Bool}{rd:RdB}(hN:X.N.Nodup)(hj:X.N[j]?=some y)(hy:X.env.scope.names.lookup y=some .local)(hc:X.calm=true)
  (hi:∀B' G',PI X tg iter (iD X.K B' G' f)) (hblk:Ye X N2 scope (.ListComp elt (⟨tg,iter,ifs,0⟩::gs) scope pos) tg ifs s t rd) (hb:TU X.env.scope scope X.N N2 k) (hs:∀x,UJ iter X.env x=pure x:=by intro _;rfl)
  (hsw:swapsWith (.ListComp elt (⟨tg,iter,ifs,0⟩::gs) scope pos) (some (.Name y py)) spos.line X.env=pure true:=by rfl) :
  PS X (.Assign [.Name y py] (.ListComp elt (⟨tg,iter,ifs,0⟩::gs) scope pos) spos) (tS X.K B G0 KX (K4 j (X0 (dCG l f k s t rd)))):=by
 intro pins s0 σ H Dn I ⟨G,Z,k0,a⟩;unfold K4 sB X0 at a;cases z:dCG l f k s t rd (Zq Z)with
 |bad=>rw[z]at a;exact a.elim
 |ok es Z1=>
 rw[z]at a;dsimp only at a;by_cases hnl:es.all nl0=true
 case neg=>rw[Qu hnl]at a;exact a.elim
 rw[Qm hnl]at a;dsimp only at a;by_cases hl:j<Z.length
 ·rw[Qm hl]at a;obtain⟨ds,ZF,zf,zl,hfl⟩:=PU z;rw[exec_Assign_Name_used _ _ _ _ hsw];refine Qf (Jj (Qf ?_));show Us _ X.A (do let _ ←comprehension (.ListComp elt (⟨tg,iter,ifs,0⟩::gs) scope pos) scope X.env _ (newList []) false (eval iter X.env) (some (assign (.Name y py) X.env))) _ _ s0;refine Qf (QK (P9 (use:=some (assign (.Name y py) X.env)) (Qc:=λ_ s'=>SP X pins Dn .next s') hc (hi H H) hblk hb hs I k0.lent zf zl hfl λC D vs G' H' s4 m I7 hm hC hL hz hcl hp k' s' n=>?_) (λ_ s' hq=>Qn (Qn hq)) λ_ _ e=>e);show Us _ X.A (assign (.Name y py) X.env (.ref D)) _ _ s4;refine wpAny_assign_Name (OH I7 hN hj (.inl hy) (v:=.ref D) rfl (λs5 I8 ⟨ad,sb,hx⟩=>?_) (.inr hy))
  have hCa:C≠ad:=by
   rcases hx with e|e
   ·rw[e];exact hL
   ·exact Ne.symm (hcl y ad e)
  refine⟨m,hm.sameBut sb hCa,λh' sb'=>⟨_,H',I8.turned (t':=s5.toks) (it:=C) (λb o hb e=>(sb'.2 b hb).trans e) hC hL (.inr hz) hcl hp,?_⟩⟩;obtain⟨k2,s2,n2⟩:=NewL.back k0 k' n hnl;exact a _ _ H' (k2.setOwn n2 hl) s2
 ·rw[Qu hl]at a;exact a.elim
theorem B9{F F':M (List D)}(h:∀Z es Z',F Z=.ok es Z'->F' Z=.ok es Z')(Z:UG)(es:List D)(Z':UG)(e:X0 F Z=.ok es Z'):X0 F' Z=.ok es Z':=by
 unfold X0 at e⊢;cases z:F (Zq Z)with
 |bad=>rw[z]at e;cases e
 |ok ds Z1=>rw[z]at e;rw[h _ _ _ z];exact e
theorem Gh{l:Bool}{y:Str}{j:Nat}{py:Pos}{spos:Pos}{tg elt iter:Uq}{ifs:List Uq}{gs:List Comprehension}{scope:Scope}{pos:Pos}{f:M (List D)}{s:D->UG->Option UG}{t:M Bool}{rd:RdB}{F:M (List D)}(SC:Scope)(N1 N2:List Str)(k:Nat)(le:∀Z es Z',F Z=.ok es Z'->dCG l f k s t rd Z=.ok es Z')(hN:X.N.Nodup)(hj:X.N[j]?=some y)(hy:X.env.scope.names.lookup y=some .local)(hc:X.calm=true)
  (hi:∀B' G',PI X tg iter (iD X.K B' G' f)) (hblk:Ye X N2 scope (.ListComp elt (⟨tg,iter,ifs,0⟩::gs) scope pos) tg ifs s t rd) (h1:X.env.scope=SC) (h2:X.N=N1) (hb:W6 TR SC scope N1 N2 k=true) (hs:∀x,UJ iter X.env x=pure x:=by intro _;rfl)
  (hsw:swapsWith (.ListComp elt (⟨tg,iter,ifs,0⟩::gs) scope pos) (some (.Name y py)) spos.line X.env=pure true:=by rfl) :
  PS X (.Assign [.Name y py] (.ListComp elt (⟨tg,iter,ifs,0⟩::gs) scope pos) spos) (tS X.K B G0 KX (K4 j (X0 F))):=
 Zl (Gi hN hj hy hc hi hblk (by rw[h1,h2];exact PR hb) hs hsw) λ_ _ _ q=>Nj (B9 le) q
end
def SL(f:M D):M Bool:=U6 f λx=>match x with | .list ds=>UN (!ds.isEmpty)|_=>λ_=>.bad
def XX:Nat:=10 ^ 60
section
variable{X:Cx}{B G0:Hp}{e:Uq}
theorem qc{α β:Type}{xs:List α}{ys:List β}(h:xs.length=ys.length):xs.isEmpty=ys.isEmpty:=by cases xs<;>cases ys<;>first|rfl|(simp at h)
theorem ER{f:M D}(h:PE X e (tD X.K B G0 f))(he:∀whole,isTrue e X.env whole=(do let v ←whole;standAt e.pos;holding [v] (truthy v)):=by intro _;rfl):PT X e (tBo X.K B G0 (SL f)):=
 Yz (Cf h he) λσ H Q q=>tM.one (R:=Rep X.K) q λv H2 G Z x k r a=>by
  cases x with
  |list ds=>obtain⟨l,vs,rfl,h1,r1⟩:=r.lst_inv;refine⟨!vs.isEmpty,.inl ⟨vs,k.gh.seq h1,rfl⟩,?_⟩;exact aft.now (v:=!vs.isEmpty) a k (by rw[qc r1.length])
  |_=>exact a.elim
theorem M7{f:M D}{Z Z1:UG}{ds:List D}(h1:f Z=.ok (.list ds) Z1):SL f Z=.ok (!ds.isEmpty) Z1:=by unfold SL;exact KT h1 rfl
end
end DL
namespace L2
open PySem PySem.Spec PyProof.Rows PySem.Calls PyProof.V
section
variable{X:Cx}{x n:Str}{pos np hpos:Pos}{pins:List (Uo×Obj)}{σ:St}{H:Hp}{s:Ul}{a C D fI fD:Uo}{dd:Option Uo}{bm bmD:List Uk}{rest:List ExceptHandler}{Q:Flow->Ul->Prop}
end
end L2
namespace DL
open PySem PySem.Spec L2
open PyProof.Rows hiding St
section
variable{X:Cx}{B G0:Hp}{KX:XW}{e a b c:Uq}{pos p2 cpos np np2 hpos hpos2:Pos}{es:List Uq}{x x2 n:Str}{k kk:Nat}
end
section
variable{X:Cx}{B G0:Hp}{KX:XW}{e e1 e2:Uq}{pos:Pos}
end
section
variable{X:Cx}
end
def tgN:Uq->List Str
 |.Name x _=>[x]
 |.Tuple [.Name x _] _ _=>[x]
 |.Tuple [.Name x _,.Name y _] _ _=>[x,y]
 |.Tuple [.Name x _,.Name y _,.Name z _] _ _=>[x,y,z]
 |.Tuple [.Name x _,.Name y _,.Name z _,.Name u _] _ _=>[x,y,z,u]
 |_=>[]
def adN(vs:List Str):List Str->List Str
 |[]=>vs
 |x::r=>adN (if vs.elem x then vs else vs++[x]) r
def VO(vs:List Str):List Comprehension->List Str
 |[]=>vs
 |⟨tg,_,_,_⟩::r=>VO (adN vs (tgN tg)) r
def dotN(x:Str):Str:=("." : Str)++x
def blN(N:List Str)(gs:List Comprehension):List Str:=N.map (λx=>if(VO [] gs).elem x then dotN x else x)++VO [] gs
def glN(sc:Scope):List Str:=sc.names.filterMap λy=>match y.2 with | .globalImplicit=>some y.1|_=>none
abbrev NmF(s:Stmt)(N:List Str):Prop:=FnNm (ZM s) N (glN (ZM s))
theorem mq{α:Type}{l:List α}{x:α}(n:Nat)(h:l[n]?=some x):x∈l:=Qp h
section
variable{sc:Scope}{N gl:List Str}{x:Str}
theorem gA(H:FnNm sc N gl)(h:gl.elem x=true):sc.names.lookup x=some .globalImplicit:=H.gl x (by simpa using h)
end
section
variable{X:Cx}{B G0:Hp}{KX:XW}{e e1 e2 o a b c i:Uq}{gl:List Str}{pos p2:Pos}{x:Str}{j:Nat}
theorem Gg(H:FnNm X.env.scope X.N gl)(hi:X.N[j]?=some x:=by rfl)(hf:X.fn x=true∨X.env.scope.names.lookup x=some .local:=by first|exact .inl rfl|exact .inr rfl|assumption):PG X (.Name x pos) (tG X.K B G0 (gN j)):=X5 (X6 H.nd hi (lq H j hi) hf)
theorem Gr{N':List Str}{scope:Scope}{cl:List (Str×Uo)}{C:Uo}{s₀:Ul}{H₀:Hp}{ex:List Uo}(hN:N'.Nodup:=by decide +kernel)(hi:N'[j]?=some x:=by rfl)(hl:scope.names.lookup x=some .local:=by rfl):PG (X.blk N' scope cl C s₀ H₀ ex) (.Name x pos) (tG X.K B G0 (gN j)):=X5 (X6 hN hi (PV hl) (.inr (Po hl)))
theorem aSet{f:M D}(H:FnNm X.env.scope X.N gl)(he:PE X e (tD X.K B G0 f))(hi:X.N[j]?=some x:=by rfl)(hs:swapsWith e (some (.Name x p2)) pos.line X.env=pure false:=by rfl)
  (hf:X.fn x=true∨X.env.scope.names.lookup x=some .local:=by first|exact .inl rfl|exact .inr rfl|assumption):PS X (.Assign [.Name x p2] e pos) (tS X.K B G0 KX (U8 j f)):=Eh H.nd hi (lq H j hi) he hs hf
theorem Ge{f:M (List D)}(H:FnNm X.env.scope X.N gl)(he:PE X e (tL X.K B G0 f))(hi:X.N[j]?=some x:=by rfl)(hs:swapsWith e (some (.Name x p2)) pos.line X.env=pure false:=by rfl)
  (hf:X.fn x=true∨X.env.scope.names.lookup x=some .local:=by first|exact .inl rfl|exact .inr rfl|assumption):PS X (.Assign [.Name x p2] e pos) (tS X.K B G0 KX (K4 j f)):=Mm H.nd hi (lq H j hi) he hs hf
theorem aAug{op:Operator}{p:Int->Int->Option D}{f:M D}{pos':Pos}(H:FnNm X.env.scope X.N gl)(ho:IpD X op p)(he:PE X e (tD X.K B G0 f))(hi:X.N[j]?=some x:=by rfl)(hf:X.fn x=true∨X.env.scope.names.lookup x=some .local:=by first|exact .inl rfl|exact .inr rfl|assumption):PS X (.AugAssign (.Name x pos') op e pos) (tS X.K B G0 KX (Y8 p j f)):=Gw H.nd hi (lq H j hi) ho he hf
theorem Gd{l:Bool}{tg elt iter:Uq}{ifs:List Uq}{gs:List Comprehension}{scope:Scope}{f:M (List D)}{s:D->UG->Option UG}{t:M Bool}{rd:RdB}{F:M (List D)}{k:Nat}{SC:Scope}{N1:List Str}(H:FnNm SC N1 gl)(le:∀Z es Z',F Z=.ok es Z'->dCG l f k s t rd Z=.ok es Z')(hc:X.calm=true)
  (hi:PI X tg iter (iD X.K B G0 f)) (hblk:Ye X (blN N1 (⟨tg,iter,ifs,0⟩::gs)) scope (.ListComp elt (⟨tg,iter,ifs,0⟩::gs) scope pos) tg ifs s t rd) (hb:W6 TR SC scope N1 (blN N1 (⟨tg,iter,ifs,0⟩::gs)) k=true) (h1:X.env.scope=SC:=by rfl) (h2:X.N=N1:=by rfl) (hs:∀x,UJ iter X.env x=pure x:=by intro _;rfl) :
  PE X (.ListComp elt (⟨tg,iter,ifs,0⟩::gs) scope pos) (tL X.K B G0 F):=HJ _ _ _ k le hc hi hblk h1 h2 hb hs
theorem Gc{l:Bool}{y:Str}{py spos:Pos}{tg elt iter:Uq}{ifs:List Uq}{gs:List Comprehension}{scope:Scope}{f:M (List D)}{s:D->UG->Option UG}{t:M Bool}{rd:RdB}{F:M (List D)}{k:Nat}{SC:Scope}{N1:List Str}(H:FnNm SC N1 gl)(le:∀Z es Z',F Z=.ok es Z'->dCG l f k s t rd Z=.ok es Z')(hc:X.calm=true)
  (hi:PI X tg iter (iD X.K B G0 f)) (hblk:Ye X (blN N1 (⟨tg,iter,ifs,0⟩::gs)) scope (.ListComp elt (⟨tg,iter,ifs,0⟩::gs) scope pos) tg ifs s t rd) (hb:W6 TR SC scope N1 (blN N1 (⟨tg,iter,ifs,0⟩::gs)) k=true) (hj:N1[j]?=some y:=by rfl) (hy:SC.names.lookup y=some .local:=by rfl) (h1:X.env.scope=SC:=by rfl) (h2:X.N=N1:=by rfl) (hs:∀x,UJ iter X.env x=pure x:=by intro _;rfl)
  (hsw:swapsWith (.ListComp elt (⟨tg,iter,ifs,0⟩::gs) scope pos) (some (.Name y py)) spos.line X.env=pure true:=by rfl) :
  PS X (.Assign [.Name y py] (.ListComp elt (⟨tg,iter,ifs,0⟩::gs) scope pos) spos) (tS X.K B G0 KX (K4 j F)):=sD_1 _ _ _ k le (h2 ▸ H.nd) (h2 ▸ hj) (h1 ▸ hy) hc hi hblk h1 h2 hb hs hsw
end
end DL
namespace W
open PySem PySem.Spec L2 DL
open PyProof.Rows hiding St
def top(i:Nat):Stmt:=PySem.Challenge.pw_wishdeal_k47_orders_beside_one_another.main.body.getD i (.Pass ⟨0,0,0,0⟩)
abbrev GG(s:Stmt)(x:Str):Prop:=(ZM s).names.lookup x=some NameKind.globalImplicit
abbrev VV(s:Stmt)(x:Str):Prop:=L2.Vis (ZM s) x
abbrev LL(s:Stmt)(x:Str):Prop:=L2.Loc (ZM s) x
theorem vk{s:Stmt}{x:Str}(h:(ZM s).names.lookup x=some .local∨(ZM s).names.lookup x=some .cell∨(ZM s).names.lookup x=some .free):VV s x:=h
theorem lk{s:Stmt}{x:Str}(h:(ZM s).names.lookup x=some .local∨(ZM s).names.lookup x=some .cell):LL s x:=h
structure Txt(K:Frag)(mg:Str->Option Uk):Prop where
 b_all:mg "all" = none
 b_bool:mg "bool" = none
 b_enumerate:mg "enumerate" = none
 b_int:mg "int" = none
 b_isinstance:mg "isinstance" = none
 b_len:mg "len" = none
 b_list:mg "list" = none
 b_max:mg "max" = none
 b_range:mg "range" = none
 b_set:mg "set" = none
 b_sorted:mg "sorted" = none
 b_str:mg "str" = none
 b_sum:mg "sum" = none
 b_tuple:mg "tuple" = none
 b_zip:mg "zip" = none
 c_MOST_ASKERS:∃t,mg "MOST_ASKERS" = some (Value.int 7 t)
 c_MOST_COPIES:∃t,mg "MOST_COPIES" = some (Value.int 7 t)
 c_MOST_RANKS:∃t,mg "MOST_RANKS" = some (Value.int 5 t)
 c_MOST_THINGS:∃t,mg "MOST_THINGS" = some (Value.int 6 t)
 c_ORDERS:∃ad o its n,mg "ORDERS" = some (.ref ad)/\K.lookup ad=some o/\o.cls=.type "tuple" /\ o.data=.seq its n/\its.size<=Ur/\Vals ((["firsts", "full", "lasts"]:List Str).map V.str) its.toList
abbrev Sbn:Stmt:=top 58
abbrev N_bn:List Str:=["_law_wishes_here", "_law_asker", "_law_thing", "_law_k", "_law_row"]
theorem Hbn:NmF Sbn N_bn:=KM (by decide +kernel)
def Ma:SM:=
 sIf (Zi oIn 2 (UA 4))
 (UY (UO U0 (UA 3) (UN (.int 1))))
 (sNx)
def VZ:SM:=
 UP (Kn (YB (UL (UO oIx (UZ 0 (UN (.int 1))) (UA 1)) (UH))) (gT 2 (gNC (gN 3) (gNC (gN 4) (gN0)))) Ma)
 (UY (UN (.int 0)))
def Xl:List D->Option D:=U5 N_bn VZ
abbrev Sbo:Stmt:=top 59
abbrev N_bo:List Str:=["_law_wishes_here"]
theorem Hbo:NmF Sbo N_bo:=KM (by decide +kernel)
def VY:SM:=
 UY (Zo Vo (UL (UW Ux (Zr (KS (UZ 0 (UN (.int 1)))) 1 (gN 1) (UN true) (K9 1))) (UH)))
def Xk:List D->Option D:=U5 N_bo VY
abbrev Sbr:Stmt:=top 62
abbrev N_br:List Str:=["_law_wishes_here", "_law_dealing", "_law_counts_here", "_law_asker", "_law_thing"]
theorem Hbr:NmF Sbr N_br:=KM (by decide +kernel)
def N9:SM:=
 sIf (UW isNon (UA 4))
 (WV (λi j=>some (.int (i+j))) 2 (Ze (UN (.int 1))) (UN (.int 1)))
 (WV (λi j=>some (.int (i+j))) 2 (UO KZ (US 3 Xl (UL (UA 0) (UL (UA 3) (UL (UA 4) (UH))))) (UN (.int 1))) (UN (.int 1)))
def VU:SM:=
 UP (K4 2 (Vl (Ks (UL (UN (.int 0)) (UH))) (UO U0 (US 1 Xk (UL (UA 0) (UH))) (UN (.int 1)))))
 (UP (Kn (YB (UL (UA 1) (UH))) (gT 2 (gNC (gN 3) (gNC (gN 4) (gN0)))) N9)
 (UY (UA 2)))
def ZU:List D->Option D:=U5 N_br VU
abbrev Sbu:Stmt:=top 65
abbrev N_bu:List Str:=["_law_wishes_here", "_law_aim", "_law_dealing", "_law_order", "_law_old", "_law_turns", "_law_counts_here", "_law_kept", "_law_same", "_law_ranks", "_law_asker", "_law_rank_here"]
theorem Hbu:NmF Sbu N_bu:=KM (by decide +kernel)
def RC:SM:=
 UP (U8 11 (UN (.int 0)))
 (UP (sIf (UW (λd=>!isNon d) (UZ 2 (UA 10)))
 (U8 11 (UO KZ (UO U0 (US 1 Xk (UL (UA 0) (UH))) (UN (.int 1))) (US 3 Xl (UL (UA 0) (UL (UA 10) (UL (UZ 2 (UA 10)) (UH)))))))
 (sNx))
 (ZG 9 (UA 11)))
def VR:SM:=
 UP (Zx (UA 1) (gT 3 (gNC (gN 3) (gNC (gN 4) (gNC (gN 5) (gN0))))))
 (UP (U8 6 (US 2 ZU (UL (UA 0) (UL (UA 2) (UH)))))
 (UP (sIf (Zi oEq 3 (UN (.str "full")))
 (U8 6 (UO U0 (Ks (UL (UO KZ (UN (.int 0)) (UZ 6 (Ze (UN (.int 1))))) (UH))) (UA 6)))
 (sNx))
 (UP (sIf (Zi oEq 3 (UN (.str "lasts")))
 (K4 6 (Zr (KS (XJ (UA 6) (UN none) (UN none) (U6 (Ze (UN (.int 1))) λx=>U9 (YE x)))) 1 (gN 12) (UN true) (UO KZ (UN (.int 0)) (UA 12))))
 (sNx))
 (UP (U8 7 (UN (.int 0)))
 (UP (sIf (UW (λd=>!isNon d) (UA 4))
 (UP (K4 8 (Zr (Xd (UL (UA 4) (UL (UA 2) (UH)))) 2 (gT 2 (gNC (gN 12) (gNC (gN 13) (gN0)))) (Zi oEq 12 (UA 13)) (UA 13)))
 (U8 7 (Zo Kb (UL (UW Ux (Zr (KS (UA 8)) 1 (gN 12) (UW (λd=>!isNon d) (UA 12)) (UA 12))) (UH)))))
 (sNx))
 (UP (K4 9 (U6 (UH) λxs=>if xs.length<=1000000 then UN xs else λ_=>.bad))
 (UP (Kn (KS (UA 5)) (gN 10) RC)
 (UY (UO U0 (UO U0 (UA 6) (Ks (UL (UA 7) (UH)))) (UA 9))))))))))
def Wr:List D->Option D:=U5 N_bu VR
abbrev Sbv:Stmt:=top 66
abbrev N_bv:List Str:=["_law_wishes_here", "_law_order", "_law_dealing"]
theorem Hbv:NmF Sbv N_bv:=KM (by decide +kernel)
def VQ:SM:=
 UY (US 3 Wr (UL (UA 0) (UL (Ku (UL (UA 1) (UL (UN .none) (UL (Ks (UH)) (UH))))) (UL (UA 2) (UH)))))
def XN:List D->Option D:=U5 N_bv VQ
abbrev Sbp:Stmt:=top 60
abbrev N_bp:List Str:=["_law_wishes_here", "_law_asker"]
theorem Hbp:NmF Sbp N_bp:=KM (by decide +kernel)
def VX:SM:=
 UY (Zo Vm (UL (Zo TX (UL (UO oIx (UZ 0 (UN (.int 1))) (UA 1)) (UL (Ks (UH)) (UH)))) (UH)))
def Xj:List D->Option D:=U5 N_bp VX
abbrev Sbl:Stmt:=top 56
abbrev N_bl:List Str:=["_law_cell", "_law_salt", "_law_sizes", "_law_number", "_law_left", "_law_found", "_law_k", "_law_one"]
theorem Hbl:NmF Sbl N_bl:=KM (by decide +kernel)
def Pv:SM:=
 sIf (Zd (Zi (oIB λi j=>decide (j<=i)) 3 (UO XG (UN (.int 10)) (UN (.int 18)))) (Zi (oIB λi j=>decide (j<i)) 4 (UN (.int 0))))
 (UP (ZG 5 (UO Yc (UA 4) (UZ 2 (UA 6))))
 (U8 4 (UO XI (UA 4) (UZ 2 (UA 6)))))
 (UP (U8 7 (UO Yc (UO U0 (UO U0 (UO U0 (UA 3) (UO Kr (UN (.int 7919)) (UA 1))) (UO Kr (UO Kr (UN (.int 101)) (UA 6)) (UA 6))) (UA 6)) (UN (.int 2147483647))))
 (UP (U8 7 (UO Yc (UO Kr (UA 7) (UN (.int 48271))) (UN (.int 2147483647))))
 (UP (U8 7 (UO Yc (UO Kr (UO Yc (UO Kr (UA 7) (UA 7)) (UN (.int 2147483629))) (UN (.int 48271))) (UN (.int 2147483647))))
 (ZG 5 (UO Yc (UO XI (UA 7) (UN (.int 16))) (UZ 2 (UA 6)))))))
def V1:SM:=
 UP (U8 3 (Zo Sw (UL (UA 0) (UL (UO KZ (Ze (UN (.int 1))) (UA 0)) (UH)))))
 (UP (U8 4 (UA 3))
 (UP (K4 5 (U6 (UH) λxs=>if xs.length<=1000000 then UN xs else λ_=>.bad))
 (UP (Kn (Xv (UL (K9 2) (UH))) (gN 6) Pv)
 (UY (UA 5)))))
def YN:List D->Option D:=U5 N_bl V1
abbrev Sbq:Stmt:=top 61
abbrev N_bq:List Str:=["_law_wishes_here", "_law_cell", "_law_salt", "_law_left", "_law_digits", "_law_found", "_law_asker", "_law_some", "_law_thing"]
theorem Hbq:NmF Sbq N_bq:=KM (by decide +kernel)
def Pu:SM:=
 UP (U8 7 (UO U0 (UW Ux (SJ (KS (US 2 Xj (UL (UA 0) (UL (UA 6) (UH))))) 1 (gN 9) (UO (oIB λi j=>decide (j<i)) (UZ 3 (UA 9)) (UN (.int 0))) (UA 9))) (Ks (UL (UN .none) (UH)))))
 (UP (U8 8 (UZ 7 (UO Yc (UZ 4 (UA 6)) (K9 7))))
 (UP (sIf (UW (λd=>!isNon d) (UA 8))
 (W0 3 (UA 8) (UO KZ (UZ 3 (UA 8)) (UN (.int 1))))
 (sNx))
 (ZG 5 (UA 8))))
def VW:SM:=
 UP (K4 3 (U6 (UL (UZ 0 (UN (.int 0))) (UH)) λxs=>U9 (Xu xs)))
 (UP (U8 4 (US 3 YN (UL (UA 1) (UL (UA 2) (UL (UO Kr (Ks (UL (UN (.int 61)) (UH))) (Zo Kb (UL (UZ 0 (UN (.int 1))) (UH)))) (UH))))))
 (UP (K4 5 (U6 (UH) λxs=>if xs.length<=1000000 then UN xs else λ_=>.bad))
 (UP (Kn (Xv (UL (Zo Kb (UL (UZ 0 (UN (.int 1))) (UH))) (UH))) (gN 6) Pu)
 (UY (UA 5)))))
def Xi:List D->Option D:=U5 N_bq VW
abbrev Sbs:Stmt:=top 63
abbrev N_bs:List Str:=["_law_thing"]
theorem Hbs:NmF Sbs N_bs:=KM (by decide +kernel)
def VT:SM:=
 UY (Vp (UW (λd=>.bool (KF d "int")) (UA 0)) (Su (UW (λd=>.bool (KF d "bool")) (UA 0))))
def Wt:List D->Option D:=U5 N_bs VT
abbrev Sbt:Stmt:=top 64
abbrev N_bt:List Str:=["_law_wishes_here", "_law_thing", "_law_asker", "_law_one"]
theorem Hbt:NmF Sbt N_bt:=KM (by decide +kernel)
def N8:SM:=
 UP (sIf (Zd (UW (λd=>!isNon d) (UA 3)) (mOr (KP (ZX (US 1 Wt (UL (UA 3) (UH))))) (Zi YI 3 (US 2 Xj (UL (UA 0) (UL (UA 2) (UH)))))))
 (UY (UN (.bool false)))
 (sNx))
 (sIf (Zd (UW (λd=>!isNon d) (UA 3)) (UO (oIB λi j=>decide (j<i)) (T2 (UA 1) (UL (UA 3) (UH))) (UO oIx (UZ 0 (UN (.int 0))) (UA 3))))
 (UY (UN (.bool false)))
 (sNx))
def VS:SM:=
 UP (sIf (mOr (KP (ZX (UW (λd=>.bool (KF d "list")) (UA 1)))) (UO oNe (K9 1) (Zo Kb (UL (UZ 0 (UN (.int 1))) (UH)))))
 (UY (UN (.bool false)))
 (sNx))
 (UP (Kn (YB (UL (UA 1) (UH))) (gT 2 (gNC (gN 2) (gNC (gN 3) (gN0)))) N8)
 (UY (UN (.bool true))))
def Ws:List D->Option D:=U5 N_bt VS
abbrev Sbh:Stmt:=top 50
abbrev N_bh:List Str:=["askers", "worths", "prices", "asks", "asker", "thing", "worth"]
theorem Hbh:NmF Sbh N_bh:=KM (by decide +kernel)
def N7:SM:=
 W0 3 (UA 4) (Zo Sw (UL (UZ 3 (UA 4)) (UL (UO KZ (UA 6) (UZ 2 (UA 5))) (UH))))
def V4:SM:=
 UP (K4 3 (Vl (Ks (UL (UN (.int 0)) (UH))) (UA 0)))
 (UP (Kn (KS (UA 1)) (gT 3 (gNC (gN 4) (gNC (gN 5) (gNC (gN 6) (gN0))))) N7)
 (UY (UA 3)))
def Ww:List D->Option D:=U5 N_bh V4
abbrev Saw:Stmt:=top 39
abbrev N_aw:List Str:=["nothing", "got"]
theorem Haw:NmF Saw N_aw:=KM (by decide +kernel)
def Tf:SM:=
 UY (mIf (UW isNon (UA 1)) (UA 0) (UA 1))
def XT:List D->Option D:=U5 N_aw Tf
abbrev Sax:Stmt:=top 40
abbrev TL:List Str:=["nothing", "worths", "dealing", "had", "asker", "thing", "worth", "told"]
theorem Hax:FnNm (ZM Sax) TL ["place_of", "enumerate", "len"]:=KM (by decide +kernel)
def N6:SM:=
 sIf (UO oNe (UZ 2 (UA 4)) (UA 5))
 (ZG 7 (Ku (UL (US 2 XT (UL (UA 0) (UL (UZ 2 (UA 4)) (UH)))) (UL (UA 5) (UL (UO KZ (UA 6) (UZ 3 (UA 4))) (UL (UA 4) (UH)))))))
 (sNx)
def N5:SM:=
 sIf (UO oEq (UZ 2 (UA 4)) (UA 5))
 (W0 3 (UA 4) (UA 6))
 (sNx)
def Te:SM:=
 UP (K4 3 (Vl (Ks (UL (UN (.int 0)) (UH))) (K9 2)))
 (UP (Kn (KS (UA 1)) (gT 3 (gNC (gN 4) (gNC (gN 5) (gNC (gN 6) (gN0))))) N5)
 (UP (K4 7 (X0 (Zr (YB (UL (UA 2) (UH))) 2 (gT 2 (gNC (gN 8) (gNC (gN 9) (gN0)))) (UW (λd=>!isNon d) (UA 9)) (Ku (UL (UA 9) (UL (UA 0) (UL (Ze (UZ 3 (UA 8))) (UL (UA 8) (UH)))))))))
 (UP (Kn (KS (UA 1)) (gT 3 (gNC (gN 4) (gNC (gN 5) (gNC (gN 6) (gN0))))) N6)
 (UY (UA 7)))))
def WC:List D->Option D:=U5 TL Te
abbrev Saa:Stmt:=top 1
abbrev N_aa:List Str:=["thing"]
theorem Haa:NmF Saa N_aa:=KM (by decide +kernel)
def TF:SM:=
 UY (Vp (UW (λd=>.bool (KF d "int")) (UA 0)) (Su (UW (λd=>.bool (KF d "bool")) (UA 0))))
def WT:List D->Option D:=U5 N_aa TF
abbrev Sab:Stmt:=top 2
abbrev N_ab:List Str:=["thing", "many"]
theorem Hab:NmF Sab N_ab:=KM (by decide +kernel)
def TD:SM:=
 UY (Vp (US 1 WT (UL (UA 0) (UH))) (UW Uy (Vt (oIB λi j=>decide (i<=j)) (oIB λi j=>decide (i<j)) (UN (.int 0)) (UA 0) (UA 1))))
def Zy:List D->Option D:=U5 N_ab TD
abbrev Sad:Stmt:=top 13
abbrev N_ad:List Str:=["thing", "things"]
theorem Had:NmF Sad N_ad:=KM (by decide +kernel)
def TB:SM:=
 UP (sIf (mOr (KP (ZX (UW (λd=>.bool (KF d "list")) (UA 0)))) (UO oEq (K9 0) (UN (.int 0))))
 (UY (UN (.bool false)))
 (sNx))
 (UY (Zo Yr (UL (UW Ux (Zr (KS (UA 0)) 1 (gN 2) (UN true) (US 2 Zy (UL (UA 2) (UL (UA 1) (UH)))))) (UH))))
def XV:List D->Option D:=U5 N_ad TB
abbrev Sae:Stmt:=top 14
abbrev N_ae:List Str:=["thing", "things", "wished"]
theorem Hae:NmF Sae N_ae:=KM (by decide +kernel)
def Tz:SM:=
 UP (sIf (mOr (KP (ZX (UW (λd=>.bool (KF d "list")) (UA 0)))) (UO (oIB λi j=>decide (j<i)) (K9 0) (UN (.int 5))))
 (UY (UN (.bool false)))
 (sNx))
 (UP (sIf (KP (ZX (Zo Yr (UL (UW Ux (Zr (KS (UA 0)) 1 (gN 3) (UN true) (US 2 XV (UL (UA 3) (UL (UA 1) (UH)))))) (UH)))))
 (UY (UN (.bool false)))
 (sNx))
 (UP (K4 2 (SI (KS (UA 0)) 2 (gN 3) (UN true) (KS (UA 3)) (gN 4) (UN true) (UA 4)))
 (UY (UW Uy (UO oEq (Zo Wb (UL (UA 2) (UH))) (K9 2))))))
def WR:List D->Option D:=U5 N_ae Tz
abbrev Saf:Stmt:=top 15
abbrev N_af:List Str:=["lists", "things", "asker", "ranks"]
theorem Haf:NmF Saf N_af:=KM (by decide +kernel)
def N4:SM:=
 sIf (KP (ZX (US 2 WR (UL (UA 3) (UL (UA 1) (UH))))))
 (X4)
 (sNx)
def Tx:SM:=
 UP (sIf (mOr (KP (ZX (UW (λd=>.bool (KF d "list")) (UA 0)))) (KP (Vt (oIB λi j=>decide (i<=j)) (oIB λi j=>decide (i<=j)) (UN (.int 1)) (K9 0) (UN (.int 7)))))
 (X4)
 (sNx))
 (Kn (YB (UL (UA 0) (UH))) (gT 2 (gNC (gN 2) (gNC (gN 3) (gN0)))) N4)
def WQ:List D->Option D:=U5 N_af Tx
abbrev Sac:Stmt:=top 12
abbrev N_ac:List Str:=["copies", "number", "many"]
theorem Hac:NmF Sac N_ac:=KM (by decide +kernel)
def N3:SM:=
 sIf (KP (ZX (US 2 Zy (UL (UA 2) (UL (UO U0 (UN (.int 7)) (UN (.int 1))) (UH))))))
 (X4)
 (sNx)
def TC:SM:=
 UP (sIf (mOr (KP (ZX (UW (λd=>.bool (KF d "list")) (UA 0)))) (KP (Vt (oIB λi j=>decide (i<=j)) (oIB λi j=>decide (i<=j)) (UN (.int 1)) (K9 0) (UN (.int 6)))))
 (X4)
 (sNx))
 (Kn (YB (UL (UA 0) (UH))) (gT 2 (gNC (gN 1) (gNC (gN 2) (gN0)))) N3)
def WS:List D->Option D:=U5 N_ac TC
abbrev Sag:Stmt:=top 16
abbrev N_ag:List Str:=["thing", "copies", "lists"]
theorem Hag:NmF Sag N_ag:=KM (by decide +kernel)
def Tw:SM:=
 UP (sIf (mOr (KP (ZX (UW (λd=>.bool (KF d "tuple")) (UA 0)))) (UO oNe (K9 0) (UN (.int 2))))
 (X4)
 (sNx))
 (UP (Zx (UA 0) (gT 2 (gNC (gN 1) (gNC (gN 2) (gN0)))))
 (UP (Xw (US 1 WS (UL (UA 1) (UH))))
 (Xw (US 2 WQ (UL (UA 2) (UL (K9 1) (UH)))))))
def Yg:List D->Option D:=U5 N_ag Tw
abbrev Sak:Stmt:=top 21
abbrev N_ak:List Str:=["wishes", "dealing"]
theorem Hak:NmF Sak N_ak:=KM (by decide +kernel)
def Ts:SM:=
 UP (Xw (US 1 Yg (UL (UA 0) (UH))))
 (UY (UW Ux (Zr (YB (UL (UZ 0 (UN (.int 0))) (UH))) 2 (gT 2 (gNC (gN 2) (gNC (gN 3) (gN0)))) (UN true) (UO KZ (UA 3) (T2 (UA 1) (UL (UA 2) (UH)))))))
def WM:List D->Option D:=U5 N_ak Ts
abbrev Say:Stmt:=top 41
abbrev N_ay:List Str:=["wishes", "dealing", "nothing", "left", "to_nothing"]
theorem Hay:NmF Say N_ay:=KM (by decide +kernel)
def Td:SM:=
 UP (U8 2 (Zo Kb (UL (UZ 0 (UN (.int 0))) (UH))))
 (UP (U8 3 (US 2 WM (UL (UA 0) (UL (UA 1) (UH)))))
 (UP (K4 4 (Zr (YB (UL (UA 3) (UH))) 2 (gT 2 (gNC (gN 5) (gNC (gN 6) (gN0)))) (Zi (oIB λi j=>decide (j<i)) 6 (UN (.int 0))) (Ku (UL (UA 5) (UL (UA 2) (UL (UN (.int 0)) (UL (UN .none) (UH))))))))
 (UY (UO U0 (UA 4) (UW Ux (Zr (Xv (UL (UA 2) (UH))) 1 (gN 5) (UN true) (Ku (UL (UA 2) (UL (UA 5) (UL (UN (.int 0)) (UL (UN .none) (UH))))))))))))
def WB:List D->Option D:=U5 N_ay Td
abbrev Saz:Stmt:=top 42
abbrev N_az:List Str:=["wishes", "worths", "dealing"]
theorem Haz:NmF Saz N_az:=KM (by decide +kernel)
def Tc:SM:=
 UY (UO U0 (US 3 WC (UL (Zo Kb (UL (UZ 0 (UN (.int 0))) (UH))) (UL (UA 1) (UL (UA 2) (UH))))) (US 2 WB (UL (UA 0) (UL (UA 2) (UH)))))
def YO:List D->Option D:=U5 N_az Tc
abbrev Sba:Stmt:=top 43
abbrev N_ba:List Str:=["walks", "steps", "told", "step", "ahead", "behind", "gain", "asker", "gained", "walked"]
theorem Hba:NmF Sba N_ba:=KM (by decide +kernel)
def N0:SM:=
 UP (Zx (UA 3) (gT 4 (gNC (gN 4) (gNC (gN 5) (gNC (gN 6) (gNC (gN 7) (gN0)))))))
 (UP (Zx (UZ 0 (UA 4)) (gT 2 (gNC (gN 8) (gNC (gN 9) (gN0)))))
 (sIf (UO (oIB λi j=>decide (j<i)) (UO U0 (UA 8) (UA 6)) (UO oIx (UZ 2 (UA 5)) (UN (.int 0))))
 (W0 2 (UA 5) (Ku (UL (UO U0 (UA 8) (UA 6)) (UL (UO U0 (UA 9) (Ks (UL (UA 3) (UH)))) (UH)))))
 (sNx)))
def Tb:SM:=
 UP (K4 2 (T4 0))
 (UP (Kn (KS (UA 1)) (gN 3) N0)
 (UY (UA 2)))
def WA:List D->Option D:=U5 N_ba Tb
abbrev Sbb:Stmt:=top 44
abbrev N_bb:List Str:=["places", "steps", "told", "turn"]
theorem Hbb:NmF Sbb N_bb:=KM (by decide +kernel)
def NF:SM:=
 U8 2 (US 2 WA (UL (UA 2) (UL (UA 1) (UH))))
def Ta:SM:=
 UP (U8 2 (UO Kr (Ks (UL (Ku (UL (UN (.int 0)) (UL (Ks (UH)) (UH)))) (UH))) (UA 0)))
 (UP (Kn (Xv (UL (UA 0) (UH))) (gN 3) NF)
 (UY (UA 2)))
def Xm:List D->Option D:=U5 N_bb Ta
abbrev Sbg:Stmt:=top 49
abbrev N_bg:List Str:=["wishes", "worths", "dealing", "nothing", "walks"]
theorem Hbg:NmF Sbg N_bg:=KM (by decide +kernel)
def V5:SM:=
 UP (U8 3 (Zo Kb (UL (UZ 0 (UN (.int 0))) (UH))))
 (UP (U8 4 (US 2 Xm (UL (UO U0 (UA 3) (UN (.int 1))) (UL (US 3 YO (UL (UA 0) (UL (UA 1) (UL (UA 2) (UH))))) (UH)))))
 (UY (UW Ux (Zr (KS (ZT (UA 4) (UN none) (U6 (UA 3) λx=>U9 (YE x)))) 2 (gT 2 (gNC (gN 5) (gNC (gN 6) (gN0)))) (UN true) (UA 5)))))
def Wx:List D->Option D:=U5 N_bg V5
abbrev Sbi:Stmt:=top 51
abbrev N_bi:List Str:=["wishes", "worths", "dealing", "prices"]
theorem Hbi:NmF Sbi N_bi:=KM (by decide +kernel)
def V3:SM:=
 UP (U8 3 (US 3 Wx (UL (UA 0) (UL (UA 1) (UL (UA 2) (UH))))))
 (UY (Ku (UL (UN (.int 1)) (UL (US 3 Ww (UL (Zo Kb (UL (UZ 0 (UN (.int 1))) (UH))) (UL (UA 1) (UL (UA 3) (UH))))) (UL (UA 3) (UH))))))
def Wv:List D->Option D:=U5 N_bi V3
abbrev Sbc:Stmt:=top 45
abbrev N_bc:List Str:=["walk", "end", "step", "begin"]
theorem Hbc:NmF Sbc N_bc:=KM (by decide +kernel)
def NE:SM:=
 sIf (UO oEq (UO oIx (UZ 0 (UA 3)) (UN (.int 0))) (UZ 2 (UN (.int 1))))
 (UY (ZT (UA 0) (U6 (UA 3) λx=>U9 (YE x)) (U6 (UO U0 (UA 1) (UN (.int 1))) λx=>U9 (YE x))))
 (sNx)
def NC:SM:=
 Kn (Xv (UL (UO U0 (UA 1) (UN (.int 1))) (UH))) (gN 3) NE
def V9:SM:=
 UP (Kn (YB (UL (UA 0) (UH))) (gT 2 (gNC (gN 1) (gNC (gN 2) (gN0)))) NC)
 (UY (Ks (UH)))
def Wz:List D->Option D:=U5 N_bc V9
abbrev Sbd:Stmt:=top 46
abbrev N_bd:List Str:=["nothing", "steps", "begin", "number", "step", "way", "ahead", "behind", "gain", "asker"]
theorem Hbd:NmF Sbd N_bd:=KM (by decide +kernel)
def NB:SM:=
 sIf (UW (λd=>!isNon d) (UA 9))
 (ZG 5 (Ku (UL (UA 9) (UL (mIf (Zi oEq 7 (UA 0)) (UN .none) (UA 7)) (UH)))))
 (sNx)
def NA:SM:=
 sIf (UO oEq (UZ 4 (UN (.int 0))) (UA 0))
 (U8 2 (UA 3))
 (sNx)
def V8:SM:=
 UP (U8 2 (UN (.int 0)))
 (UP (Kn (YB (UL (UA 1) (UH))) (gT 2 (gNC (gN 3) (gNC (gN 4) (gN0)))) NA)
 (UP (K4 5 (U6 (UH) λxs=>if xs.length<=1000000 then UN xs else λ_=>.bad))
 (UP (Kn (KS (UO U0 (ZT (UA 1) (U6 (UA 2) λx=>U9 (YE x)) (UN none)) (ZT (UA 1) (UN none) (U6 (UA 2) λx=>U9 (YE x))))) (gT 4 (gNC (gN 6) (gNC (gN 7) (gNC (gN 8) (gNC (gN 9) (gN0)))))) NB)
 (UY (UA 5)))))
def XS:List D->Option D:=U5 N_bd V8
abbrev Sbe:Stmt:=top 47
abbrev N_be:List Str:=["wishes", "worths", "dealing", "nothing", "gained", "walk"]
theorem Hbe:NmF Sbe N_be:=KM (by decide +kernel)
def Nz:SM:=
 sIf (UO oEq (K9 5) (UO U0 (UA 3) (UN (.int 1))))
 (UY (US 2 XS (UL (UA 3) (UL (US 1 Wz (UL (UA 5) (UH))) (UH)))))
 (sNx)
def V7:SM:=
 UP (U8 3 (Zo Kb (UL (UZ 0 (UN (.int 0))) (UH))))
 (UP (Kn (KS (US 2 Xm (UL (UO U0 (UA 3) (UN (.int 1))) (UL (US 3 YO (UL (UA 0) (UL (UA 1) (UL (UA 2) (UH))))) (UH))))) (gT 2 (gNC (gN 4) (gNC (gN 5) (gN0)))) Nz)
 (UY (Ks (UH))))
def XR:List D->Option D:=U5 N_be V7
abbrev Sav:Stmt:=top 37
abbrev N_av:List Str:=["dealing", "way", "told", "asker", "taken"]
theorem Hav:NmF Sav N_av:=KM (by decide +kernel)
def Ny:SM:=
 W0 2 (UA 3) (UA 4)
def Tg:SM:=
 UP (K4 2 (T4 0))
 (UP (Kn (KS (UA 1)) (gT 2 (gNC (gN 3) (gNC (gN 4) (gN0)))) Ny)
 (UY (UA 2)))
def WD:List D->Option D:=U5 N_av Tg
abbrev Sbf:Stmt:=top 48
abbrev N_bf:List Str:=["wishes", "worths", "dealing", "way"]
theorem Hbf:NmF Sbf N_bf:=KM (by decide +kernel)
def RB:SM:=
 UP (U8 2 (US 2 WD (UL (UA 2) (UL (UA 3) (UH)))))
 (U8 3 (US 3 XR (UL (UA 0) (UL (UA 1) (UL (UA 2) (UH))))))
def V6:SM:=
 UP (U8 2 (UO Kr (Ks (UL (UN .none) (UH))) (Zo Kb (UL (UZ 0 (UN (.int 1))) (UH)))))
 (UP (U8 3 (US 3 XR (UL (UA 0) (UL (UA 1) (UL (UA 2) (UH))))))
 (UP (X1 (SL (UA 3)) RB XX)
 (UY (UA 2))))
def Wy:List D->Option D:=U5 N_bf V6
abbrev Saj:Stmt:=top 19
abbrev N_aj:List Str:=["wishes"]
theorem Haj:NmF Saj N_aj:=KM (by decide +kernel)
def Tt:SM:=
 UP (Xw (US 1 Yg (UL (UA 0) (UH))))
 (UY (Zo Vm (UL (UW Ux (SH (YB (UL (UZ 0 (UN (.int 1))) (UH))) 4 (gT 2 (gNC (gN 1) (gNC (gN 2) (gN0)))) (UN true) (KS (UA 2)) (gN 3) (UN true) (KS (UA 3)) (gN 4) (UN true) (Ku (UL (UA 1) (UL (UA 4) (UH)))))) (UH))))
def WN:List D->Option D:=U5 N_aj Tt
abbrev Saq:Stmt:=top 31
abbrev N_aq:List Str:=["base", "times", "told", "step"]
theorem Haq:NmF Saq N_aq:=KM (by decide +kernel)
def Nx:SM:=
 Y8 Yd 2 (UA 0)
def Tl:SM:=
 UP (U8 2 (UN (.int 1)))
 (UP (Kn (Xv (UL (UA 1) (UH))) (gN 3) Nx)
 (UY (UA 2)))
def Zg:List D->Option D:=U5 N_aq Tl
abbrev Sas:Stmt:=top 33
abbrev N_as:List Str:=["turns", "base", "asker", "rank", "behind"]
theorem Has:NmF Sas N_as:=KM (by decide +kernel)
def Tj:SM:=
 UP (sIf (Zi YI 2 (UA 0))
 (UY (UN (.int 0)))
 (sNx))
 (UP (U8 4 (UO KZ (UO KZ (K9 0) (UN (.int 1))) (Rq (UA 0) (UL (UA 2) (UH)))))
 (UY (UO Kr (UO KZ (UA 1) (UA 3)) (US 2 Zg (UL (UA 1) (UL (UA 4) (UH)))))))
def WF:List D->Option D:=U5 N_as Tj
abbrev Sar:Stmt:=top 32
abbrev N_ar:List Str:=["order", "base", "most", "rank"]
theorem Har:NmF Sar N_ar:=KM (by decide +kernel)
def Tk:SM:=
 UP (sIf (Zi oEq 0 (UN (.str "firsts")))
 (UY (US 2 Zg (UL (UA 1) (UL (UO KZ (UA 2) (UA 3)) (UH)))))
 (sNx))
 (UP (sIf (Zi oEq 0 (UN (.str "full")))
 (UY (UO U0 (US 2 Zg (UL (UA 1) (UL (UA 2) (UH)))) (US 2 Zg (UL (UA 1) (UL (UO KZ (UA 2) (UA 3)) (UH))))))
 (sNx))
 (UY (UO KZ (US 2 Zg (UL (UA 1) (UL (UA 2) (UH)))) (US 2 Zg (UL (UA 1) (UL (UO KZ (UA 3) (UN (.int 1))) (UH)))))))
def WG:List D->Option D:=U5 N_ar Tk
abbrev Sah:Stmt:=top 17
abbrev N_ah:List Str:=["ranks", "thing", "number", "rank"]
theorem Hah:NmF Sah N_ah:=KM (by decide +kernel)
def Nw:SM:=
 sIf (Zi oIn 1 (UA 3))
 (UY (UA 2))
 (sNx)
def Tv:SM:=
 UP (Kn (Ry (UL (UA 0) (UH))) (gT 2 (gNC (gN 2) (gNC (gN 3) (gN0)))) Nw)
 (UY (UN (.int 0)))
def WP:List D->Option D:=U5 N_ah Tv
abbrev Sat:Stmt:=top 34
abbrev N_at:List Str:=["wishes", "aim", "most", "asker", "thing", "order", "old", "turns", "lists", "rank", "base", "kept", "by_counts"]
theorem Hat:NmF Sat N_at:=KM (by decide +kernel)
def Ti:SM:=
 UP (Zx (UA 1) (gT 3 (gNC (gN 5) (gNC (gN 6) (gNC (gN 7) (gN0))))))
 (UP (U8 8 (UZ 0 (UN (.int 1))))
 (UP (U8 9 (US 2 WP (UL (UZ 8 (UA 3)) (UL (UA 4) (UH)))))
 (UP (U8 10 (UO U0 (K9 8) (UN (.int 1))))
 (UP (U8 11 (mIf (Zd (UW (λd=>!isNon d) (UA 6)) (UO oEq (UZ 6 (UA 3)) (UA 4))) (UN (.int 1)) (UN (.int 0))))
 (UP (U8 12 (UO U0 (UO Kr (US 4 WG (UL (UA 5) (UL (UA 10) (UL (UA 2) (UL (UA 9) (UH)))))) (UA 10)) (UA 11)))
 (UY (UO U0 (UO Kr (UA 12) (US 2 Zg (UL (UO U0 (UA 2) (UN (.int 1))) (UL (K9 7) (UH))))) (US 4 WF (UL (UA 7) (UL (UO U0 (UA 2) (UN (.int 1))) (UL (UA 3) (UL (UA 9) (UH)))))))))))))
def XU:List D->Option D:=U5 N_at Ti
abbrev Sai:Stmt:=top 18
abbrev N_ai:List Str:=["wishes"]
theorem Hai:NmF Sai N_ai:=KM (by decide +kernel)
def Tu:SM:=
 UP (Xw (US 1 Yg (UL (UA 0) (UH))))
 (UY (Zo Vo (UL (UW Ux (Zr (KS (UZ 0 (UN (.int 1)))) 1 (gN 1) (UN true) (K9 1))) (UH))))
def WO:List D->Option D:=U5 N_ai Tu
abbrev Sao:Stmt:=top 28
abbrev N_ao:List Str:=["thing", "askers"]
theorem Hao:NmF Sao N_ao:=KM (by decide +kernel)
def To:SM:=
 UP (sIf (mOr (KP (ZX (UW (λd=>.bool (KF d "list")) (UA 0)))) (KP (ZX (Zo Yr (UL (UW Ux (Zr (KS (UA 0)) 1 (gN 2) (UN true) (US 2 Zy (UL (UA 2) (UL (UA 1) (UH)))))) (UH))))))
 (UY (UN (.bool false)))
 (sNx))
 (UY (UW Uy (UO oEq (Zo Wb (UL (UA 0) (UH))) (K9 0))))
def WI:List D->Option D:=U5 N_ao To
abbrev San:Stmt:=top 27
abbrev N_an:List Str:=["thing", "askers", "things"]
theorem Han:NmF San N_an:=KM (by decide +kernel)
def Tp:SM:=
 UP (sIf (UW isNon (UA 0))
 (UY (UN (.bool true)))
 (sNx))
 (UP (sIf (mOr (KP (ZX (UW (λd=>.bool (KF d "list")) (UA 0)))) (UO oNe (K9 0) (UA 1)))
 (UY (UN (.bool false)))
 (sNx))
 (UY (Zo Yr (UL (UW Ux (Zr (KS (UA 0)) 1 (gN 3) (UN true) (Xc (UW (λd=>.bool (isNon d)) (UA 3)) (US 2 Zy (UL (UA 3) (UL (UA 2) (UH))))))) (UH)))))
def WJ:List D->Option D:=U5 N_an Tp
abbrev Sal:Stmt:=top 24
abbrev N_al:List Str:=["thing"]
theorem Hal:NmF Sal N_al:=KM (by decide +kernel)
def Tr:SM:=
 UY (Vp (UW (λd=>.bool (KF d "str")) (UA 0)) (UW Uy (Zi oIn 0 (UN (.tuple ((["firsts", "full", "lasts"]:List Str).map Uz))))))
def WL:List D->Option D:=U5 N_al Tr
abbrev Sam:Stmt:=top 25
abbrev N_am:List Str:=["thing"]
theorem Ham:NmF Sam N_am:=KM (by decide +kernel)
def Tq:SM:=
 sIf (KP (ZX (US 1 WL (UL (UA 0) (UH)))))
 (X4)
 (sNx)
def WK:List D->Option D:=U5 N_am Tq
abbrev Sap:Stmt:=top 29
abbrev N_ap:List Str:=["wishes", "thing", "copies", "lists", "order", "old", "turns"]
theorem Hap:NmF Sap N_ap:=KM (by decide +kernel)
def Tn:SM:=
 UP (Xw (US 1 Yg (UL (UA 0) (UH))))
 (UP (sIf (mOr (KP (ZX (UW (λd=>.bool (KF d "tuple")) (UA 1)))) (UO oNe (K9 1) (UN (.int 3))))
 (X4)
 (sNx))
 (UP (Zx (UA 0) (gT 2 (gNC (gN 2) (gNC (gN 3) (gN0)))))
 (UP (Zx (UA 1) (gT 3 (gNC (gN 4) (gNC (gN 5) (gNC (gN 6) (gN0))))))
 (UP (Xw (US 1 WK (UL (UA 4) (UH))))
 (UP (sIf (KP (ZX (US 3 WJ (UL (UA 5) (UL (K9 3) (UL (K9 2) (UH)))))))
 (X4)
 (sNx))
 (sIf (KP (ZX (US 2 WI (UL (UA 6) (UL (K9 3) (UH))))))
 (X4)
 (sNx)))))))
def WH:List D->Option D:=U5 N_ap Tn
abbrev Sau:Stmt:=top 35
abbrev N_au:List Str:=["wishes", "aim", "most"]
theorem Hau:NmF Sau N_au:=KM (by decide +kernel)
def Th:SM:=
 UP (Xw (US 2 WH (UL (UA 0) (UL (UA 1) (UH)))))
 (UP (U8 2 (US 1 WO (UL (UA 0) (UH))))
 (UY (UW Ux (Zr (KS (US 1 WN (UL (UA 0) (UH)))) 2 (gT 2 (gNC (gN 3) (gNC (gN 4) (gN0)))) (UN true) (Ku (UL (UA 3) (UL (UA 4) (UL (US 5 XU (UL (UA 0) (UL (UA 1) (UL (UA 2) (UL (UA 3) (UL (UA 4) (UH))))))) (UH)))))))))
def WE:List D->Option D:=U5 N_au Th
abbrev Sbj:Stmt:=top 53
abbrev N_bj:List Str:=["wishes", "aim", "worths", "dealing"]
theorem Hbj:NmF Sbj N_bj:=KM (by decide +kernel)
def V2:SM:=
 UP (U8 2 (US 2 WE (UL (UA 0) (UL (UA 1) (UH)))))
 (UP (U8 3 (US 2 Wy (UL (UA 0) (UL (UA 2) (UH)))))
 (UY (Ku (UL (UA 3) (UL (US 3 Wv (UL (UA 0) (UL (UA 2) (UL (UA 3) (UH))))) (UH))))))
def Yu:List D->Option D:=U5 N_bj V2
abbrev Sbk:Stmt:=top 55
abbrev N_bk:List Str:=["_law_script", "_law_k"]
theorem Hbk:NmF Sbk N_bk:=KM (by decide +kernel)
def Wl:SM:=
 UP (sIf (Zi (oIB λi j=>decide (i<j)) 1 (K9 0))
 (UY (UZ 0 (UA 1)))
 (sNx))
 (UY (UN (.int 0)))
def XQ:List D->Option D:=U5 N_bk Wl
abbrev Sbm:Stmt:=top 57
abbrev N_bm:List Str:=["_law_script", "_law_at", "_law_most_things", "_law_most_askers", "_law_most_ranks", "_law_sizes", "_law_digits", "_law_copies", "_law_lists", "_law_asker", "_law_cell", "_law_places", "_law_ranks", "_law_rank_here", "_law_row"]
theorem Hbm:NmF Sbm N_bm:=KM (by decide +kernel)
def Pt:SM:=
 UP (K4 14 (Zr (Xv (UL (K9 7) (UH))) 1 (gN 15) (UO oEq (UZ 11 (UA 15)) (UA 13)) (UA 15)))
 (sIf (Zi oNe 14 (Ks (UH)))
 (ZG 12 (UO oIx (Ks (UL (UA 14) (UL (XJ (UA 14) (UN none) (UN none) (U6 (Ze (UN (.int 1))) λx=>U9 (YE x))) (UH)))) (UZ 11 (Ze (UN (.int 1))))))
 (sNx))
def Ps:SM:=
 UP (U8 10 (US 2 XQ (UL (UA 0) (UL (UO U0 (UO U0 (UA 1) (UN (.int 1))) (UA 9)) (UH)))))
 (UP (U8 11 (US 3 YN (UL (UA 10) (UL (UO U0 (UO U0 (UO Kr (UN (.int 11)) (UA 1)) (UO Kr (UN (.int 3)) (UA 9))) (UN (.int 1))) (UL (UO U0 (UO Kr (Ks (UL (UO U0 (UA 4) (UN (.int 1))) (UH))) (UA 2)) (Ks (UL (UN (.int 2)) (UH)))) (UH))))))
 (UP (K4 12 (U6 (UH) λxs=>if xs.length<=1000000 then UN xs else λ_=>.bad))
 (UP (Kn (Rf (UL (UN (.int 1)) (UL (UO U0 (UA 4) (UN (.int 1))) (UH)))) (gN 13) Pt)
 (ZG 8 (UA 12)))))
def V0:SM:=
 UP (U8 5 (UO U0 (Ks (UL (UA 2) (UL (UA 3) (UH)))) (UO Kr (Ks (UL (UN (.int 11)) (UH))) (UA 2))))
 (UP (U8 6 (US 3 YN (UL (US 2 XQ (UL (UA 0) (UL (UA 1) (UH)))) (UL (UA 1) (UL (UA 5) (UH))))))
 (UP (K4 7 (Zr (KS (ZT (UA 6) (U6 (UN (.int 2)) λx=>U9 (YE x)) (U6 (UO U0 (UN (.int 3)) (UZ 6 (UN (.int 0)))) λx=>U9 (YE x)))) 1 (gN 15) (UN true) (UO oIx (Ks (UL (UN (.int 1)) (UL (UN (.int 1)) (UL (UN (.int 2)) (UL (UN (.int 0)) (UL (UN (.int 3)) (UL (UN (.int 7)) (UL (UN (.int 1)) (UL (UN (.int 4)) (UL (UN (.int 5)) (UL (UN (.int 6)) (UL (UN (.int 1)) (UH))))))))))))) (UA 15))))
 (UP (K4 8 (U6 (UH) λxs=>if xs.length<=1000000 then UN xs else λ_=>.bad))
 (UP (Kn (Xv (UL (UO U0 (UN (.int 1)) (UZ 6 (UN (.int 1)))) (UH))) (gN 9) Ps)
 (UY (Ku (UL (UA 7) (UL (UA 8) (UH)))))))))
def Wu:List D->Option D:=U5 N_bm V0
abbrev Sbw:Stmt:=top 67
abbrev N_bw:List Str:=["_law_script", "_law_wishes_here", "_law_orders", "_law_told", "_law_dealing", "_law_others", "_law_counts_here", "_law_best", "_law_order", "_law_first", "_law_second"]
theorem Hbw:NmF Sbw N_bw:=KM (by decide +kernel)
def Nv:SM:=
 sIf (UO Wk (US 3 XN (UL (UA 1) (UL (UA 8) (UL (UA 4) (UH))))) (US 3 XN (UL (UA 1) (UL (UA 8) (UL (UA 7) (UH))))))
 (UY (UN (.bool false)))
 (sNx)
def Nu:SM:=
 sIf (UO (oIB λi j=>decide (i<j)) (UZ 6 (Ze (UN (.int 1)))) (UO oIx (US 2 ZU (UL (UA 1) (UL (UA 7) (UH)))) (Ze (UN (.int 1)))))
 (UY (UN (.bool false)))
 (sNx)
def Nt:SM:=
 UP (U8 6 (US 2 ZU (UL (UA 1) (UL (UA 4) (UH)))))
 (UP (sIf (Zd (UO (oIB λi j=>decide (j<i)) (K9 6) (UN (.int 1))) (UO (oIB λi j=>decide (j<i)) (UZ 6 (UN (.int 0))) (UO oIx (US 2 ZU (UL (UA 1) (UL (UZ 3 (UN (.int 0))) (UH)))) (UN (.int 0)))))
 (UY (UN (.bool false)))
 (sNx))
 (UP (Kn (KS (ZT (UA 3) (U6 (UN (.int 1)) λx=>U9 (YE x)) (UN none))) (gN 7) Nu)
 (Kn (Xd (UL (UA 2) (UL (UA 3) (UH)))) (gT 2 (gNC (gN 8) (gNC (gN 7) (gN0)))) Nv)))
def Nr:SM:=
 sIf (KP (ZX (US 2 Ws (UL (UA 1) (UL (UA 4) (UH))))))
 (UY (UN (.bool false)))
 (sNx)
def VP:SM:=
 UP (U8 1 (US 5 Wu (UL (UA 0) (UL (UN (.int 1)) (UL (UN (.int 6)) (UL (UN (.int 7)) (UL (UN (.int 5)) (UH))))))))
 (UP (K4 2 (U6 (UL (UN (.str "firsts")) (UL (UN (.str "full")) (UL (UN (.str "lasts")) (UH)))) λxs=>if xs.length<=1000000 then UN xs else λ_=>.bad))
 (UP (K4 3 (Zr (KS (UA 2)) 1 (gN 11) (UN true) (UO oIx (US 2 Yu (UL (UA 1) (UL (Ku (UL (UA 11) (UL (UN .none) (UL (Ks (UH)) (UH))))) (UH)))) (UN (.int 0)))))
 (UP (Kn (KS (UA 3)) (gN 4) Nr)
 (UP (U8 5 (UO U0 (UA 3) (UW Ux (Zr (YB (UL (ZT (UA 0) (U6 (UN (.int 9)) λx=>U9 (YE x)) (U6 (UN (.int 54)) λx=>U9 (YE x))) (UH))) 2 (gT 2 (gNC (gN 11) (gNC (gN 12) (gN0)))) (UN true) (US 3 Xi (UL (UA 1) (UL (UA 12) (UL (UO U0 (UN (.int 31)) (UA 11)) (UH)))))))))
 (UP (Kn (KS (UA 5)) (gN 4) Nt)
 (UP (Zx (UW Ux (Zr (KS (ZT (UA 3) (UN none) (U6 (UN (.int 2)) λx=>U9 (YE x)))) 1 (gN 11) (UN true) (US 2 ZU (UL (UA 1) (UL (UA 11) (UH)))))) (gL 2 (gNC (gN 9) (gNC (gN 10) (gN0)))))
 (UY (Xc (UW Uy (UO oNe (UZ 9 (Ze (UN (.int 1)))) (UZ 10 (Ze (UN (.int 1)))))) (UW Uy (Zi oEq 9 (UA 10)))))))))))
def Wq:List D->Option D:=U5 N_bw VP
set_option hygiene false in
local macro_rules | `(tactic| walk_at "g")=>`(tactic| first | exact gA nm rfl | exact GK rfl)
set_option hygiene false in
local macro_rules | `(tactic| walk_at "v")=>`(tactic| first | exact pq nm _ | exact pvb _)
set_option hygiene false in
local macro_rules | `(tactic| walk_at "b")=>`(tactic| first | ((with_reducible show OpB _ (compareOp CmpOp.Eq) _);first | exact B_eq hu) | ((with_reducible show OpB _ (compareOp CmpOp.NotEq) _);first | exact B_ne hu) | ((with_reducible show OpB _ (compareOp CmpOp.Lt) _);first | exact B_lt) | ((with_reducible show OpB _ (compareOp CmpOp.LtE) _);first | exact B_le) | ((with_reducible show OpB _ (compareOp CmpOp.Gt) _);first | exact B_gt | exact Gn hu) | ((with_reducible show OpB _ (compareOp CmpOp.GtE) _);first | exact B_ge) | ((with_reducible show OpB _ (compareOp CmpOp.In) _);first | exact B_in hu) | ((with_reducible show OpB _ (compareOp CmpOp.NotIn) _);first | exact HE hu))
set_option hygiene false in
local macro_rules | `(tactic| walk_at "m")=>`(tactic| first | exact Pn _ | exact rfl)
set_option hygiene false in
local macro_rules | `(tactic| walk_at "k")=>`(tactic| first | exact MZ | exact BK | exact BJ | exact BI)
set_option hygiene false in
local macro_rules | `(tactic| walk_at "w")=>`(tactic| first | exact PassesOwn.never)
set_option hygiene false in
local macro_rules | `(tactic| walk_at "x")=>`(tactic| first | assumption | exact wants_cx)
set_option hygiene false in
local macro_rules | `(tactic| walk_at "c")=>`(tactic| first | exact T.c_MOST_ASKERS | exact T.c_MOST_COPIES | exact T.c_MOST_RANKS | exact T.c_MOST_THINGS | exact T.c_ORDERS)
set_option hygiene false in
local macro_rules | `(tactic| walk_at "ck")=>`(tactic| fail)
set_option hygiene false in
local macro_rules | `(tactic| walk_at "e")=>`(tactic| first | ((with_reducible show PE _ (Expr.Name _ _) _);first | exact ZN (pq nm _) | exact ZN (pvb _) | exact HG (by walk_at "g") (by walk_at "c") | exact HC (by walk_at "g") (by walk_at "c")) | ((with_reducible show PE _ (Expr.Constant _ _ _) _);first | exact O1 | exact DR | exact F2 | exact DS) | ((with_reducible show PE _ (Expr.Subscript _ _ _) _);first | refine T9 (by walk_at "v") ?_ (fun _ _=>rfl) | refine AQ ?_ ?_ ?_ | refine Da ?_ ?_ ?_ ?_ | refine Ek ?_ ?_ (fun _ _=>rfl)) | ((with_reducible show PE _ (Expr.BinOp _ Operator.Add _ _) _);first | refine Vq HS ?_ ?_) | ((with_reducible show PE _ (Expr.BinOp _ Operator.Sub _ _) _);first | refine Vq OY ?_ ?_) | ((with_reducible show PE _ (Expr.BinOp _ Operator.Mult _ _) _);first | refine Vq HR ?_ ?_) | ((with_reducible show PE _ (Expr.BinOp _ Operator.Mod _ _) _);first | refine Vq HQ ?_ ?_) | ((with_reducible show PE _ (Expr.BinOp _ Operator.FloorDiv _ _) _);first | refine Vq HP ?_ ?_) | ((with_reducible show PE _ (Expr.BinOp _ Operator.Pow _ _) _);first | refine Vq HN ?_ ?_) | ((with_reducible show PE _ (Expr.Call (Expr.Name "len" _) _ _ _) _);first | refine MP (by walk_at "g") T.b_len (by walk_at "v") | refine So OX (by walk_at "g") T.b_len boot_len ?_ | refine AO rfl (by walk_at "g") T.b_len (by walk_at "g") T.b_set ?_) | ((with_reducible show PE _ (Expr.Call (Expr.Name "max" _) _ _ _) _);first | refine So (Ej rfl) (by walk_at "g") T.b_max boot_max ?_ | refine So (GA rfl) (by walk_at "g") T.b_max boot_max ?_) | ((with_reducible show PE _ (Expr.Call (Expr.Name "sorted" _) _ _ _) _);first | refine So Gv (by walk_at "g") T.b_sorted PyProof.Rows.boot_sorted ?_) | ((with_reducible show PE _ (Expr.Call (Expr.Name "sum" _) _ _ _) _);first | refine So (Gz rfl) (by walk_at "g") T.b_sum PyProof.Rows.boot_sum ?_) | ((with_reducible show PE _ (Expr.Call (Expr.Name "all" _) _ _ _) _);first | refine So (HI rfl) (by walk_at "g") T.b_all PyProof.Rows.boot_all ?_) | ((with_reducible show PE _ (Expr.Call (Expr.Name "isinstance" _) [_,Expr.Name "int" _] _ _) _);first | refine Rc (c := "int") (by decide) (by walk_at "g") T.b_isinstance (by walk_at "g") T.b_int (by decide +kernel) ?_ (by decide) (by decide)) | ((with_reducible show PE _ (Expr.Call (Expr.Name "isinstance" _) [_,Expr.Name "list" _] _ _) _);first | refine Rc (c := "list") (by decide) (by walk_at "g") T.b_isinstance (by walk_at "g") T.b_list (by decide +kernel) ?_ (by decide) (by decide)) | ((with_reducible show PE _ (Expr.Call (Expr.Name "isinstance" _) [_,Expr.Name "tuple" _] _ _) _);first | refine Rc (c := "tuple") (by decide) (by walk_at "g") T.b_isinstance (by walk_at "g") T.b_tuple (by decide +kernel) ?_ (by decide) (by decide)) | ((with_reducible show PE _ (Expr.Call (Expr.Name "isinstance" _) [_,Expr.Name "bool" _] _ _) _);first | refine Rc (c := "bool") (by decide) (by walk_at "g") T.b_isinstance (by walk_at "g") T.b_bool (by decide +kernel) ?_ (by decide) (by decide)) | ((with_reducible show PE _ (Expr.Call (Expr.Name "isinstance" _) [_,Expr.Name "str" _] _ _) _);first | refine Rc (c := "str") (by decide) (by walk_at "g") T.b_isinstance (by walk_at "g") T.b_str (by decide +kernel) ?_ (by decide) (by decide)) | ((with_reducible show PE _ (Expr.Call (Expr.Name _ _) _ _ _) _);first | refine pdf (by assumption) hr (by walk_at "g") ?_) | ((with_reducible show PE _ (Expr.Call _ _ _ _) _);first | refine Bw hu ?_ ?_ | refine B2 ?_ ?_) | refine Mc ?_ | refine PX ?_ | ((with_reducible show PE _ (Expr.Compare _ _ _ _) _);first | refine Ex ?_ | refine Db (by walk_at "b") (by walk_at "v") ?_ (by walk_at "m") | refine EH (by walk_at "b") ?_ ?_ (by walk_at "m") | refine Ay (by walk_at "b") (by walk_at "b") ?_ ?_ ?_) | refine Dd ?_ | refine Mk ?_ | refine Ez ?_ | refine EB ?_ ?_ | refine El ?_ ?_ | refine EA ?_ | refine Ax ?_ ?_ ?_)
set_option hygiene false in
local macro_rules | `(tactic| walk_at "t")=>`(tactic| first | ((with_reducible show PT _ (Expr.Compare _ _ _ _) _);first | refine Ey ?_ | refine MQ ?_ | refine Dc (by walk_at "b") (by walk_at "v") ?_ (by walk_at "m") | refine PY (by walk_at "b") ?_ ?_ (by walk_at "m") | refine Az (by walk_at "b") (by walk_at "b") ?_ ?_ ?_) | ((with_reducible show PT _ (Expr.BoolOp _ _ _) _);refine PW.pt ?_) | refine ED ?_ | refine EC ?_ | refine ER ?_)
set_option hygiene false in
local macro_rules | `(tactic| walk_at "l")=>`(tactic| first | refine Gd nm (by walk_at "k") rfl ?_ ?_ (by decide +kernel) | refine BE (by walk_at "g") T.b_list (by walk_at "v") | refine CH (by walk_at "g") T.b_list ?_ | refine Es ?_ | refine NU ?_ ?_)
set_option hygiene false in
local macro_rules | `(tactic| walk_at "i")=>`(tactic| first | refine AM (by walk_at "g") T.b_range ?_ | refine AL (by walk_at "g") T.b_range ?_ | refine Ml (by walk_at "g") T.b_enumerate ?_ | refine CD (by walk_at "g") T.b_enumerate ?_ | refine GD (by walk_at "g") T.b_zip ?_ | refine Pj ?_)
set_option hygiene false in
local macro_rules | `(tactic| walk_at "s")=>`(tactic| first | ((with_reducible show PS _ (Stmt.Assign [Expr.Name _ _] _ _) _);first | refine aSet nm ?_ | refine Gc nm (by walk_at "k") rfl ?_ ?_ (by decide +kernel) | refine Ge nm ?_) | ((with_reducible show PS _ (Stmt.Assign _ _ _) _);first | refine Ei ?_ ?_ | refine NQ ?_ (by walk_at "v") ?_) | refine R9 ?_ ?_ ?_ | refine Nl ?_ | refine Pp (by walk_at "w") rfl ?_ ?_ ?_ | ((with_reducible show PS _ (Stmt.Expr _ _) _);first | refine Nk (by walk_at "v") ?_ | refine Et ?_) | refine EX (by walk_at "v") ?_ EZ ?_ | refine aAug nm EY ?_ | exact D3 | refine Cw _ (by walk_at "w") ?_ ?_)
set_option hygiene false in
local macro_rules | `(tactic| walk_at "d")=>`(tactic| (have hu:=hr.units;have hgd:=hr.gd;repeat' (first | ((with_reducible show PE _ _ (tD _ _ _ _));first | walk_at "e") | ((with_reducible show PA _ _ (tDs _ _ _ _));first | refine Y3 ?_ ?_ | exact Sa) | ((with_reducible show PSs _ _ (tS _ _ _ _ _));first | refine SO ?_ ?_ | refine T5 ?_ | exact Pq | exact sD_nevers) | ((with_reducible show PS _ _ _);walk_at "s") | ((with_reducible show PT _ _ _);walk_at "t") | ((with_reducible show PW _ _ _);first | refine EE ?_ ?_ | refine Em ?_ ?_ | refine D7 ?_ | refine EF ?_) | ((with_reducible show PE _ _ (tL _ _ _ _));walk_at "l") | ((with_reducible show PI _ _ _ _);walk_at "i") | ((with_reducible show PG _ _ _);first | exact Gg nm | exact Gr | refine Rz rfl ?_ | refine GB rfl ?_) | ((with_reducible show PGs _ _ _);first | exact Rt | refine Wc ?_ ?_) | ((with_reducible show PO _ _ _);first | exact D6 | refine D5 ?_) | ((with_reducible show Ye _ _ _ _ _ _ _ _ _);refine fun cl C s0 H0 ex=>⟨fun B' G'=>?_,fun B' G'=>?_,?_⟩) | ((with_reducible show YM _ _ _);first | exact Eo | refine NR ?_) | ((with_reducible show Sq _ _ _ _ _ _);first | refine LM rfl rfl rfl fun B' G'=>?_ | refine BL rfl rfl rfl rfl (fun _=>rfl) (fun B' G'=>?_) (fun B' G'=>?_) (fun B' G'=>?_) ?_))))
section
variable{P:Um}{w:World}{K:Frag}{mg:Str->Option Uk}{base:Heap}{f:Uo}{fd:Up}(T:Txt K mg)
include T
theorem Kbn(F:Fun K "_law_rank" "_law_rank" Sbn f fd):FnOk P w K mg base CX0 1 f fd ["_law_wishes_here", "_law_asker", "_law_thing"] (spD K 3 Xl):=
 okD (k:=0) (g:=VZ) F (fq Hbn 3) rfl λcdv A outer s H E B G0 hr=>
 have nm:=Hbn
 by walk_at "d"
theorem Kbo(F:Fun K "_law_longest" "_law_longest" Sbo f fd):FnOk P w K mg base CX0 1 f fd ["_law_wishes_here"] (spD K 1 Xk):=
 okD (k:=0) (g:=VY) F (fq Hbo 1) rfl λcdv A outer s H E B G0 hr=>
 have nm:=Hbo
 by walk_at "d"
theorem Kbr(d_bn:Def P w K mg base "_law_rank" 1 3 Xl)(d_bo:Def P w K mg base "_law_longest" 1 1 Xk)(F:Fun K "_law_counts" "_law_counts" Sbr f fd):FnOk P w K mg base CX0 2 f fd ["_law_wishes_here", "_law_dealing"] (spD K 2 ZU):=
 okD (k:=1) (g:=VU) F (fq Hbr 2) rfl λcdv A outer s H E B G0 hr=>
 have nm:=Hbr
 by walk_at "d"
theorem Kbu(d_bo:Def P w K mg base "_law_longest" 1 1 Xk)(d_bn:Def P w K mg base "_law_rank" 1 3 Xl)(d_br:Def P w K mg base "_law_counts" 2 2 ZU)(F:Fun K "_law_key" "_law_key" Sbu f fd):FnOk P w K mg base CX0 3 f fd ["_law_wishes_here", "_law_aim", "_law_dealing"] (spD K 3 Wr):=
 okD (k:=2) (g:=VR) F (fq Hbu 3) rfl λcdv A outer s H E B G0 hr=>
 have nm:=Hbu
 by walk_at "d"
theorem Kbv(d_bu:Def P w K mg base "_law_key" 3 3 Wr)(F:Fun K "_law_by" "_law_by" Sbv f fd):FnOk P w K mg base CX0 4 f fd ["_law_wishes_here", "_law_order", "_law_dealing"] (spD K 3 XN):=
 okD (k:=3) (g:=VQ) F (fq Hbv 3) rfl λcdv A outer s H E B G0 hr=>
 have nm:=Hbv
 by walk_at "d"
theorem Kbp(F:Fun K "_law_wished" "_law_wished" Sbp f fd):FnOk P w K mg base CX0 1 f fd ["_law_wishes_here", "_law_asker"] (spD K 2 Xj):=
 okD (k:=0) (g:=VX) F (fq Hbp 2) rfl λcdv A outer s H E B G0 hr=>
 have nm:=Hbp
 by walk_at "d"
theorem Kbl(F:Fun K "_law_numbers" "_law_numbers" Sbl f fd):FnOk P w K mg base CX0 1 f fd ["_law_cell", "_law_salt", "_law_sizes"] (spD K 3 YN):=
 okD (k:=0) (g:=V1) F (fq Hbl 3) rfl λcdv A outer s H E B G0 hr=>
 have nm:=Hbl
 by walk_at "d"
theorem Kbq(d_bp:Def P w K mg base "_law_wished" 1 2 Xj)(d_bl:Def P w K mg base "_law_numbers" 1 3 YN)(F:Fun K "_law_dealt" "_law_dealt" Sbq f fd):FnOk P w K mg base CX0 2 f fd ["_law_wishes_here", "_law_cell", "_law_salt"] (spD K 3 Xi):=
 okD (k:=1) (g:=VW) F (fq Hbq 3) rfl λcdv A outer s H E B G0 hr=>
 have nm:=Hbq
 by walk_at "d"
theorem Kbs(F:Fun K "_law_is_number" "_law_is_number" Sbs f fd):FnOk P w K mg base CX0 1 f fd ["_law_thing"] (spD K 1 Wt):=
 okD (k:=0) (g:=VT) F (fq Hbs 1) rfl λcdv A outer s H E B G0 hr=>
 have nm:=Hbs
 by walk_at "d"
theorem Kbt(d_bs:Def P w K mg base "_law_is_number" 1 1 Wt)(d_bp:Def P w K mg base "_law_wished" 1 2 Xj)(F:Fun K "_law_is_dealing" "_law_is_dealing" Sbt f fd):FnOk P w K mg base CX0 2 f fd ["_law_wishes_here", "_law_thing"] (spD K 2 Ws):=
 okD (k:=1) (g:=VS) F (fq Hbt 2) rfl λcdv A outer s H E B G0 hr=>
 have nm:=Hbt
 by walk_at "d"
theorem Kbh(F:Fun K "asks_beyond" "asks_beyond" Sbh f fd):FnOk P w K mg base CX0 1 f fd ["askers", "worths", "prices"] (spD K 3 Ww):=
 okD (k:=0) (g:=V4) F (fq Hbh 3) rfl λcdv A outer s H E B G0 hr=>
 have nm:=Hbh
 by walk_at "d"
theorem Kaw(F:Fun K "place_of" "place_of" Saw f fd):FnOk P w K mg base CX0 1 f fd ["nothing", "got"] (spD K 2 XT):=
 okD (k:=0) (g:=Tf) F (fq Haw 2) rfl λcdv A outer s H E B G0 hr=>
 have nm:=Haw
 by walk_at "d"
theorem Kax(d_aw:Def P w K mg base "place_of" 1 2 XT)(F:Fun K "steps_of_askers" "steps_of_askers" Sax f fd):FnOk P w K mg base CX0 2 f fd ["nothing", "worths", "dealing"] (spD K 3 WC):=
 okD (k:=1) (g:=Te) F (fq Hax 3) rfl λcdv A outer s H E B G0 hr=>
 have hu:=hr.units;have hgd:=hr.gd
 (SO (Mm (i:=3) (nq Hax) rfl (lq Hax 3) (NU (Mc (Y3 O1 Sa)) (MP (gq Hax 2) T.b_len (pq Hax 2))))
 (SO (Pp UE rfl (Pj (ZN (pq Hax 1))) (Rz rfl (Wc (X5 (X6 (i:=4) (nq Hax) rfl (lq Hax 4))) (Wc (X5 (X6 (i:=5) (nq Hax) rfl (lq Hax 5))) (Wc (X5 (X6 (i:=6) (nq Hax) rfl (lq Hax 6))) Rt))))
 (T5 (R9 (PY (B_eq hu) (T9 (pq Hax 2) (ZN (pq Hax 4)) (λ_ _=>rfl)) (ZN (pq Hax 5)) (Pn _))
 (T5 (NQ (ZN (pq Hax 6)) (pq Hax 3) (ZN (pq Hax 4))))
 Pq)))
 (SO (Gh (j:=7) (ZM Sax) TL ["nothing", "worths", "dealing", "had", ".asker", "thing", "worth", "told", "asker", "got"] 2 MZ (nq Hax) rfl rfl rfl (λB' G'=>(Ml (gq Hax 1) T.b_enumerate (Y3 (ZN (pq Hax 2)) Sa))) (λcl C s0 H0 ex=>⟨λB' G'=>(Rz rfl (Wc (X5 (X6 (i:=8) (show(["nothing", "worths", "dealing", "had", ".asker", "thing", "worth", "told", "asker", "got"]:List Str).Nodup by decide +kernel) rfl (PV rfl) (.inr (Po rfl)))) (Wc (X5 (X6 (i:=9) (show(["nothing", "worths", "dealing", "had", ".asker", "thing", "worth", "told", "asker", "got"]:List Str).Nodup by decide +kernel) rfl (PV rfl) (.inr (Po rfl)))) Rt))),λB' G'=>(NR (MQ (ZN (pvb 9)))),(LM rfl rfl rfl λB' G'=>(PX (Y3 (ZN (pvb 9)) (Y3 (ZN (pvb 0)) (Y3 (Mk (T9 (pvb 3) (ZN (pvb 8)) (λ_ _=>rfl))) (Y3 (ZN (pvb 8)) Sa))))))⟩) rfl rfl (by decide +kernel))
 (SO (Pp UE rfl (Pj (ZN (pq Hax 1))) (Rz rfl (Wc (X5 (X6 (i:=4) (nq Hax) rfl (lq Hax 4))) (Wc (X5 (X6 (i:=5) (nq Hax) rfl (lq Hax 5))) (Wc (X5 (X6 (i:=6) (nq Hax) rfl (lq Hax 6))) Rt))))
 (T5 (R9 (PY (B_ne hu) (T9 (pq Hax 2) (ZN (pq Hax 4)) (λ_ _=>rfl)) (ZN (pq Hax 5)) (Pn _))
 (T5 (Nk (pq Hax 7) (PX (Y3 (pdf d_aw hr (gq Hax 0) (Y3 (ZN (pq Hax 0)) (Y3 (T9 (pq Hax 2) (ZN (pq Hax 4)) (λ_ _=>rfl)) Sa))) (Y3 (ZN (pq Hax 5)) (Y3 (Vq OY (ZN (pq Hax 6)) (T9 (pq Hax 3) (ZN (pq Hax 4)) (λ_ _=>rfl))) (Y3 (ZN (pq Hax 4)) Sa)))))))
 Pq)))
 (T5 (Nl (ZN (pq Hax 7))))))))
theorem Kaa(F:Fun K "is_whole" "is_whole" Saa f fd):FnOk P w K mg base CX0 1 f fd ["thing"] (spD K 1 WT):=
 okD (k:=0) (g:=TF) F (fq Haa 1) rfl λcdv A outer s H E B G0 hr=>
 have nm:=Haa
 by walk_at "d"
theorem Kab(d_aa:Def P w K mg base "is_whole" 1 1 WT)(F:Fun K "is_number_below" "is_number_below" Sab f fd):FnOk P w K mg base CX0 2 f fd ["thing", "many"] (spD K 2 Zy):=
 okD (k:=1) (g:=TD) F (fq Hab 2) rfl λcdv A outer s H E B G0 hr=>
 have nm:=Hab
 by walk_at "d"
theorem Kad(d_ab:Def P w K mg base "is_number_below" 2 2 Zy)(F:Fun K "is_rank" "is_rank" Sad f fd):FnOk P w K mg base CX0 3 f fd ["thing", "things"] (spD K 2 XV):=
 okD (k:=2) (g:=TB) F (fq Had 2) rfl λcdv A outer s H E B G0 hr=>
 have nm:=Had
 by walk_at "d"
theorem Kae(d_ad:Def P w K mg base "is_rank" 3 2 XV)(F:Fun K "is_asker_list" "is_asker_list" Sae f fd):FnOk P w K mg base CX0 4 f fd ["thing", "things"] (spD K 2 WR):=
 okD (k:=3) (g:=Tz) F (fq Hae 2) rfl λcdv A outer s H E B G0 hr=>
 have nm:=Hae
 by walk_at "d"
theorem Kaf(d_ae:Def P w K mg base "is_asker_list" 4 2 WR)(F:Fun K "look_at_lists" "look_at_lists" Saf f fd):FnOk P w K mg base CX0 5 f fd ["lists", "things"] (spD K 2 WQ):=
 okD (k:=4) (g:=Tx) F (fq Haf 2) rfl λcdv A outer s H E B G0 hr=>
 have nm:=Haf
 by walk_at "d"
theorem Kac(d_ab:Def P w K mg base "is_number_below" 2 2 Zy)(F:Fun K "look_at_copies" "look_at_copies" Sac f fd):FnOk P w K mg base CX0 3 f fd ["copies"] (spD K 1 WS):=
 okD (k:=2) (g:=TC) F (fq Hac 1) rfl λcdv A outer s H E B G0 hr=>
 have nm:=Hac
 by walk_at "d"
theorem Kag(d_af:Def P w K mg base "look_at_lists" 5 2 WQ)(d_ac:Def P w K mg base "look_at_copies" 3 1 WS)(F:Fun K "look_at_wishes" "look_at_wishes" Sag f fd):FnOk P w K mg base CX0 6 f fd ["thing"] (spD K 1 Yg):=
 okD (k:=5) (g:=Tw) F (fq Hag 1) rfl λcdv A outer s H E B G0 hr=>
 have nm:=Hag
 by walk_at "d"
theorem Kak(d_ag:Def P w K mg base "look_at_wishes" 6 1 Yg)(F:Fun K "copies_left" "copies_left" Sak f fd):FnOk P w K mg base CX0 7 f fd ["wishes", "dealing"] (spD K 2 WM):=
 okD (k:=6) (g:=Ts) F (fq Hak 2) rfl λcdv A outer s H E B G0 hr=>
 have nm:=Hak
 by walk_at "d"
theorem Kay(d_ak:Def P w K mg base "copies_left" 7 2 WM)(F:Fun K "steps_of_copies" "steps_of_copies" Say f fd):FnOk P w K mg base CX0 8 f fd ["wishes", "dealing"] (spD K 2 WB):=
 okD (k:=7) (g:=Td) F (fq Hay 2) rfl λcdv A outer s H E B G0 hr=>
 have nm:=Hay
 by walk_at "d"
theorem Kaz(d_ax:Def P w K mg base "steps_of_askers" 2 3 WC)(d_ay:Def P w K mg base "steps_of_copies" 8 2 WB)(F:Fun K "all_steps" "all_steps" Saz f fd):FnOk P w K mg base CX0 9 f fd ["wishes", "worths", "dealing"] (spD K 3 YO):=
 okD (k:=8) (g:=Tc) F (fq Haz 3) rfl λcdv A outer s H E B G0 hr=>
 have nm:=Haz
 by walk_at "d"
theorem Kba(F:Fun K "longer_walks" "longer_walks" Sba f fd):FnOk P w K mg base CX0 1 f fd ["walks", "steps"] (spD K 2 WA):=
 okD (k:=0) (g:=Tb) F (fq Hba 2) rfl λcdv A outer s H E B G0 hr=>
 have nm:=Hba
 by walk_at "d"
theorem Kbb(d_ba:Def P w K mg base "longer_walks" 1 2 WA)(F:Fun K "widest_walks" "widest_walks" Sbb f fd):FnOk P w K mg base CX0 2 f fd ["places", "steps"] (spD K 2 Xm):=
 okD (k:=1) (g:=Ta) F (fq Hbb 2) rfl λcdv A outer s H E B G0 hr=>
 have nm:=Hbb
 by walk_at "d"
theorem Kbg(d_az:Def P w K mg base "all_steps" 9 3 YO)(d_bb:Def P w K mg base "widest_walks" 2 2 Xm)(F:Fun K "prices_for" "prices_for" Sbg f fd):FnOk P w K mg base CX0 10 f fd ["wishes", "worths", "dealing"] (spD K 3 Wx):=
 okD (k:=9) (g:=V5) F (fq Hbg 3) rfl λcdv A outer s H E B G0 hr=>
 have nm:=Hbg
 by walk_at "d"
theorem Kbi(d_bh:Def P w K mg base "asks_beyond" 1 3 Ww)(d_bg:Def P w K mg base "prices_for" 10 3 Wx)(F:Fun K "paper_for" "paper_for" Sbi f fd):FnOk P w K mg base CX0 11 f fd ["wishes", "worths", "dealing"] (spD K 3 Wv):=
 okD (k:=10) (g:=V3) F (fq Hbi 3) rfl λcdv A outer s H E B G0 hr=>
 have nm:=Hbi
 by walk_at "d"
theorem Kbc(F:Fun K "round_within" "round_within" Sbc f fd):FnOk P w K mg base CX0 1 f fd ["walk"] (spD K 1 Wz):=
 okD (k:=0) (g:=V9) F (fq Hbc 1) rfl λcdv A outer s H E B G0 hr=>
 have nm:=Hbc
 by walk_at "d"
theorem Kbd(F:Fun K "way_round" "way_round" Sbd f fd):FnOk P w K mg base CX0 1 f fd ["nothing", "steps"] (spD K 2 XS):=
 okD (k:=0) (g:=V8) F (fq Hbd 2) rfl λcdv A outer s H E B G0 hr=>
 have nm:=Hbd
 by walk_at "d"
theorem Kbe(d_az:Def P w K mg base "all_steps" 9 3 YO)(d_bb:Def P w K mg base "widest_walks" 2 2 Xm)(d_bc:Def P w K mg base "round_within" 1 1 Wz)(d_bd:Def P w K mg base "way_round" 1 2 XS)(F:Fun K "gaining_way" "gaining_way" Sbe f fd):FnOk P w K mg base CX0 10 f fd ["wishes", "worths", "dealing"] (spD K 3 XR):=
 okD (k:=9) (g:=V7) F (fq Hbe 3) rfl λcdv A outer s H E B G0 hr=>
 have nm:=Hbe
 by walk_at "d"
theorem Kav(F:Fun K "behind_way" "behind_way" Sav f fd):FnOk P w K mg base CX0 1 f fd ["dealing", "way"] (spD K 2 WD):=
 okD (k:=0) (g:=Tg) F (fq Hav 2) rfl λcdv A outer s H E B G0 hr=>
 have nm:=Hav
 by walk_at "d"
theorem Kbf(d_be:Def P w K mg base "gaining_way" 10 3 XR)(d_av:Def P w K mg base "behind_way" 1 2 WD)(F:Fun K "best_by" "best_by" Sbf f fd):FnOk P w K mg base CX0 11 f fd ["wishes", "worths"] (spD K 2 Wy):=
 okD (k:=10) (g:=V6) F (fq Hbf 2) rfl λcdv A outer s H E B G0 hr=>
 have nm:=Hbf
 by walk_at "d"
theorem Kaj(d_ag:Def P w K mg base "look_at_wishes" 6 1 Yg)(F:Fun K "all_wishes" "all_wishes" Saj f fd):FnOk P w K mg base CX0 7 f fd ["wishes"] (spD K 1 WN):=
 okD (k:=6) (g:=Tt) F (fq Haj 1) rfl λcdv A outer s H E B G0 hr=>
 have nm:=Haj
 by walk_at "d"
theorem Kaq(F:Fun K "power" "power" Saq f fd):FnOk P w K mg base CX0 1 f fd ["base", "times"] (spD K 2 Zg):=
 okD (k:=0) (g:=Tl) F (fq Haq 2) rfl λcdv A outer s H E B G0 hr=>
 have nm:=Haq
 by walk_at "d"
theorem Kas(d_aq:Def P w K mg base "power" 1 2 Zg)(F:Fun K "worth_by_turns" "worth_by_turns" Sas f fd):FnOk P w K mg base CX0 2 f fd ["turns", "base", "asker", "rank"] (spD K 4 WF):=
 okD (k:=1) (g:=Tj) F (fq Has 4) rfl λcdv A outer s H E B G0 hr=>
 have nm:=Has
 by walk_at "d"
theorem Kar(d_aq:Def P w K mg base "power" 1 2 Zg)(F:Fun K "worth_by_order" "worth_by_order" Sar f fd):FnOk P w K mg base CX0 2 f fd ["order", "base", "most", "rank"] (spD K 4 WG):=
 okD (k:=1) (g:=Tk) F (fq Har 4) rfl λcdv A outer s H E B G0 hr=>
 have nm:=Har
 by walk_at "d"
theorem Kah(F:Fun K "rank_in" "rank_in" Sah f fd):FnOk P w K mg base CX0 1 f fd ["ranks", "thing"] (spD K 2 WP):=
 okD (k:=0) (g:=Tv) F (fq Hah 2) rfl λcdv A outer s H E B G0 hr=>
 have nm:=Hah
 by walk_at "d"
theorem Kat(d_aq:Def P w K mg base "power" 1 2 Zg)(d_as:Def P w K mg base "worth_by_turns" 2 4 WF)(d_ar:Def P w K mg base "worth_by_order" 2 4 WG)(d_ah:Def P w K mg base "rank_in" 1 2 WP)(F:Fun K "worth_by_aim" "worth_by_aim" Sat f fd):FnOk P w K mg base CX0 3 f fd ["wishes", "aim", "most", "asker", "thing"] (spD K 5 XU):=
 okD (k:=2) (g:=Ti) F (fq Hat 5) rfl λcdv A outer s H E B G0 hr=>
 have nm:=Hat
 by walk_at "d"
theorem Kai(d_ag:Def P w K mg base "look_at_wishes" 6 1 Yg)(F:Fun K "longest" "longest" Sai f fd):FnOk P w K mg base CX0 7 f fd ["wishes"] (spD K 1 WO):=
 okD (k:=6) (g:=Tu) F (fq Hai 1) rfl λcdv A outer s H E B G0 hr=>
 have nm:=Hai
 by walk_at "d"
theorem Kao(d_ab:Def P w K mg base "is_number_below" 2 2 Zy)(F:Fun K "is_turns" "is_turns" Sao f fd):FnOk P w K mg base CX0 3 f fd ["thing", "askers"] (spD K 2 WI):=
 okD (k:=2) (g:=To) F (fq Hao 2) rfl λcdv A outer s H E B G0 hr=>
 have nm:=Hao
 by walk_at "d"
theorem Kan(d_ab:Def P w K mg base "is_number_below" 2 2 Zy)(F:Fun K "is_old" "is_old" San f fd):FnOk P w K mg base CX0 3 f fd ["thing", "askers", "things"] (spD K 3 WJ):=
 okD (k:=2) (g:=Tp) F (fq Han 3) rfl λcdv A outer s H E B G0 hr=>
 have nm:=Han
 by walk_at "d"
theorem Kal(F:Fun K "is_order" "is_order" Sal f fd):FnOk P w K mg base CX0 1 f fd ["thing"] (spD K 1 WL):=
 okD (k:=0) (g:=Tr) F (fq Hal 1) rfl λcdv A outer s H E B G0 hr=>
 have nm:=Hal
 by walk_at "d"
theorem Kam(d_al:Def P w K mg base "is_order" 1 1 WL)(F:Fun K "look_at_order" "look_at_order" Sam f fd):FnOk P w K mg base CX0 2 f fd ["thing"] (spD K 1 WK):=
 okD (k:=1) (g:=Tq) F (fq Ham 1) rfl λcdv A outer s H E B G0 hr=>
 have nm:=Ham
 by walk_at "d"
theorem Kap(d_ao:Def P w K mg base "is_turns" 3 2 WI)(d_an:Def P w K mg base "is_old" 3 3 WJ)(d_am:Def P w K mg base "look_at_order" 2 1 WK)(d_ag:Def P w K mg base "look_at_wishes" 6 1 Yg)(F:Fun K "look_at_aim" "look_at_aim" Sap f fd):FnOk P w K mg base CX0 7 f fd ["wishes", "thing"] (spD K 2 WH):=
 okD (k:=6) (g:=Tn) F (fq Hap 2) rfl λcdv A outer s H E B G0 hr=>
 have nm:=Hap
 by walk_at "d"
theorem Kau(d_aj:Def P w K mg base "all_wishes" 7 1 WN)(d_at:Def P w K mg base "worth_by_aim" 3 5 XU)(d_ai:Def P w K mg base "longest" 7 1 WO)(d_ap:Def P w K mg base "look_at_aim" 7 2 WH)(F:Fun K "all_worths" "all_worths" Sau f fd):FnOk P w K mg base CX0 8 f fd ["wishes", "aim"] (spD K 2 WE):=
 okD (k:=7) (g:=Th) F (fq Hau 2) rfl λcdv A outer s H E B G0 hr=>
 have nm:=Hau
 by walk_at "d"
theorem Kbj(d_bi:Def P w K mg base "paper_for" 11 3 Wv)(d_bf:Def P w K mg base "best_by" 11 2 Wy)(d_au:Def P w K mg base "all_worths" 8 2 WE)(F:Fun K "best_dealing" "best_dealing" Sbj f fd):FnOk P w K mg base CX0 12 f fd ["wishes", "aim"] (spD K 2 Yu):=
 okD (k:=11) (g:=V2) F (fq Hbj 2) rfl λcdv A outer s H E B G0 hr=>
 have nm:=Hbj
 by walk_at "d"
theorem Kbk(F:Fun K "_law_cell_at" "_law_cell_at" Sbk f fd):FnOk P w K mg base CX0 1 f fd ["_law_script", "_law_k"] (spD K 2 XQ):=
 okD (k:=0) (g:=Wl) F (fq Hbk 2) rfl λcdv A outer s H E B G0 hr=>
 have nm:=Hbk
 by walk_at "d"
theorem Kbm(d_bl:Def P w K mg base "_law_numbers" 1 3 YN)(d_bk:Def P w K mg base "_law_cell_at" 1 2 XQ)(F:Fun K "_law_wishes" "_law_wishes" Sbm f fd):FnOk P w K mg base CX0 2 f fd ["_law_script", "_law_at", "_law_most_things", "_law_most_askers", "_law_most_ranks"] (spD K 5 Wu):=
 okD (k:=1) (g:=V0) F (fq Hbm 5) rfl λcdv A outer s H E B G0 hr=>
 have nm:=Hbm
 by walk_at "d"
theorem Kbw(d_br:Def P w K mg base "_law_counts" 2 2 ZU)(d_bv:Def P w K mg base "_law_by" 4 3 XN)(d_bq:Def P w K mg base "_law_dealt" 2 3 Xi)(d_bt:Def P w K mg base "_law_is_dealing" 2 2 Ws)(d_bj:Def P w K mg base "best_dealing" 12 2 Yu)(d_bm:Def P w K mg base "_law_wishes" 2 5 Wu)(F:Fun K "law" "law" Sbw f fd):FnOk P w K mg base CX0 13 f fd ["_law_script"] (spD K 1 Wq):=
 okD (k:=12) (g:=VP) F (fq Hbw 1) rfl λcdv A outer s H E B G0 hr=>
 have nm:=Hbw
 by walk_at "d"
end
theorem KL:recsOf q0=Sy p0 ixL:=by show recsOf (PySem.W.view PySem.Challenge.pw_wishdeal_k47_orders_beside_one_another Xp)=Sy PySem.Challenge.pw_wishdeal_k47_orders_beside_one_another ixL;rw[PySem.W.Fast.te3399658132070893891,PySem.W.Fast.te13300339340996017643];kernel_rfl
theorem YD:(["all", "bool", "enumerate", "int", "isinstance", "len", "list", "max", "range", "set", "sorted", "str", "sum", "tuple", "zip"]:List Str).all (Rl q0 (PySem.W.looseW q0 []))=true:=by show List.all _ (Rl (PySem.W.view PySem.Challenge.pw_wishdeal_k47_orders_beside_one_another Xp) (PySem.W.looseW (PySem.W.view PySem.Challenge.pw_wishdeal_k47_orders_beside_one_another Xp) []))=true;k_qdec
theorem qV:valOf q0 "MOST_ASKERS" = some (.int 7):=by show valOf (PySem.W.view PySem.Challenge.pw_wishdeal_k47_orders_beside_one_another Xp) _=_;rw[Jv,PySem.W.Fast.te13300339340996017643];kernel_rfl
theorem qU:valOf q0 "MOST_COPIES" = some (.int 7):=by show valOf (PySem.W.view PySem.Challenge.pw_wishdeal_k47_orders_beside_one_another Xp) _=_;rw[Jv,PySem.W.Fast.te13300339340996017643];kernel_rfl
theorem qG:valOf q0 "MOST_RANKS" = some (.int 5):=by show valOf (PySem.W.view PySem.Challenge.pw_wishdeal_k47_orders_beside_one_another Xp) _=_;rw[Jv,PySem.W.Fast.te13300339340996017643];kernel_rfl
theorem qT:valOf q0 "MOST_THINGS" = some (.int 6):=by show valOf (PySem.W.view PySem.Challenge.pw_wishdeal_k47_orders_beside_one_another Xp) _=_;rw[Jv,PySem.W.Fast.te13300339340996017643];kernel_rfl
theorem C5:tupStrsOf q0 "ORDERS" = some (["firsts", "full", "lasts"]:List Str):=by show tupStrsOf (PySem.W.view PySem.Challenge.pw_wishdeal_k47_orders_beside_one_another Xp) _=_;rw[PySem.W.Fast.te14491516231548247274,PySem.W.Fast.te13300339340996017643];kernel_rfl
theorem Gq{l:PySem.W.OpenLaw}{w:World}{s0:Ul}{mg mb:Str->Option Uk}{fa:Uo}{h:Heap}{XP:(Str->Option Uk)->Heap->Prop}(G:PySem.W.Ground q0 [] [] XP w s0 mg mb h)(hfa:mg "law" = some (.ref fa)) :
  ∃fd:Up,(∀(s:Ul)(v:Uk),BindsTo s fd ⟨[v],[]⟩ [("_law_script", v)])/\∀base:Heap,FnOk l.prog w (whole h) mg base CX0 13 fa fd ["_law_script"] (spD (whole h) 1 Wq):=by
 have T:Txt (whole h) mg:=⟨YG G.T YD (mq 0 rfl),YG G.T YD (mq 1 rfl),YG G.T YD (mq 2 rfl),YG G.T YD (mq 3 rfl),YG G.T YD (mq 4 rfl),YG G.T YD (mq 5 rfl),YG G.T YD (mq 6 rfl),YG G.T YD (mq 7 rfl),YG G.T YD (mq 8 rfl),YG G.T YD (mq 9 rfl),YG G.T YD (mq 10 rfl),YG G.T YD (mq 11 rfl),YG G.T YD (mq 12 rfl),YG G.T YD (mq 13 rfl),YG G.T YD (mq 14 rfl),RP G.T qV,RP G.T qU,RP G.T qG,RP G.T qT,BS G.B C5 (by decide)⟩
 refine Gj G.T KL 67 "law" rfl rfl hfa (λ_ _ _ _ _ _ _=>rfl) λbase=>?_
 have d_bn:=KN l.prog w base G.T KL 58 "_law_rank" rfl rfl (λF=>Kbn T  F) λ_ _ _ _ _ _ us hl=>bz3 (us:=us) hl λ_ _ _=>rfl
 have d_bo:=KN l.prog w base G.T KL 59 "_law_longest" rfl rfl (λF=>Kbo T  F) λ_ _ _ _ _ _ us hl=>bz1 (us:=us) hl λ_=>rfl
 have d_br:=KN l.prog w base G.T KL 62 "_law_counts" rfl rfl (λF=>Kbr T d_bn d_bo F) λ_ _ _ _ _ _ us hl=>bz2 (us:=us) hl λ_ _=>rfl
 have d_bu:=KN l.prog w base G.T KL 65 "_law_key" rfl rfl (λF=>Kbu T d_bo d_bn d_br F) λ_ _ _ _ _ _ us hl=>bz3 (us:=us) hl λ_ _ _=>rfl
 have d_bv:=KN l.prog w base G.T KL 66 "_law_by" rfl rfl (λF=>Kbv T d_bu F) λ_ _ _ _ _ _ us hl=>bz3 (us:=us) hl λ_ _ _=>rfl
 have d_bp:=KN l.prog w base G.T KL 60 "_law_wished" rfl rfl (λF=>Kbp T  F) λ_ _ _ _ _ _ us hl=>bz2 (us:=us) hl λ_ _=>rfl
 have d_bl:=KN l.prog w base G.T KL 56 "_law_numbers" rfl rfl (λF=>Kbl T  F) λ_ _ _ _ _ _ us hl=>bz3 (us:=us) hl λ_ _ _=>rfl
 have d_bq:=KN l.prog w base G.T KL 61 "_law_dealt" rfl rfl (λF=>Kbq T d_bp d_bl F) λ_ _ _ _ _ _ us hl=>bz3 (us:=us) hl λ_ _ _=>rfl
 have d_bs:=KN l.prog w base G.T KL 63 "_law_is_number" rfl rfl (λF=>Kbs T  F) λ_ _ _ _ _ _ us hl=>bz1 (us:=us) hl λ_=>rfl
 have d_bt:=KN l.prog w base G.T KL 64 "_law_is_dealing" rfl rfl (λF=>Kbt T d_bs d_bp F) λ_ _ _ _ _ _ us hl=>bz2 (us:=us) hl λ_ _=>rfl
 have d_bh:=KN l.prog w base G.T KL 50 "asks_beyond" rfl rfl (λF=>Kbh T  F) λ_ _ _ _ _ _ us hl=>bz3 (us:=us) hl λ_ _ _=>rfl
 have d_aw:=KN l.prog w base G.T KL 39 "place_of" rfl rfl (λF=>Kaw T  F) λ_ _ _ _ _ _ us hl=>bz2 (us:=us) hl λ_ _=>rfl
 have d_ax:=KN l.prog w base G.T KL 40 "steps_of_askers" rfl rfl (λF=>Kax T d_aw F) λ_ _ _ _ _ _ us hl=>bz3 (us:=us) hl λ_ _ _=>rfl
 have d_aa:=KN l.prog w base G.T KL 1 "is_whole" rfl rfl (λF=>Kaa T  F) λ_ _ _ _ _ _ us hl=>bz1 (us:=us) hl λ_=>rfl
 have d_ab:=KN l.prog w base G.T KL 2 "is_number_below" rfl rfl (λF=>Kab T d_aa F) λ_ _ _ _ _ _ us hl=>bz2 (us:=us) hl λ_ _=>rfl
 have d_ad:=KN l.prog w base G.T KL 13 "is_rank" rfl rfl (λF=>Kad T d_ab F) λ_ _ _ _ _ _ us hl=>bz2 (us:=us) hl λ_ _=>rfl
 have d_ae:=KN l.prog w base G.T KL 14 "is_asker_list" rfl rfl (λF=>Kae T d_ad F) λ_ _ _ _ _ _ us hl=>bz2 (us:=us) hl λ_ _=>rfl
 have d_af:=KN l.prog w base G.T KL 15 "look_at_lists" rfl rfl (λF=>Kaf T d_ae F) λ_ _ _ _ _ _ us hl=>bz2 (us:=us) hl λ_ _=>rfl
 have d_ac:=KN l.prog w base G.T KL 12 "look_at_copies" rfl rfl (λF=>Kac T d_ab F) λ_ _ _ _ _ _ us hl=>bz1 (us:=us) hl λ_=>rfl
 have d_ag:=KN l.prog w base G.T KL 16 "look_at_wishes" rfl rfl (λF=>Kag T d_af d_ac F) λ_ _ _ _ _ _ us hl=>bz1 (us:=us) hl λ_=>rfl
 have d_ak:=KN l.prog w base G.T KL 21 "copies_left" rfl rfl (λF=>Kak T d_ag F) λ_ _ _ _ _ _ us hl=>bz2 (us:=us) hl λ_ _=>rfl
 have d_ay:=KN l.prog w base G.T KL 41 "steps_of_copies" rfl rfl (λF=>Kay T d_ak F) λ_ _ _ _ _ _ us hl=>bz2 (us:=us) hl λ_ _=>rfl
 have d_az:=KN l.prog w base G.T KL 42 "all_steps" rfl rfl (λF=>Kaz T d_ax d_ay F) λ_ _ _ _ _ _ us hl=>bz3 (us:=us) hl λ_ _ _=>rfl
 have d_ba:=KN l.prog w base G.T KL 43 "longer_walks" rfl rfl (λF=>Kba T  F) λ_ _ _ _ _ _ us hl=>bz2 (us:=us) hl λ_ _=>rfl
 have d_bb:=KN l.prog w base G.T KL 44 "widest_walks" rfl rfl (λF=>Kbb T d_ba F) λ_ _ _ _ _ _ us hl=>bz2 (us:=us) hl λ_ _=>rfl
 have d_bg:=KN l.prog w base G.T KL 49 "prices_for" rfl rfl (λF=>Kbg T d_az d_bb F) λ_ _ _ _ _ _ us hl=>bz3 (us:=us) hl λ_ _ _=>rfl
 have d_bi:=KN l.prog w base G.T KL 51 "paper_for" rfl rfl (λF=>Kbi T d_bh d_bg F) λ_ _ _ _ _ _ us hl=>bz3 (us:=us) hl λ_ _ _=>rfl
 have d_bc:=KN l.prog w base G.T KL 45 "round_within" rfl rfl (λF=>Kbc T  F) λ_ _ _ _ _ _ us hl=>bz1 (us:=us) hl λ_=>rfl
 have d_bd:=KN l.prog w base G.T KL 46 "way_round" rfl rfl (λF=>Kbd T  F) λ_ _ _ _ _ _ us hl=>bz2 (us:=us) hl λ_ _=>rfl
 have d_be:=KN l.prog w base G.T KL 47 "gaining_way" rfl rfl (λF=>Kbe T d_az d_bb d_bc d_bd F) λ_ _ _ _ _ _ us hl=>bz3 (us:=us) hl λ_ _ _=>rfl
 have d_av:=KN l.prog w base G.T KL 37 "behind_way" rfl rfl (λF=>Kav T  F) λ_ _ _ _ _ _ us hl=>bz2 (us:=us) hl λ_ _=>rfl
 have d_bf:=KN l.prog w base G.T KL 48 "best_by" rfl rfl (λF=>Kbf T d_be d_av F) λ_ _ _ _ _ _ us hl=>bz2 (us:=us) hl λ_ _=>rfl
 have d_aj:=KN l.prog w base G.T KL 19 "all_wishes" rfl rfl (λF=>Kaj T d_ag F) λ_ _ _ _ _ _ us hl=>bz1 (us:=us) hl λ_=>rfl
 have d_aq:=KN l.prog w base G.T KL 31 "power" rfl rfl (λF=>Kaq T  F) λ_ _ _ _ _ _ us hl=>bz2 (us:=us) hl λ_ _=>rfl
 have d_as:=KN l.prog w base G.T KL 33 "worth_by_turns" rfl rfl (λF=>Kas T d_aq F) λ_ _ _ _ _ _ us hl=>bz4 (us:=us) hl λ_ _ _ _=>rfl
 have d_ar:=KN l.prog w base G.T KL 32 "worth_by_order" rfl rfl (λF=>Kar T d_aq F) λ_ _ _ _ _ _ us hl=>bz4 (us:=us) hl λ_ _ _ _=>rfl
 have d_ah:=KN l.prog w base G.T KL 17 "rank_in" rfl rfl (λF=>Kah T  F) λ_ _ _ _ _ _ us hl=>bz2 (us:=us) hl λ_ _=>rfl
 have d_at:=KN l.prog w base G.T KL 34 "worth_by_aim" rfl rfl (λF=>Kat T d_aq d_as d_ar d_ah F) λ_ _ _ _ _ _ us hl=>bz5 (us:=us) hl λ_ _ _ _ _=>rfl
 have d_ai:=KN l.prog w base G.T KL 18 "longest" rfl rfl (λF=>Kai T d_ag F) λ_ _ _ _ _ _ us hl=>bz1 (us:=us) hl λ_=>rfl
 have d_ao:=KN l.prog w base G.T KL 28 "is_turns" rfl rfl (λF=>Kao T d_ab F) λ_ _ _ _ _ _ us hl=>bz2 (us:=us) hl λ_ _=>rfl
 have d_an:=KN l.prog w base G.T KL 27 "is_old" rfl rfl (λF=>Kan T d_ab F) λ_ _ _ _ _ _ us hl=>bz3 (us:=us) hl λ_ _ _=>rfl
 have d_al:=KN l.prog w base G.T KL 24 "is_order" rfl rfl (λF=>Kal T  F) λ_ _ _ _ _ _ us hl=>bz1 (us:=us) hl λ_=>rfl
 have d_am:=KN l.prog w base G.T KL 25 "look_at_order" rfl rfl (λF=>Kam T d_al F) λ_ _ _ _ _ _ us hl=>bz1 (us:=us) hl λ_=>rfl
 have d_ap:=KN l.prog w base G.T KL 29 "look_at_aim" rfl rfl (λF=>Kap T d_ao d_an d_am d_ag F) λ_ _ _ _ _ _ us hl=>bz2 (us:=us) hl λ_ _=>rfl
 have d_au:=KN l.prog w base G.T KL 35 "all_worths" rfl rfl (λF=>Kau T d_aj d_at d_ai d_ap F) λ_ _ _ _ _ _ us hl=>bz2 (us:=us) hl λ_ _=>rfl
 have d_bj:=KN l.prog w base G.T KL 53 "best_dealing" rfl rfl (λF=>Kbj T d_bi d_bf d_au F) λ_ _ _ _ _ _ us hl=>bz2 (us:=us) hl λ_ _=>rfl
 have d_bk:=KN l.prog w base G.T KL 55 "_law_cell_at" rfl rfl (λF=>Kbk T  F) λ_ _ _ _ _ _ us hl=>bz2 (us:=us) hl λ_ _=>rfl
 have d_bm:=KN l.prog w base G.T KL 57 "_law_wishes" rfl rfl (λF=>Kbm T d_bl d_bk F) λ_ _ _ _ _ _ us hl=>bz5 (us:=us) hl λ_ _ _ _ _=>rfl
 exact λ{_ _} F=>Kbw T d_br d_bv d_bq d_bt d_bj d_bm F
abbrev d_bw:DefRec:=⟨"law", Sb Sbw,Vd Sbw,ZM Sbw,Gk Sbw⟩
theorem walk{YP:World->Heap->Prop}{XP:(Str->Option Uk)->Heap->Prop}(hlaw:∀ns:List Int,ns.length<=63->Wq [.list (ns.map int)]=some (.bool true)):PySem.W.WalkO q0 [] XP YP (PySem.Challenge.rw_wishdeal_k47_orders_beside_one_another).row.toRowW d_bw [] (λf vs=>PySem.call f vs):=
 CW (n:=63) (k:=13) (x:= "_law_script") rfl (by decide) rfl ⟨rfl,by decide,by decide,rfl⟩ (λ_ _ _ _ _ _ G hm=>Gq G hm) hlaw
theorem OJ{f:M D}{Z Z1:UG}{d:D}{t:Bool}(h:f Z=.ok d Z1)(ht:(!isNon d)=t):UW (λd=>!isNon d) f Z=.ok t Z1:=by subst ht;exact Kx (k:=λd=>!isNon d) h
theorem Hg{sizes found:List Int}{z d:Int}(h:∀(j:Nat) d z,found[j]?=some d->sizes[j]?=some z->0<=d/\d<z)(hz:sizes[found.length]?=some z)(h0:0<=d/\d<z) :
  ∀(j:Nat) d' z',(found++[d])[j]?=some d'->sizes[j]?=some z'->0<=d'/\d'<z':=by
 intro j d' z' e1 e2;by_cases hj:j<found.length
 ·rw[Qs hj]at e1;exact h j d' z' e1 e2
 ·by_cases hj2:j=found.length
  ·subst hj2;rw[hz]at e2;cases e2;rw[Qw (Qv _),Nat.sub_self,List.getElem?_cons_zero]at e1;cases e1;exact h0
  ·rw[QB (by rw[Ql,Jh];omega)]at e1;cases e1
abbrev pb(d:D):Option Sl:=some (.pub d)
def inv(c s:Int)(sizes:List Int)(n:Int)(i:Nat)(Z:UG):Prop:=∃left found x6 x7,Z=[some (Sl.pub (.int c)),pb (.int s),pb (.list (sizes.map .int)),pb (.int n),pb (.int left),some (.own ((found:List Int).map .int)),x6,x7] /\
 found.length=i/\∀(j:Nat) d z,found[j]?=some d->sizes[j]?=some z->0<=d/\d<z
theorem C4{c s n:Int}{sizes:List Int}(hs:∀x∈sizes,0<x/\x<18446744073709551616)(hl:sizes.length<=1000){i:Nat}{d:D}{Z:UG}{Q:Out->Prop}(hi:(ZW 0 sizes.length)[i]?=some d)(h:inv c s sizes n i Z) :
  ∃Z2,gN 6 d Z=some Z2/\Ho Pv Z2 (Vn (inv c s sizes n (i+1)) Q):=by
 obtain⟨left,found,x6,x7,rfl,hf,hfd⟩:=h;obtain⟨rfl,hlt⟩:=VG hi;obtain⟨z,hz⟩:∃z,sizes[i]?=some z:=⟨sizes[i]'(by omega),Qd _⟩
 obtain⟨z1,z2⟩:=hs z (Qp hz);have hix:oIx (.list (sizes.map int)) (.int (0+(i:Int)))=some (.int z):=by rw[Uc];exact ZB (by rw[Qe,hz];rfl)
 generalize hk:(0:Int)+(i:Int)=k at hix⊢;have hk1:k<18446744073709551616:=by omega
 have hk2 : -18446744073709551616<k:=by omega
 have hlen:(found.map int).length<1000000:=by rw[Qb];omega
 have pw:XG (.int 10) (.int 18)=some (.int 1000000000000000000):=by rw[E3 (by decide)];rfl
 refine⟨_,UR (Qa rfl) rfl,?_⟩;unfold Pv;apply Kw
 case h1=>exact Gx (Z6 rfl (U2 UU UU pw) rfl) λ_=>Z6 rfl UU rfl
 case h2=>intro _;refine Ki (X3 rfl (U2 (UK rfl) (KH rfl (UK rfl) hix) (Vz (by omega))) rfl hlen rfl) ?_;refine ZA (KR (U2 (UK rfl) (KH rfl (UK rfl) hix) (NW (by omega) (by omega))) (Qa rfl) rfl) (K5 ?_);exact⟨_,found++[left % z],_,_,by rw[Qz];rfl,by rw[Ql,hf];rfl,Hg hfd (by rw[hf];exact hz) ⟨Int.emod_nonneg _ (by omega),Int.emod_lt_of_pos _ z1⟩⟩
 case h3=>intro _;refine Ki (KR (U2 (U2 (U2 (U2 (UK rfl) (U2 UU (UK rfl) (S9 (by decide) (by decide))) Zp) (U2 (U2 UU (UK rfl) (S9 (by decide) (by decide))) (UK rfl) (Sj hk2 hk1)) Zp) (UK rfl) Zp) UU (Vz (by decide))) (Qa rfl) rfl) ?_;refine Ki (KR (U2 (U2 (UK rfl) UU (Sj (by decide) (by decide))) UU (Vz (by decide))) (Qa rfl) rfl) ?_;refine Ki (KR (U2 (U2 (U2 (U2 (UK rfl) (UK rfl) (Sj (by omega) (by omega))) UU (Vz (by decide))) UU (Sj (by decide) (by decide))) UU (Vz (by decide))) (Qa rfl) rfl) ?_;refine ZA (X3 rfl (U2 (U2 (UK rfl) UU (NW (by decide) (by decide))) (KH rfl (UK rfl) hix) (Vz (by omega))) rfl hlen rfl) (K5 ?_);exact⟨_,found++[_ % z],_,_,by rw[Qz];rfl,by rw[Ql,hf];rfl,Hg hfd (by rw[hf];exact hz) ⟨Int.emod_nonneg _ (by omega),Int.emod_lt_of_pos _ z1⟩⟩
theorem OI(c s:Int){sizes:List Int}(hs:∀x∈sizes,0<x/\x<18446744073709551616)(hl:sizes.length<=1000) :
  ∃r,YN [.int c,.int s,.list (sizes.map int)]=some r/\∃ds:List Int,r=.list (ds.map .int)/\ds.length=sizes.length/\∀(j:Nat) d z,ds[j]?=some d->sizes[j]?=some z->0<=d/\d<z:=by
 refine W4 (Z:=[pb (.int c),pb (.int s),pb (.list (sizes.map int)),none,none,none,none,none]) rfl ?_;unfold V1;refine Ki (KR (ZO (UM (UK rfl) (UM (U2 (Y2 UU) (UK rfl) YC) UT)) NV) (Qa rfl) rfl) ?_;refine Ki (KR (UK rfl) (Qa rfl) rfl) ?_;refine Ki (Z7 (Va UT (Qa rfl)) (Qa rfl) rfl) ?_;apply Kz;apply Zv (ds:=ZW 0 sizes.length) (inv c s sizes (if -1-c > c then -1-c else c))
 case h1=>exact W9 (UM (Zs rfl (by rw[Zh,Qb])) UT) (Vi (by omega) (by omega))
 case h0=>exact⟨_,[],none,none,rfl,rfl,λj d z e=>by cases e⟩
 case hst=>exact λi d Z e h=>C4 hs hl e h
 case hend=>rintro Z ⟨left,found,x6,x7,rfl,hf,hfd⟩;rw[X7]at hf;exact KB (Kv (Yl rfl rfl) ⟨_,rfl,found,rfl,by omega,hfd⟩)
mutual
theorem MC:∀(d:PyData),d.canLay0=true->UD d d=true
 |.none,_=>rfl
 |.bool b,_=>by cases b<;>rfl
 |.int i,_=>by simp[UD]
 |.str s,_=>by simp[UD]
 |.list xs,h=>eqvAll_refl xs h
 |.tuple xs,h=>eqvAll_refl xs h
 |.dict _,h=>by cases h
theorem eqvAll_refl:∀(xs:List PyData),UB xs=true->PyData.eqvAll xs xs=true
 |[],_=>rfl
 |x::r,h=>by
  have h:(PyData.canLay0 x&&UB r)=true:=h;rw[Jc]at h
  show(UD x x&&PyData.eqvAll r r)=true
  rw[MC x h.1,eqvAll_refl r h.2];rfl
end
theorem RO:∀{xs:List D},(∀x∈xs,PyData.canLay0 x=true)->UB xs=true
 |[],_=>rfl
 |x::r,h=>by
  show(PyData.canLay0 x&&UB r)=true
  rw[h x Qo,RO λy hy=>h y (Qk _ hy)];rfl
theorem Oq{n:Nat}:∀{xs:List D},(∀x∈xs,UC x<=n)->PyData.depthAll xs<=n
 |[],_=>by simp[PyData.depthAll]
 |x::r,h=>by have h1:=h x Qo;have h2:=Oq (n:=n) λy hy=>h y (Qk _ hy);simp only[PyData.depthAll];omega
def K8(r:List Int):D:=.list (r.map int)
def KG(rs:List (List Int)):D:=.list (rs.map K8)
def Ka(cs:List Int)(ls:L3):D:=.tuple [.list (cs.map int),.list (ls.map KG)]
structure Vj(n:Nat)(rs:List (List Int)):Prop where
 few:rs.length<=5
 some:∀r∈rs,r≠[]
 there:∀r∈rs,∀t∈r,0<=t/\t<n
 once:rs.flatten.Nodup
structure Good(cs:List Int)(ls:L3):Prop where
 c1:1<=cs.length
 c6:cs.length<=6
 c7:∀c∈cs,0<=c/\c<8
 l1:1<=ls.length
 l7:ls.length<=7
 rk:∀rs∈ls,Vj cs.length rs
theorem MB(r:List Int):(K8 r).canLay0=true:=RO λx hx=>by obtain⟨y,_,rfl⟩:=Qt.mp hx;rfl
theorem Nq(i:Int):(int i).depth<=1:=by simp[UC]
theorem Np{n:Nat}{xs:List D}(h:PyData.depthAll xs<=n):(Ux xs).depth<=n+1:=by simp only[UC];omega
theorem MA(r:List Int):(K8 r).depth<=2:=Np (Oq λx hx=>by obtain⟨y,_,rfl⟩:=Qt.mp hx;exact Nq y)
theorem C3(i:Int):WT [.int i]=some (.bool true):=by refine K7 (Z:=[pb (.int i)]) rfl ?_;unfold TF;exact Kv (RF (Kx (UK rfl)) (λ_=>NX (Kx (UK rfl)))) rfl
theorem RN{i m:Int}(h0:0<=i)(h1:i<m):Zy [.int i,.int m]=some (.bool true):=by
 refine K7 (Z:=[pb (.int i),pb (.int m)]) rfl ?_;unfold TD;have hb:(decide (0<=i)&&decide (i<m))=true:=by simp[h0,h1]
 refine Kv (RF (t:=true) (u:=true) (Kj (UM (UK rfl) UT) rfl (C3 i)) (λ_=>?_)) rfl;rw[←hb];exact Kx (P8 UU (UK rfl) rfl (λ_=>UK rfl) (λ_=>rfl))
theorem RM{α:Type}(l:List α):Yr [.list (l.map λ_=>.bool true)]=some (.bool true):=by
 have:(l.map λ_=>Uy true)=(l.map λ_=>true).map Uy:=by rw[Q4];rfl
 rw[this,E1]
 congr 2
 rw[List.all_map];induction l with
 |nil=>rfl
 |cons x r ih=>simpa using ih
theorem As{r:List Int}{n:Int}(hne:r≠[])(hl:r.length<=1000)(h:∀t∈r,0<=t/\t<n):XV [K8 r,.int n]=some (.bool true):=by
 refine K7 (Z:=[pb (K8 r),pb (.int n)]) rfl ?_;unfold TB;apply Kz;have hlen:Kb [K8 r]=some (.int r.length):=by unfold K8;rw[Zh,Qb]
 have hp:0<r.length:=Ue.mpr hne;apply Kw
 case h1=>exact X2 (Z1:=[pb (K8 r),pb (.int n)]) (Vh (UK rfl) rfl) (U2 (Zs rfl hlen) UU Wa)
 case h2=>
       intro hh;have:(r.length:Int)=0:=by simpa using hh
       omega
 case h3=>
  intro _;refine KU (KB ?_)
  have hc:K0 (gN 2) (UN true) (US 2 Zy (UL (UA 2) (UL (UA 1) (UH)))) (r.map int) (Kf [pb (K8 r),pb (.int n)]++Uw 1 none) []=some (r.map λ_=>.bool true):=by
   rw[Se (λ_=>true) (λ_=>.bool true) (λZ=>∃x,Z=[pb (K8 r),pb (.int n),x])]
   ·rw[List.filter_eq_self.mpr (λ_ _=>rfl),Jm,Q4];rfl
   ·rintro d hm Z ⟨x,rfl⟩;obtain⟨t,ht,rfl⟩:=Qt.mp hm;exact⟨_,UR (Qa rfl) rfl,rfl,λ_=>Kj (UM (UK rfl) (UM (UK rfl) UT)) rfl (RN (h t ht).1 (h t ht).2),_,rfl⟩
   ·exact⟨none,rfl⟩
   ·rw[Qb,QN];omega
  exact Kv (ZO (UM (Kx (Yk (Zj (UK rfl) rfl) hc)) UT) (RM r)) rfl
theorem M6{a b c x3:Option Sl}(ha:YW a=a)(hb:YW b=b)(hc:YW c=c)(hx:YW x3=x3):∀(ds es:List D)(x4:Option Sl),es.length+ds.length<=1000000 ->
  ∃y,Yy (gN 4) (UN true) (UA 4) ds [a,b,c,x3,x4] es=some (es++ds,[a,b,c,x3,y])
 |[],es,x4,_=>⟨x4,by rw[Yy,Q5]⟩
 |d::r,es,x4,h=>by
  rw[QC]at h;obtain⟨y,e⟩:=M6 ha hb hc hx r (es++[d]) (some (.pub d)) (by rw[Ql,Jh];omega);refine⟨y,?_⟩;rw[Yy];have h1:gN 4 d [a,b,c,x3,x4]=some [a,b,c,x3,pb d]:=UR (Qa rfl) rfl;rw[h1];dsimp only[UN];rw[Qm rfl];have h2:UA 4 [a,b,c,x3,pb d]=.ok d [a,b,c,x3,pb d]:=UK rfl;rw[h2];dsimp only;rw[Qm (by omega)];have h3:Kf [a,b,c,x3,pb d]=[a,b,c,x3,pb d]:=by unfold Kf;simp only[Qx,JJ,ha,hb,hc,hx];rfl
  rw[h3,e,Jk];rfl
theorem LS{a b:D}:∀(rs:List (List Int))(es:List D)(x3 x4:Option Sl),es.length+rs.flatten.length<=1000000 ->
  Xy (gN 3) (UN true) (KS (UA 3)) (gN 4) (UN true) (UA 4) (rs.map K8) [pb a,pb b,none,x3,x4] es=some (es++rs.flatten.map int)
 |[],es,_,_,_=>by rw[List.map_nil,Xy];simp
 |r::rs,es,x3,x4,h=>by rw[QM,Ql]at h;rw[Qx,Xy];have h1:gN 3 (K8 r) [pb a,pb b,none,x3,x4]=some [pb a,pb b,none,pb (K8 r),x4]:=UR (Qa rfl) rfl;rw[h1];dsimp only[UN];rw[Qm rfl];have h2:KS (UA 3) [pb a,pb b,none,pb (K8 r),x4]=.ok (r.map int) [pb a,pb b,none,pb (K8 r),x4]:=Zj (UK rfl) rfl;rw[h2];dsimp only;have h3:Kf [pb a,pb b,none,pb (K8 r),x4]=[pb a,pb b,none,pb (K8 r),YW x4]:=rfl;rw[h3];obtain⟨y,e⟩:=M6 (a:=some (.pub a)) (b:=some (.pub b)) (c:=none) (x3:=some (.pub (K8 r))) rfl rfl rfl rfl (r.map int) es (YW x4) (by rw[Qb];omega);rw[e];dsimp only;have ih:=LS (a:=a) (b:=b) rs (es++r.map int) (some (.pub (K8 r))) y (by rw[Ql,Qb];omega);refine Eq.trans ih ?_;rw[QM,Qz,Jk]
theorem Hf{ns:List Int}(h:ns.Nodup):Vs ns=ns.length:=by
 unfold Vs
 have:∀i,i<=ns.length->(PyProof.Rows.firstMet (λi=>ns.getD i 0) i).length=i:=by
  intro i;induction i with
  |zero=>intro _;rfl
  |succ i ih=>
   intro hi;rw[PyProof.Rows.firstMet_succ]
   have hany:(PyProof.Rows.firstMet (λi=>ns.getD i 0) i).any (· == ns.getD i 0)=false:=by
    rw[PyProof.Rows.firstMet_any,List.any_eq_false];intro x hx;obtain⟨j,hj,rfl⟩:=Qt.mp hx;have hj:=Q8.mp hj;intro e;have e:ns.getD j 0=ns.getD i 0:=by simpa using e
    have l1:j<ns.length:=by omega
    have l2:i<ns.length:=by omega
    simp only[List.getD,Qd l1,Qd l2,JT]at e;exact absurd ((List.getElem_inj h).mp e) (by omega)
   unfold PyProof.Rows.step_dedup;rw[hany];rw[Qu (by decide),Ql,ih (by omega)];rfl
 exact this ns.length (Qv _)
theorem qb{rs:List (List Int)}{n:Nat}(g:Vj n rs)(hn:n<=6)(hf:rs.flatten.length<=1000):WR [KG rs,.int n]=some (.bool true):=by
 refine K7 (Z:=[pb (KG rs),pb (.int n),none]) rfl ?_;unfold Tz;have hlen:Kb [KG rs]=some (.int rs.length):=by unfold KG;rw[Zh,Qb]
 have h5:=g.few;have hrl:∀r∈rs,r.length<=1000:=λr hr=>QP (List.Sublist.length_le (List.sublist_flatten_of_mem hr)) hf;apply Kz;apply Kw
 case h1=>exact X2 (Z1:=[pb (KG rs),pb (.int n),none]) (Vh (UK rfl) rfl) (U2 (Zs rfl hlen) UU rfl)
 case h2=>
       intro hh;have:(5:Int)<(rs.length:Int):=by simpa using hh
       omega
 case h3=>
  intro _;refine KU (KB ?_)
  have hc:K0 (gN 3) (UN true) (US 2 XV (UL (UA 3) (UL (UA 1) (UH)))) (rs.map K8) (Kf [pb (KG rs),pb (.int n),none]++Uw 1 none) []=some (rs.map λ_=>.bool true):=by
   rw[Se (λ_=>true) (λ_=>.bool true) (λZ=>∃x,Z=[pb (KG rs),pb (.int n),none,x])]
   ·rw[List.filter_eq_self.mpr (λ_ _=>rfl),Jm,Q4];rfl
   ·rintro d hm Z ⟨x,rfl⟩;obtain⟨r,hr,rfl⟩:=Qt.mp hm;exact⟨_,UR (Qa rfl) rfl,rfl,λ_=>Kj (UM (UK rfl) (UM (UK rfl) UT)) rfl (As (g.some r hr) (hrl r hr) (g.there r hr)),_,rfl⟩
   ·exact⟨none,rfl⟩
   ·rw[Qb,QN];omega
  apply Kz;apply Kw
  case h1=>exact Y1 (XA (ZO (UM (Kx (Yk (Zj (UK rfl) rfl) hc)) UT) (RM rs)))
  case h2=>intro hh;cases hh
  case h3=>
   intro _;refine KU (KB ?_);have h2:SI (KS (UA 0)) 2 (gN 3) (UN true) (KS (UA 3)) (gN 4) (UN true) (UA 4) [pb (KG rs),pb (.int n),none]=.ok (rs.flatten.map int) [pb (KG rs),pb (.int n),none]:=by unfold SI;have e1:KS (UA 0) [pb (KG rs),pb (.int n),none]=.ok (rs.map K8) [pb (KG rs),pb (.int n),none]:=Zj (UK rfl) rfl;rw[e1];dsimp only;have e2:=LS (a:=KG rs) (b:=.int n) rs [] none none (by rw[QN];omega);have e3:Xy (gN 3) (UN true) (KS (UA 3)) (gN 4) (UN true) (UA 4) (rs.map K8) (Kf [pb (KG rs),pb (.int n),none]++Uw 2 none) []=some ([]++rs.flatten.map int):=e2;rw[e3];rfl
   refine Ki (Z7 h2 (Qa rfl) rfl) ?_;have hls:Wb [.list (rs.flatten.map int)]=some (.int rs.flatten.length):=by unfold Wb;dsimp only;rw[VH];dsimp only;rw[Qm (by omega),Hf g.once]
   refine Kv (Kx (U2 (ZO (UM (Yl rfl rfl) UT) hls) (Zs rfl Zh) Wa)) ?_;rw[Qb];simp
theorem YS{d:D}:∀{xs:List D}{k i:Nat},(Z8 k xs)[i]?=some d->∃x,xs[i]?=some x/\d=.tuple [.int ((k+i:Nat):Int),x]
 |[],k,i,h=>by cases h
 |x::r,k,0,h=>by cases h;exact⟨x,rfl,rfl⟩
 |x::r,k,i+1,h=>by obtain⟨y,e,q⟩:=YS (xs:=r) (k:=k+1) (i:=i) h;exact⟨y,e,by rw[q];congr 4;omega⟩
theorem Sg:∀(n:Nat)(l:List Int),l.Nodup->(∀x∈l,0<=x/\x<n)->l.length<=n
 |0,[],_,_=>Qv _
 |0,x::r,_,h=>by have:=h x Qo;omega
 |n+1,l,hn,h=>by
  by_cases hm:(n:Int)∈l
  ·have:=Sg n (l.erase (n:Int)) (hn.erase _) λx hx=>by
    have h1:=(List.Nodup.mem_erase_iff hn).mp hx;have h2:=h x h1.2;have h3:=h1.1;omega
   rw[List.length_erase_of_mem hm]at this;omega
  ·have:=Sg n l hn λx hx=>by
    have h2:=h x hx;have h3:x≠(n:Int):=λe=>hm (e ▸ hx);omega
   omega
theorem P2{n:Nat}{rs:List (List Int)}(g:Vj n rs):rs.flatten.length<=n:=Sg n _ g.once λx hx=>by obtain⟨r,hr,hxr⟩:=Ud.mp hx;exact g.there r hr x hxr
theorem C0{cs:List Int}(h1:1<=cs.length)(h6:cs.length<=6)(h:∀c∈cs,0<=c/\c<8):WS [.list (cs.map int)]=some .none:=by
 refine SD (Z:=[pb (.list (cs.map int)),none,none]) rfl ?_;unfold TC;have hlen:Kb [.list (cs.map int)]=some (.int cs.length):=by rw[Zh,Qb]
 apply Kz;apply Kw
 case h1=>exact X2 (Z1:=[pb (.list (cs.map int)),none,none]) (Vh (UK rfl) rfl) (Y1 (P8 UU (Zs rfl hlen) rfl (λ_=>UU) (λ_=>rfl)))
 case h2=>
  intro hh;have a1:(1:Int)<=(cs.length:Int):=by omega
  have a2:(cs.length:Int)<=6:=by omega
  simp[a1,a2]at hh
 case h3=>
  intro _;refine KU (KB ?_);apply Zv (λ_ Z=>∃x1 x2,Z=[pb (.list (cs.map int)),x1,x2])
  case h1=>exact Xs (UM (UK rfl) UT) Xr
  case h0=>exact⟨_,_,rfl⟩
  case hst=>
   rintro i d Z hi ⟨x1,x2,rfl⟩;obtain⟨x,hx,rfl⟩:=YS hi;obtain⟨c,hc,rfl⟩:=Qt.mp (Qp hx);refine⟨_,Kt rfl (UX (UR (Qa rfl) rfl) (UX (UR (Qa rfl) rfl) Kq)),?_⟩;unfold N3;apply Kw
   case h1=>exact Y1 (XA (Kj (UM (UK rfl) (UM (U2 UU UU Zp) UT)) rfl (RN (h c hc).1 (by have:=(h c hc).2;omega))))
   case h2=>intro hh;cases hh
   case h3=>exact λ_=>KU (K5 ⟨_,_,rfl⟩)
  case hend=>exact λZ ⟨x1,x2,e⟩=>⟨_,rfl⟩
theorem CU{ls:L3}{n:Nat}(hn:n<=6)(h1:1<=ls.length)(h7:ls.length<=7)(h:∀rs∈ls,Vj n rs):WQ [.list (ls.map KG),.int n]=some .none:=by
 refine SD (Z:=[pb (.list (ls.map KG)),pb (.int n),none,none]) rfl ?_;unfold Tx;have hlen:Kb [.list (ls.map KG)]=some (.int ls.length):=by rw[Zh,Qb]
 apply Kz;apply Kw
 case h1=>exact X2 (Z1:=[pb (.list (ls.map KG)),pb (.int n),none,none]) (Vh (UK rfl) rfl) (Y1 (P8 UU (Zs rfl hlen) rfl (λ_=>UU) (λ_=>rfl)))
 case h2=>
  intro hh;have a1:(1:Int)<=(ls.length:Int):=by omega
  have a2:(ls.length:Int)<=7:=by omega
  simp[a1,a2]at hh
 case h3=>
  intro _;refine KU (KB ?_);apply Zv (λ_ Z=>∃x2 x3,Z=[pb (.list (ls.map KG)),pb (.int n),x2,x3])
  case h1=>exact Xs (UM (UK rfl) UT) Xr
  case h0=>exact⟨_,_,rfl⟩
  case hst=>
   rintro i d Z hi ⟨x1,x2,rfl⟩;obtain⟨x,hx,rfl⟩:=YS hi;obtain⟨rs,hrs,rfl⟩:=Qt.mp (Qp hx);refine⟨_,Kt rfl (UX (UR (Qa rfl) rfl) (UX (UR (Qa rfl) rfl) Kq)),?_⟩;unfold N4;have hfl:=P2 (h rs hrs);apply Kw
   case h1=>exact Y1 (XA (Kj (UM (UK rfl) (UM (UK rfl) UT)) rfl (qb (h rs hrs) hn (by omega))))
   case h2=>intro hh;cases hh
   case h3=>exact λ_=>KU (K5 ⟨_,_,rfl⟩)
  case hend=>exact λZ ⟨x1,x2,e⟩=>⟨_,rfl⟩
theorem RL{cs:List Int}{ls:L3}(g:Good cs ls):Yg [Ka cs ls]=some .none:=by
 refine SD (Z:=[pb (Ka cs ls),none,none]) rfl ?_;unfold Tw;apply Kz;apply Kw
 case h1=>exact X2 (Z1:=[pb (Ka cs ls),none,none]) (Vh (UK rfl) rfl) (U2 (Zs rfl rfl) UU T8)
 case h2=>intro hh;cases hh
 case h3=>
  intro _;refine KU (KB ?_);have hlen:Kb [.list (cs.map int)]=some (.int (cs.length:Nat)):=by rw[Zh,Qb]
  refine Ki (W5 (UK rfl) (Kt rfl (UX (UR (Qa rfl) rfl) (UX (UR (Qa rfl) rfl) Kq)))) ?_;refine Ki (W8 (Kj (UM (UK rfl) UT) rfl (C0 g.c1 g.c6 g.c7))) ?_;exact ZA (W8 (Kj (UM (UK rfl) (UM (Zs rfl hlen) UT)) rfl (CU g.c6 g.l1 g.l7 g.rk))) ⟨_,rfl⟩
theorem Mz:∀(xs ys:List Int),PyData.eqvAll (xs.map int) (ys.map int)=decide (xs=ys)
 |[],[]=>rfl
 |[],y::ys=>by simp[PyData.eqvAll]
 |x::xs,[]=>by simp[PyData.eqvAll]
 |x::xs,y::ys=>by
  have ih:=Mz xs ys
  show(UD (.int x) (.int y)&&PyData.eqvAll (xs.map int) (ys.map int))=_
  rw[ih];have:UD (.int x) (.int y)=decide (x=y):=rfl;rw[this,JD];simp
theorem CZ{xs:List Int}:oNe (.list (xs.map int)) (.list [])=some (!decide (xs=[])):=by
 unfold oNe;have h1:(Ux (xs.map int)).canLay0=true:=MB xs;have h3:(Ux (xs.map int)).depth<=60:=by have:=MA xs;unfold K8 at this;omega
 rw[Qm ⟨h1,rfl,h3⟩]
 congr 2
 exact Mz xs []
theorem No{xs:List D}{x:D}(h:xs.getLast?=some x):oIx (.list xs) (.int (-1))=some x:=by
 unfold oIx atI;have hl:xs≠[]:=by rintro rfl;cases h
 have hp:0<xs.length:=Ue.mpr hl;rw[List.getLast?_eq_getElem?]at h
 show(ixN xs.length (-1)).bind _=_
 unfold ixN;rw[Qu (by decide),Qm (by omega)];have e2:(-1+(xs.length:Int)).toNat=xs.length-1:=by omega
 simp only[Option.bind_some];rw[e2];exact h
theorem Pr{xs:List Int}{k:Nat}(h:k<xs.length):oIx (.list (xs.map int)) (.int k)=some (.int (xs.getD k 0)):=by refine ZB ?_;rw[Qe,Qd h];simp[List.getD,List.getElem?_eq_getElem h]
theorem Hn(ns:List Int)(k:Nat)(hl:ns.length<=1000):∃v,XQ [.list (ns.map int),.int k]=some (.int v):=by
 have hlen:Kb [.list (ns.map int)]=some (.int ns.length):=by rw[Zh,Qb]
 by_cases h:k<ns.length
 ·refine⟨ns.getD k 0,K7 (Z:=[pb (.list (ns.map int)),pb (.int k)]) rfl ?_⟩;unfold Wl;apply Kz;apply Kw
  case h1=>exact Z6 rfl (Zs rfl hlen) rfl
  case h2=>exact λ_=>Kv (KH rfl (UK rfl) (Pr h)) (Vx rfl)
  case h3=>
        intro hh;have:¬(k:Int)<(ns.length:Int):=by simpa using hh
        omega
 ·refine⟨0,K7 (Z:=[pb (.list (ns.map int)),pb (.int k)]) rfl ?_⟩;unfold Wl;apply Kz;apply Kw
  case h1=>exact Z6 rfl (Zs rfl hlen) rfl
  case h2=>
        intro hh;have:(k:Int)<(ns.length:Int):=by simpa using hh
        omega
  case h3=>exact λ_=>KU (KB (Kv UU rfl))
def sz6:List Int:=6::7::Uw 6 11
def szP:List Int:=Uw 6 6++[2]
theorem Gp:∀x∈sz6,0<x/\x<18446744073709551616:=by decide
theorem Go:∀x∈szP,0<x/\x<18446744073709551616:=by decide
def tab:List Int:=[1,1,2,0,3,7,1,4,5,6,1]
theorem Nd{z:Int}(h0:0<=z)(h1:z<11):oIx (.list (tab.map int)) (.int z)=some (.int (tab.getD z.toNat 0))/\0<=tab.getD z.toNat 0/\tab.getD z.toNat 0<8:=by
 have e:z=0∨z=1∨z=2∨z=3∨z=4∨z=5∨z=6∨z=7∨z=8∨z=9∨z=10:=by omega
 rcases e with rfl|rfl|rfl|rfl|rfl|rfl|rfl|rfl|rfl|rfl|rfl<;>exact⟨rfl,by decide,by decide⟩
structure X9(n:Nat)(pl:List Int)(j:Nat)(rs:List (List Int)):Prop where
 few:rs.length<=j
 some:∀r∈rs,r≠[]
 there:∀r∈rs,∀t∈r,(0<=t/\t<n)/\pl.getD t.toNat 0<1+(j:Int)
 once:rs.flatten.Nodup
def WU(n:Nat)(pl:List Int)(r:Int):List Int:=((Uv n).filter λk=>decide (pl.getD k 0=r)).map λk:Nat=>(k:Int)
theorem qa(n:Nat)(pl:List Int)(r:Int):(WU n pl r).Nodup:=by unfold WU;refine List.Pairwise.map _ (λa b h e=>h (by omega)) ((List.nodup_range).filter _)
theorem M5{n:Nat}{pl:List Int}{r t:Int}(h:t∈WU n pl r):(0<=t/\t<n)/\pl.getD t.toNat 0=r:=by
 unfold WU at h;obtain⟨k,hk,rfl⟩:=Qt.mp h;have hk:=Uf.mp hk;have h1:=Q8.mp hk.1;have h2:pl.getD k 0=r:=by simpa using hk.2
 exact⟨⟨by omega,by omega⟩,by rw[Qy];exact h2⟩
theorem X9.add{n:Nat}{pl:List Int}{j:Nat}{rs:List (List Int)}{row:List Int}(g:X9 n pl j rs)(hne:row≠[])(hm:∀t∈row,t∈WU n pl (1+(j:Int)))(hn:row.Nodup):X9 n pl (j+1) (rs++[row]) where
 few:=by rw[Ql,Jh];have:=g.few;omega
 some:=λr hr=>by
  rcases Q2.mp hr with z|z
  ·exact g.some r z
  ·rw[Je.mp z];exact hne
 there:=λr hr t ht=>by
  rcases Q2.mp hr with z|z
  ·have:=g.there r z t ht;exact⟨this.1,by omega⟩
  ·rw[Je.mp z]at ht;have:=M5 (hm t ht);exact⟨this.1,by omega⟩
 once:=by rw[List.flatten_append,List.flatten_singleton];refine List.nodup_append.mpr ⟨g.once,hn,λa ha b hb e=>?_⟩;subst e;obtain⟨r,hr,har⟩:=Ud.mp ha;have h1:=(g.there r hr a har).2;have h2:=(M5 (hm a hb)).2;omega
theorem X9.next{n:Nat}{pl:List Int}{j:Nat}{rs:List (List Int)}(g:X9 n pl j rs):X9 n pl (j+1) rs:=
 ⟨by have:=g.few;omega,g.some,λr hr t ht=>⟨(g.there r hr t ht).1,by have:=(g.there r hr t ht).2;omega⟩,g.once⟩
theorem X9.good{n:Nat}{pl:List Int}{rs:List (List Int)}(g:X9 n pl 5 rs):Vj n rs:=⟨g.few,g.some,λr hr t ht=>(g.there r hr t ht).1,g.once⟩
def VL(S dz sz:D)(at_ n:Nat)(cs pl:List Int)(ls:L3)(x9 x10:Option Sl)(j:Nat)(Z:UG):Prop:=∃(rs:List (List Int))(x13 x14:Option Sl),
 Z=[pb S,pb (.int at_),pb (.int 6),pb (.int 7),pb (.int 5),pb sz,pb dz,some (.own (cs.map int)),some (.own (ls.map KG)),x9,x10,pb (.list (pl.map int)),some (.own (rs.map K8)),x13,x14]/\X9 n pl j rs
theorem CY{S dz sz:D}{at_ n:Nat}{cs pl:List Int}{ls:L3}{v9 v10:D}{j:Nat}{d:D}{Z:UG}{Q:Out->Prop}(hcs:cs.length=n)(hn:n<=6)(hpl:pl.length=7)(hlast:pl.getD 6 0=0∨pl.getD 6 0=1)
  (hj:(ZW 1 (5+1))[j]?=some d) (h:VL S dz sz at_ n cs pl ls (some (.pub v9)) (some (.pub v10)) j Z) :
  ∃Z2,gN 13 d Z=some Z2/\Ho Pt Z2 (Vn (VL S dz sz at_ n cs pl ls (some (.pub v9)) (some (.pub v10)) (j+1)) Q):=by
 obtain⟨rs,x13,x14,rfl,g⟩:=h;obtain⟨rfl,hlt⟩:=VG hj;have hj5:j<5:=by omega
 refine⟨_,UR (Qa rfl) rfl,?_⟩;unfold Pt
 have hrd:ZW 0 ((n:Nat):Int)=(Uv n).map λk=>.int (k:Int):=by
  unfold ZW;have:((n:Int)-0).toNat=n:=by omega
  rw[this];apply JB;intro k _;rw[Uc]
 have hc:K0 (gN 15) (UO oEq (UZ 11 (UA 15)) (UA 13)) (UA 15) (ZW 0 ((n:Nat):Int)) (Kf [pb S,pb (.int at_),pb (.int 6),pb (.int 7),pb (.int 5),pb sz,pb dz,some (.own (cs.map int)),some (.own (ls.map KG)),pb v9,pb v10,pb (.list (pl.map int)),some (.own (rs.map K8)),pb (.int (1+(j:Int))),x14]++Uw 1 none) []=some ((WU n pl (1+(j:Int))).map int):=by
  rw[hrd,Se (λd=>match d with | .int k=>decide (pl.getD k.toNat 0=1+(j:Int))|_=>false) (λd=>d) (λZ=>∃x,Z=[pb S,pb (.int at_),pb (.int 6),pb (.int 7),pb (.int 5),pb sz,pb dz,none,none,pb v9,pb v10,pb (.list (pl.map int)),none,pb (.int (1+(j:Int))),YW x14,x])]
  ·rw[Jm,List.map_id',List.filter_map];unfold WU;rw[Q4];rfl
  ·rintro d hm Z ⟨x,rfl⟩;obtain⟨k,hk,rfl⟩:=Qt.mp hm;have hk:=Q8.mp hk;refine⟨_,UR (Qa rfl) rfl,U2 (KH rfl (UK rfl) (Pr (by omega))) (UK rfl) Wa,λ_=>UK rfl,pb (.int k),?_⟩;unfold Kf;cases x14 with
   |none=>rfl
   |some sl=>cases sl<;>rfl
  ·exact⟨none,rfl⟩
  ·rw[Qb,Qq,QN];omega
 have hlen:(cs.map int).length=n:=by rw[Qb,hcs]
 refine Ki (Z7 (Yk (W9 (UM (E5 rfl) UT) (by rw[hlen];exact Vi (by omega) (by omega))) hc) (Qa rfl) rfl) ?_;generalize hrow:WU n pl (1+(j:Int))=row;apply Kw
 case h1=>exact CA rfl (ZI UT (by decide)) rfl CZ
 case h2=>
  intro hh;have hne:row≠[]:=by simpa using hh
  have hlx:oIx (.list (pl.map int)) (.int (-1))=some (.int (pl.getD 6 0)):=No (by rw[List.getLast?_eq_getElem?,Qb,hpl,Qe,Qd (show 7-1<pl.length by omega)];simp[List.getD,List.getElem?_eq_getElem (show 6<pl.length by omega)])
  obtain⟨row',hix,hrow'⟩:∃row':List Int,oIx (.list [.list (row.map int),.list (row.map int).reverse]) (.int (pl.getD 6 0))=some (K8 row')/\(row'=row∨row'=row.reverse):=by
   rcases hlast with e|e
   ·rw[e];exact⟨row,rfl,.inl rfl⟩
   ·rw[e];exact⟨row.reverse,by show some (Ux (row.map int).reverse)=_;unfold K8;rw[List.map_reverse],.inr rfl⟩
  have hrl:(rs.map K8).length<1000000:=by rw[Qb];have:=g.few;omega
  refine ZA (X3 rfl (U2 (ZI (UM (Yl rfl rfl) (UM (Ng (UK rfl) UU UU (Y4 (Y2 UU))) UT)) (Qa rfl)) (KH rfl (Y2 UU) hlx) hix) rfl hrl rfl) ?_;refine K5 ⟨rs++[row'],pb (.int (1+(j:Int))),pb (.list (row.map int)),by rw[Qz];rfl,g.add ?_ ?_ ?_⟩
  ·rcases hrow' with e|e<;>rw[e]
   ·exact hne
   ·exact λz=>hne (List.reverse_eq_nil_iff.mp z)
  ·intro t ht;rw[hrow];rcases hrow' with e|e<;>rw[e]at ht
   ·exact ht
   ·exact List.mem_reverse.mp ht
  ·have hnd:=qa n pl (1+(j:Int));rw[hrow]at hnd;rcases hrow' with e|e<;>rw[e]
   ·exact hnd
   ·exact(List.reverse_perm row).nodup_iff.mpr hnd
 case h3=>exact λ_=>KU (K5 ⟨rs,_,_,rfl,g.next⟩)
def VN(S dz sz:D)(at_ n:Nat)(cs:List Int)(i:Nat)(Z:UG):Prop:=∃(ls:L3)(x9 x10 x11 x12 x13 x14:Option Sl),
 Z=[pb S,pb (.int at_),pb (.int 6),pb (.int 7),pb (.int 5),pb sz,pb dz,some (.own (cs.map int)),some (.own (ls.map KG)),x9,x10,x11,x12,x13,x14]/\ls.length=i/\∀rs∈ls,Vj n rs
theorem Ar{ns:List Int}{dz sz:D}{at_ n:Nat}{cs:List Int}{i:Nat}{m:Int}{d:D}{Z:UG}{Q:Out->Prop}(hns:ns.length<=1000)(hcs:cs.length=n)(hn:n<=6)(hm:m<=100)
  (hi:(ZW 0 m)[i]?=some d) (h:VN (.list (ns.map int)) dz sz at_ n cs i Z) :
  ∃Z2,gN 9 d Z=some Z2/\Ho Ps Z2 (Vn (VN (.list (ns.map int)) dz sz at_ n cs (i+1)) Q):=by
 obtain⟨ls,x9,x10,x11,x12,x13,x14,rfl,hl,hg⟩:=h;obtain⟨rfl,hlt⟩:=VG hi;refine⟨_,UR (Qa rfl) rfl,?_⟩;unfold Ps;obtain⟨v,hv⟩:=Hn ns (at_+1+i) hns;have ev:((at_:Int)+1+(0+(i:Int)))=((at_+1+i:Nat):Int):=by omega
 rw[←ev]at hv;refine Ki (KR (Kj (UM (UK rfl) (UM (U2 (U2 (UK rfl) UU Zp) (UK rfl) Zp) UT)) rfl hv) (Qa rfl) rfl) ?_;obtain⟨r,hF,pl,rfl,hpl,hpb⟩:=OI v (11*(at_:Int)+3*(0+(i:Int))+1) (sizes:=szP) Go (by decide);have hpl7:pl.length=7:=hpl;have hmul:Kr (.list [.int (5+1)]) (.int 6)=some (.list ((Uw 6 6).map int)):=RZ (by decide);have hadd:U0 (.list ((Uw 6 6).map int)) (.list [.int 2])=some (.list (szP.map int)):=Xz (by decide);refine Ki (KR (Kj (UM (UK rfl) (UM (U2 (U2 (U2 UU (UK rfl) (S9 (by decide) (by decide))) (U2 UU (UK rfl) (S9 (by decide) (by decide))) Zp) UU Zp) (UM (U2 (U2 (ZI (UM (U2 (UK rfl) UU Zp) UT) (Qa rfl)) (UK rfl) hmul) (ZI (UM UU UT) (Qa rfl)) hadd) UT))) rfl hF) (Qa rfl) rfl) ?_;refine Ki (Z7 (Va UT (Qa rfl)) (Qa rfl) rfl) ?_
 have hlast:pl.getD 6 0=0∨pl.getD 6 0=1:=by
  have e:pl[6]?=some pl[6]:=Qd (by omega);have:=hpb 6 pl[6] 2 e rfl;have e2:pl.getD 6 0=pl[6]:=by simp[List.getD,e]
  rw[e2];omega
 apply Kz;apply Zv (VL (.list (ns.map int)) dz sz at_ n cs pl ls (some (.pub (.int (0+(i:Int))))) (some (.pub (.int v))))
 case h1=>exact E4 (UM UU (UM (U2 (UK rfl) UU Zp) UT)) (CB (by decide) (by decide) (by decide) (by decide))
 case h0=>exact⟨[],x13,x14,rfl,⟨Qv _,λ_ h=>(by cases h),λ_ h=>(by cases h),List.nodup_nil⟩⟩
 case hst=>exact λj d Z e h=>CY hcs hn hpl7 hlast e h
 case hend=>
  rintro Z ⟨rs,y13,y14,rfl,g⟩;refine KB ?_;have hl5:(ZW 1 (5+1)).length=5:=rfl;rw[hl5]at g;have hll:(ls.map KG).length<1000000:=by rw[Qb];omega
  refine ZA (X3 rfl (Yl rfl rfl) rfl hll rfl) ?_;refine K5 ⟨ls++[rs],pb (.int (0+(i:Int))),pb (.int v),pb (.list (pl.map int)),pb (.list (rs.map K8)),y13,y14,by rw[Qz];rfl,by rw[Ql,hl];rfl,λx hx=>?_⟩;rcases Q2.mp hx with z|z
  ·exact hg x z
  ·rw[Je.mp z];exact g.good
theorem qx{ns:List Int}(hns:ns.length<=1000)(at_:Nat):∃r,Wu [.list (ns.map int),.int at_,.int 6,.int 7,.int 5]=some r/\∃cs ls,r=Ka cs ls/\Good cs ls:=by
 obtain⟨v,hv⟩:=Hn ns at_ hns;obtain⟨r,hF,ds,rfl,hl,hd⟩:=OI v at_ (sizes:=sz6) Gp (by decide);have hl8:ds.length=8:=hl
 have at':∀(j:Nat)(k z:Int),k=j->sz6[j]?=some z->∃d,oIx (.list (ds.map int)) (.int k)=some (.int d)/\ds[j]?=some d/\0<=d/\d<z:=λj k z hk hz=>by
  subst hk;have hj:j<ds.length:=by rw[hl];exact(Qg.mp hz).1
  have e:ds[j]?=some ds[j]:=Qd hj;obtain⟨p0,p1⟩:=hd j ds[j] z e hz;exact⟨ds[j],ZB (by rw[Qe,e];rfl),e,p0,p1⟩
 obtain⟨d0,x0,e0,p0,q0⟩:=at' 0 0 6 rfl rfl;obtain⟨d1,x1,e1,p1,q1⟩:=at' 1 1 7 rfl rfl;have hmul:Kr (.list [.int 11]) (.int 6)=some (.list ((Uw 6 11).map int)):=RZ (by decide);have hadd:U0 (.list [.int 6,.int 7]) (.list ((Uw 6 11).map int))=some (.list (sz6.map int)):=Xz (by decide);obtain⟨n,hn⟩:∃n:Nat,1+d0=n:=⟨(1+d0).toNat,by omega⟩
 refine W4 (Z:=[pb (.list (ns.map int)),pb (.int at_),pb (.int 6),pb (.int 7),pb (.int 5),none,none,none,none,none,none,none,none,none,none]) rfl ?_;unfold V0;refine Ki (KR (U2 (ZI (UM (UK rfl) (UM (UK rfl) UT)) (Qa rfl)) (U2 (ZI (UM UU UT) (Qa rfl)) (UK rfl) hmul) hadd) (Qa rfl) rfl) ?_;refine Ki (KR (Kj (UM (Kj (UM (UK rfl) (UM (UK rfl) UT)) rfl hv) (UM (UK rfl) (UM (UK rfl) UT))) rfl hF) (Qa rfl) rfl) ?_
 have hcut:DL.cutD (ds.map int) (some 2) (some (3+d0))=((ds.drop 2).take n).map int:=by
  rw[Cz (by decide) (by omega) (by omega)];have:(3+d0).toNat-(2:Int).toNat=n:=by omega
  rw[this];rfl
 have hrowl:((ds.drop 2).take n).length=n:=by rw[Q0,Jw,hl8];omega
 have each:∀z∈(ds.drop 2).take n,0<=z/\z<11:=λz hz=>by
  have hz:=List.mem_of_mem_take hz;obtain⟨k,hk,e⟩:=List.getElem_of_mem hz;rw[Jw,hl8]at hk;rw[List.getElem_drop]at e;have e2:ds[2+k]?=some z:=by rw[←e];exact Qd _
  refine hd (2+k) z 11 e2 ?_;have:k=0∨k=1∨k=2∨k=3∨k=4∨k=5:=by omega
  rcases this with rfl|rfl|rfl|rfl|rfl|rfl<;>rfl
 let cs:List Int:=((ds.drop 2).take n).map λz=>tab.getD z.toNat 0
 have hcl:cs.length=n:=by show(List.map _ _).length=n;rw[Qb,hrowl]
 have hc:∀xs:List (Option Sl),Kf xs=xs->xs.length=15->K0 (gN 15) (UN true) (UO oIx (Ks (UL (UN (.int 1)) (UL (UN (.int 1)) (UL (UN (.int 2)) (UL (UN (.int 0)) (UL (UN (.int 3)) (UL (UN (.int 7)) (UL (UN (.int 1)) (UL (UN (.int 4)) (UL (UN (.int 5)) (UL (UN (.int 6)) (UL (UN (.int 1)) (UH))))))))))))) (UA 15)) (((ds.drop 2).take n).map int) (Kf xs++Uw 1 none) []=some (cs.map int):=by
  intro xs hx hxl;rw[hx,Se (λ_=>true) (λd=>match d with | .int z=>.int (tab.getD z.toNat 0)|_=>.none) (λZ=>∃x,Z=xs++[x])]
  ·rw[List.filter_eq_self.mpr (λ_ _=>rfl),Jm,Q4];show _=some ((((ds.drop 2).take n).map λz=>tab.getD z.toNat 0).map int);rw[Q4];rfl
  ·rintro d hm Z ⟨x,rfl⟩;obtain⟨z,hz,rfl⟩:=Qt.mp hm;have ht:=Nd (each z hz).1 (each z hz).2;have hset:(xs++[x]).set 15 (some (Sl.pub (.int z)))=xs++[pb (.int z)]:=by rw[List.set_append_right _ _ (by omega),hxl];rfl
   have hget:(xs++[some (Sl.pub (.int z))])[15]?=some (some (Sl.pub (.int z))):=by rw[Qw (by omega),hxl];rfl
   refine⟨_,UR (by rw[Ql,hxl];exact Qa rfl) hset,rfl,λ_=>?_,pb (.int z),?_⟩
   ·exact U2 (ZI (UM UU (UM UU (UM UU (UM UU (UM UU (UM UU (UM UU (UM UU (UM UU (UM UU (UM UU UT))))))))))) (Qa rfl)) (UK hget) ht.1
   ·unfold Kf at hx⊢;rw[Qz,hx];rfl
  ·exact⟨none,rfl⟩
  ·rw[Qb,hrowl,QN];omega
 refine Ki (Z7 (Yk (Zj (W3 (UK rfl) (Y4 UU) (Y4 (U2 UU (KH rfl UU x0) Zp)) (by rw[Vg,hcut])) ZZ) (hc _ rfl rfl)) (Qa rfl) rfl) ?_;refine Ki (Z7 (Va UT (Qa rfl)) (Qa rfl) rfl) ?_;apply Kz;apply Zv (VN (.list (ns.map int)) (.list (ds.map int)) (.list (sz6.map int)) at_ n cs)
 case h1=>exact W9 (UM (U2 UU (KH rfl UU x1) Zp) UT) (Vi (by omega) (by omega))
 case h0=>exact⟨[],_,_,_,_,_,_,rfl,rfl,λ_ h=>by cases h⟩
 case hst=>exact λi d Z e h=>Ar hns hcl (by omega) (by omega) e h
 case hend=>rintro Z ⟨ls,y9,y10,y11,y12,y13,y14,rfl,hll,hg⟩;rw[X7]at hll;refine KB (Kv (YT (UM (Yl rfl rfl) (UM (Yl rfl rfl) UT)) (Qa rfl)) ⟨_,rfl,cs,ls,rfl,?_⟩);exact⟨by omega,by omega,λc hc=>by obtain⟨z,hz,rfl⟩:=Qt.mp hc;exact(Nd (each z hz).1 (each z hz).2).2,by omega,by omega,λrs hrs=>by rw[hcl];exact hg rs hrs⟩
theorem Nn{x:D}{m:Nat}(h:m<=1000):Kr (.list [x]) (.int m)=some (.list (Uw m x)):=by
 rw[RZ ⟨by omega,by omega,by rw[Qy];show 1*m<=_;omega⟩,Qy]
 congr 2
 induction m with
 |zero=>rfl
 |succ m ih=>rw[QX,QM,ih (by omega)];rfl
def KE(t:Int)(rs:List (List Int)):Nat:=if rs.findIdx (λr=>r.contains t)<rs.length then rs.findIdx (λr=>r.contains t)+1 else 0
theorem EQ(a b:Int):UD (.int a) (.int b)=(a==b):=by simp[UD]
theorem PP(t:Int)(r:List Int):oIn (.int t) (K8 r)=some (r.contains t):=by
 have h1:UB (r.map int)=true:=by
  induction r with
  |nil=>rfl
  |cons x r ih=>rw[Qx];unfold UB;rw[ih];rfl
 unfold oIn K8;dsimp only;rw[Qm ⟨rfl,h1,Ua _⟩]
 congr 1
 rw[List.any_map];clear h1;induction r with
 |nil=>rfl
 |cons x r ih=>
  rw[List.any_cons,ih,List.contains_cons]
  congr 1
  show UD (.int x) (.int t)=(t==x);rw[EQ];exact JD.2 ⟨λh=>beq_iff_eq.2 (beq_iff_eq.1 h).symm,λh=>beq_iff_eq.2 (beq_iff_eq.1 h).symm⟩
theorem M4{t:Int}{rs:List (List Int)}{i:Nat}{r:List Int}(hr:rs[i]?=some r)(h:r.contains t=true)(hb:∀j r,j<i->rs[j]?=some r->r.contains t=false):KE t rs=1+i:=by obtain⟨hi,e⟩:=List.getElem?_eq_some_iff.1 hr;have hf:rs.findIdx (λr=>r.contains t)=i:=(List.findIdx_eq hi).2 ⟨by rw[e];exact h,λj hj=>hb j _ hj (Qd (Nat.lt_trans hj hi))⟩;unfold KE;rw[hf,Qm hi,Nat.add_comm]
theorem M3{t:Int}{rs:List (List Int)}(hb:∀j r,j<rs.length->rs[j]?=some r->r.contains t=false):KE t rs=0:=by
 have hf:rs.findIdx (λr=>r.contains t)=rs.length:=List.findIdx_eq_length.2 λr hr=>by obtain⟨j,hj,e⟩:=List.mem_iff_getElem.1 hr;exact hb j r hj (by rw[Qd hj,e])
 unfold KE;rw[hf,Qu (Js _)]
theorem Aq(t:Int)(rs:List (List Int)):WP [KG rs,.int t]=some (.int (KE t rs:Nat)):=by
 refine K7 (Z:=[pb (KG rs),pb (.int t),none,none]) rfl ?_;unfold Tv;apply Kz;apply Zv (λi Z=>(∃x2 x3,Z=[pb (KG rs),pb (.int t),x2,x3])/\∀j r,j<i->rs[j]?=some r->r.contains t=false)
 case h1=>exact Cy (UM (UK rfl) UT) B4
 case h0=>exact⟨⟨_,_,rfl⟩,λj r h=>absurd h (J5 _)⟩
 case hst=>
  rintro i d Z hi ⟨⟨x2,x3,rfl⟩,hb⟩;obtain⟨x,hx,rfl⟩:=YS hi;rw[Qe]at hx;cases hr:rs[i]? with
  |none=>rw[hr]at hx;cases hx
  |some r=>
   rw[hr]at hx;cases hx;refine⟨_,Kt rfl (UX (UR (Qa rfl) rfl) (UX (UR (Qa rfl) rfl) Kq)),?_⟩;unfold Nw;apply Kw
   case h1=>exact Z6 rfl (UK rfl) (PP t r)
   case h2=>intro hh;refine Kv (UK rfl) (S8 ?_);rw[M4 hr hh hb];exact⟨rfl⟩
   case h3=>
    intro hh;refine KU (K5 ⟨⟨_,_,rfl⟩,λj r' hj hr'=>?_⟩);rcases Nat.lt_succ_iff_lt_or_eq.1 hj with h|rfl
    ·exact hb j r' h hr'
    ·rw[hr]at hr';cases hr';exact hh
 case hend=>rintro Z ⟨⟨x2,x3,rfl⟩,hb⟩;rw[Yo,Qb]at hb;refine KB ?_;rw[M3 hb];exact Kv UU rfl
def U4:Option Int->D
 |none=>.none
 |some t=>.int t
def U7(ws:LO):D:=.list (ws.map U4)
structure Deal(cs:List Int)(ls:L3)(ws:LO):Prop where
 len:ws.length=ls.length
 wish:∀(i:Nat) t rs,ws[i]?=some (some t)->ls[i]?=some rs->t∈rs.flatten
 cop:∀(k:Nat) c,cs[k]?=some c->((ws.count (some (k:Int)):Nat):Int)<=c
theorem RY{t:Int}{rs:List (List Int)}(h:t∈rs.flatten):KE t rs≠0:=by obtain⟨r,hr,ht⟩:=Ud.mp h;have:rs.findIdx (λr=>r.contains t)<rs.length:=List.findIdx_lt_length_of_exists ⟨r,hr,by simpa using ht⟩;unfold KE;rw[Qm this];omega
theorem CT(ws:LO):UB (ws.map U4)=true:=RO λx hx=>by obtain⟨y,_,rfl⟩:=Qt.mp hx;cases y<;>rfl
theorem PN(a b:Option Int):UD (U4 a) (U4 b)=decide (a=b):=by rw[JD];cases a<;>cases b<;>simp[U4,UD]
theorem He{ws:LO}{k:Int}:Vb (U7 ws) (.int k)=some (.int (ws.count (some k):Nat)):=by
 unfold U7 Vb;dsimp only;rw[if_pos ⟨rfl,CT ws,by simp[UC]⟩]
 congr 3
 induction ws with
 |nil=>rfl
 |cons w r ih=>
  rw[Qx,List.countP_cons,Jt,ih]
  congr 1
  have:=PN w (some k);have e:U4 (some k)=.int k:=rfl;rw[e]at this;rw[this];cases w with
  |none=>simp
  |some z=>simp
theorem CS{f:M (List D)}{k:Nat}{s:D->UG->Option UG}{t:M Bool}{g:M D}{Z Z1:UG}{ds es:List D}(h1:f Z=.ok ds Z1)(h2:K0 s t g ds (Zq Z1++Uw k none) []=some es)(h3:es.all flat=true):SJ f k s t g Z=.ok es Z1:=by unfold SJ;rw[h1];dsimp only;rw[h2];dsimp only;rw[if_pos h3]
theorem M2{cs:List Int}{ls:L3}{rs:List (List Int)}{i:Nat}(hi:ls[i]?=some rs)(hl:rs.flatten.length<64):Xj [Ka cs ls,.int i]=some (.list ((Yj rs.flatten).map int)):=by
 refine K7 (Z:=[pb (Ka cs ls),pb (.int i)]) rfl ?_;unfold VX;have i1:oIx (Ka cs ls) (.int 1)=some (.list (ls.map KG)):=ZB (j:=1) rfl;have i2:oIx (.list (ls.map KG)) (.int i)=some (KG rs):=ZB (by rw[Qe,hi];rfl)
 have hs:TX [KG rs,.list []]=some (.list (rs.flatten.map int)):=by
  have e:KG rs=.list ((rs.map λr=>r.map int).map Ux):=by unfold KG;rw[Q4];rfl
  have e2:(rs.map λr=>r.map int).flatten=rs.flatten.map int:=by rw[List.map_flatten]
  rw[e];unfold TX;dsimp only;rw[A4];dsimp only;rw[e2,Qm (by rw[Qb];omega)]
 exact Kv (ZO (UM (ZO (UM (U2 (KH rfl UU i1) (UK rfl) i2) (UM (ZI UT (Qa rfl)) UT)) hs) UT) (Hh hl)) rfl
structure Vy(cs:List Int)(ls:L3)(lf:List Int)(ws:LO):Prop where
 wish:∀(i:Nat) t rs,ws[i]?=some (some t)->ls[i]?=some rs->t∈rs.flatten
 len:lf.length=cs.length
 cop:∀(k:Nat) c,cs[k]?=some c->lf[k]?=some (c-((ws.count (some (k:Int)):Nat):Int))/\0<=c-((ws.count (some (k:Int)):Nat):Int)
theorem M1{ls:L3}{ws:LO}{o:Option Int}{rs:List (List Int)}(h:∀(i:Nat) t rs,ws[i]?=some (some t)->ls[i]?=some rs->t∈rs.flatten)(hi:ls[ws.length]?=some rs)(ho:∀t,o=some t->t∈rs.flatten) :
  ∀(i:Nat) t rs,(ws++[o])[i]?=some (some t)->ls[i]?=some rs->t∈rs.flatten:=by
 intro j t rs' e1 e2;by_cases hj:j<ws.length
 ·rw[Qs hj]at e1;exact h j t rs' e1 e2
 ·by_cases hj2:j=ws.length
  ·subst hj2;rw[hi]at e2;cases e2;rw[Qw (Qv _),Nat.sub_self,List.getElem?_cons_zero]at e1;cases e1;exact ho t rfl
  ·rw[QB (by rw[Ql,Jh];omega)]at e1;cases e1
theorem Vy.none{cs:List Int}{ls:L3}{lf:List Int}{ws:LO}{rs:List (List Int)}(d:Vy cs ls lf ws)(hi:ls[ws.length]?=some rs):Vy cs ls lf (ws++[Option.none]) where
 wish:=M1 d.wish hi λt e=>by cases e
 len:=d.len
 cop:=λk c e=>by rw[List.count_append];simpa using d.cop k c e
theorem Vy.give{cs:List Int}{ls:L3}{lf:List Int}{ws:LO}{rs:List (List Int)}{t v:Int}(d:Vy cs ls lf ws)(hi:ls[ws.length]?=some rs)(ht:t∈rs.flatten)(h0:0<=t)(hv:lf[t.toNat]?=some v)(hp:0<v):Vy cs ls (lf.set t.toNat (v-1)) (ws++[some t]) where
 wish:=M1 d.wish hi λt' e=>by cases e;exact ht
 len:=by rw[Q6];exact d.len
 cop:=λk c e=>by
  obtain⟨h1,h2⟩:=d.cop k c e;rw[List.count_append];by_cases hk:t=(k:Int)
  ·subst hk;rw[Qy]at hv⊢;rw[h1]at hv;cases hv;have hl:k<lf.length:=(Qg.mp h1).1;rw[QF hl];simp only[List.count_singleton_self];refine⟨by congr 1;omega,by omega⟩
  ·have hne:t.toNat≠k:=by omega
   rw[Qr hne];have:List.count (some (k:Int)) [some t]=0:=by rw[List.count_eq_zero];intro z;have:=Je.mp z;exact hk (QT this).symm
   rw[this];exact⟨h1,h2⟩
theorem Pg{os:LO}{k:Nat}(h:k<os.length):oIx (.list (os.map U4)) (.int k)=some (U4 os[k]):=ZB (by rw[Qe,Qd h];rfl)
theorem My{ws:LO}{o:Option Int}:(ws++[o]).map U4=ws.map U4++[U4 o]:=by rw[Qz];rfl
def VM(cs:List Int)(ls:L3)(c s:D)(dg:List Int)(i:Nat)(Z:UG):Prop:=∃(lf:List Int)(ws:LO)(x6 x7 x8:Option Sl),
 Z=[pb (Ka cs ls),pb c,pb s,some (.own (lf.map int)),pb (.list (dg.map int)),some (.own (ws.map U4)),x6,x7,x8]/\ws.length=i/\Vy cs ls lf ws
theorem Ap{cs:List Int}{ls:L3}{c s:D}{dg:List Int}{i:Nat}{d:D}{Z:UG}{Q:Out->Prop}(g:Good cs ls)(hdl:dg.length=ls.length)(hd0:∀x∈dg,0<=x)(hi:(ZW 0 ls.length)[i]?=some d)(h:VM cs ls c s dg i Z) :
  ∃Z2,gN 6 d Z=some Z2/\Ho Pu Z2 (Vn (VM cs ls c s dg (i+1)) Q):=by
 obtain⟨lf,ws,x6,x7,x8,rfl,hw,dl⟩:=h;obtain⟨rfl,hlt⟩:=VG hi;have hil:i<ls.length:=by omega
 have hls:ls[i]?=some ls[i]:=Qd hil;have gr:=g.rk _ (Qp hls);have hfl:=P2 gr;refine⟨_,UR (Qa rfl) rfl,?_⟩;unfold Pu;rw[Uc];generalize hrs:ls[i]=rs at *;have hmem:∀t∈Yj rs.flatten,t∈rs.flatten:=λt ht=>(XB _).mem_iff.mp ht
 have hthere:∀t∈rs.flatten,0<=t/\t<lf.length:=λt ht=>by obtain⟨r,hr,htr⟩:=Ud.mp ht;have:=gr.there r hr t htr;rw[dl.len];exact this
 let L:=(Yj rs.flatten).filter λt=>decide (0<lf.getD t.toNat 0)
 have hc:K0 (gN 9) (UO (oIB λi j=>decide (j<i)) (UZ 3 (UA 9)) (UN (.int 0))) (UA 9) ((Yj rs.flatten).map int) (Zq [pb (Ka cs ls),pb c,pb s,some (.own (lf.map int)),pb (.list (dg.map int)),some (.own (ws.map U4)),pb (.int (i:Int)),x7,x8]++Uw 1 none) []=some (L.map int):=by
  rw[Se (λd=>match d with | .int t=>decide (0<lf.getD t.toNat 0)|_=>false) (λd=>d) (λZ=>∃x y7 y8,Z=[pb (Ka cs ls),pb c,pb s,pb (.list (lf.map int)),pb (.list (dg.map int)),pb (.list (ws.map U4)),pb (.int (i:Int)),y7,y8,x])]
  ·rw[Jm,List.map_id',List.filter_map];rfl
  ·rintro d hm Z ⟨x,y7,y8,rfl⟩;obtain⟨t,ht,rfl⟩:=Qt.mp hm;obtain⟨h0,h1⟩:=hthere t (hmem t ht);obtain⟨k,rfl⟩:∃k:Nat,t=k:=⟨t.toNat,by omega⟩
   refine⟨_,UR (Qa rfl) rfl,U2 (KH rfl (UK rfl) (Pr (by omega))) UU rfl,λ_=>UK rfl,pb (.int k),YW y7,YW y8,rfl⟩
  ·exact⟨none,R8 x7,R8 x8,rfl⟩
  ·rw[Qb,QN,(XB _).length_eq];have:=g.c6;omega
 have hLl:L.length<=6:=by have:L.length<=(Yj rs.flatten).length:=J6 _ _;rw[(XB _).length_eq]at this;have:=g.c6;omega
 have hadd:U0 (.list (L.map int)) (.list [.none])=some (.list ((L.map some++[none]).map U4)):=by rw[Xz (by rw[Qb];show L.length+1<=_;omega),Qz,Q4];rfl
 refine Ki (KR (U2 (Kx (CS (Zj (Kj (UM (UK rfl) (UM (UK rfl) UT)) rfl (M2 (cs:=cs) hls (by have:=g.c6;omega))) ZZ) hc (by rw[List.all_map,Jn];exact λ_ _=>rfl))) (ZI (UM UU UT) (Qa rfl)) hadd) (Qa rfl) rfl) ?_;have hol:(L.map some++[none]:LO).length=L.length+1:=by rw[Ql,Qb];rfl
 have hlen:Kb [.list ((L.map some++[none]:LO).map U4)]=some (.int ((L.length+1:Nat):Int)):=by rw[Zh,Qb,hol]
 have hdi:dg[i]?=some dg[i]:=Qd (by omega);have hx0:=hd0 _ (Qp hdi);have hix:oIx (.list (dg.map int)) (.int (i:Int))=some (.int dg[i]):=ZB (by rw[Qe,hdi];rfl);have hm0:0<=dg[i] % ((L.length+1:Nat):Int):=Int.emod_nonneg _ (by omega);have hm1:dg[i] % ((L.length+1:Nat):Int)<((L.length+1:Nat):Int):=Int.emod_lt_of_pos _ (by omega);obtain⟨k,hk⟩:∃k:Nat,dg[i] % ((L.length+1:Nat):Int)=k:=⟨(dg[i] % ((L.length+1:Nat):Int)).toNat,by omega⟩
 have hkl:k<(L.map some++[none]:LO).length:=by rw[hol];omega
 have hpick:=Pg (os:=L.map some++[none]) hkl;rw[←hk]at hpick;generalize ho:(L.map some++[none]:LO)[k]=o at hpick;refine Ki (KR (KH rfl (U2 (KH rfl (UK rfl) hix) (Zs rfl hlen) (Vz (by omega))) hpick) (Qa rfl) rfl) ?_;have hwl:(ws.map U4).length<1000000:=by rw[Qb];have:=g.l7;omega
 have hls':ls[ws.length]?=some rs:=by rw[hw];exact hls
 cases o with
 |none=>
  apply Kz;apply Kw
  case h1=>exact OJ (UK rfl) rfl
  case h2=>intro hh;cases hh
  case h3=>intro _;refine KU (KB ?_);refine ZA (X3 rfl (UK rfl) rfl hwl rfl) ?_;exact K5 ⟨lf,ws++[none],_,_,_,by rw[My (ws:=ws)];rfl,by rw[Ql,hw];rfl,dl.none hls'⟩
 |some t=>
  have htL:t∈L:=by
   have hm:some t∈(L.map some++[none]:LO):=ho ▸ JK hkl;rcases Q2.mp hm with z|z
   ·obtain⟨t',h1,h2⟩:=Qt.mp z;cases h2;exact h1
   ·cases Je.mp z
  obtain⟨htm,htp⟩:=Uf.mp htL;have htf:=hmem t htm;obtain⟨h0,h1⟩:=hthere t htf;have hv:lf[t.toNat]?=some lf[t.toNat]:=Qd (by omega);have hvd:lf.getD t.toNat 0=lf[t.toNat]:=by simp[List.getD,hv]
  have hpos:0<lf[t.toNat]:=by rw[hvd]at htp;simpa using htp
  have hvx:oIx (.list (lf.map int)) (.int t)=some (.int lf[t.toNat]):=Gy h0 (by rw[Qe,hv];rfl);apply Kz;apply Kw
  case h1=>exact OJ (UK rfl) rfl
  case h2=>intro _;refine ZA (SN (U2 (Rx rfl (UK rfl) rfl hvx) UU YC) rfl (UK rfl) rfl ⟨h0,by rw[Qb];exact h1⟩ rfl) ?_;refine KB ?_;refine ZA (X3 rfl (UK rfl) rfl hwl rfl) ?_;exact K5 ⟨lf.set t.toNat (lf[t.toNat]-1),ws++[some t],_,_,_,by rw[My (ws:=ws),←P7];rfl,by rw[Ql,hw];rfl,dl.give hls' htf h0 hv hpos⟩
  case h3=>intro hh;cases hh
theorem Ao{cs:List Int}{ls:L3}(g:Good cs ls)(c s:Int):∃r,Xi [Ka cs ls,.int c,.int s]=some r/\∃ws,r=U7 ws/\Deal cs ls ws:=by
 refine W4 (Z:=[pb (Ka cs ls),pb (.int c),pb (.int s),none,none,none,none,none,none]) rfl ?_;unfold VW;have i0:oIx (Ka cs ls) (.int 0)=some (.list (cs.map int)):=ZB (j:=0) rfl;have i1:oIx (Ka cs ls) (.int 1)=some (.list (ls.map KG)):=ZB (j:=1) rfl;have hlen:Kb [.list (ls.map KG)]=some (.int ls.length):=by rw[Zh,Qb]
 refine Ki (Z7 (KT (UM (KH rfl UU i0) UT) (Yi (show Xu [.list (cs.map int)]=some (cs.map int)from rfl))) (Qa rfl) rfl) ?_
 have hmul:Kr (.list [.int 61]) (.int ls.length)=some (.list ((Uw ls.length (61:Int)).map int)):=by
  rw[RZ ⟨by omega,by have:=g.l7;omega,by show 1*_<=_;have:=g.l7;omega⟩]
  congr 2
  rw[Qy];generalize ls.length=n;induction n with
  |zero=>rfl
  |succ n ih=>rw[QX,QM,ih,QX,Qx];rfl
 obtain⟨r,hF,dg,rfl,hdl,hdb⟩:=OI c s (sizes:=Uw ls.length (61:Int)) (λx hx=>by rw[(List.mem_replicate.mp hx).2];decide) (by rw[QU];have:=g.l7;omega);rw[QU]at hdl;refine Ki (KR (Kj (UM (UK rfl) (UM (UK rfl) (UM (U2 (ZI (UM UU UT) (Qa rfl)) (ZO (UM (KH rfl UU i1) UT) hlen) hmul) UT))) rfl hF) (Qa rfl) rfl) ?_;refine Ki (Z7 (Va UT (Qa rfl)) (Qa rfl) rfl) ?_;apply Kz;apply Zv (VM cs ls (.int c) (.int s) dg)
 case h1=>exact W9 (UM (ZO (UM (KH rfl UU i1) UT) hlen) UT) (Vi (by have:=g.l7;omega) (by omega))
 case h0=>exact⟨cs,[],_,_,_,rfl,rfl,⟨λ_ _ _ h=>(by cases h),rfl,λk c e=>by have:=g.c7 c (Qp e);simp only[List.count_nil];exact⟨by rw[e];congr 1;omega,by omega⟩⟩⟩
 case hst=>exact λi d Z e h=>Ap g hdl (λx hx=>by obtain⟨j,hj,e⟩:=List.mem_iff_getElem.mp hx;exact(hdb j x 61 (by rw[Qd hj,e]) (by rw[QA,Qm (by omega)])).1) e h
 case hend=>rintro Z ⟨lf,ws,x6,x7,x8,rfl,hw,dl⟩;rw[X7]at hw;refine KB (Kv (Yl rfl rfl) ⟨_,rfl,ws,rfl,⟨by omega,dl.wish,λk c e=>by have:=(dl.cop k c e).2;omega⟩⟩)
theorem Y6{s:D->UG->Option UG}{t:M Bool}{g:M D}(I:UG->Prop):∀(ds qs:List D)(Z:UG)(es:List D),qs.length=ds.length ->
  (∀(i:Nat) d e,ds[i]?=some d->qs[i]?=some e->∀Z,I Z->∃Z1,s d Z=some Z1/\t Z1=.ok true Z1/\g Z1=.ok e Z1/\I (Kf Z1))->I Z->es.length+ds.length<=1000000->K0 s t g ds Z es=some (es++qs)
 |[],[],Z,es,_,_,_,_=>by rw[K0,Q5]
 |d::r,e::q,Z,es,hl,st,h0,hz=>by obtain⟨Z1,e1,e2,e3,h1⟩:=st 0 d e rfl rfl Z h0;rw[QC]at hz;rw[K0,e1];dsimp only;rw[e2];dsimp only;rw[Qm rfl,e3];dsimp only;rw[if_pos (by omega),Y6 I r q (Kf Z1) (es++[e]) (by simpa using hl) (λi d' e' x y=>st (i+1) d' e' (by simpa using x) (by simpa using y)) h1 (by rw[List.length_append,List.length_singleton];omega),List.append_assoc];rfl
def rg(rs:List (List Int)):Option Int->Int
 |none=>0
 |some t=>(KE t rs:Nat)
def UQ(ls:L3)(ws:LO):List Int:=List.zipWith rg ls ws
def lng(ls:L3):Nat:=(most (ls.map λrs=>(rs.length:Int))).toNat
def U1(L:Nat)(got:List Int):List Int:=(Uv L).map (λr:Nat=>((got.count (1+(r:Int)):Nat):Int))++[((got.count 0:Nat):Int)]
def YQ(cs:List Int)(ws:LO):List Int:=(Uv cs.length).map λk:Nat=>cs.getD k 0-((ws.count (some (k:Int)):Nat):Int)
theorem PM{ls:L3}(h:1<=ls.length):most (ls.map λrs=>(rs.length:Int))=(lng ls:Nat):=by
 have hm:most (ls.map λrs=>(rs.length:Int))∈ls.map λrs=>(rs.length:Int):=RR (by rw[Qb];omega)
 obtain⟨rs,_,e⟩:=Qt.mp hm;unfold lng;omega
theorem Pf{ls:L3}{rs:List (List Int)}(h:rs∈ls):rs.length<=lng ls:=by have h1:((rs.length:Nat):Int)<=most (ls.map λrs=>(rs.length:Int)):=Px (Qt.mpr ⟨rs,h,rfl⟩);have h2:=PM (ls:=ls) (List.length_pos_of_mem h);omega
theorem Sx{ls:L3}{n:Nat}(h1:1<=ls.length)(h:∀rs∈ls,rs.length<=n):lng ls<=n:=by
 have hm:most (ls.map λrs=>(rs.length:Int))∈ls.map λrs=>(rs.length:Int):=RR (by rw[Qb];omega)
 obtain⟨rs,hr,e⟩:=Qt.mp hm;have:=h rs hr;unfold lng;omega
theorem RK(t:Int)(rs:List (List Int)):KE t rs<=rs.length:=by
 unfold KE
 split<;>omega
section
variable{cs:List Int}{ls:L3}{ws:LO}
theorem TN:oIx (Ka cs ls) (.int 0)=some (.list (cs.map int)):=ZB (j:=0) rfl
theorem WX:oIx (Ka cs ls) (.int 1)=some (.list (ls.map KG)):=ZB (j:=1) rfl
theorem OO{i:Nat}{rs:List (List Int)}(h:ls[i]?=some rs):oIx (.list (ls.map KG)) (.int i)=some (KG rs):=ZB (by rw[Qe,h];rfl)
theorem LA(rs:List (List Int)):Kb [KG rs]=some (.int rs.length):=by unfold KG;rw[Zh,Qb]
theorem An(g:Good cs ls):WO [Ka cs ls]=some (.int (lng ls:Nat)):=by
 refine K7 (Z:=[pb (Ka cs ls)]) rfl ?_;unfold Tu;have hw:=RL g
 have hc:K0 (gN 1) (UN true) (K9 1) (ls.map KG) (Kf [pb (Ka cs ls)]++Uw 1 none) []=some ((ls.map λrs=>(rs.length:Int)).map int):=by
  refine Y6 (λZ=>∃x,Z=[pb (Ka cs ls),x]) _ _ _ _ (by rw[Qb,Qb,Qb]) ?_ ⟨none,rfl⟩ (by rw[Qb,QN];have:=g.l7;omega);rintro i d e hd he Z ⟨x,rfl⟩;rw[Qe]at hd;rw[Qe,Qe]at he;cases hl:ls[i]? with
  |none=>rw[hl]at hd;cases hd
  |some rs=>
  rw[hl]at hd he;cases hd;cases he;exact⟨_,UR (Qa rfl) rfl,rfl,Zs rfl (LA rs),_,rfl⟩
 refine Ki (W8 (Kj (UM (UK rfl) UT) rfl hw)) ?_;refine Kv (ZO (UM (Kx (Yk (Zj (KH rfl UU WX) ZZ) hc)) UT) (MY (by rw[Qb];have:=g.l1;omega))) ?_;rw[PM g.l1]
theorem Mx{i:Nat}{rs:List (List Int)}{o:Option Int}(h1:ls[i]?=some rs)(h2:ws[i]?=some o):(UQ ls ws)[i]?=some (rg rs o):=by unfold UQ;rw[List.getElem?_zipWith,h1,h2]
theorem qS(g:Good cs ls):WM [Ka cs ls,U7 ws]=some (.list ((YQ cs ws).map int)):=by
 refine K7 (Z:=[pb (Ka cs ls),pb (U7 ws)]) rfl ?_;unfold Ts;have hw:=RL g
 have hc:K0 (gT 2 (gNC (gN 2) (gNC (gN 3) (gN0)))) (UN true) (UO KZ (UA 3) (T2 (UA 1) (UL (UA 2) (UH)))) (Z8 0 (cs.map int)) (Kf [pb (Ka cs ls),pb (U7 ws)]++Uw 2 none) []=some ((YQ cs ws).map int):=by
  refine Y6 (λZ=>∃x y,Z=[pb (Ka cs ls),pb (U7 ws),x,y]) _ _ _ _ (by unfold YQ;rw[Qb,Qb,Qq,Yo,Qb]) ?_ ⟨none,none,rfl⟩ (by rw[Yo,Qb,QN];have:=g.c6;omega);rintro i d e hd he Z ⟨x,y,rfl⟩;obtain⟨z,hz,rfl⟩:=YS hd;rw[Qe]at hz;cases hci:cs[i]? with
  |none=>rw[hci]at hz;cases hz
  |some c=>
  rw[hci]at hz;cases hz;have hil:i<cs.length:=(Qg.mp hci).1;unfold YQ at he;rw[Qe,Qe,Qd (by rw[Qq];exact hil),JW]at he;cases he;rw[QS];have e:cs.getD i 0=c:=by simp[List.getD,hci]
  dsimp only;rw[e];exact⟨_,Kt rfl (UX (UR (Qa rfl) rfl) (UX (UR (Qa rfl) rfl) Kq)),rfl,U2 (UK rfl) (MX (UK rfl) (UM (UK rfl) UT) He) YC,_,_,rfl⟩
 refine Ki (W8 (Kj (UM (UK rfl) UT) rfl hw)) ?_;exact Kv (Kx (Yk (Xs (UM (KH rfl UU TN) UT) Xr) hc)) rfl
end
def plc(L:Nat)(r:Int):Nat:=if r=0 then L else(r-1).toNat
def okR(L:Nat)(got:List Int):Prop:=∀r∈got,0<=r/\r<=L
theorem CQ{L:Nat}{got:List Int}(h:okR L got){p:Nat}(hp:p<L+1):(U1 L got)[p]?=some (((got.map (plc L)).count p:Nat):Int):=by
 unfold U1
 have key:∀r∈got,(plc L r=p ↔ r=if p=L then 0 else 1+(p:Int)):=λr hr=>by
  have:=h r hr;unfold plc
  split<;>split<;>omega
 have cnt:(got.map (plc L)).count p=got.count (if p=L then 0 else 1+(p:Int)):=by rw[List.count,List.countP_map,List.count];apply List.countP_congr;intro r hr;have:=key r hr;simp only[Function.comp,beq_iff_eq];exact this
 by_cases hpl:p=L
 ·subst hpl;rw[Qw (by rw[Qb,Qq];exact Qv _),Qb,Qq,Nat.sub_self,cnt,Qm rfl];rfl
 ·rw[Qs (by rw[Qb,Qq];omega),Qe,Qd (by rw[Qq];omega),JW,cnt,Qu hpl];rfl
theorem Xq(L:Nat)(got:List Int):(U1 L got).length=L+1:=by unfold U1;rw[Ql,Qb,Qq];rfl
def Xn(xs:List Int)(p:Nat)(d:Int):List Int:=xs.set p (xs.getD p 0+d)
theorem Op{xs:List Int}{p:Nat}{d:Int}:(Xn xs p d).length=xs.length:=by unfold Xn;rw[Q6]
theorem Lz{xs:List Int}{p q:Nat}{d v:Int}(h:xs[q]?=some v):(Xn xs p d)[q]?=some (if q=p then v+d else v):=by
 unfold Xn;have hq:q<xs.length:=(Qg.mp h).1;by_cases e:q=p
 ·subst e;rw[QF hq,Qm rfl];simp[List.getD,h]
 ·rw[Qr (λz=>e z.symm),Qu e,h]
theorem Hd:∀(qs:List Nat)(n:Nat),(∀q∈qs,q<n)->((Uv n).map λp=>((qs.count p:Nat):Int)).sum=qs.length
 |[],n,_=>by
  have:((Uv n).map λp=>((([]:List Nat).count p:Nat):Int))=(Uv n).map λ_=>(0:Int):=by apply List.map_congr_left;intro p _;simp
  rw[this];clear this;induction n with
  |zero=>rfl
  |succ n ih=>rw[Uh,Qz,JI,ih (λq hq=>by cases hq)];rfl
 |q::r,n,h=>by
  have ih:=Hd r n λx hx=>h x (Qk _ hx);have hq:=h q Qo
  have e:((Uv n).map λp=>(((q::r).count p:Nat):Int)).sum=((Uv n).map λp=>((r.count p:Nat):Int)).sum+((Uv n).map λp=>if q=p then(1:Int)else 0).sum:=by
   clear ih hq h;induction n with
   |zero=>rfl
   |succ n ih=>
    rw[Uh,Qz,Qz,Qz,JI,JI,JI,ih];simp only[Qx,JJ,Ja,List.sum_nil,Jt,beq_iff_eq]
    split<;>omega
  rw[e,ih]
  have one:∀m:Nat,((Uv m).map λp=>if q=p then(1:Int)else 0).sum=if q<m then 1 else 0:=by
   intro m;induction m with
   |zero=>simp
   |succ m ih=>
    rw[Uh,Qz,JI,ih];simp only[Qx,JJ,Ja,List.sum_nil]
    split<;>split<;>split<;>omega
  rw[one n,Qm hq,QC];omega
theorem SK{ls:L3}{ws:LO}:okR (lng ls) (UQ ls ws):=λr hr=>by
 unfold UQ at hr;obtain⟨i,hi,e⟩:=List.mem_iff_getElem.mp hr;rw[List.getElem_zipWith]at e;rw[List.length_zipWith]at hi;have hm:ls[i]'(by omega)∈ls:=JK _;have h1:=Pf hm;rw[←e];cases ws[i]'(by omega)with
 |none=>exact⟨QW _,by show(0:Int)<=_;omega⟩
 |some t=>have h2:=RK t (ls[i]'(by omega));exact⟨by show(0:Int)<=((KE t _:Nat):Int);omega,by show((KE t _:Nat):Int)<=_;omega⟩
theorem Nm{op:Int->Int->Option D}{j:Nat}{f g:M D}{Z Z1 Z2 Z':UG}{ds0 ds es:List D}{a b k:Int}{d:D}{n:Nat}(h0:Z[j]?=some (some (.own ds0)))(h1:g Z=.ok (.int k) Z1)(h2:Z1[j]?=some (some (.own ds)))(h3:atI ds k=some (.int a))(h4:f Z1=.ok (.int b) Z2)(h5:op a b=some d)
  (h6:Z2[j]?=some (some (.own es))) (h7:ixN es.length k=some n) (h8:Z2.set j (some (.own (es.set n d)))=Z'):WV op j g f Z=.nx Z':=by
 unfold WV;rw[P6 h0];dsimp only;unfold sB;rw[h1];dsimp only;rw[P6 h2];dsimp only[Option.bind_some];rw[h3];dsimp only;rw[h4];dsimp only;rw[h5,P6 h6];dsimp only;rw[h7];dsimp only;rw[h8]
theorem EO{n p:Nat}(h:p<n):ixN n (p:Int)=some p:=by unfold ixN;rw[Qm (by omega),Qm (by omega),Qy]
theorem EN{op:Int->Int->Option D}{j:Nat}{f g:M D}{Z Z':UG}{xs:List Int}{p:Nat}{d b:Int}(h0:Z[j]?=some (some (.own (xs.map int))))(h1:g Z=.ok (.int p) Z)(hp:p<xs.length)(h4:f Z=.ok (.int b) Z)(h5:∀a,op a b=some (.int (a+d)))
  (h8:Z.set j (some (.own ((Xn xs p d).map int)))=Z'):WV op j g f Z=.nx Z':=by
 refine Nm (n:=p) h0 h1 h0 (a:=xs.getD p 0) (ZB ?_) h4 (h5 _) h0 (by rw[Qb];exact EO hp) ?_
 ·rw[List.getElem?_map,List.getElem?_eq_getElem hp];simp[List.getD,List.getElem?_eq_getElem hp]
 ·rw[←h8,P7];rfl
theorem Pi{a b:Option Int}:oEq (U4 a) (U4 b)=some (decide (a=b)):=by unfold oEq;rw[if_pos ⟨by cases a<;>rfl,by cases b<;>rfl,by cases a<;>simp[U4,UC]⟩,PN]
theorem Fj{a b:Option Int}:oNe (U4 a) (U4 b)=some (!decide (a=b)):=by unfold oNe;rw[if_pos ⟨by cases a<;>rfl,by cases b<;>rfl,by cases a<;>simp[U4,UC]⟩,PN]
section
variable{cs:List Int}{ls:L3}{ws:LO}{a:Nat}{o had:Option Int}{rs:List (List Int)}{t:Int}
end
theorem Fi{xs:List D}{a:Nat}(h:a<=xs.length):DL.cutD xs none (some (a:Int))=xs.take a:=by
 unfold DL.cutD HT.sIx;dsimp only;rw[Qu (by omega),Qy];have:min a xs.length=a:=by omega
 rw[this];simp
theorem CP{xs:List D}{a:Nat}(h:a<=xs.length):DL.cutD xs (some (a:Int)) none=xs.drop a:=by
 unfold DL.cutD HT.sIx;dsimp only;rw[Qu (by omega),Qy];have:min a xs.length=a:=by omega
 rw[this,List.take_of_length_le (by rw[Jw];omega)]
theorem Hc{s:D->UG->Option UG}{t:M Bool}{g:M D}(I:UG->Prop):∀(ds qs:List D)(Z:UG)(es:List D),qs.length=ds.length ->
  (∀(i:Nat) d e,ds[i]?=some d->qs[i]?=some e->∀Z,I Z->∃Z1,s d Z=some Z1/\t Z1=.ok true Z1/\g Z1=.ok e Z1/\I (Kf Z1))->I Z->es.length+ds.length<=1000000->∃Z',Yy s t g ds Z es=some (es++qs,Z')/\I Z'
 |[],[],Z,es,_,_,h0,_=>⟨Z,by rw[Yy,Q5],h0⟩
 |d::r,e::q,Z,es,hl,st,h0,hz=>by obtain⟨Z1,e1,e2,e3,h1⟩:=st 0 d e rfl rfl Z h0;rw[QC]at hz;obtain⟨Z',e',h'⟩:=Hc I r q (Kf Z1) (es++[e]) (by simpa using hl) (λi d' e' x y=>st (i+1) d' e' (by simpa using x) (by simpa using y)) h1 (by rw[List.length_append,List.length_singleton];omega);refine⟨Z',?_,h'⟩;rw[Yy,e1];dsimp only;rw[e2];dsimp only;rw[Qm rfl,e3];dsimp only;rw[Qm (by omega),e',Jk];rfl
theorem Ox{s:D->UG->Option UG}{t:M Bool}{f:M (List D)}{Rd:List D->UG->List D->Option (List D×UG)}(I:UG->Prop):∀(ds:List D)(qs:List (List D))(Z:UG)(es:List D),qs.length=ds.length ->
  (∀(i:Nat) d q,ds[i]?=some d->qs[i]?=some q->∀Z es,I Z->es.length+q.length<=1000000->∃Z1 xs Z2 Z3,s d Z=some Z1/\t Z1=.ok true Z1/\f Z1=.ok xs Z2/\Rd xs (Kf Z2) es=some (es++q,Z3)/\I Z3)->I Z->es.length+qs.flatten.length<=1000000->∃Z',YU s t f Rd ds Z es=some (es++qs.flatten,Z')/\I Z'
 |[],[],Z,es,_,_,h0,_=>⟨Z,by rw[YU,List.flatten_nil,Q5],h0⟩
 |d::r,q::qr,Z,es,hl,st,h0,hz=>by rw[QM,Ql]at hz;obtain⟨Z1,xs,Z2,Z3,e1,e2,e3,e4,h1⟩:=st 0 d q rfl rfl Z es h0 (by omega);obtain⟨Z',e',h'⟩:=Ox I r qr Z3 (es++q) (by simpa using hl) (λi d' e' x y=>st (i+1) d' e' (by simpa using x) (by simpa using y)) h1 (by rw[List.length_append];omega);refine⟨Z',?_,h'⟩;rw[YU,e1];dsimp only;rw[e2];dsimp only;rw[Qm rfl,e3];dsimp only;rw[e4];dsimp only;rw[e',QM,Jk]
def XY(i:Nat)(rs:List (List Int)):LP:=rs.flatten.map λt=>((i:Int),t)
def ZH(k:Nat):L3->LP
 |[]=>[]
 |rs::ls=>XY k rs++ZH (k+1) ls
def Ky(k:Nat):L3->LP
 |[]=>[]
 |rs::ls=>(Yj rs.flatten).map (λt=>((k:Int),t))++Ky (k+1) ls
theorem SX:∀(ls:L3)(k:Nat),(Ky k ls).Perm (ZH k ls)
 |[],_=>.nil
 |rs::ls,k=>((XB rs.flatten).map _).append (SX ls (k+1))
theorem P1:∀(ls:L3)(k:Nat),∀q∈Ky k ls,(k:Int)<=q.1
 |[],_,q,h=>by cases h
 |rs::ls,k,q,h=>by
  rcases Q2.mp h with h|h
  ·obtain⟨t,_,rfl⟩:=Qt.mp h;exact QW _
  ·have:=P1 ls (k+1) q h;omega
theorem Ve:∀{ls:L3}{k:Nat}{q:Int×Int},q∈Ky k ls->∃i rs,ls[i]?=some rs/\q.1=((k+i:Nat):Int)/\q.2∈rs.flatten
 |[],_,q,h=>by cases h
 |rs::ls,k,q,h=>by
  rcases Q2.mp h with h|h
  ·obtain⟨t,ht,rfl⟩:=Qt.mp h;exact⟨0,rs,rfl,rfl,(XB _).mem_iff.mp ht⟩
  ·obtain⟨i,rs',h1,h2,h3⟩:=Ve h;exact⟨i+1,rs',by simpa using h1,by rw[h2];congr 1;omega,h3⟩
theorem Mw:∀{ls:L3}{k i:Nat}{rs:List (List Int)}{t:Int},ls[i]?=some rs->t∈rs.flatten->(((k+i:Nat):Int),t)∈Ky k ls
 |rs::ls,k,0,rs',t,h,ht=>by cases h;exact Jd _ (Qt.mpr ⟨t,(XB _).mem_iff.mpr ht,rfl⟩)
 |rs::ls,k,i+1,rs',t,h,ht=>by have:=Mw (ls:=ls) (k:=k+1) (i:=i) (by simpa using h) ht;rw[show k+1+i=k+(i+1)by omega]at this;exact QI _ this
theorem Mv{n:Nat}(hn:n<=6):∀(ls:L3)(k:Nat),(∀rs∈ls,∀t∈rs.flatten,0<=t/\t<n)->(Ky k ls).Pairwise λx y=>Kp x<=Kp y
 |[],_,_=>.nil
 |rs::ls,k,h=>by
  refine List.pairwise_append.mpr ⟨?_,Mv hn ls (k+1) λrs' hr=>h rs' (Qk _ hr),λx hx y hy=>?_⟩
  ·rw[List.pairwise_map];refine(Lh rs.flatten).imp λ{a b} hab=>?_
   unfold Kp;dsimp only;omega
  ·obtain⟨t,ht,rfl⟩:=Qt.mp hx;have h1:=P1 ls (k+1) y hy;have h2:=h rs Qo t ((XB _).mem_iff.mp ht);obtain⟨i,rs',g1,g2,g3⟩:=Ve hy;have h3:=h rs' (Qk _ (Qp g1)) y.2 g3;unfold Kp;dsimp only;omega
theorem Vj.flat{n:Nat}{rs:List (List Int)}(g:Vj n rs):∀t∈rs.flatten,0<=t/\t<n:=λt ht=>by obtain⟨r,h1,h2⟩:=Ud.mp ht;exact g.there r h1 t h2
section
variable{cs:List Int}{ls:L3}
theorem Mu(n:Nat):∀(ls:L3)(k:Nat),(∀rs∈ls,rs.flatten.length<=n)->(ZH k ls).length<=ls.length*n
 |[],_,_=>by simp[ZH]
 |rs::ls,k,h=>by
  have h1:=Mu n ls (k+1) λr hr=>h r (Qk _ hr);have h2:=h rs Qo
  show(XY k rs++ZH (k+1) ls).length<=_
  rw[Ql,QC,Nat.succ_mul];unfold XY;rw[Qb];omega
theorem Am(g:Good cs ls):X8 (ZH 0 ls)=Ky 0 ls:=by
 have hf:∀rs∈ls,∀t∈rs.flatten,0<=t/\t<cs.length:=λrs hr=>(g.rk rs hr).flat
 have ok:∀q∈Ky 0 ls,okP q:=λq hq=>by obtain⟨i,rs,h1,h2,h3⟩:=Ve hq;have:=hf rs (Qp h1) q.2 h3;have:=g.c6;exact⟨by omega,by omega⟩
 exact(P3 ok ((SX ls 0).trans (Hi _).symm) (Mv g.c6 ls 0 hf) (Lb _)).symm
theorem Fh(g:Good cs ls):∀q∈ZH 0 ls,okP q:=λq hq=>by obtain⟨i,rs,h1,h2,h3⟩:=Ve ((SX ls 0).mem_iff.mpr hq);have:=(g.rk rs (Qp h1)).flat q.2 h3;have:=g.c6;exact⟨by omega,by omega⟩
theorem RA(g:Good cs ls):(ZH 0 ls).length<=42:=by
 have h:=Mu 6 ls 0 λrs hr=>QP (P2 (g.rk rs hr)) g.c6
 have:=g.l7;omega
theorem PL:∀(ls:L3)(k:Nat),((ls.zipIdx k).map λp=>(XY p.2 p.1).map KI).flatten=(ZH k ls).map KI
 |[],_=>rfl
 |rs::ls,k=>by rw[List.zipIdx_cons,Qx,QM,PL ls (k+1)];show _=(XY k rs++ZH (k+1) ls).map KI;rw[Qz]
theorem qF(g:Good cs ls):WN [Ka cs ls]=some (.list ((Ky 0 ls).map KI)):=by
 refine K7 (Z:=[pb (Ka cs ls)]) rfl ?_;unfold Tt;refine Ki (W8 (Kj (UM (UK rfl) UT) rfl (RL g))) ?_
 have hc:∃Z',YU (gT 2 (gNC (gN 1) (gNC (gN 2) (gN0)))) (UN true) (KS (UA 2)) (YU (gN 3) (UN true) (KS (UA 3)) (Yy (gN 4) (UN true) (Ku (UL (UA 1) (UL (UA 4) (UH)))))) (Z8 0 (ls.map KG)) (Kf [pb (Ka cs ls)]++Uw 4 none) []=some ((ZH 0 ls).map KI,Z'):=by
  have key:=Ox (s:=gT 2 (gNC (gN 1) (gNC (gN 2) (gN0)))) (t:=UN true) (f:=KS (UA 2)) (Rd:=YU (gN 3) (UN true) (KS (UA 3)) (Yy (gN 4) (UN true) (Ku (UL (UA 1) (UL (UA 4) (UH))))))
   (λZ=>∃x1 x2 x3 x4,Z=[pb (Ka cs ls),x1,x2,x3,x4]) (Z8 0 (ls.map KG)) ((ls.zipIdx 0).map λp=>(XY p.2 p.1).map KI) (Kf [pb (Ka cs ls)]++Uw 4 none) [] (by rw[Qb,List.length_zipIdx,Yo,Qb]) ?_ ⟨none,none,none,none,rfl⟩ (by rw[PL,Qb,QN];have:=RA g;omega)
  ·obtain⟨Z',e,_⟩:=key;rw[PL,Jm]at e;exact⟨Z',e⟩
  rintro i d q hd hq Z es ⟨x1,x2,x3,x4,rfl⟩ hlen;obtain⟨z,hz,rfl⟩:=YS hd;rw[Qe]at hz;rw[Qe,List.getElem?_zipIdx]at hq;cases hls:ls[i]? with
  |none=>rw[hls]at hz;cases hz
  |some rs=>
  rw[hls]at hz hq;cases hz;cases hq;rw[QS]at *;dsimp only at hlen⊢
  have inner:=Ox (s:=gN 3) (t:=UN true) (f:=KS (UA 3)) (Rd:=Yy (gN 4) (UN true) (Ku (UL (UA 1) (UL (UA 4) (UH)))))
   (λZ=>∃x3 x4,Z=[pb (Ka cs ls),pb (.int i),pb (KG rs),x3,x4]) (rs.map K8) (rs.map λr=>r.map λt=>KI ((i:Int),t)) (Kf [pb (Ka cs ls),pb (.int i),pb (KG rs),x3,x4]) es (by rw[Qb,Qb]) ?_ ⟨YW x3,YW x4,rfl⟩ ?_
  ·obtain⟨Z3,e3,y3,y4,h3⟩:=inner;have ef:(rs.map λr=>r.map λt=>KI ((i:Int),t)).flatten=(XY i rs).map KI:=by unfold XY;rw[Q4,List.map_flatten];rfl
   rw[ef]at e3;exact⟨_,_,_,Z3,Kt rfl (UX (UR (Qa rfl) rfl) (UX (UR (Qa rfl) rfl) Kq)),rfl,Zj (UK rfl) rfl,e3,_,_,_,_,h3⟩
  ·rintro j d q hd hq Z es' ⟨y3,y4,rfl⟩ hlen';rw[Qe]at hd hq;cases hr:rs[j]? with
   |none=>rw[hr]at hd;cases hd
   |some r=>
   rw[hr]at hd hq;cases hd;cases hq
   obtain⟨Z3,e3,z4,h3⟩:=Hc (s:=gN 4) (t:=UN true) (g:=Ku (UL (UA 1) (UL (UA 4) (UH)))) (λZ=>∃x4,Z=[pb (Ka cs ls),pb (.int i),pb (KG rs),pb (K8 r),x4]) (r.map int) (r.map λt=>KI ((i:Int),t)) (Kf [pb (Ka cs ls),pb (.int i),pb (KG rs),pb (K8 r),y4]) es' (by rw[Qb,Qb]) (by
    rintro m d e hd he Z ⟨x4,rfl⟩;rw[Qe]at hd he;cases hm:r[m]? with
    |none=>rw[hm]at hd;cases hd
    |some t=>
    rw[hm]at hd he;cases hd;cases he;exact⟨_,UR (Qa rfl) rfl,rfl,YT (UM (UK rfl) (UM (UK rfl) UT)) (Qa rfl),_,rfl⟩) ⟨YW y4,rfl⟩ (by rw[Qb]at hlen'⊢;exact hlen')
   exact⟨_,_,_,Z3,UR (Qa rfl) rfl,rfl,Zj (UK rfl) rfl,e3,_,_,h3⟩
  ·have ef:(rs.map λr=>r.map λt=>KI ((i:Int),t)).flatten=(XY i rs).map KI:=by
    unfold XY;rw[Q4,List.map_flatten];rfl
   rw[ef];exact hlen
 obtain⟨Z',hc⟩:=hc;have hs:=BX (qs:=ZH 0 ls) (by have:=RA g;omega) (Fh g);rw[Am g]at hs;exact Kv (ZO (UM (Kx (D0 (Xs (UM (KH rfl UU WX) UT) Xr) hc)) UT) hs) rfl
end
def fnz:List Int->Int
 |[]=>0
 |x::r=>if x=0 then fnz r else x
inductive Ord where|firsts|full|lasts
def Ord.tx:Ord->Str
 |.firsts=> "firsts" | .full=> "full" | .lasts=> "lasts"
def Ord.isF:Ord->Bool
 |.firsts=>true|_=>false
def Ord.isU:Ord->Bool
 |.full=>true|_=>false
theorem Fg(o:Ord):oEq (.str o.tx) (.str "firsts")=some o.isF:=by cases o<;>decide +kernel
theorem Rn(o:Ord):oEq (.str o.tx) (.str "full")=some o.isU:=by cases o<;>decide +kernel
def Kk(xs ys:List Int):List Int:=(xs.zip ys).map λp=>p.1-p.2
def YZ(o:Ord)(xs ys:List Int):List Int:=match o with
 |.firsts=>Kk xs ys
 |.full=>((Kk xs ys).map λx=>-x).drop ((Kk xs ys).length-1)++Kk xs ys
 |.lasts=>((Kk xs ys).map λx=>-x).reverse
theorem qP(o:Ord):WL [.str o.tx]=some (.bool true):=by
 refine K7 (Z:=[pb (.str o.tx)]) rfl ?_;unfold Tr;have h:oIn (.str o.tx) (.tuple ((["firsts", "full", "lasts"]:List Str).map Uz))=some true:=by cases o<;>decide +kernel
 exact Kv (RF (Kx (k:=λd=>Uy (KF d "str")) (UK rfl)) (λ_=>Kx (Z6 rfl UU h))) rfl
theorem Bm(o:Ord):WK [.str o.tx]=some .none:=by
 refine SD (Z:=[pb (.str o.tx)]) rfl ?_;unfold Tq;apply Kw
 case h1=>exact Y1 (XA (Kj (UM (UK rfl) UT) rfl (qP o)))
 case h2=>intro h;cases h
 case h3=>exact λ_=>KU ⟨_,rfl⟩
def ZS:Option LO->D
 |none=>.none
 |some ws=>U7 ws
def KJ(o:Ord)(old:Option LO)(ts:List Int):D:=.tuple [.str o.tx,ZS old,.list (ts.map int)]
structure Yp(n m:Nat)(old:Option LO)(ts:List Int):Prop where
 len:∀ws,old=some ws->ws.length=m
 old:∀ws t,old=some ws->some t∈ws->0<=t/\t<n
 once:ts.Nodup
 there:∀a∈ts,0<=a/\a<m
theorem Yp.few{n m:Nat}{old:Option LO}{ts:List Int}(g:Yp n m old ts):ts.length<=m:=Sg m ts g.once g.there
theorem Bl{n m:Nat}{old:Option LO}(h1:∀ws,old=some ws->ws.length=m)(h2:∀ws t,old=some ws->some t∈ws->0<=t/\t<n)(hm:m<=1000):WJ [ZS old,.int m,.int n]=some (.bool true):=by
 refine K7 (Z:=[pb (ZS old),pb (.int m),pb (.int n)]) rfl ?_;unfold Tp;apply Kz;cases old with
 |none=>
  apply Kw
  case h1=>exact Kx (UK rfl)
  case h2=>exact λ_=>Kv UU (Vx rfl)
  case h3=>intro hh;cases hh
 |some ws=>
  have hl:=h1 ws rfl;have hlen:Kb [U7 ws]=some (.int m):=by unfold U7;rw[Zh,Qb,hl]
  apply Kw
  case h1=>exact Kx (UK rfl)
  case h2=>intro hh;cases hh
  case h3=>
   intro _;refine KU (KB ?_);apply Kz;apply Kw
   case h1=>exact X2 (Z1:=[pb (U7 ws),pb (.int m),pb (.int n)]) (Vh (UK rfl) rfl) (U2 (Zs rfl hlen) (UK rfl) T8)
   case h2=>intro hh;simp at hh
   case h3=>
    intro _;refine KU (KB ?_)
    have hc:K0 (gN 3) (UN true) (Xc (UW (λd=>.bool (isNon d)) (UA 3)) (US 2 Zy (UL (UA 3) (UL (UA 2) (UH))))) (ws.map U4) (Kf [pb (U7 ws),pb (.int m),pb (.int n)]++Uw 1 none) []=some (ws.map λ_=>.bool true):=by
     refine Y6 (λZ=>∃x,Z=[pb (U7 ws),pb (.int m),pb (.int n),x]) _ _ _ _ (by simp only[Qb]) ?_ ⟨none,rfl⟩ (by rw[Qb,QN];omega);rintro i d e hd he Z ⟨x,rfl⟩;rw[Qe]at hd he;cases hw:ws[i]? with
     |none=>rw[hw]at hd;cases hd
     |some o=>
     rw[hw]at hd he;cases hd;cases he;refine⟨_,UR (Qa rfl) rfl,rfl,?_,_,rfl⟩;cases o with
     |none=>exact Rw (t:=true) (u:=true) (Kx (k:=λd=>Uy (isNon d)) (x:=.none) (UK rfl)) (λh=>nomatch h)
     |some t=>have hb:=h2 ws t rfl (Qp hw);exact Rw (t:=false) (u:=true) (Kx (k:=λd=>Uy (isNon d)) (x:=.int t) (UK rfl)) (λ_=>Kj (UM (UK rfl) (UM (UK rfl) UT)) rfl (RN hb.1 hb.2))
    exact Kv (ZO (UM (Kx (Yk (Zj (UK rfl) rfl) hc)) UT) (RM ws)) rfl
theorem qw{m:Nat}{ts:List Int}(h1:ts.Nodup)(h2:∀a∈ts,0<=a/\a<m)(hm:m<=1000):WI [.list (ts.map int),.int m]=some (.bool true):=by
 refine K7 (Z:=[pb (.list (ts.map int)),pb (.int m)]) rfl ?_;unfold To;have hl:=Sg m ts h1 h2;apply Kz
 have hc:K0 (gN 2) (UN true) (US 2 Zy (UL (UA 2) (UL (UA 1) (UH)))) (ts.map int) (Kf [pb (.list (ts.map int)),pb (.int m)]++Uw 1 none) []=some (ts.map λ_=>.bool true):=by
  refine Y6 (λZ=>∃x,Z=[pb (.list (ts.map int)),pb (.int m),x]) _ _ _ _ (by simp only[Qb]) ?_ ⟨none,rfl⟩ (by rw[Qb,QN];omega);rintro i d e hd he Z ⟨x,rfl⟩;rw[Qe]at hd he;cases hw:ts[i]? with
  |none=>rw[hw]at hd;cases hd
  |some t=>
  rw[hw]at hd he;cases hd;cases he;have hb:=h2 t (Qp hw);exact⟨_,UR (Qa rfl) rfl,rfl,Kj (UM (UK rfl) (UM (UK rfl) UT)) rfl (RN hb.1 hb.2),_,rfl⟩
 apply Kw
 case h1=>exact X2 (Z1:=[pb (.list (ts.map int)),pb (.int m)]) (Vh (UK rfl) rfl) (Y1 (XA (ZO (UM (Kx (Yk (Zj (UK rfl) ZZ) hc)) UT) (RM ts))))
 case h2=>intro hh;cases hh
 case h3=>
  intro _;refine KU (KB ?_);have hs:Wb [.list (ts.map int)]=some (.int ts.length):=by unfold Wb;dsimp only;rw[VH];dsimp only;rw[Qm (by omega),Hf h1]
  have hlen:Kb [.list (ts.map int)]=some (.int ts.length):=by rw[Zh,Qb]
  refine Kv (Kx (U2 (ZO (UM (UK rfl) UT) hs) (Zs rfl hlen) Wa)) ?_;simp
section
variable{cs:List Int}{ls:L3}{o:Ord}{old:Option LO}{ts:List Int}
theorem Ff(g:Good cs ls)(ga:Yp cs.length ls.length old ts):WH [Ka cs ls,KJ o old ts]=some .none:=by
 refine SD (Z:=[pb (Ka cs ls),pb (KJ o old ts),none,none,none,none,none]) rfl ?_;unfold Tn;have l7:=g.l7;have c6:=g.c6;have hll:Kb [.list (ls.map KG)]=some (.int ls.length):=by rw[Zh,Qb]
 have hlc:Kb [.list (cs.map int)]=some (.int cs.length):=by rw[Zh,Qb]
 refine Ki (W8 (Kj (UM (UK rfl) UT) rfl (RL g))) ?_;apply Kz;apply Kw
 case h1=>exact X2 (Z1:=[pb (Ka cs ls),pb (KJ o old ts),none,none,none,none,none]) (Vh (UK rfl) rfl) (U2 (Zs rfl (show Kb [KJ o old ts]=some (.int 3)from rfl)) UU T8)
 case h2=>intro hh;simp at hh
 case h3=>
  intro _;refine KU (KB ?_);refine Ki (W5 (UK rfl) (Kt rfl (UX (UR (Qa rfl) rfl) (UX (UR (Qa rfl) rfl) Kq)))) ?_;refine Ki (W5 (UK rfl) (Kt rfl (UX (UR (Qa rfl) rfl) (UX (UR (Qa rfl) rfl) (UX (UR (Qa rfl) rfl) Kq))))) ?_;refine Ki (W8 (Kj (UM (UK rfl) UT) rfl (Bm o))) ?_;apply Kz;apply Kw
  case h1=>exact Y1 (XA (Kj (UM (UK rfl) (UM (Zs rfl hll) (UM (Zs rfl hlc) UT))) rfl (Bl ga.len ga.old (by omega))))
  case h2=>intro hh;cases hh
  case h3=>
   intro _;refine KU (KB ?_);apply Kw
   case h1=>exact Y1 (XA (Kj (UM (UK rfl) (UM (Zs rfl hll) UT)) rfl (qw ga.once ga.there (by omega))))
   case h2=>intro hh;cases hh
   case h3=>exact λ_=>KU ⟨_,rfl⟩
end
theorem NN{t:Int}{r:List Int}:oIn (.int t) (.list (r.map int))=some (r.contains t):=PP t r
theorem Dm{op:Int->Int->Option D}{j:Nat}{f:M D}{Z Z1 Z':UG}{a b:Int}{d:D}(h0:Z[j]?=some (some (.pub (.int a))))(h1:f Z=.ok (.int b) Z1)(h2:op a b=some d)(h3:j<Z1.length)(h4:Z1.set j (some (.pub d))=Z'):Y8 op j f Z=.nx Z':=by unfold Y8;rw[h0];dsimp only[sB];rw[h1];dsimp only;rw[h2];dsimp only;rw[Qm h3,h4]
theorem mulN{i j:Int}(h : -1000<j/\j<1000):Yd i j=some (.int (i*j)):=by unfold Yd;exact Qm (.inr ⟨by omega,by omega⟩)
theorem SS{b n:Int}(hb : -1000<b/\b<1000)(hn : -1000<=n/\n<=1000):Zg [.int b,.int n]=some (.int (b ^ n.toNat)):=by
 refine K7 (Z:=[pb (.int b),pb (.int n),none,none]) rfl ?_;unfold Tl;refine Ki (KR UU (Qa rfl) rfl) ?_;apply Kz;apply Zv (λi Z=>∃x3,Z=[pb (.int b),pb (.int n),pb (.int (b ^ i)),x3])
 case h1=>exact W9 (UM (UK rfl) UT) (Vi (by omega) (by omega))
 case h0=>exact⟨_,by rw[Int.pow_zero];rfl⟩
 case hst=>rintro i d Z hi ⟨x3,rfl⟩;refine⟨_,UR (Qa rfl) rfl,?_⟩;unfold Nx;refine ZA (Dm rfl (UK rfl) (mulN hb) (Qa rfl) rfl) ?_;exact K5 ⟨_,by rw[Int.pow_succ];rfl⟩
 case hend=>
  rintro Z ⟨x3,rfl⟩;refine KB (Kv (UK rfl) ?_);rw[X7]
  congr 4
  omega
def Zm:Ord->Int->Int->Int->Int
 |.firsts,b,M,r=>b ^ (M-r).toNat
 |.full,b,M,r=>b ^ M.toNat+b ^ (M-r).toNat
 |.lasts,b,M,r=>b ^ M.toNat-b ^ (r-1).toNat
theorem qv(o:Ord){b M r:Int}(hb : -1000<b/\b<1000)(hM:0<=M/\M<=100)(hr:0<=r/\r<=100):WG [.str o.tx,.int b,.int M,.int r]=some (.int (Zm o b M r)):=by
 refine K7 (Z:=[pb (.str o.tx),pb (.int b),pb (.int M),pb (.int r)]) rfl ?_;unfold Tk;have p1:Zg [.int b,.int (M-r)]=some (.int (b ^ (M-r).toNat)):=SS hb ⟨by omega,by omega⟩;have p2:Zg [.int b,.int M]=some (.int (b ^ M.toNat)):=SS hb ⟨by omega,by omega⟩;have p3:Zg [.int b,.int (r-1)]=some (.int (b ^ (r-1).toNat)):=SS hb ⟨by omega,by omega⟩;apply Kz;apply Kw
 case h1=>exact Z6 rfl UU (Fg o)
 case h2=>
  intro h;cases o with
  |firsts=>exact Kv (Kj (UM (UK rfl) (UM (U2 (UK rfl) (UK rfl) YC) UT)) rfl p1) (Vx rfl)
  |full=>cases h
  |lasts=>cases h
 case h3=>
  intro h;refine KU (KB ?_);apply Kz;apply Kw
  case h1=>exact Z6 rfl UU (Rn o)
  case h2=>
   intro h';cases o with
   |full=>exact Kv (U2 (Kj (UM (UK rfl) (UM (UK rfl) UT)) rfl p2) (Kj (UM (UK rfl) (UM (U2 (UK rfl) (UK rfl) YC) UT)) rfl p1) Zp) (Vx rfl)
   |firsts=>cases h
   |lasts=>cases h'
  case h3=>
   intro h';refine KU (KB ?_);cases o with
   |firsts=>cases h
   |full=>cases h'
   |lasts=>exact Kv (U2 (Kj (UM (UK rfl) (UM (UK rfl) UT)) rfl p2) (Kj (UM (UK rfl) (UM (U2 (UK rfl) UU YC) UT)) rfl p3) YC) rfl
def WW(ts:List Int)(b i r:Int):Int:=if i∈ts then(b-r)*b ^ (ts.length-1-ts.idxOf i)else 0
theorem Hm{n:Nat}:∀{xs:List D},(∀x∈xs,PyData.weight x<=n)->PyData.weightAll xs<=xs.length*(n+1)
 |[],_=>by simp[PyData.weightAll]
 |x::xs,h=>by have h1:=h x Qo;have h2:=Hm (xs:=xs) λy hy=>h y (Qk _ hy);rw[PyData.weightAll,QC,Nat.succ_mul];omega
theorem Al{i:Int}(h:0<=i/\i<1000):(int i).weight<=10:=by
 simp only[PyData.weight];split
 ·omega
 ·rename_i hne;have h0:i.natAbs≠0:=by intro e;exact hne (by simpa using e)
  have:=(Nat.log2_lt h0 (k:=10)).mpr (by omega);omega
theorem qD{ts:List Int}(h:∀a∈ts,0<=a/\a<1000)(hl:ts.length<=1000):PyData.layable0 (.list (ts.map int))=true:=by
 unfold PyData.layable0;have h1:(Ux (ts.map int)).canLay0=true:=RO λx hx=>by obtain⟨y,_,rfl⟩:=Qt.mp hx;rfl
 have h2:(Ux (ts.map int)).depth<=64:=QP (Np (n:=1) (Oq λx hx=>by obtain⟨y,_,rfl⟩:=Qt.mp hx;exact Nq y)) (by decide)
 have h3:(Ux (ts.map int)).weight<=2 ^ 20:=by
  have:=Hm (n:=10) (xs:=ts.map int) λx hx=>by obtain⟨y,hy,rfl⟩:=Qt.mp hx;exact Al (h y hy)
  rw[Qb]at this;simp only[PyData.weight];omega
 rw[h1,Q7 h2,Q7 h3];rfl
theorem CO{ts:List Int}{k:Int}(hb:∀a∈ts,0<=a/\a<1000)(hl:ts.length<=1000)(h:k∈ts):T7 (.list (ts.map int)) [.int k]=some (.int (ts.idxOf k:Nat)):=by unfold T7;dsimp only;rw[VH];dsimp only;exact Qm ⟨qD hb hl,h⟩
theorem CN{t:Int}{r:List Int}:YI (.int t) (.list (r.map int))=some (!r.contains t):=by unfold YI;rw[NN];rfl
theorem qu{ts:List Int}{b i r:Int}(hb : -1000<b/\b<1000)(hr : -1000<r/\r<1000)(hl:ts.length<=100)(ht:∀a∈ts,0<=a/\a<1000):WF [.list (ts.map int),.int b,.int i,.int r]=some (.int (WW ts b i r)):=by
 refine K7 (Z:=[pb (.list (ts.map int)),pb (.int b),pb (.int i),pb (.int r),none]) rfl ?_;unfold Tj WW;apply Kz;apply Kw
 case h1=>exact Z6 rfl (UK rfl) CN
 case h2=>
  intro h;have:¬i∈ts:=by simpa using h
  rw[Qu this];exact Kv UU (Vx rfl)
 case h3=>
  intro h;have hm:i∈ts:=by simpa using h
  rw[Qm hm];refine KU (KB ?_);have hi:=List.idxOf_lt_length_of_mem hm;have hlen:Kb [.list (ts.map int)]=some (.int ts.length):=by rw[Zh,Qb]
  refine Ki (KR (U2 (U2 (Zs rfl hlen) UU YC) (Cu (UK rfl) (UM (UK rfl) UT) (CO ht (by omega) hm)) YC) (Qa rfl) rfl) ?_;have hp:=SS (b:=b) (n:=(ts.length:Int)-1-(ts.idxOf i:Nat)) hb ⟨by omega,by omega⟩;have e:((ts.length:Int)-1-(ts.idxOf i:Nat)).toNat=ts.length-1-ts.idxOf i:=by omega
  rw[e]at hp;exact Kv (U2 (U2 (UK rfl) (UK rfl) YC) (Kj (UM (UK rfl) (UM (UK rfl) UT)) rfl hp) (S9 (by omega) (by omega))) rfl
def YY(old:Option LO)(i:Nat)(t:Int):Int:=match old with
 |none=>0
 |some ws=>if ws[i]?=some (some t)then 1 else 0
section
variable{cs:List Int}{ls:L3}{o:Ord}{old:Option LO}{ts:List Int}
def KO(ls:L3)(o:Ord)(old:Option LO)(ts:List Int)(i:Nat)(rs:List (List Int))(t:Int):Int:=
 (Zm o (ls.length+1) (lng ls) (KE t rs)*(ls.length+1)+YY old i t)*((lng ls:Int)+1) ^ ts.length+WW ts (lng ls+1) i (KE t rs)
theorem Ly{b:Int}(h0:0<=b)(h:b<=8):∀{n k:Nat},n<=k->b ^ n<=8 ^ k:=λ{n k} hk=>by
 have e:b=((b.toNat:Nat):Int):=by omega
 rw[e];have h1:b.toNat ^ n<=8 ^ n:=Nat.pow_le_pow_left (by omega) n;have h2:8 ^ n<=8 ^ k:=Nat.pow_le_pow_right (by omega) hk;have h3:((b.toNat ^ n:Nat):Int)<=((8 ^ k:Nat):Int):=by omega
 rw[Int.natCast_pow,Int.natCast_pow]at h3;exact h3
theorem Bk(g:Good cs ls)(ga:Yp cs.length ls.length old ts){i:Nat}{rs:List (List Int)}(hi:ls[i]?=some rs)(t:Int):XU [Ka cs ls,KJ o old ts,.int (lng ls:Nat),.int i,.int t]=some (.int (KO ls o old ts i rs t)):=by
 have l7:=g.l7;have l1:=g.l1;have hL:lng ls<=5:=Sx l1 λrs h=>(g.rk rs h).few;have hrk:KE t rs<=5:=by have:=RK t rs;have:=(g.rk rs (Qp hi)).few;omega
 have htl:=ga.few;have hlt:i<ls.length:=(Qg.mp hi).1;refine K7 (Z:=[pb (Ka cs ls),pb (KJ o old ts),pb (.int (lng ls:Nat)),pb (.int i),pb (.int t),none,none,none,none,none,none,none,none]) rfl ?_;unfold Ti KO;refine Ki (W5 (UK rfl) (Kt rfl (UX (UR (Qa rfl) rfl) (UX (UR (Qa rfl) rfl) (UX (UR (Qa rfl) rfl) Kq))))) ?_;refine Ki (KR (KH rfl UU WX) (Qa rfl) rfl) ?_;refine Ki (KR (Kj (UM (KH rfl (UK rfl) (OO hi)) (UM (UK rfl) UT)) rfl (Aq t rs)) (Qa rfl) rfl) ?_;have hll:Kb [.list (ls.map KG)]=some (.int ls.length):=by rw[Zh,Qb]
 have htl':Kb [.list (ts.map int)]=some (.int ts.length):=by rw[Zh,Qb]
 refine Ki (KR (U2 (Zs rfl hll) UU Zp) (Qa rfl) rfl) ?_
 have hk:∀Z:UG,Z[6]?=some (some (.pub (ZS old)))->Z[3]?=some (some (.pub (.int i)))->Z[4]?=some (some (.pub (.int t))) ->
   mIf (Zd (UW (λd=>!isNon d) (UA 6)) (UO oEq (UZ 6 (UA 3)) (UA 4))) (UN (int 1)) (UN (.int 0)) Z=.ok (.int (YY old i t)) Z:=λZ r6 r3 r4=>by
  cases old with
  |none=>exact Pl (RE (Kx (UK r6))) UU
  |some ws=>
   have hw:ws.length=ls.length:=ga.len ws rfl;have hwi:ws[i]?=some ws[i]:=Qd (by omega);have hx:oIx (.list (ws.map U4)) (.int i)=some (U4 ws[i]):=Pg (by omega)
   have ht:(Zd (UW (λd=>!isNon d) (UA 6)) (UO oEq (UZ 6 (UA 3)) (UA 4))) Z=.ok (decide (ws[i]=some t)) Z:=
    RD (Kx (UK r6)) (U2 (KH r6 (UK r3) hx) (UK r4) (Pi (b:=some t)))
   rw[HB ht UU UU]
   congr 1
   unfold YY;dsimp only;rw[hwi];by_cases h:ws[i]=some t
   ·rw[Q7 h,Qm rfl,Qm (by rw[h])]
   ·rw[QH h,Qu (by decide),Qu (λe=>h (QT e))]
 refine Ki (KR (hk _ rfl rfl rfl) (Qa rfl) rfl) ?_;have h1:=qv o (b:=(ls.length:Int)+1) (M:=(lng ls:Nat)) (r:=(KE t rs:Nat)) ⟨by omega,by omega⟩ ⟨by omega,by omega⟩ ⟨by omega,by omega⟩;have h2:=SS (b:=(lng ls:Int)+1) (n:=(ts.length:Nat)) ⟨by omega,by omega⟩ ⟨by omega,by omega⟩;have h3:=qu (ts:=ts) (b:=(lng ls:Int)+1) (i:=i) (r:=(KE t rs:Nat)) ⟨by omega,by omega⟩ ⟨by omega,by omega⟩ (by omega) (λa ha=>by have:=ga.there a ha;omega);rw[Qy]at h2;refine Ki (KR (U2 (U2 (Kj (UM (UK rfl) (UM (UK rfl) (UM (UK rfl) (UM (UK rfl) UT)))) rfl h1) (UK rfl) (Sj (by omega) (by omega))) (UK rfl) Zp) (Qa rfl) rfl) ?_;have hp:((lng ls:Int)+1) ^ ts.length<=8 ^ 7:=Ly (by omega) (by omega) (by omega);have hp0:0<=((lng ls:Int)+1) ^ ts.length:=Int.pow_nonneg (by omega);exact Kv (U2 (U2 (UK rfl) (Kj (UM (U2 (UK rfl) UU Zp) (UM (Zs rfl htl') UT)) rfl h2) (Sj (by omega) (by omega))) (Kj (UM (UK rfl) (UM (U2 (UK rfl) UU Zp) (UM (UK rfl) (UM (UK rfl) UT)))) rfl h3) Zp) rfl
end
theorem SW{s:D->UG->Option UG}{t:M Bool}{g:M D}(I:UG->Prop):∀(ds:List D)(qs:List (Option D))(Z:UG)(es:List D),qs.length=ds.length ->
  (∀(i:Nat) d e,ds[i]?=some d->qs[i]?=some e->∀Z,I Z->∃Z1,s d Z=some Z1/\t Z1=.ok e.isSome Z1/\(∀x,e=some x->g Z1=.ok x Z1)/\I (Kf Z1))->I Z->es.length+ds.length<=1000000->K0 s t g ds Z es=some (es++qs.filterMap id)
 |[],[],Z,es,_,_,_,_=>by rw[K0];simp
 |d::r,e::q,Z,es,hl,st,h0,hz=>by
  obtain⟨Z1,e1,e2,e3,h1⟩:=st 0 d e rfl rfl Z h0;rw[QC]at hz;have ih:=λes' hz'=>SW I r q (Kf Z1) es' (by simpa using hl) (λi d' e' x y=>st (i+1) d' e' (by simpa using x) (by simpa using y)) h1 hz'
  rw[K0,e1];dsimp only;rw[e2];dsimp only;cases e with
  |none=>rw[if_neg (show ¬(none:Option D).isSome=true by simp),ih es (by omega)];rfl
  |some x=>rw[Qm (show(some x).isSome=true from rfl),e3 x rfl];dsimp only;rw[Qm (by omega),ih (es++[x]) (by rw[Ql,Jh];omega),Jk];rfl
def Kl(W:Nat->List (List Int)->Int->Int):Nat->L3->LO->LO
 |k,rs::ls,o::r=>(o.map (W k rs))::Kl W (k+1) ls r
 |_,_,_=>[]
def Km(l:LO):Int:=(l.filterMap id).sum
theorem VF{o:Option Int}{l:LO}:Km (o::l)=o.getD 0+Km l:=by
 cases o with
 |none=>show Km l=0+Km l;omega
 |some x=>show(x::l.filterMap id).sum=_;rw[Ja];rfl
section
variable{cs:List Int}{ls:L3}{o:Ord}{old:Option LO}{ts:List Int}{ws:LO}
def Zb(ls:L3)(o:Ord)(old:Option LO)(ts:List Int)(a t:Int):Int:=KO ls o old ts a.toNat (ls.getD a.toNat []) t
def Za(V:Int->Int->Int)(q:Int×Int):D:=.tuple [.int q.1,.int q.2,.int (V q.1 q.2)]
theorem qO(g:Good cs ls)(ga:Yp cs.length ls.length old ts):WE [Ka cs ls,KJ o old ts]=some (.list ((Ky 0 ls).map (Za (Zb ls o old ts)))):=by
 refine K7 (Z:=[pb (Ka cs ls),pb (KJ o old ts),none]) rfl ?_;unfold Th;refine Ki (W8 (Kj (UM (UK rfl) (UM (UK rfl) UT)) rfl (Ff g ga))) ?_;refine Ki (KR (Kj (UM (UK rfl) UT) rfl (An g)) (Qa rfl) rfl) ?_;have few:(Ky 0 ls).length<=42:=by rw[(SX ls 0).length_eq];exact RA g
 have hc:K0 (gT 2 (gNC (gN 3) (gNC (gN 4) (gN0)))) (UN true) (Ku (UL (UA 3) (UL (UA 4) (UL (US 5 XU (UL (UA 0) (UL (UA 1) (UL (UA 2) (UL (UA 3) (UL (UA 4) (UH))))))) (UH))))) ((Ky 0 ls).map KI) (Kf [pb (Ka cs ls),pb (KJ o old ts),pb (.int (lng ls:Nat))]++Uw 2 none) []=some ((Ky 0 ls).map (Za (Zb ls o old ts))):=by
  refine Y6 (λZ=>∃x y,Z=[pb (Ka cs ls),pb (KJ o old ts),pb (.int (lng ls:Nat)),x,y]) _ _ _ _ (by simp only[Qb]) ?_ ⟨none,none,rfl⟩ (by rw[Qb,QN];omega);rintro i d e hd he Z ⟨x,y,rfl⟩;rw[Qe]at hd he;cases hw:(Ky 0 ls)[i]? with
  |none=>rw[hw]at hd;cases hd
  |some q=>
  rw[hw]at hd he;cases hd;cases he;obtain⟨a,t⟩:=q;obtain⟨j,rs,hj,ha,ht⟩:=Ve (Qp hw);have ha:a=(j:Int):=by rw[QS]at ha;exact ha
  subst ha;have hv:Zb ls o old ts j t=KO ls o old ts j rs t:=by unfold Zb;rw[Qy,Qh,hj];rfl
  refine⟨_,Kt rfl (UX (UR (Qa rfl) rfl) (UX (UR (Qa rfl) rfl) Kq)),rfl,?_,_,_,rfl⟩;unfold Za;dsimp only;rw[hv];exact YT (UM (UK rfl) (UM (UK rfl) (UM (Kj (UM (UK rfl) (UM (UK rfl) (UM (UK rfl) (UM (UK rfl) (UM (UK rfl) UT))))) rfl (Bk g ga hj t)) UT))) (Qa rfl)
 exact Kv (Kx (Yk (Zj (Kj (UM (UK rfl) UT) rfl (qF g)) ZZ) hc)) rfl
end
theorem Mt{n:Nat}:ixN (n+1) (-1)=some n:=by
 unfold ixN;rw[Qu (by omega),Qm (by omega)]
 congr 1
 omega
theorem Dl{op:Int->Int->Option D}{j:Nat}{f g:M D}{Z Z':UG}{xs:List Int}{p:Nat}{k d b:Int}(h0:Z[j]?=some (some (.own (xs.map int))))(h1:g Z=.ok (.int k) Z)(hk:ixN xs.length k=some p)(h4:f Z=.ok (.int b) Z)(h5:∀a,op a b=some (.int (a+d)))
  (h8:Z.set j (some (.own ((Xn xs p d).map int)))=Z'):WV op j g f Z=.nx Z':=by
 have hp:=(P0 hk).2.1;refine Nm (n:=p) h0 h1 h0 (a:=xs.getD p 0) ?_ h4 (h5 _) h0 (by rw[Qb];exact hk) ?_
 ·unfold atI;rw[Qb,hk]
  show(xs.map int)[p]?=_
  rw[List.getElem?_map,List.getElem?_eq_getElem hp];simp[List.getD,List.getElem?_eq_getElem hp]
 ·rw[←h8,P7];rfl
section
variable{cs:List Int}{ls:L3}{ws:LO}
theorem Hw(g:Good cs ls):Xk [Ka cs ls]=some (.int (lng ls:Nat)):=by
 refine K7 (Z:=[pb (Ka cs ls)]) rfl ?_;unfold VY
 have hc:K0 (gN 1) (UN true) (K9 1) (ls.map KG) (Kf [pb (Ka cs ls)]++Uw 1 none) []=some ((ls.map λrs=>(rs.length:Int)).map int):=by
  refine Y6 (λZ=>∃x,Z=[pb (Ka cs ls),x]) _ _ _ _ (by rw[Qb,Qb,Qb]) ?_ ⟨none,rfl⟩ (by rw[Qb,QN];have:=g.l7;omega);rintro i d e hd he Z ⟨x,rfl⟩;rw[Qe]at hd;rw[Qe,Qe]at he;cases hl:ls[i]? with
  |none=>rw[hl]at hd;cases hd
  |some rs=>
  rw[hl]at hd he;cases hd;cases he;exact⟨_,UR (Qa rfl) rfl,rfl,Zs rfl (LA rs),_,rfl⟩
 refine Kv (ZO (UM (Kx (Yk (Zj (KH rfl UU WX) ZZ) hc)) UT) (MY (by rw[Qb];have:=g.l1;omega))) ?_;rw[PM g.l1]
theorem LR{i:Nat}{rs:List (List Int)}(h:ls[i]?=some rs)(t:Int):Xl [Ka cs ls,.int i,.int t]=some (.int (KE t rs:Nat)):=by
 refine K7 (Z:=[pb (Ka cs ls),pb (.int i),pb (.int t),none,none]) rfl ?_;unfold VZ;apply Kz;apply Zv (λi' Z=>(∃x2 x3,Z=[pb (Ka cs ls),pb (.int i),pb (.int t),x2,x3])/\∀j r,j<i'->rs[j]?=some r->r.contains t=false)
 case h1=>exact Xs (UM (U2 (KH rfl UU WX) (UK rfl) (OO h)) UT) Xr
 case h0=>exact⟨⟨_,_,rfl⟩,λj r h=>absurd h (J5 _)⟩
 case hst=>
  rintro k d Z hi ⟨⟨x2,x3,rfl⟩,hb⟩;obtain⟨x,hx,rfl⟩:=YS hi;rw[Qe]at hx;cases hr:rs[k]? with
  |none=>rw[hr]at hx;cases hx
  |some r=>
   rw[hr]at hx;cases hx;refine⟨_,Kt rfl (UX (UR (Qa rfl) rfl) (UX (UR (Qa rfl) rfl) Kq)),?_⟩;unfold Ma;apply Kw
   case h1=>exact Z6 rfl (UK rfl) (PP t r)
   case h2=>
    intro hh;refine Kv (U2 (UK rfl) UU Zp) (S8 ?_);rw[M4 hr hh hb];refine⟨?_⟩
    congr 2
    omega
   case h3=>
    intro hh;refine KU (K5 ⟨⟨_,_,rfl⟩,λj r' hj e=>?_⟩);rcases JQ.mp hj with hj|rfl
    ·exact hb j r' hj e
    ·rw[hr]at e;cases e;exact hh
 case hend=>rintro Z ⟨⟨x2,x3,rfl⟩,hb⟩;refine KB (Kv UU ?_);rw[M3 (λj r hj e=>hb j r (by rw[Yo,Qb];exact hj) e)];rfl
def Ke(n:Nat)(qs:List Nat):List Int:=(Uv n).map λp=>((qs.count p:Nat):Int)
theorem Yv(n:Nat)(qs:List Nat):(Ke n qs).length=n:=by unfold Ke;rw[Qb,Qq]
theorem Vv{n p:Nat}{qs:List Nat}(h:p<n):(Ke n qs)[p]?=some ((qs.count p:Nat):Int):=by unfold Ke;rw[Qe,QQ h];rfl
theorem Ms(n:Nat):Ke n []=Uw n 0:=by unfold Ke;rw[List.eq_replicate_iff];exact⟨by rw[Qb,Qq],λb hb=>by obtain⟨p,_,rfl⟩:=Qt.mp hb;rfl⟩
theorem Lx{n p:Nat}{qs:List Nat}:Xn (Ke n qs) p 1=Ke n (qs++[p]):=by
 apply Jq;intro k;by_cases hk:k<n
 ·rw[Lz (Vv hk),Vv hk,List.count_append]
  congr 1
  by_cases e:k=p
  ·rw[Qm e,e,List.count_singleton_self];omega
  ·rw[Qu e,List.count_singleton];have:(p==k)=false:=by rw[beq_eq_false_iff_ne];exact λz=>e z.symm
   rw[this];show _=(((_+0:Nat)):Int);omega
 ·rw[QB (by rw[Op,Yv];omega),QB (by rw[Yv];omega)]
theorem Bj{L:Nat}{got:List Int}(h:okR L got):Ke (L+1) (got.map (plc L))=U1 L got:=by
 apply Jq;intro k;by_cases hk:k<L+1
 ·rw[Vv hk,CQ h hk]
 ·rw[QB (by rw[Yv];omega),QB (by rw[Xq];omega)]
theorem Oi(hl:ws.length=ls.length):(UQ ls ws).length=ls.length:=by unfold UQ;rw[List.length_zipWith];omega
theorem Sk(g:Good cs ls)(dl:Deal cs ls ws):ZU [Ka cs ls,U7 ws]=some (.list ((U1 (lng ls) (UQ ls ws)).map int)):=by
 have hL:lng ls<=5:=Sx g.l1 λrs h=>(g.rk rs h).few;have l7:=g.l7;refine K7 (Z:=[pb (Ka cs ls),pb (U7 ws),none,none,none]) rfl ?_;unfold VU;have hadd:U0 (.int (lng ls:Nat)) (.int 1)=some (.int ((lng ls+1:Nat):Int)):=by rw[Zp];rfl
 refine Ki (Z7 (Pw (n:=lng ls+1) (ZI (UM UU UT) (Qa rfl)) (U2 (Kj (UM (UK rfl) UT) rfl (Hw g)) UU hadd) (by omega)) (Qa rfl) rfl) ?_;apply Kz;apply Zv (λi Z=>∃x3 x4,Z=[pb (Ka cs ls),pb (U7 ws),some (.own ((Ke (lng ls+1) (((UQ ls ws).take i).map (plc (lng ls)))).map int)),x3,x4])
 case h1=>exact Xs (UM (UK rfl) UT) Xr
 case h0=>exact⟨_,_,by rw[JS,JJ,Ms,List.map_replicate];rfl⟩
 case hst=>
  rintro i d Z hi ⟨x3,x4,rfl⟩;obtain⟨z,hz,rfl⟩:=YS hi;rw[Qe]at hz;cases hwi:ws[i]? with
  |none=>rw[hwi]at hz;cases hz
  |some o=>
  rw[hwi]at hz;cases hz;have hil:i<ls.length:=by have:=(Qg.mp hwi).1;have:=dl.len;omega
  have hls:ls[i]?=some ls[i]:=Qd hil;have hg:=Mx hls hwi;have hnext:(((UQ ls ws).take (i+1)).map (plc (lng ls)))=((UQ ls ws).take i).map (plc (lng ls))++[plc (lng ls) (rg ls[i] o)]:=by rw[JG,hg,Qz];rfl
  rw[QS];refine⟨_,Kt rfl (UX (UR (Qa rfl) rfl) (UX (UR (Qa rfl) rfl) Kq)),?_⟩;unfold N9;generalize ((UQ ls ws).take i).map (plc (lng ls))=qs at hnext⊢;cases o with
  |none=>
   apply Kw
   case h1=>exact Kx (k:=isNon) (x:=PyData.none) (UK rfl)
   case h3=>intro h;cases h
   case h2=>intro _;have e:plc (lng ls) (rg ls[i] none)=lng ls:=rfl;refine ZA (Dl (p:=lng ls) (k:=-1) rfl (Y2 UU) (by rw[Yv];exact Mt) UU (d:=1) (λa=>rfl) rfl) ?_;refine K5 ⟨some (.pub (.int i)),some (.pub .none),?_⟩;rw[hnext,e,←Lx];rfl
  |some t=>
   apply Kw
   case h1=>exact Kx (k:=isNon) (x:=int t) (UK rfl)
   case h2=>intro h;cases h
   case h3=>
    intro _;have hr:=RY (dl.wish i t ls[i] hwi hls);have hle:=RK t ls[i];have hlg:=Pf (Qp hls);have e:plc (lng ls) (rg ls[i] (some t))=KE t ls[i]-1:=by show plc (lng ls) ((KE t ls[i]:Nat):Int)=_;unfold plc;rw[Qu (by omega)];omega
    have hsub:KZ (.int (KE t ls[i]:Nat)) (.int 1)=some (.int ((KE t ls[i]-1:Nat):Int)):=by rw[YC];congr 2;omega
    refine ZA (EN (p:=KE t ls[i]-1) rfl (U2 (Kj (UM (UK rfl) (UM (UK rfl) (UM (UK rfl) UT))) rfl (LR hls t)) UU hsub) (by rw[Yv];omega) UU (d:=1) (λa=>rfl) rfl) ?_;refine K5 ⟨some (.pub (.int i)),pb (.int t),?_⟩;rw[hnext,e,←Lx];rfl
 case hend=>rintro Z ⟨x3,x4,rfl⟩;refine KB (Kv (Yl rfl rfl) ?_);rw[Yo,Qb,List.take_of_length_le (by rw[Oi dl.len];have:=dl.len;omega),Bj SK]
end
section
variable{cs:List Int}{ls:L3}{ws us:LO}
theorem ix_c{t:Int}(h0:0<=t)(h:t<cs.length):oIx (.list (cs.map int)) (.int t)=some (.int (cs.getD t.toNat 0)):=by
 have e:t=((t.toNat:Nat):Int):=by omega
 rw[e];refine ZB ?_;rw[Qe,Qd (by omega),Qh,Qy,Qd (by omega)];rfl
theorem Ak{t:Int}{fl:List Int}:YI (.int t) (.list ((Yj fl).map int))=some (!fl.contains t):=by
 have e:(Yj fl).contains t=fl.contains t:=by rw[JD];simp only[List.contains_iff_mem];exact(XB fl).mem_iff
 unfold YI;rw[NN,e];rfl
theorem qN(i:Int):Wt [.int i]=some (.bool true):=by refine K7 (Z:=[pb (.int i)]) rfl ?_;unfold VT;exact Kv (RF (Kx (k:=λd=>Uy (KF d "int")) (UK rfl)) (λ_=>NX (Kx (k:=λd=>Uy (KF d "bool")) (UK rfl)))) rfl
end
theorem Ph(o:Ord):oEq (.str o.tx) (.str "lasts")=some (match o with | .lasts=>true|_=>false):=by cases o<;>decide +kernel
def ZL(c:List Int):Int:=c.getD (c.length-1) 0
def ZR:Ord->List Int->List Int
 |.firsts,c=>c
 |.full,c=>(0-ZL c)::c
 |.lasts,c=>c.reverse.map λx=>0-x
def K1(old:Option LO)(ws:LO):Nat:=match old with
 |none=>0
 |some os=>((os.zip ws).filter λp=>decide (p.1=p.2)&&p.2.isSome).length
def KW(ls:L3)(ws:LO)(a:Int):Int:=match ws.getD a.toNat none with
 |none=>0
 |some t=>(lng ls:Int)+1-(KE t (ls.getD a.toNat []):Nat)
theorem DC{c:List Int}(h:c≠[]):oIx (.list (c.map int)) (.int (-1))=some (.int (ZL c)):=by
 have hl:0<c.length:=Ue.mpr h;show atI (c.map int) (-1)=_;obtain⟨n,hn⟩:∃n,c.length=n+1:=⟨c.length-1,by omega⟩
 unfold atI;rw[Qb,hn,Mt]
 show(c.map int)[n]?=_
 unfold ZL;rw[Qe,hn,Nat.add_sub_cancel,Qh,Qd (by omega)];rfl
theorem Bh(os ws:LO):Ym (os.map U4) (ws.map U4)=(os.zip ws).map λp=>.tuple [U4 p.1,U4 p.2]:=by unfold Ym;rw[List.zip_map,Q4];rfl
theorem NM{α β:Type}{l:List α}{p:α->Bool}{f:α->β}:(l.map λx=>if p x=true then some (f x)else none).filterMap id=(l.filter p).map f:=by
 induction l with
 |nil=>rfl
 |cons x r ih=>
  rw[Qx];by_cases h:p x=true
  ·rw[Qm h,List.filter_cons_of_pos h,Qx,←ih];rfl
  ·rw[Qu h,List.filter_cons_of_neg h,←ih];rfl
section
variable{cs:List Int}{ls:L3}{ws:LO}{o:Ord}{old:Option LO}{ts:List Int}
theorem DB(g:Good cs ls):(U1 (lng ls) (UQ ls ws)).length<=6:=by have hL:lng ls<=5:=Sx g.l1 λrs h=>(g.rk rs h).few;rw[Xq];omega
theorem Lw(g:Good cs ls)(dl:Deal cs ls ws)(ga:Yp cs.length ls.length old ts){K6:List Int}{k7:Int}{x6 x8 x10 x11:Option Sl}{x3 x4:Option Sl}(h6:x6=some (.pub (.list (K6.map int)))∨x6=some (.own (K6.map int)))(hK:K6.length<=100) :
  Ho (UP (Kn (KS (UA 5)) (gN 10) RC) (UY (UO U0 (UO U0 (UA 6) (Ks (UL (UA 7) (UH)))) (UA 9))))
   [pb (Ka cs ls),pb (KJ o old ts),pb (U7 ws),x3,x4,pb (.list (ts.map int)),x6,pb (.int k7),x8,some (.own []),x10,x11] (λr=>r=Out.rt (.list ((K6++[k7]++ts.map (KW ls ws)).map int))):=by
 have l7:=g.l7;have few:=ga.few;apply Kz;apply Zv (λi Z=>∃y10 y11,Z=[pb (Ka cs ls),pb (KJ o old ts),pb (U7 ws),x3,x4,pb (.list (ts.map int)),x6,pb (.int k7),x8,some (.own (((ts.take i).map (KW ls ws)).map int)),y10,y11])
 case h1=>exact Zj (UK rfl) ZZ
 case h0=>exact⟨_,_,rfl⟩
 case hst=>
  rintro i d Z hi ⟨y10,y11,rfl⟩;rw[Qe]at hi;cases hti:ts[i]? with
  |none=>rw[hti]at hi;cases hi
  |some z=>
  rw[hti]at hi;cases hi;have hz:=ga.there z (Qp hti);obtain⟨a,rfl⟩:∃a:Nat,z=a:=⟨z.toNat,by omega⟩
  have hal:a<ls.length:=by omega
  have hls:ls[a]?=some ls[a]:=Qd hal;have hwl:a<ws.length:=by have:=dl.len;omega
  have hwa:ws[a]?=some ws[a]:=Qd hwl;have hix:oIx (U7 ws) (.int a)=some (U4 ws[a]):=Pg hwl;have hwd:ws.getD a none=ws[a]:=by rw[Qh,hwa];rfl
  have hld:ls.getD a []=ls[a]:=by rw[Qh,hls];rfl
  have hnext:((ts.take (i+1)).map (KW ls ws))=(ts.take i).map (KW ls ws)++[KW ls ws a]:=by rw[JG,hti,Qz];rfl
  have htl:(((ts.take i).map (KW ls ws)).map int).length<1000000:=by rw[Qb,Qb,Q0];omega
  have htr:KW ls ws a=match ws[a]with|none=>0|some t=>(lng ls:Int)+1-(KE t ls[a]:Nat):=by unfold KW;rw[Qy,hwd,hld]
  refine⟨_,UR (Qa rfl) rfl,?_⟩;unfold RC;refine Ki (KR UU (Qa rfl) rfl) ?_;rw[hnext,Qz];generalize ((ts.take i).map (KW ls ws)).map int=T at htl⊢;generalize hwo:ws[a]=w at hix htr;cases w with
  |none=>
   apply Kz;apply Kw
   case h1=>exact Kx (k:=λd=>!isNon d) (x:=PyData.none) (KH rfl (UK rfl) hix)
   case h2=>intro h;cases h
   case h3=>intro _;refine KU (KB ?_);refine ZA (X3 rfl (UK rfl) rfl htl rfl) ?_;rw[htr];exact K5 ⟨_,_,rfl⟩
  |some t=>
   apply Kz;apply Kw
   case h1=>exact Kx (k:=λd=>!isNon d) (x:=int t) (KH rfl (UK rfl) hix)
   case h2=>intro _;refine ZA (KR (U2 (U2 (Kj (UM (UK rfl) UT) rfl (Hw g)) UU Zp) (Kj (UM (UK rfl) (UM (UK rfl) (UM (KH rfl (UK rfl) hix) UT))) rfl (LR hls t)) YC) (Qa rfl) rfl) ?_;refine KB ?_;refine ZA (X3 rfl (UK rfl) rfl htl rfl) ?_;rw[htr];exact K5 ⟨_,_,rfl⟩
   case h3=>intro h;cases h
 case hend=>
  rintro Z ⟨y10,y11,rfl⟩;rw[Qb,JL];refine KB ?_;have e1:U0 (.list (K6.map int)) (.list [.int k7])=some (.list ((K6++[k7]).map int)):=by rw[Xz (by rw[Qb];show _+1<=_;omega),Qz];rfl
  have e2:U0 (.list ((K6++[k7]).map int)) (.list ((ts.map (KW ls ws)).map int))=some (.list ((K6++[k7]++ts.map (KW ls ws)).map int)):=by rw[Xz (by rw[Qb,Qb,Qb,Ql];show _+1+_<=_;omega),←Qz]
  rcases h6 with rfl|rfl
  ·exact Kv (U2 (U2 (UK rfl) (ZI (UM (UK rfl) UT) (Qa rfl)) e1) (Yl rfl rfl) e2) rfl
  ·exact Kv (U2 (U2 (Yl rfl rfl) (ZI (UM (UK rfl) UT) (Qa rfl)) e1) (Yl rfl rfl) e2) rfl
theorem Oh(g:Good cs ls)(dl:Deal cs ls ws)(ga:Yp cs.length ls.length old ts){K6:List Int}{x3 x6 x7 x8 x9 x10 x11:Option Sl}(h6:x6=some (.pub (.list (K6.map int)))∨x6=some (.own (K6.map int)))(hK:K6.length<=100) :
  Ho (UP (U8 7 (UN (.int 0)))
 (UP (sIf (UW (λd=>!isNon d) (UA 4))
 (UP (K4 8 (Zr (Xd (UL (UA 4) (UL (UA 2) (UH)))) 2 (gT 2 (gNC (gN 12) (gNC (gN 13) (gN0)))) (Zi oEq 12 (UA 13)) (UA 13)))
 (U8 7 (Zo Kb (UL (UW Ux (Zr (KS (UA 8)) 1 (gN 12) (UW (λd=>!isNon d) (UA 12)) (UA 12))) (UH)))))
 (sNx))
 (UP (K4 9 (U6 (UH) λxs=>if xs.length<=1000000 then UN xs else λ_=>.bad))
 (UP (Kn (KS (UA 5)) (gN 10) RC)
 (UY (UO U0 (UO U0 (UA 6) (Ks (UL (UA 7) (UH)))) (UA 9)))))))
   [pb (Ka cs ls),pb (KJ o old ts),pb (U7 ws),x3,pb (ZS old),pb (.list (ts.map int)),x6,x7,x8,x9,x10,x11] (λr=>r=Out.rt (.list ((K6++[(K1 old ws:Int)]++ts.map (KW ls ws)).map int))):=by
 have l7:=g.l7;have len:=dl.len;refine Ki (KR UU (Qa rfl) rfl) ?_;apply Kz;cases old with
 |none=>
  apply Kw
  case h1=>exact Kx (k:=λd=>!isNon d) (x:=PyData.none) (UK rfl)
  case h2=>intro h;cases h
  case h3=>intro _;refine KU (KB ?_);refine Ki (Z7 (Va UT (Qa rfl)) (Qa rfl) rfl) ?_;exact Lw g dl ga h6 hK
 |some os=>
  have hos:os.length=ls.length:=ga.len os rfl;have hzl:(os.zip ws).length<=7:=by rw[J0];omega
  apply Kw
  case h1=>exact Kx (k:=λd=>!isNon d) (x:=U7 os) (UK rfl)
  case h3=>intro h;cases h
  case h2=>
   intro _
   let same:LO:=((os.zip ws).filter λp=>decide (p.1=p.2)).map λp=>p.2
   have hc:K0 (gT 2 (gNC (gN 12) (gNC (gN 13) (gN0)))) (Zi oEq 12 (UA 13)) (UA 13) (Ym (os.map U4) (ws.map U4)) (Kf [pb (Ka cs ls),pb (KJ o (some os) ts),pb (U7 ws),x3,pb (ZS (some os)),pb (.list (ts.map int)),x6,pb (.int 0),x8,x9,x10,x11]++Uw 2 none) []=some (same.map U4):=by
    have hsm:same.map U4=((os.zip ws).map λp=>if decide (p.1=p.2)=true then some (U4 p.2)else none).filterMap id:=by rw[NM];show(List.map _ _).map U4=_;rw[Q4];rfl
    rw[Bh,hsm];refine SW (λZ=>∃y3 y6 y8 y9 y10 y11 x y,Z=[pb (Ka cs ls),pb (KJ o (some os) ts),pb (U7 ws),y3,pb (ZS (some os)),pb (.list (ts.map int)),y6,pb (.int 0),y8,y9,y10,y11,x,y]) _ _ _ _ (by rw[Qb,Qb]) ?_ ⟨_,_,_,_,_,_,none,none,rfl⟩ (by rw[Qb,QN];omega);rintro i d e hd he Z ⟨y3,y6,y8,y9,y10,y11,x,y,rfl⟩;rw[Qe]at hd he;cases hq:(os.zip ws)[i]? with
    |none=>rw[hq]at hd;cases hd
    |some q=>
    rw[hq]at hd he;cases hd;cases he;refine⟨_,Kt rfl (UX (UR (Qa rfl) rfl) (UX (UR (Qa rfl) rfl) Kq)),?_,?_,_,_,_,_,_,_,_,_,rfl⟩
    ·have e:(if decide (q.1=q.2)=true then some (U4 q.2)else none).isSome=decide (q.1=q.2):=by
      by_cases h:q.1=q.2
      ·rw[Q7 h];rfl
      ·rw[QH h];rfl
     rw[e];exact Z6 rfl (UK rfl) Pi
    ·intro v hv;dsimp only at hv;split at hv
     ·cases hv;exact UK rfl
     ·cases hv
   refine Ki (Z7 (Yk (Nh (UM (UK rfl) (UM (UK rfl) UT)) rfl) hc) (Qa rfl) rfl) ?_;have hsl:same.length<=7:=by show(List.map _ _).length<=7;rw[Qb];exact QP (J6 _ _) hzl
   have hc2:K0 (gN 12) (UW (λd=>!isNon d) (UA 12)) (UA 12) (same.map U4) (Kf [pb (Ka cs ls),pb (KJ o (some os) ts),pb (U7 ws),x3,pb (ZS (some os)),pb (.list (ts.map int)),x6,pb (.int 0),pb (.list (same.map U4)),x9,x10,x11]++Uw 1 none) []=some ((same.filter Option.isSome).map U4):=by
    rw[←NM];refine SW (λZ=>∃y3 y6 y8 y9 y10 y11 x,Z=[pb (Ka cs ls),pb (KJ o (some os) ts),pb (U7 ws),y3,pb (ZS (some os)),pb (.list (ts.map int)),y6,pb (.int 0),y8,y9,y10,y11,x]) _ _ _ _ (by simp only[Qb]) ?_ ⟨_,_,_,_,_,_,none,rfl⟩ (by rw[Qb,QN];omega);rintro i d e hd he Z ⟨y3,y6,y8,y9,y10,y11,x,rfl⟩;rw[Qe]at hd he;cases hq:same[i]? with
    |none=>rw[hq]at hd;cases hd
    |some q=>
    rw[hq]at hd he;cases hd;cases he;refine⟨_,UR (Qa rfl) rfl,?_,?_,_,_,_,_,_,_,_,rfl⟩
    ·cases q with
     |none=>exact Kx (k:=λd=>!isNon d) (x:=PyData.none) (UK rfl)
     |some t=>exact Kx (k:=λd=>!isNon d) (x:=int t) (UK rfl)
    ·intro v hv;dsimp only at hv;split at hv
     ·cases hv;exact UK rfl
     ·cases hv
   have hln:Kb [.list ((same.filter Option.isSome).map U4)]=some (.int (K1 (some os) ws:Nat)):=by
    rw[Zh,Qb]
    congr 3
    show((List.map _ _).filter _).length=_
    unfold K1;dsimp only;rw[List.filter_map,Qb,List.filter_filter]
    congr 1
    apply List.filter_congr;intro p _
    show(p.2.isSome&&decide (p.1=p.2))=_
    rw[Bool.and_comm]
   refine ZA (KR (ZO (UM (Kx (Yk (Zj (Yl rfl rfl) ZZ) hc2)) UT) hln) (Qa rfl) rfl) ?_;refine KB ?_;refine Ki (Z7 (Va UT (Qa rfl)) (Qa rfl) rfl) ?_;exact Lw g dl ga h6 hK
theorem Fe(g:Good cs ls)(dl:Deal cs ls ws)(ga:Yp cs.length ls.length old ts):Wr [Ka cs ls,KJ o old ts,U7 ws]=some (.list ((ZR o (U1 (lng ls) (UQ ls ws))++[(K1 old ws:Int)]++ts.map (KW ls ws)).map int)):=by
 refine K7 (Z:=[pb (Ka cs ls),pb (KJ o old ts),pb (U7 ws),none,none,none,none,none,none,none,none,none]) rfl ?_;unfold VR;have few:(U1 (lng ls) (UQ ls ws)).length<=6:=DB g;have hne:U1 (lng ls) (UQ ls ws)≠[]:=λe=>by have:=Xq (lng ls) (UQ ls ws);rw[e]at this;cases this
 refine Ki (W5 (UK rfl) (Kt rfl (UX (UR (Qa rfl) rfl) (UX (UR (Qa rfl) rfl) (UX (UR (Qa rfl) rfl) Kq))))) ?_;refine Ki (KR (Kj (UM (UK rfl) (UM (UK rfl) UT)) rfl (Sk g dl)) (Qa rfl) rfl) ?_;generalize U1 (lng ls) (UQ ls ws)=c at few hne;cases o with
 |firsts=>
  apply Kz;apply Kw
  case h1=>exact Z6 rfl UU (Rn .firsts)
  case h2=>intro h;cases h
  case h3=>
   intro _;refine KU (KB ?_);apply Kz;apply Kw
   case h1=>exact Z6 rfl UU (Ph .firsts)
   case h2=>intro h;cases h
   case h3=>exact λ_=>KU (KB (Oh g dl ga (K6:=c) (.inl rfl) (by omega)))
 |full=>
  apply Kz;apply Kw
  case h1=>exact Z6 rfl UU (Rn .full)
  case h3=>intro h;cases h
  case h2=>
   intro _;have e:U0 (.list [.int (0-ZL c)]) (.list (c.map int))=some (.list (((0-ZL c)::c).map int)):=by rw[Xz (by rw[Qb];show 1+_<=_;omega)];rfl
   refine ZA (KR (U2 (ZI (UM (U2 UU (KH rfl (Y2 UU) (DC hne)) YC) UT) (Qa rfl)) (UK rfl) e) (Qa rfl) rfl) ?_;refine KB ?_;apply Kz;apply Kw
   case h1=>exact Z6 rfl UU (Ph .full)
   case h2=>intro h;cases h
   case h3=>exact λ_=>KU (KB (Oh g dl ga (K6:=(0-ZL c)::c) (.inl rfl) (by rw[QC];omega)))
 |lasts=>
  apply Kz;apply Kw
  case h1=>exact Z6 rfl UU (Rn .lasts)
  case h2=>intro h;cases h
  case h3=>
   intro _;refine KU (KB ?_);apply Kz;apply Kw
   case h1=>exact Z6 rfl UU (Ph .lasts)
   case h3=>intro h;cases h
   case h2=>
    intro _
    have hc:∀x7 x8 x9 x10 x11:Option Sl,K0 (gN 12) (UN true) (UO KZ (UN (.int 0)) (UA 12)) (c.map int).reverse (Kf [pb (Ka cs ls),pb (KJ .lasts old ts),pb (U7 ws),pb (.str Ord.lasts.tx),pb (ZS old),pb (.list (ts.map int)),pb (.list (c.map int)),none,none,none,none,none]++Uw 1 none) []=some ((c.reverse.map λx=>0-x).map int):=λx7 x8 x9 x10 x11=>by
     rw[←List.map_reverse];refine Y6 (λZ=>∃x,Z=[pb (Ka cs ls),pb (KJ .lasts old ts),pb (U7 ws),pb (.str Ord.lasts.tx),pb (ZS old),pb (.list (ts.map int)),pb (.list (c.map int)),none,none,none,none,none,x]) _ _ _ _ (by simp only[Qb]) ?_ ⟨none,rfl⟩ (by rw[Qb,QN,Q9];omega);rintro i d e hd he Z ⟨x,rfl⟩;rw[Qe]at hd;rw[Qe,Qe]at he;cases hq:c.reverse[i]? with
     |none=>rw[hq]at hd;cases hd
     |some q=>
     rw[hq]at hd he;cases hd;cases he;exact⟨_,UR (Qa rfl) rfl,rfl,U2 UU (UK rfl) YC,_,rfl⟩
    refine ZA (Z7 (Yk (Zj (Ng (UK rfl) UU UU (Y4 (Y2 UU))) ZZ) (hc none none none none none)) (Qa rfl) rfl) ?_;exact KB (Oh g dl ga (K6:=c.reverse.map λx=>0-x) (.inr rfl) (by rw[Qb,Q9];omega))
end
def btr:LP->Bool
 |[]=>false
 |(m,y)::r=>if m=y then btr r else decide (y=0) || (decide (0<m)&&decide (m<y))
def rgA(ls:L3)(ws:LO)(a:Int):Int:=(UQ ls ws).getD a.toNat 0
def XM(o:Ord)(c1 c2:List Int)(k1 k2:Int)(r1 r2:List Int):Bool:=if fnz (YZ o c1 c2)=0 then(if k1=k2 then btr (r1.zip r2)else decide (k2<k1))else decide (0<fnz (YZ o c1 c2))
theorem PK(a b:List Int):fnz (a++b)=if fnz a=0 then fnz b else fnz a:=by
 induction a with
 |nil=>rfl
 |cons x r ih=>
  show(if x=0 then fnz (r++b)else x)=if(if x=0 then fnz r else x)=0 then fnz b else(if x=0 then fnz r else x)
  by_cases h:x=0
  ·rw[Qm h,Qm h,ih]
  ·rw[Qu h,Qu h,Qu h]
theorem NL:∀{xs ys:List Int},xs.length=ys.length->HT.ZC ys xs=decide (0<fnz (Kk xs ys))
 |[],[],_=>rfl
 |x::xs,y::ys,h=>by
  rw[HT.L6];show _=decide (0<if x-y=0 then fnz (Kk xs ys)else x-y);by_cases e:y=x
  ·rw[if_pos e,if_pos (by omega),NL (by simpa using h)]
  ·rw[Qu e,Qu (by omega)];exact JD.2 (by rw[Q3,Q3];omega)
theorem SV{a b c d:List Int}(h:a.length=c.length):Kk (a++b) (c++d)=Kk a c++Kk b d:=by unfold Kk;rw[List.zip_append h,Qz]
theorem S7{a b:List Int}(h:a.length=b.length):(Kk a b).length=a.length:=by unfold Kk;rw[Qb,J0];omega
theorem Oo{a b:List Int}{i:Nat}{x y:Int}(h1:a[i]?=some x)(h2:b[i]?=some y):(Kk a b)[i]?=some (x-y):=by unfold Kk;rw[Qe,JN.mpr (by exact(⟨h1,h2⟩:a[i]?=some (x,y).1/\b[i]?=some (x,y).2))];rfl
theorem DA{o:Ord}{a b:List Int}(h:a.length=b.length):(ZR o a).length=(ZR o b).length:=by
 cases o with
 |firsts=>exact h
 |full=>show(_::a).length=(_::b).length;rw[QC,QC,h]
 |lasts=>show(a.reverse.map _).length=(b.reverse.map _).length;rw[Qb,Qb,Q9,Q9,h]
theorem Lv{o:Ord}{a b:List Int}(h:a.length=b.length)(hne:a≠[]):Kk (ZR o a) (ZR o b)=YZ o a b:=by
 have hp:0<a.length:=Ue.mpr hne;cases o with
 |firsts=>rfl
 |full=>
  have hml:=S7 h;have hx:a[a.length-1]?=some (ZL a):=by unfold ZL;rw[Qh,Qd (by omega)];rfl
  have hy:b[a.length-1]?=some (ZL b):=by unfold ZL;rw[←h,Qh,Qd (by omega)];rfl
  have hm:=Oo hx hy
  show(0-ZL a-(0-ZL b))::Kk a b=((Kk a b).map λx=>-x).drop ((Kk a b).length-1)++Kk a b
  have hd:((Kk a b).map λx=>-x).drop ((Kk a b).length-1)=[-(ZL a-ZL b)]:=by
   rw[hml];have hl:a.length-1<((Kk a b).map λx=>-x).length:=by rw[Qb,hml];omega
   rw[QR hl,List.drop_of_length_le (by rw[Qb,hml];omega)];have e:((Kk a b).map λx=>-x)[a.length-1]?=some (-(ZL a-ZL b)):=by rw[Qe,hm];rfl
   rw[Qd hl]at e;rw[QT e]
  rw[hd];show _ = -(ZL a-ZL b)::Kk a b
  congr 1
  omega
 |lasts=>
  show Kk (a.reverse.map λx=>0-x) (b.reverse.map λx=>0-x)=((Kk a b).map λx=>-x).reverse;apply Jq;intro i;have hml:=S7 h;by_cases hi:i<a.length
  ·obtain⟨x,hx⟩:∃x,a[a.length-1-i]?=some x:=⟨_,Qd (by omega)⟩
   obtain⟨y,hy⟩:∃y,b[a.length-1-i]?=some y:=⟨_,Qd (by omega)⟩
   have e1:(a.reverse.map λx=>0-x)[i]?=some (0-x):=by rw[Qe,J7 hi,hx];rfl
   have e2:(b.reverse.map λx=>0-x)[i]?=some (0-y):=by rw[Qe,J7 (by omega),←h,hy];rfl
   rw[Oo e1 e2,J7 (by rw[Qb,hml];exact hi),Qb,hml,Qe,Oo hx hy];show some (0-x-(0-y))=some (-(x-y))
   congr 1
   omega
  ·rw[QB (by rw[S7 (by rw[Qb,Qb,Q9,Q9,h]),Qb,Q9];omega),QB (by rw[Q9,Qb,hml];omega)]
def tf(L:Nat)(r:Int):Int:=if r=0 then 0 else(L:Int)+1-r
theorem On{L:Nat}:∀{xs ys:List Int},(∀r∈xs,0<=r/\r<=L)->(∀r∈ys,0<=r/\r<=L)->decide (0<fnz (Kk (xs.map (tf L)) (ys.map (tf L))))=btr (xs.zip ys)
 |[],ys,_,_=>by cases ys<;>rfl
 |_::_,[],_,_=>rfl
 |x::xs,y::ys,hx,hy=>by
  have bx:=hx x Qo;have by':=hy y Qo;rw[List.zip_cons_cons,btr];show decide (0<if tf L x-tf L y=0 then fnz (Kk (xs.map (tf L)) (ys.map (tf L)))else tf L x-tf L y)=_;by_cases e:x=y
  ·rw[Qm e,Qm (by rw[e];omega),On (λr h=>hx r (Qk _ h)) (λr h=>hy r (Qk _ h))]
  ·have hne:tf L x-tf L y≠0:=by unfold tf;split<;>split<;>omega
   rw[Qu e,Qu hne];apply JD.2;rw[Q3,Bool.or_eq_true,Jc,Q3,Q3,Q3];unfold tf
   split<;>split<;>omega
section
variable{cs:List Int}{ls:L3}{ws us:LO}{o:Ord}{old:Option LO}{ts:List Int}
theorem SR(g:Good cs ls)(dl:Deal cs ls ws)(ga:Yp cs.length ls.length old ts):ts.map (KW ls ws)=(ts.map (rgA ls ws)).map (tf (lng ls)):=by
 rw[Q4];apply JB;intro z hz;have h:=ga.there z hz;obtain⟨a,rfl⟩:∃a:Nat,z=a:=⟨z.toNat,by omega⟩
 have hal:a<ls.length:=by omega
 have hwl:a<ws.length:=by have:=dl.len;omega
 have hls:ls[a]?=some ls[a]:=Qd hal;have hwa:ws[a]?=some ws[a]:=Qd hwl;have hg:=Mx hls hwa;show KW ls ws a=tf (lng ls) (rgA ls ws a);unfold KW rgA;rw[Qy,Qh,Qh,Qh,hwa,hls,hg]
 show(match ws[a]with|none=>(0:Int)|some t=>(lng ls:Int)+1-(KE t ls[a]:Nat))=tf (lng ls) (rg ls[a] ws[a])
 have hp:=λt (e:ws[a]=some t)=>RY (dl.wish a t ls[a] (by rw[hwa,e]) hls)
 generalize ws[a]=w at hp;cases w with
 |none=>rfl
 |some t=>have:=hp t rfl;show _=tf (lng ls) ((KE t ls[a]:Nat):Int);unfold tf;rw[Qu (by omega)]
theorem SE{z:Int}:0<=rgA ls ws z/\rgA ls ws z<=lng ls:=by
 unfold rgA;rw[Qh];cases h:(UQ ls ws)[z.toNat]? with
 |none=>exact⟨QW 0,by show(0:Int)<=_;omega⟩
 |some r=>exact SK r (Qp h)
theorem Dy(g:Good cs ls)(d1:Deal cs ls ws)(d2:Deal cs ls us)(ga:Yp cs.length ls.length old ts) :
  HT.ZC (ZR o (U1 (lng ls) (UQ ls us))++[(K1 old us:Int)]++ts.map (KW ls us)) (ZR o (U1 (lng ls) (UQ ls ws))++[(K1 old ws:Int)]++ts.map (KW ls ws)) =
   XM o (U1 (lng ls) (UQ ls ws)) (U1 (lng ls) (UQ ls us)) (K1 old ws) (K1 old us) (ts.map (rgA ls ws)) (ts.map (rgA ls us)):=by
 have hl:(U1 (lng ls) (UQ ls ws)).length=(U1 (lng ls) (UQ ls us)).length:=by rw[Xq,Xq]
 have hne:U1 (lng ls) (UQ ls ws)≠[]:=λe=>by have:=Xq (lng ls) (UQ ls ws);rw[e]at this;cases this
 have hol:=DA (o:=o) hl;rw[NL (by simp only[Ql,Qb,hol];rfl),SV (by rw[Ql,Ql,hol];rfl),SV hol,Lv hl hne,PK,PK,SR g d1 ga,SR g d2 ga];have ht:=On (L:=lng ls) (xs:=ts.map (rgA ls ws)) (ys:=ts.map (rgA ls us)) (λr h=>by obtain⟨z,_,rfl⟩:=Qt.mp h;exact SE) (λr h=>by obtain⟨z,_,rfl⟩:=Qt.mp h;exact SE);unfold XM;rw[←ht]
 have hk:fnz (Kk [(K1 old ws:Int)] [(K1 old us:Int)])=(K1 old ws:Int)-K1 old us:=by
  show(if(K1 old ws:Int)-K1 old us=0 then(0:Int)else(K1 old ws:Int)-K1 old us)=_
  split<;>omega
 rw[hk];by_cases h1:fnz (YZ o (U1 (lng ls) (UQ ls ws)) (U1 (lng ls) (UQ ls us)))=0
 ·rw[Qm h1,Qm h1];by_cases h2:(K1 old ws:Int)=K1 old us
  ·rw[Qm h2,Qm (by omega)]
  ·rw[Qu h2,Qu (by omega)];exact JD.2 (by rw[Q3,Q3];omega)
 ·rw[Qu h1,Qu h1,Qu h1]
end
def val(B:Int):List Int->Int
 |[]=>0
 |d::r=>d*B ^ r.length+val B r
theorem Og{B:Int}(h:0<B)(n:Nat):0<B ^ n:=Int.pow_pos h
theorem Om{B:Int}(hB:0<B):∀{l:List Int},(∀d∈l, -(B-1)<=d/\d<=B-1) -> -(B ^ l.length-1)<=val B l/\val B l<=B ^ l.length-1
 |[],_=>by simp[val]
 |d::r,h=>by
  have h1:=h d Qo;have h2:=Om hB (l:=r) λx hx=>h x (Qk _ hx);have hp:=Og hB r.length;rw[val,QC,Int.pow_succ];generalize B ^ r.length=P at h2 hp;generalize val B r=v at h2;have u1:d*P<=(B-1)*P:=Jo h1.2 (by omega)
  have u2 : -(B-1)*P<=d*P:=Jo h1.1 (by omega);have e1:(B-1)*P=P*B-P:=by rw[Int.sub_mul,Int.one_mul,Int.mul_comm]
  have e2 : -(B-1)*P = -(P*B-P):=by rw[Int.neg_mul,e1]
  omega
theorem Ol{X Y P:Int}(hP:0<P)(hY : -(P-1)<=Y/\Y<=P-1):(0<X*P+Y ↔ 0<X∨X=0/\0<Y)/\(X*P+Y=0 ↔ X=0/\Y=0):=by
 rcases Int.lt_trichotomy X 0 with h|h|h
 ·have:X*P <= -1*P:=Jo (by omega) (by omega)
  constructor<;>constructor<;>intro h'<;>omega
 ·subst h;rw[Int.zero_mul]
  constructor<;>constructor<;>intro h'<;>omega
 ·have:1*P<=X*P:=Jo (by omega) (by omega)
  constructor<;>constructor<;>intro h'<;>omega
theorem PJ{B:Int}(hB:0<B):∀{l:List Int},(∀d∈l, -(B-1)<=d/\d<=B-1)->(0<val B l ↔ 0<fnz l)/\(val B l=0 ↔ fnz l=0)
 |[],_=>by simp[val,fnz]
 |d::r,h=>by
  have hr:=λx hx=>h x (Qk d hx);have ih:=PJ hB (l:=r) hr;have tp:=Ol (X:=d) (Og hB r.length) (Om hB hr)
  show(0<d*B ^ r.length+val B r ↔ 0<if d=0 then fnz r else d)/\(d*B ^ r.length+val B r=0 ↔ (if d=0 then fnz r else d)=0)
  by_cases hd:d=0
  ·rw[Qm hd];constructor
   ·rw[tp.1,ih.1];omega
   ·rw[tp.2,ih.2];omega
  ·rw[Qu hd];constructor
   ·rw[tp.1];omega
   ·rw[tp.2];omega
theorem Of{B:Int}:∀{xs ys:List Int},xs.length=ys.length->val B (Kk xs ys)=val B xs-val B ys
 |[],[],_=>rfl
 |x::xs,y::ys,h=>by
  have hl:xs.length=ys.length:=by simpa using h
  show(x-y)*B ^ (Kk xs ys).length+val B (Kk xs ys)=_
  rw[Of hl,S7 hl,val,val,←hl,Int.sub_mul];omega
theorem Dk{B:Int}(l:List Int):val B (l.map λx=>-x) = -val B l:=by
 induction l with
 |nil=>rfl
 |cons d r ih=>rw[Qx,val,val,ih,Qb,Int.neg_mul];omega
theorem Lu{B:Int}:∀{xs:List Int}{p:Nat},p<xs.length->val B (Xn xs p 1)=val B xs+B ^ (xs.length-1-p)
 |x::xs,0,_=>by
  show(x+1)*B ^ xs.length+val B xs=x*B ^ xs.length+val B xs+B ^ xs.length
  rw[Int.add_mul,Int.one_mul];omega
 |x::xs,p+1,h=>by
  have hp:p<xs.length:=by simpa using h
  have ih:=Lu (B:=B) hp;have e:Xn (x::xs) (p+1) 1=x::Xn xs p 1:=by unfold Xn;rw[List.set_cons_succ];rfl
  rw[e,val,val,ih,Op];have e2:(x::xs).length-1-(p+1)=xs.length-1-p:=by rw[QC];omega
  rw[e2];omega
theorem Bg{n p:Nat}{qs:List Nat}:Xn (Ke n qs) p 1=Ke n (p::qs):=by
 apply Jq;intro k;by_cases hk:k<n
 ·rw[Lz (Vv hk),Vv hk,Jt]
  congr 1
  by_cases e:k=p
  ·rw[if_pos e,e,if_pos (by simp)];omega
  ·have:¬(p==k)=true:=by rw[beq_iff_eq];exact λz=>e z.symm
   rw[Qu e,Qu this];omega
 ·rw[QB (by rw[Op,Yv];omega),QB (by rw[Yv];omega)]
theorem Bf{B:Int}(n:Nat):val B (Uw n 0)=0:=by
 induction n with
 |zero=>rfl
 |succ n ih=>rw[QX,val,ih,Int.zero_mul];rfl
theorem Oe{B:Int}{n:Nat}:∀{qs:List Nat},(∀p∈qs,p<n)->val B (Ke n qs)=(qs.map λp=>B ^ (n-1-p)).sum
 |[],_=>by rw[Ms,Bf];rfl
 |p::qs,h=>by have hp:=h p Qo;rw[←Bg,Lu (by rw[Yv];exact hp),Oe (λq hq=>h q (Qk _ hq)),Yv,Qx,Ja];omega
theorem Dj{B:Int}{n:Nat}:∀{qs:List Nat},(∀p∈qs,p<n)->val B (Ke n qs).reverse=(qs.map λp=>B ^ p).sum:=λ{qs} h=>by
 have e:(Ke n qs).reverse=Ke n (qs.map λp=>n-1-p):=by
  apply Jq;intro k;by_cases hk:k<n
  ·rw[J7 (by rw[Yv];exact hk),Yv,Vv (by omega),Vv hk]
   congr 2
   rw[List.count,List.count,List.countP_map];apply List.countP_congr;intro p hp;have:=h p hp;simp only[Function.comp,beq_iff_eq];omega
  ·rw[QB (by rw[Q9,Yv];omega),QB (by rw[Yv];omega)]
 rw[e,Oe (λp hp=>by obtain⟨q,hq,rfl⟩:=Qt.mp hp;have:=h q hq;omega),Q4]
 congr 1
 apply JB;intro p hp;have:=h p hp;show B ^ (n-1-(n-1-p))=B ^ p
 congr 1
 omega
def KQ(o:Ord)(L:Nat)(qs:List Nat):List Int:=match o with
 |.firsts=>Ke L qs
 |.full=>(qs.length:Int)::Ke L qs
 |.lasts=>(qs.length:Int)::(Ke L qs).reverse.map λx=>-x
theorem NK{α:Type}(f g:α->Int)(l:List α):(l.map λx=>f x+g x).sum=(l.map f).sum+(l.map g).sum:=by
 induction l with
 |nil=>rfl
 |cons a r ih=>rw[Qx,Ja,ih,Qx,Ja,Qx,Ja];omega
theorem Di{α:Type}(f g:α->Int)(l:List α):(l.map λx=>f x-g x).sum=(l.map f).sum-(l.map g).sum:=by
 induction l with
 |nil=>rfl
 |cons a r ih=>rw[Qx,Ja,ih,Qx,Ja,Qx,Ja];omega
theorem Oj{α:Type}(c:Int)(l:List α):(l.map λ_=>c).sum=(l.length:Int)*c:=by
 induction l with
 |nil=>simp
 |cons a r ih=>rw[Qx,Ja,ih,QC,Int.natCast_add,Int.add_mul];omega
theorem Dh(o:Ord){B:Int}{L:Nat}{sr:List Int}(h:∀r∈sr,1<=r/\r<=L):(sr.map (Zm o B L)).sum=val B (KQ o L (sr.map λr=>(r-1).toNat)):=by
 have hq:∀p∈sr.map (λr=>(r-1).toNat),p<L:=λp hp=>by obtain⟨r,hr,rfl⟩:=Qt.mp hp;have:=h r hr;omega
 have e1:(sr.map λr=>B ^ ((L:Int)-r).toNat).sum=val B (Ke L (sr.map λr=>(r-1).toNat)):=by
  rw[Oe hq,Q4]
  congr 1
  apply JB;intro r hr;have:=h r hr;show B ^ _=B ^ (L-1-(r-1).toNat)
  congr 1
  omega
 have e2:(sr.map λr=>B ^ (r-1).toNat).sum=val B (Ke L (sr.map λr=>(r-1).toNat)).reverse:=by rw[Dj hq,Q4];rfl
 have e3:(sr.map λ_=>B ^ (L:Int).toNat).sum=((sr.map λr=>(r-1).toNat).length:Int)*B ^ L:=by rw[Oj,Qb,Qy]
 cases o with
 |firsts=>exact e1
 |full=>
  show(sr.map λr=>B ^ (L:Int).toNat+B ^ ((L:Int)-r).toNat).sum=((sr.map λr=>(r-1).toNat).length:Int)*B ^ (Ke L (sr.map λr=>(r-1).toNat)).length+val B (Ke L (sr.map λr=>(r-1).toNat))
  rw[NK,e1,e3,Yv]
 |lasts=>
  show(sr.map λr=>B ^ (L:Int).toNat-B ^ (r-1).toNat).sum=((sr.map λr=>(r-1).toNat).length:Int)*B ^ ((Ke L (sr.map λr=>(r-1).toNat)).reverse.map λx=>-x).length+val B ((Ke L (sr.map λr=>(r-1).toNat)).reverse.map λx=>-x)
  rw[Di,e2,e3,Dk,Qb,Qb,Q9,Yv];omega
def srv(got:List Int):List Int:=got.filter λr=>decide (r≠0)
def plQ(got:List Int):List Nat:=(srv got).map λr=>(r-1).toNat
theorem Hb{L:Nat}{got:List Int}(h:okR L got):U1 L got=Ke L (plQ got)++[(got.length:Int)-(plQ got).length]:=by
 unfold U1
 congr 1
 ·unfold Ke;apply JB;intro p _
  congr 1
  unfold plQ srv;rw[List.count,List.count,List.countP_map,List.countP_filter];apply List.countP_congr;intro r hr;have:=h r hr;simp only[Function.comp,beq_iff_eq,Jc,Q3];omega
 ·congr 1
  unfold plQ srv;rw[Qb,List.count]
  have e:got.length=got.countP (λr=>decide (r≠0))+got.countP (λr=>r==0):=by
   rw[List.length_eq_countP_add_countP (p:=λr=>decide (r≠0))]
   congr 1
   apply List.countP_congr;intro r _;simp
  rw[List.countP_eq_length_filter]at e;omega
theorem LQ:∀{a b:List Int},a.length=b.length->fnz (Kk a b)=0->a=b
 |[],[],_,_=>rfl
 |x::a,y::b,h,e=>by
  have e:(if x-y=0 then fnz (Kk a b)else x-y)=0:=e;by_cases hxy:x-y=0
  ·rw[Qm hxy]at e;rw[LQ (by simpa using h) e,show x=y by omega]
  ·rw[Qu hxy]at e;exact absurd e hxy
theorem Mr{n:Nat}{qs:List Nat}(h:∀p∈qs,p<n):(Ke n qs).sum=qs.length:=Hd qs n h
theorem Nc{L:Nat}{got:List Int}(h:okR L got):∀p∈plQ got,p<L:=λp hp=>by
 obtain⟨r,hr,rfl⟩:=Qt.mp hp;obtain⟨hr,h0⟩:=Uf.mp hr;have:=h r hr;have:r≠0:=by simpa using h0
 omega
theorem Dx{o:Ord}{L:Nat}{g1 g2:List Int}(h1:okR L g1)(h2:okR L g2)(hl:g1.length=g2.length):fnz (YZ o (U1 L g1) (U1 L g2))=fnz (Kk (KQ o L (plQ g1)) (KQ o L (plQ g2))):=by
 have hcl:(U1 L g1).length=(U1 L g2).length:=by rw[Xq,Xq]
 have hne:U1 L g1≠[]:=λe=>by have:=Xq L g1;rw[e]at this;cases this
 rw[←Lv hcl hne,Hb h1,Hb h2];have l1:=Yv L (plQ g1);have l2:=Yv L (plQ g2);have s1:=Mr (Nc h1);have s2:=Mr (Nc h2);generalize hc1:Ke L (plQ g1)=C1 at *;generalize hc2:Ke L (plQ g2)=C2 at *;have hC:C1.length=C2.length:=by rw[l1,l2]
 have last:∀(C:List Int)(z:Int),ZL (C++[z])=z:=λC z=>by
  unfold ZL;rw[Ql,Qh,Qw (by show C.length<=C.length+1-1;omega)]
  show([z][C.length+1-1-C.length]?).getD 0=z
  rw[show C.length+1-1-C.length=0 by omega];rfl
 have tail:fnz (Kk C1 C2++Kk [(g1.length:Int)-(plQ g1).length] [(g2.length:Int)-(plQ g2).length])=fnz (Kk C1 C2):=by
  rw[PK];by_cases e:fnz (Kk C1 C2)=0
  ·have:=LQ hC e;rw[Qm e,e]
   show(if(g1.length:Int)-(plQ g1).length-((g2.length:Int)-(plQ g2).length)=0 then(0:Int)else _)=0
   rw[Qm (by rw[this]at s1;omega)]
  ·rw[Qu e]
 cases o with
 |firsts=>show fnz (Kk (C1++_) (C2++_))=fnz (Kk (Ke L (plQ g1)) (Ke L (plQ g2)));rw[hc1,hc2,SV hC,tail]
 |full=>
  show fnz (Kk ((0-ZL (C1++_))::(C1++_)) ((0-ZL (C2++_))::(C2++_)))=fnz (Kk (((plQ g1).length:Int)::Ke L (plQ g1)) (((plQ g2).length:Int)::Ke L (plQ g2)));rw[hc1,hc2,last,last]
  show(if(0-((g1.length:Int)-(plQ g1).length))-(0-((g2.length:Int)-(plQ g2).length))=0 then fnz (Kk (C1++_) (C2++_))else _)=(if((plQ g1).length:Int)-(plQ g2).length=0 then fnz (Kk C1 C2)else _)
  rw[SV hC,tail];have e:(0-((g1.length:Int)-(plQ g1).length))-(0-((g2.length:Int)-(plQ g2).length))=((plQ g1).length:Int)-(plQ g2).length:=by omega
  rw[e]
  congr 1
 |lasts=>
  show fnz (Kk ((C1++[_]).reverse.map λx=>0-x) ((C2++[_]).reverse.map λx=>0-x))=fnz (Kk (((plQ g1).length:Int)::(Ke L (plQ g1)).reverse.map λx=>-x) (((plQ g2).length:Int)::(Ke L (plQ g2)).reverse.map λx=>-x));rw[hc1,hc2,List.reverse_append,List.reverse_append];have e0:(λx:Int=>0-x)=λx=>-x:=by funext x;omega
  rw[e0]
  show(if -((g1.length:Int)-(plQ g1).length) - -((g2.length:Int)-(plQ g2).length)=0 then fnz (Kk (C1.reverse.map λx=>-x) (C2.reverse.map λx=>-x))else _)=(if((plQ g1).length:Int)-(plQ g2).length=0 then fnz (Kk (C1.reverse.map λx=>-x) (C2.reverse.map λx=>-x))else _)
  have e : -((g1.length:Int)-(plQ g1).length) - -((g2.length:Int)-(plQ g2).length)=((plQ g1).length:Int)-(plQ g2).length:=by omega
  rw[e]
  congr 1
theorem Od{W W1 W2:Nat->List (List Int)->Int->Int}{c:Int}(h:∀i rs t,W i rs t=W1 i rs t*c+W2 i rs t):∀(ls:L3)(ws:LO)(k:Nat),Km (Kl W k ls ws)=Km (Kl W1 k ls ws)*c+Km (Kl W2 k ls ws)
 |[],_,_=>by simp[Kl,Km]
 |_::_,[],_=>by simp[Kl,Km]
 |rs::ls,o::ws,k=>by
  rw[Kl,Kl,Kl,VF,VF,VF,Od h ls ws (k+1),Int.add_mul];cases o with
  |none=>show(0:Int)+_=0*c+_+(0+_);rw[Int.zero_mul];omega
  |some t=>show W k rs t+_=W1 k rs t*c+_+(W2 k rs t+_);rw[h];omega
theorem Mq{f:Int->Int}:∀(ls:L3)(ws:LO)(k:Nat),(∀(i:Nat) t rs,ws[i]?=some (some t)->ls[i]?=some rs->KE t rs≠0)->Km (Kl (λ_ rs t=>f (KE t rs:Nat)) k ls ws)=((srv (UQ ls ws)).map f).sum
 |[],_,_,_=>by simp[Kl,Km,UQ,srv]
 |_::_,[],_,_=>by simp[Kl,Km,UQ,srv]
 |rs::ls,o::ws,k,h=>by
  have ih:=Mq (f:=f) ls ws (k+1) λi t r h1 h2=>h (i+1) t r (by simpa using h1) (by simpa using h2)
  have e:UQ (rs::ls) (o::ws)=rg rs o::UQ ls ws:=rfl;rw[Kl,VF,ih,e];cases o with
  |none=>
   have:srv (rg rs none::UQ ls ws)=srv (UQ ls ws):=rfl;rw[this]
   show(0:Int)+_=_
   omega
  |some t=>
   have h0:=h 0 t rs rfl rfl;have:srv (rg rs (some t)::UQ ls ws)=((KE t rs:Nat):Int)::srv (UQ ls ws):=by unfold srv;rw[List.filter_cons_of_pos (by show decide (((KE t rs:Nat):Int)≠0)=true;simpa using h0)];rfl
   rw[this,Qx,Ja];rfl
theorem OF{W:Nat->List (List Int)->Int->Int}{h:Nat->Int}:∀(ls:L3)(ws:LO)(k:Nat),ws.length=ls.length->(∀(i:Nat) rs o,ls[i]?=some rs->ws[i]?=some o->(o.map (W (k+i) rs)).getD 0=h (k+i))->Km (Kl W k ls ws)=((Uv ls.length).map λi=>h (k+i)).sum
 |[],[],_,_,_=>by simp[Kl,Km]
 |rs::ls,o::ws,k,hl,hh=>by
  have ih:=OF (h:=h) ls ws (k+1) (by simpa using hl) λi rs' o' h1 h2=>by have:=hh (i+1) rs' o' (by simpa using h1) (by simpa using h2);rw[show k+1+i=k+(i+1)by omega];exact this
  have h0:=hh 0 rs o rfl rfl;rw[Kl,VF,ih,QC,List.range_succ_eq_map,Qx,Ja,Q4];rw[Nat.add_zero]at h0;rw[Nat.add_zero,h0]
  congr 2
  apply JB;intro i _;show h (k+1+i)=h (k+(i+1));rw[show k+1+i=k+(i+1)by omega]
theorem NJ{c:Int}{a:Nat}:∀n:Nat,((Uv n).map λi=>if i=a then c else 0).sum=if a<n then c else 0
 |0=>by simp
 |n+1=>by
  rw[Uh,Qz,JI,NJ n];show _+((if n=a then c else 0)+0)=_;by_cases h:a<n
  ·rw[Qm h,Qu (by omega),Qm (by omega)];omega
  ·by_cases h2:n=a
   ·rw[Qu h,Qm h2,Qm (by omega)];omega
   ·rw[Qu h,Qu h2,Qu (by omega)];omega
theorem Mp{b:Int}{g:Int->Int}{n:Nat}:∀{ts:List Int},ts.Nodup->(∀a∈ts,0<=a/\a<n)->((Uv n).map λi:Nat=>if(i:Int)∈ts then g i*b ^ (ts.length-1-ts.idxOf (i:Int))else 0).sum=val b (ts.map g)
 |[],_,_=>by
  have:(λi:Nat=>if(i:Int)∈([]:List Int)then g i*b ^ (([]:List Int).length-1-([]:List Int).idxOf (i:Int))else 0)=λ_=>(0:Int):=by funext i;rw[if_neg (by simp)]
  rw[this,Oj];simp[val]
 |a::r,hn,hb=>by
  obtain⟨ha,hr⟩:=List.nodup_cons.mp hn;have h0:=hb a Qo;have ih:=Mp (b:=b) (g:=g) (n:=n) hr λx hx=>hb x (Qk _ hx)
  have e:(λi:Nat=>if(i:Int)∈a::r then g i*b ^ ((a::r).length-1-(a::r).idxOf (i:Int))else 0) =
    λi:Nat=>(if i=a.toNat then g a*b ^ r.length else 0)+(if(i:Int)∈r then g i*b ^ (r.length-1-r.idxOf (i:Int))else 0):=by
   funext i;by_cases h:(i:Int)=a
   ·have hi:i=a.toNat:=by omega
    rw[Qm (by rw[h];exact Qo),Qm hi,Qu (by rw[h];exact ha),h,List.idxOf_cons_self,QC];simp
   ·have hi:¬i=a.toNat:=by omega
    rw[Qu hi,Uc];by_cases h2:(i:Int)∈r
    ·have hb:(a==(i:Int))=false:=by simpa using Ne.symm h
     rw[Qm (Qk _ h2),Qm h2,List.idxOf_cons,hb,QC];show g i*b ^ (r.length+1-1-(r.idxOf (i:Int)+1))=_
     congr 2
     omega
    ·rw[if_neg h2,if_neg (by simp[h,h2])]
  rw[e,NK,NJ,Qm (by omega),ih,Qx,val,Qb]
section
variable{cs:List Int}{ls:L3}{ws us:LO}{o:Ord}{old:Option LO}{ts:List Int}
theorem Be(hl:ws.length=ls.length)(ga:Yp cs.length ls.length old ts):Km (Kl (λi rs t=>WW ts (lng ls+1) i (KE t rs:Nat)) 0 ls ws)=val ((lng ls:Int)+1) (ts.map (KW ls ws)):=by
 rw[OF (h:=λi:Nat=>if(i:Int)∈ts then KW ls ws i*((lng ls:Int)+1) ^ (ts.length-1-ts.idxOf (i:Int))else 0) ls ws 0 hl,←Mp ga.once ga.there]
 ·congr 2
  funext i;rw[QS]
 ·intro i rs o' h1 h2;rw[QS];have e:KW ls ws (i:Int)=(o'.map λt=>(lng ls:Int)+1-(KE t rs:Nat)).getD 0:=by unfold KW;rw[Qy,Qh,Qh,h1,h2];cases o'<;>rfl
  rw[e];cases o' with
  |none=>
   show(0:Int)=if(i:Int)∈ts then 0*_ else 0
   split
   ·rw[Int.zero_mul]
   ·rfl
  |some t=>rfl
theorem Lr{os:LO}:∀(ls:L3)(ws:LO)(k:Nat),ws.length=ls.length->Km (Kl (λi _ t=>if os[i]?=some (some t)then 1 else 0) k ls ws)=((((os.drop k).zip ws).filter λp=>decide (p.1=p.2)&&p.2.isSome).length:Nat)
 |[],[],k,_=>by simp[Kl,Km]
 |rs::ls,o::ws,k,hl=>by
  have ih:=Lr (os:=os) ls ws (k+1) (by simpa using hl);rw[Kl,VF,ih];by_cases hk:k<os.length
  ·rw[QR hk,List.zip_cons_cons,Qd hk];cases o with
   |none=>rw[List.filter_cons_of_neg (by simp)];show(0:Int)+_=_;omega
   |some t=>
    show(if some os[k]=some (some t)then(1:Int)else 0)+_=_
    by_cases e:os[k]=some t
    ·rw[if_pos (by rw[e]),List.filter_cons_of_pos (by simp[e]),List.length_cons];omega
    ·rw[if_neg (by simpa using e),List.filter_cons_of_neg (by simp[e])];omega
  ·rw[JX (by omega),JX (by omega),List.zip_nil_left,List.zip_nil_left,QB (by omega)];cases o with
   |none=>rfl
   |some t=>rfl
theorem Dw(hl:ws.length=ls.length):Km (Kl (λi _ t=>YY old i t) 0 ls ws)=(K1 old ws:Int):=by
 cases old with
 |none=>
  rw[OF (h:=λ_=>0) ls ws 0 hl,Oj]
  ·simp[K1]
  ·intro i rs o' _ _;cases o'<;>rfl
 |some os=>exact Lr ls ws 0 hl
theorem Lq(dl:Deal cs ls ws)(ga:Yp cs.length ls.length old ts):Km (Kl (KO ls o old ts) 0 ls ws) =
  (val ((ls.length:Int)+1) (KQ o (lng ls) (plQ (UQ ls ws)))*((ls.length:Int)+1)+K1 old ws)*((lng ls:Int)+1) ^ ts.length+val ((lng ls:Int)+1) (ts.map (KW ls ws)):=by
 rw[Od (W:=KO ls o old ts) (W1:=λi rs t=>Zm o (ls.length+1) (lng ls) (KE t rs:Nat)*((ls.length:Int)+1)+YY old i t) (W2:=λi rs t=>WW ts (lng ls+1) i (KE t rs:Nat)) (c:=((lng ls:Int)+1) ^ ts.length) (λ_ _ _=>rfl) ls ws 0,
  Od (W1:=λi rs t=>Zm o (ls.length+1) (lng ls) (KE t rs:Nat)) (W2:=λi _ t=>YY old i t) (c:=(ls.length:Int)+1) (λ_ _ _=>rfl) ls ws 0,Be dl.len ga,Dw dl.len,
  Mq (f:=λr=>Zm o (ls.length+1) (lng ls) r) ls ws 0 (λi t rs h1 h2=>RY (dl.wish i t rs h1 h2)),Dh o]
 ·rfl
 ·intro r hr;obtain⟨hr,h0⟩:=Uf.mp hr;have:=SK (ls:=ls) (ws:=ws) r hr;have:r≠0:=by simpa using h0
  omega
end
theorem Oc{lo n:Int}{a b:List Int}(ha:∀x∈a,lo<=x/\x<=lo+n)(hb:∀x∈b,lo<=x/\x<=lo+n):∀d∈Kk a b, -n<=d/\d<=n:=λd hd=>by unfold Kk at hd;obtain⟨p,hp,rfl⟩:=Qt.mp hd;obtain⟨h1,h2⟩:=List.of_mem_zip (a:=p.1) (b:=p.2) hp;have:=ha _ h1;have:=hb _ h2;omega
theorem RJ{n:Nat}{qs:List Nat}{m:Int}(h:(qs.length:Int)<=m):∀x∈Ke n qs,0<=x/\x<=0+m:=λx hx=>by unfold Ke at hx;obtain⟨p,_,rfl⟩:=Qt.mp hx;have:=List.count_le_length (a:=p) (l:=qs);omega
theorem Dv(o:Ord)(L:Nat)(p q:List Nat):(KQ o L p).length=(KQ o L q).length:=by cases o<;>simp[KQ,Yv]
theorem Dg(o:Ord){L:Nat}{p q:List Nat}{m:Int}(hp:(p.length:Int)<=m)(hq:(q.length:Int)<=m):∀d∈Kk (KQ o L p) (KQ o L q), -m<=d/\d<=m:=by
 have hc:=Oc (RJ (n:=L) hp) (RJ (n:=L) hq);cases o with
 |firsts=>exact hc
 |full=>
  intro d hd;rcases QO.mp (show d∈((p.length:Int)-q.length)::Kk (Ke L p) (Ke L q)from hd)with rfl|h
  ·omega
  ·exact hc d h
 |lasts=>
  intro d hd;rcases QO.mp (show d∈((p.length:Int)-q.length)::Kk ((Ke L p).reverse.map λx=>-x) ((Ke L q).reverse.map λx=>-x)from hd)with rfl|h
  ·omega
  ·refine Oc (lo:=-m) (n:=m) (λx hx=>?_) (λx hx=>?_) d h
   ·obtain⟨y,hy,rfl⟩:=Qt.mp hx;have:=RJ (n:=L) hp y (List.mem_reverse.mp hy);omega
   ·obtain⟨y,hy,rfl⟩:=Qt.mp hx;have:=RJ (n:=L) hq y (List.mem_reverse.mp hy);omega
theorem Aj{a a' k k' t t' B P:Int}:((a*B+k)*P+t)-((a'*B+k')*P+t')=((a-a')*B+(k-k'))*P+(t-t'):=by
 have e:(a-a')*B+(k-k')=(a*B+k)-(a'*B+k'):=by rw[Int.sub_mul];omega
 rw[e,Int.sub_mul (a*B+k)];omega
section
variable{cs:List Int}{ls:L3}{ws us:LO}{o:Ord}{old:Option LO}{ts:List Int}
theorem NI:((plQ (UQ ls ws)).length:Int)<=ls.length:=by
 have h1:(plQ (UQ ls ws)).length<=(UQ ls ws).length:=by unfold plQ srv;rw[Qb];exact J6 _ _
 have h2:(UQ ls ws).length<=ls.length:=by unfold UQ;rw[List.length_zipWith];omega
 omega
theorem Lp(hl:ws.length=ls.length):(K1 old ws:Int)<=ls.length:=by
 cases old with
 |none=>show((0:Nat):Int)<=_;omega
 |some os=>
  have h:=J6 (λp:Option Int×Option Int=>decide (p.1=p.2)&&p.2.isSome) (os.zip ws);rw[J0]at h
  show((((os.zip ws).filter λp=>decide (p.1=p.2)&&p.2.isSome).length:Nat):Int)<=_
  omega
theorem Mo(g:Good cs ls)(dl:Deal cs ls ws)(ga:Yp cs.length ls.length old ts):∀x∈ts.map (KW ls ws),0<=x/\x<=0+(lng ls:Int):=λx hx=>by
 rw[SR g dl ga]at hx;obtain⟨y,hy,rfl⟩:=Qt.mp hx;obtain⟨z,_,rfl⟩:=Qt.mp hy;have:=SE (ls:=ls) (ws:=ws) (z:=z);unfold tf
 split<;>omega
theorem Ai(g:Good cs ls)(d1:Deal cs ls ws)(d2:Deal cs ls us)(ga:Yp cs.length ls.length old ts){w1 w2:Int}(e1:w1=Km (Kl (KO ls o old ts) 0 ls ws))(e2:w2=Km (Kl (KO ls o old ts) 0 ls us)) :
  (w2<w1 ↔ 0<fnz (YZ o (U1 (lng ls) (UQ ls ws)) (U1 (lng ls) (UQ ls us)))∨fnz (YZ o (U1 (lng ls) (UQ ls ws)) (U1 (lng ls) (UQ ls us)))=0/\((K1 old us:Int)<K1 old ws∨(K1 old ws:Int)=K1 old us/\0<fnz (Kk (ts.map (KW ls ws)) (ts.map (KW ls us))))) /\
  (w1=w2 ↔ fnz (YZ o (U1 (lng ls) (UQ ls ws)) (U1 (lng ls) (UQ ls us)))=0/\(K1 old ws:Int)=K1 old us/\fnz (Kk (ts.map (KW ls ws)) (ts.map (KW ls us)))=0):=by
 have hgl:(UQ ls ws).length=(UQ ls us).length:=by rw[Oi d1.len,Oi d2.len]
 rw[Dx (SK (ls:=ls) (ws:=ws)) (SK (ls:=ls) (ws:=us)) hgl];have hB:(0:Int)<(ls.length:Int)+1:=by omega
 have hM:(0:Int)<(lng ls:Int)+1:=by omega
 have bd1:=Dg o (L:=lng ls) (NI (ls:=ls) (ws:=ws)) (NI (ls:=ls) (ws:=us));have bd2:=Oc (Mo g d1 ga) (Mo g d2 ga);have k1:=Lp (old:=old) d1.len;have k2:=Lp (old:=old) d2.len;have hl1:=Dv o (lng ls) (plQ (UQ ls ws)) (plQ (UQ ls us));have hl2:(ts.map (KW ls ws)).length=(ts.map (KW ls us)).length:=by rw[Qb,Qb]
 have v1:=Of (B:=(ls.length:Int)+1) hl1;have v2:=Of (B:=(lng ls:Int)+1) hl2;have ml:(Kk (ts.map (KW ls ws)) (ts.map (KW ls us))).length=ts.length:=by rw[S7 hl2,Qb]
 have f1:=PJ hB (l:=Kk (KQ o (lng ls) (plQ (UQ ls ws))) (KQ o (lng ls) (plQ (UQ ls us)))) (λd hd=>by have:=bd1 d hd;omega);have f2:=PJ hM (l:=Kk (ts.map (KW ls ws)) (ts.map (KW ls us))) (λd hd=>by have:=bd2 d hd;omega);have sm:=Om hM (l:=Kk (ts.map (KW ls ws)) (ts.map (KW ls us))) (λd hd=>by have:=bd2 d hd;omega);rw[ml]at sm;have tp1:=Ol (X:=val ((ls.length:Int)+1) (Kk (KQ o (lng ls) (plQ (UQ ls ws))) (KQ o (lng ls) (plQ (UQ ls us))))) (Y:=(K1 old ws:Int)-K1 old us) hB (by omega);have tp2:=Ol (X:=val ((ls.length:Int)+1) (Kk (KQ o (lng ls) (plQ (UQ ls ws))) (KQ o (lng ls) (plQ (UQ ls us))))*((ls.length:Int)+1)+((K1 old ws:Int)-K1 old us)) (Og hM ts.length) sm;have df:w1-w2=(val ((ls.length:Int)+1) (Kk (KQ o (lng ls) (plQ (UQ ls ws))) (KQ o (lng ls) (plQ (UQ ls us))))*((ls.length:Int)+1)+((K1 old ws:Int)-K1 old us))*((lng ls:Int)+1) ^ ts.length+val ((lng ls:Int)+1) (Kk (ts.map (KW ls ws)) (ts.map (KW ls us))):=by rw[e1,e2,Lq d1 ga,Lq d2 ga,v1,v2];exact Aj
 rw[←df]at tp2;generalize val ((ls.length:Int)+1) (Kk (KQ o (lng ls) (plQ (UQ ls ws))) (KQ o (lng ls) (plQ (UQ ls us))))*((ls.length:Int)+1)+((K1 old ws:Int)-K1 old us)=X at tp1 tp2;generalize val ((ls.length:Int)+1) (Kk (KQ o (lng ls) (plQ (UQ ls ws))) (KQ o (lng ls) (plQ (UQ ls us))))=V at tp1 f1;generalize val ((lng ls:Int)+1) (Kk (ts.map (KW ls ws)) (ts.map (KW ls us)))=Y at tp2 f2;generalize fnz (Kk (KQ o (lng ls) (plQ (UQ ls ws))) (KQ o (lng ls) (plQ (UQ ls us))))=A at f1⊢;generalize fnz (Kk (ts.map (KW ls ws)) (ts.map (KW ls us)))=C at f2⊢;constructor
 ·constructor
  ·intro h;rcases tp2.1.mp (by omega)with h1|⟨h1,h2⟩
   ·rcases tp1.1.mp h1 with h3|⟨h3,h4⟩
    ·exact .inl (f1.1.mp h3)
    ·exact .inr ⟨f1.2.mp h3,.inl (by omega)⟩
   ·obtain⟨h3,h4⟩:=tp1.2.mp h1;exact .inr ⟨f1.2.mp h3,.inr ⟨by omega,f2.1.mp h2⟩⟩
  ·intro h
   have:0<w1-w2:=tp2.1.mpr (by
    rcases h with h|⟨h,h2|⟨h2,h3⟩⟩
    ·exact .inl (tp1.1.mpr (.inl (f1.1.mpr h)))
    ·exact .inl (tp1.1.mpr (.inr ⟨f1.2.mpr h,by omega⟩))
    ·exact .inr ⟨tp1.2.mpr ⟨f1.2.mpr h,by omega⟩,f2.1.mpr h3⟩)
   omega
 ·constructor
  ·intro h;obtain⟨h1,h2⟩:=tp2.2.mp (by omega);obtain⟨h3,h4⟩:=tp1.2.mp h1;exact⟨f1.2.mp h3,by omega,f2.2.mp h2⟩
  ·rintro⟨h1,h2,h3⟩;have:=tp2.2.mpr ⟨tp1.2.mpr ⟨f1.2.mpr h1,by omega⟩,f2.2.mpr h3⟩;omega
theorem Lo(g:Good cs ls)(d1:Deal cs ls ws)(d2:Deal cs ls us)(ga:Yp cs.length ls.length old ts) :
  XM o (U1 (lng ls) (UQ ls ws)) (U1 (lng ls) (UQ ls us)) (K1 old ws) (K1 old us) (ts.map (rgA ls ws)) (ts.map (rgA ls us))=decide (Km (Kl (KO ls o old ts) 0 ls us)<Km (Kl (KO ls o old ts) 0 ls ws)):=by
 have ht:=On (L:=lng ls) (xs:=ts.map (rgA ls ws)) (ys:=ts.map (rgA ls us)) (λr h=>by obtain⟨z,_,rfl⟩:=Qt.mp h;exact SE) (λr h=>by obtain⟨z,_,rfl⟩:=Qt.mp h;exact SE);rw[←SR g d1 ga,←SR g d2 ga]at ht;have hs:=(Ai (o:=o) g d1 d2 ga rfl rfl).1;unfold XM;rw[←ht];apply JD.2;rw[Q3,hs];generalize fnz (YZ o (U1 (lng ls) (UQ ls ws)) (U1 (lng ls) (UQ ls us)))=A;generalize fnz (Kk (ts.map (KW ls ws)) (ts.map (KW ls us)))=C;by_cases h:A=0
 ·rw[Qm h];by_cases h2:(K1 old ws:Int)=K1 old us
  ·rw[Qm h2,Q3];omega
  ·rw[Qu h2,Q3];omega
 ·rw[Qu h,Q3];omega
end
theorem Df{d:D}(h1:d.canLay0=true)(h2:d.depth<=60):oEq d d=some true:=by unfold oEq;rw[Qm ⟨h1,h1,h2⟩,MC _ h1]
theorem Ah{α β:Type}{f:α->β}(hf:∀a b,f a=f b->a=b){l:List α}(h:l.Nodup):(l.map f).Nodup:=by unfold List.Nodup at h⊢;rw[List.pairwise_map];exact h.imp λhne e=>hne (hf _ _ e)
theorem Ha:∀(ls:L3)(k:Nat),(∀rs∈ls,rs.flatten.Nodup)->(Ky k ls).Nodup
 |[],_,_=>List.nodup_nil
 |rs::ls,k,h=>by
  show((Yj rs.flatten).map (λt=>((k:Int),t))++Ky (k+1) ls).Nodup
  rw[List.nodup_append];refine⟨?_,Ha ls (k+1) λr hr=>h r (Qk _ hr),λa ha b hb e=>?_⟩
  ·exact Ah (λx y e=>(Prod.mk.inj e).2) ((XB _).nodup_iff.mpr (h rs Qo))
  ·subst e;obtain⟨t,_,rfl⟩:=Qt.mp ha;have:=P1 ls (k+1) _ hb;simp at this;omega
def papD(tm:Int)(as ps:List Int):D:=.tuple [.int tm,.list (as.map int),.list (ps.map int)]
def Pb(ps cs:List Int):List Int:=(ps.zip cs).map λp=>p.1*p.2
def Rm(cs as ps:List Int):Int:=as.sum+(Pb ps cs).sum
theorem De{cs:List Int}{ls:L3}(g:Good cs ls):∀q∈Ky 0 ls,(0<=q.1/\q.1<ls.length)/\0<=q.2/\q.2<cs.length:=λq hq=>by obtain⟨i,rs,h1,h2,h3⟩:=Ve hq;have:=(g.rk rs (Qp h1)).flat q.2 h3;have:=(Qg.mp h1).1;omega
section
variable{cs:List Int}{ls:L3}{o:Ord}{old:Option LO}{ts:List Int}
theorem Du(g:Good cs ls)(ga:Yp cs.length ls.length old ts){q:Int×Int}(hq:q∈Ky 0 ls):0<=Zb ls o old ts q.1 q.2/\Zb ls o old ts q.1 q.2<18446744073709551616:=by
 obtain⟨i,rs,h1,h2,h3⟩:=Ve hq;have l7:=g.l7;have l1:=g.l1;have hL:lng ls<=5:=Sx l1 λrs h=>(g.rk rs h).few;have hrl:=Pf (Qp h1);have hr1:1<=KE q.2 rs:=by have:=RY h3;omega
 have hr2:KE q.2 rs<=lng ls:=by have:=RK q.2 rs;omega
 have htl:=ga.few
 have e:Zb ls o old ts q.1 q.2=KO ls o old ts i rs q.2:=by
  unfold Zb;rw[h2,QS,Qy]
  congr 1
  simp[List.getD,h1]
 rw[e];unfold KO;have pw:∀{b:Int}{n k:Nat},1<=b->b<=8->n<=k->1<=b ^ n/\b ^ n<=8 ^ k:=λ{b n k} h0 h8 hk=>⟨Int.pow_pos h0,Ly (by omega) h8 hk⟩
 have hb1:(1:Int)<=(ls.length:Int)+1:=by omega
 have hb8:(ls.length:Int)+1<=8:=by omega
 have hM1:(1:Int)<=(lng ls:Int)+1:=by omega
 have hM8:(lng ls:Int)+1<=8:=by omega
 have a1:=pw hb1 hb8 (n:=lng ls) (k:=5) hL;have a2:=pw hb1 hb8 (n:=((lng ls:Int)-(KE q.2 rs:Nat)).toNat) (k:=5) (by omega);have a3:=pw hb1 hb8 (n:=((KE q.2 rs:Nat)-1:Int).toNat) (k:=5) (by omega)
 have a4:((ls.length:Int)+1) ^ ((KE q.2 rs:Nat)-1:Int).toNat<=((ls.length:Int)+1) ^ lng ls:=by
  have:((KE q.2 rs:Nat)-1:Int).toNat<=lng ls:=by omega
  obtain⟨k,hk⟩:=Nat.exists_eq_add_of_le this;rw[hk,Int.pow_add];have:=(pw hb1 hb8 (n:=k) (k:=5) (by omega)).1;have hm:=Int.mul_le_mul_of_nonneg_left this (show 0<=((ls.length:Int)+1) ^ ((KE q.2 rs:Nat)-1:Int).toNat by omega);rw[Int.mul_one]at hm;exact hm
 have b1:0<=Zm o (ls.length+1) (lng ls) (KE q.2 rs)/\Zm o (ls.length+1) (lng ls) (KE q.2 rs)<=65536:=by
  cases o with
  |firsts=>show 0<=_ ^ _/\_ ^ _<=65536;omega
  |full=>show 0<=_ ^ ((lng ls:Int)).toNat+_ ^ _/\_ ^ ((lng ls:Int)).toNat+_ ^ _<=65536;rw[Qy];omega
  |lasts=>show 0<=_ ^ ((lng ls:Int)).toNat-_ ^ _/\_ ^ ((lng ls:Int)).toNat-_ ^ _<=65536;rw[Qy];omega
 have b2:0<=YY old i q.2/\YY old i q.2<=1:=by
  unfold YY;split
  ·omega
  ·split<;>omega
 have b3:=pw hM1 hM8 (n:=ts.length) (k:=7) (by omega)
 have b4:0<=WW ts ((lng ls:Int)+1) i (KE q.2 rs)/\WW ts ((lng ls:Int)+1) i (KE q.2 rs)<=8*8 ^ 7:=by
  unfold WW;split
  ·have b5:=pw hM1 hM8 (n:=ts.length-1-ts.idxOf (i:Int)) (k:=7) (by omega);refine⟨Int.mul_nonneg (by omega) (by omega),?_⟩;exact Int.mul_le_mul (by omega) b5.2 (by omega) (by decide)
  ·exact⟨by omega,by decide⟩
 have c1:0<=Zm o (ls.length+1) (lng ls) (KE q.2 rs)*(ls.length+1)+YY old i q.2/\Zm o (ls.length+1) (lng ls) (KE q.2 rs)*(ls.length+1)+YY old i q.2<=600000:=by have d1:0<=Zm o (ls.length+1) (lng ls) (KE q.2 rs)*((ls.length:Int)+1):=Int.mul_nonneg b1.1 (by omega);have d2:Zm o (ls.length+1) (lng ls) (KE q.2 rs)*((ls.length:Int)+1)<=65536*8:=Int.mul_le_mul b1.2 hb8 (by omega) (by decide);omega
 have d3:0<=(Zm o (ls.length+1) (lng ls) (KE q.2 rs)*(ls.length+1)+YY old i q.2)*((lng ls:Int)+1) ^ ts.length:=Int.mul_nonneg c1.1 (by omega);have d4:(Zm o (ls.length+1) (lng ls) (KE q.2 rs)*(ls.length+1)+YY old i q.2)*((lng ls:Int)+1) ^ ts.length<=600000*8 ^ 7:=Int.mul_le_mul c1.2 b3.2 (by omega) (by decide);omega
end
structure OkP(n m:Nat)(V:Int->Int->Int)(qs:LP)(tm:Int)(as ps:List Int):Prop where
 t0:0<=tm
 la:as.length=m
 lp:ps.length=n
 aa:∀a∈as,0<=a
 pp:∀p∈ps,0<=p
 le:∀q∈qs,tm*V q.1 q.2<=as.getD q.1.toNat 0+ps.getD q.2.toNat 0
def pz(ps:List Int)(ws:LO):Int:=(ws.map λo=>match o with|some t=>ps.getD t.toNat 0|none=>0).sum
def K2(n:Nat)(f:Nat->Int):Int:=((Uv n).map f).sum
theorem VE{n:Nat}{f:Nat->Int}:K2 (n+1) f=K2 n f+f n:=by unfold K2;rw[Uh,Qz,JI];simp
theorem Mn{f h:Nat->Int}:∀(n:Nat),K2 n (λk=>f k+h k)=K2 n f+K2 n h
 |0=>rfl
 |n+1=>by rw[VE,VE,VE,Mn n];omega
theorem RI{f h:Nat->Int}:∀(n:Nat),(∀k,k<n->f k<=h k)->K2 n f<=K2 n h
 |0,_=>QW _
 |n+1,e=>by
  have h1:=RI n λk hk=>e k (by omega)
  have h2:=e n (by omega);rw[VE,VE];omega
theorem Ow:∀(n:Nat)(f:Nat->Int),(∀k,k<n->f k=0)->K2 n f=0
 |0,_,_=>rfl
 |n+1,f,e=>by rw[VE,Ow n f λk hk=>e k (by omega),e n (by omega)];rfl
theorem MN{p:Nat->Int}{j:Nat}:∀(n:Nat),j<n->K2 n (λk=>if k=j then p k else 0)=p j
 |n+1,h=>by
  rw[VE];by_cases e:n=j
  ·subst e;rw[Qm rfl,Ow n _ λk hk=>Qu (by omega)];omega
  ·rw[Qu e,MN n (by omega)];omega
theorem OE{f h:Nat->Int}{n:Nat}(e:∀k,k<n->f k=h k):K2 n f=K2 n h:=J4 (RI n λk hk=>by rw[e k hk];exact QW _) (RI n λk hk=>by rw[e k hk];exact QW _)
theorem Ov{ps:List Int}{n:Nat}:∀(ws:LO),(∀t,some t∈ws->0<=t/\t<n)->pz ps ws=K2 n λk=>((ws.count (some (k:Int)):Nat):Int)*ps.getD k 0
 |[],_=>by rw[Ow n _ λk _=>by simp];rfl
 |o::ws,h=>by
  have ih:=Ov (ps:=ps) ws λt ht=>h t (Qk _ ht)
  cases o with
  |none=>
   show((0:Int)::(ws.map λo=>match o with|some t=>ps.getD t.toNat 0|none=>0)).sum=_
   rw[Ja];unfold pz at ih;rw[ih,Uc];exact OE λk _=>by rw[List.count_cons];simp
  |some t=>
   have ht:=h t Qo
   show(ps.getD t.toNat 0::(ws.map λo=>match o with|some t=>ps.getD t.toNat 0|none=>0)).sum=_
   rw[Ja];unfold pz at ih;rw[ih,←MN (p:=λk=>ps.getD k 0) (j:=t.toNat) n (by omega),←Mn];refine OE λk _=>?_;rw[Jt]
   by_cases e:k=t.toNat
   ·subst e;have:(some t==some ((t.toNat:Nat):Int))=true:=by simp;omega
    rw[Qm rfl,Qm this,Int.natCast_add,Int.add_mul];omega
   ·have:¬(some t==some ((k:Nat):Int))=true:=by simp;omega
    rw[Qu e,Qu this,Uc,Nat.add_zero]
theorem L9:∀(ps cs:List Int),ps.length=cs.length->(Pb ps cs).sum=K2 cs.length λk=>cs.getD k 0*ps.getD k 0
 |ps,cs,h=>by
  unfold K2 Pb
  congr 1
  apply Jq;intro i;rw[Qe,Qe];by_cases hi:i<cs.length
  ·rw[QQ hi];have h1:ps[i]?=some ps[i]:=Qd (by omega);have h2:cs[i]?=some cs[i]:=Qd hi;have hz:(ps.zip cs)[i]?=some (ps[i],cs[i]):=JN.mpr ⟨h1,h2⟩;rw[hz];simp only[Option.map_some,Qh,h1,h2,JT,Int.mul_comm]
  ·rw[QB (l:=ps.zip cs) (by rw[J0];omega),QB (l:=Uv cs.length) (by rw[Qq];omega)];rfl
structure Stp where
 a:Nat
 b:Nat
 g:Int
 w:Option Nat
abbrev Tab:=List (Int×List Stp)
def ent(T:Tab)(p:Nat):Int×List Stp:=T.getD p (0,[])
def Yn(W T:Tab)(s:Stp):Tab:=if(ent T s.b).1<(ent W s.a).1+s.g then T.set s.b ((ent W s.a).1+s.g,(ent W s.a).2++[s])else T
def Rs(W:Tab)(S:List Stp):Tab:=S.foldl (Yn W) W
def KD(n:Nat)(S:List Stp):Nat->Tab
 |0=>Uw n (0,[])
 |t+1=>Rs (KD n S t) S
theorem qC{T:Tab}{p:Nat}{x:Int×List Stp}(h:p<T.length):ent (T.set p x) p=x:=by unfold ent;rw[Qh,QF h];rfl
theorem OD{T:Tab}{p q:Nat}{x:Int×List Stp}(h:p≠q):ent (T.set p x) q=ent T q:=by unfold ent;rw[Qh,Qr h,←Qh]
theorem Bd(W T:Tab)(s:Stp):(Yn W T s).length=T.length:=by
 unfold Yn;split
 ·rw[Q6]
 ·rfl
structure TZ(W T:Tab)(S:List Stp):Prop where
 len:T.length=W.length
 up:∀p,(ent W p).1<=(ent T p).1
 how:∀p,ent T p=ent W p ∨ ∃s∈S,s.b=p/\ent T p=((ent W s.a).1+s.g,(ent W s.a).2++[s])/\(ent W p).1<(ent T p).1
theorem qB{W T:Tab}{S:List Stp}{s:Stp}(hs:s∈S)(hb:s.b<W.length)(k:TZ W T S):TZ W (Yn W T s) S/\(∀p,(ent T p).1<=(ent (Yn W T s) p).1)/\(ent W s.a).1+s.g<=(ent (Yn W T s) s.b).1:=by
 have hbT:s.b<T.length:=by rw[k.len];exact hb
 unfold Yn;split
 ·rename_i h;have self:=qC (x:=((ent W s.a).1+s.g,(ent W s.a).2++[s])) hbT;refine⟨⟨by rw[Q6];exact k.len,λp=>?_,λp=>?_⟩,λp=>?_,by rw[self];exact QW _⟩
  ·by_cases z:s.b=p
   ·subst z;rw[self];have:=k.up s.b;show _<=(ent W s.a).1+s.g;omega
   ·rw[OD z];exact k.up p
  ·by_cases z:s.b=p
   ·subst z;right;exact⟨s,hs,rfl,self,by rw[self];have:=k.up s.b;show _<(ent W s.a).1+s.g;omega⟩
   ·rw[OD z];exact k.how p
  ·by_cases z:s.b=p
   ·subst z;rw[self];show _<=(ent W s.a).1+s.g;omega
   ·rw[OD z];exact QW _
 ·rename_i h;exact⟨k,λp=>QW _,by omega⟩
theorem L8{W:Tab}{S:List Stp}(hS:∀s∈S,s.b<W.length):∀(R:List Stp)(T:Tab),(∀s∈R,s∈S)->TZ W T S->TZ W (R.foldl (Yn W) T) S/\(∀p,(ent T p).1<=(ent (R.foldl (Yn W) T) p).1)/\∀s∈R,(ent W s.a).1+s.g<=(ent (R.foldl (Yn W) T) s.b).1
 |[],T,_,k=>⟨k,λ_=>QW _,λs h=>by cases h⟩
 |s::R,T,hR,k=>by
  obtain⟨k1,u1,c1⟩:=qB (hR s Qo) (hS s (hR s Qo)) k;obtain⟨k2,u2,c2⟩:=L8 hS R (Yn W T s) (λx hx=>hR x (Qk _ hx)) k1;refine⟨k2,λp=>JP (u1 p) (u2 p),λx hx=>?_⟩;rcases QO.mp hx with rfl|hx
  ·exact JP c1 (u2 x.b)
  ·exact c2 x hx
theorem Hj{W:Tab}{S:List Stp}(hS:∀s∈S,s.b<W.length):TZ W (Rs W S) S/\∀s∈S,(ent W s.a).1+s.g<=(ent (Rs W S) s.b).1:=by obtain⟨k,_,c⟩:=L8 hS S W (λ_ h=>h) ⟨rfl,λ_=>QW _,λ_=>.inl rfl⟩;exact⟨k,c⟩
section
variable{n:Nat}{S:List Stp}(hS:∀s∈S,s.a<n/\s.b<n)
include hS
theorem Sm:∀t,(KD n S t).length=n
 |0=>by unfold KD;rw[QU]
 |t+1=>by unfold KD;rw[(Hj (λs h=>by rw[Sm t];exact(hS s h).2)).1.len,Sm t]
theorem VC(t:Nat):TZ (KD n S t) (KD n S (t+1)) S/\∀s∈S,(ent (KD n S t) s.a).1+s.g<=(ent (KD n S (t+1)) s.b).1:=
 Hj (λs h=>by rw[Sm hS t];exact(hS s h).2)
theorem SQ(p:Nat):ent (KD n S 0) p=(0,[]):=by
 unfold ent KD;rw[Qh,QA]
 split<;>rfl
theorem RX:∀t,(∀p,(ent (KD n S t) p).2.length<=t)/\(∀p,0<t->ent (KD n S t) p≠ent (KD n S (t-1)) p->(ent (KD n S t) p).2.length=t)
 |0=>⟨λp=>by rw[SQ hS];exact Qv _,λp h=>absurd h (Js _)⟩
 |t+1=>by
  obtain⟨h1,h2⟩:=RX t;obtain⟨k,c⟩:=VC hS t
  have key:∀p,ent (KD n S (t+1)) p≠ent (KD n S t) p->(ent (KD n S (t+1)) p).2.length=t+1:=λp hne=>by
   rcases k.how p with e|⟨s,hs,hb,e,lt⟩
   ·exact absurd e hne
   ·rw[e,Ql,Jh]
    congr 1
    cases t with
    |zero=>rw[SQ hS];rfl
    |succ t=>
     refine h2 s.a (Nat.succ_pos t) λz=>?_
     obtain⟨k0,c0⟩:=VC hS t;have:=c0 s hs;rw[Nat.add_sub_cancel]at z;rw[e,z,←hb]at lt;exact absurd lt (by show ¬_<(ent (KD n S t) s.a).1+s.g;omega)
  refine⟨λp=>?_,λp _ hne=>key p (by rw[Nat.add_sub_cancel]at hne;exact hne)⟩;by_cases z:ent (KD n S (t+1)) p=ent (KD n S t) p
  ·rw[z];exact Nat.le_succ_of_le (h1 p)
  ·rw[key p z];exact Qv _
end
inductive Walk(S:List Stp):Nat->List Stp->Prop where
 |nil (p:Nat):Walk S p []
 |snoc {w:List Stp} {s:Stp} (hs:s∈S) (h:Walk S s.a w):Walk S s.b (w++[s])
def Kh(w:List Stp):Int:=(w.map Stp.g).sum
theorem MM:Kh []=0:=rfl
theorem Wf(u v:List Stp):Kh (u++v)=Kh u+Kh v:=by unfold Kh;rw[Qz,JI]
theorem Sf(s:Stp):Kh [s]=s.g:=by unfold Kh;simp
section
variable{n:Nat}{S:List Stp}(hS:∀s∈S,s.a<n/\s.b<n)
include hS
theorem SZ:∀t p,Walk S p (ent (KD n S t) p).2/\Kh (ent (KD n S t) p).2=(ent (KD n S t) p).1
 |0,p=>by rw[SQ hS];exact⟨.nil p,rfl⟩
 |t+1,p=>by
  rcases(VC hS t).1.how p with e|⟨s,hs,hb,e,_⟩
  ·rw[e];exact SZ t p
  ·obtain⟨h1,h2⟩:=SZ t s.a;rw[e,←hb];exact⟨.snoc hs h1,by rw[Wf,Sf,h2]⟩
theorem Ln{t u:Nat}(h:t<=u)(p:Nat):(ent (KD n S t) p).1<=(ent (KD n S u) p).1:=by
 induction h with
 |refl=>exact QW _
 |step _ ih=>exact JP ih ((VC hS _).1.up p)
theorem Bc{p:Nat}{w:List Stp}(h:Walk S p w):∀(t:Nat),w.length<=t->Kh w<=(ent (KD n S t) p).1:=by
 induction h with
 |nil p=>intro t _;have:=Ln hS (Ua t) p;rw[SQ hS]at this;exact this
 |@snoc w s hs h ih=>
  intro t hl;rw[Ql,Jh]at hl;obtain⟨u,rfl⟩:∃u,t=u+1:=⟨t-1,by omega⟩
  have:=ih u (by omega);have:=(VC hS u).2 s hs;rw[Wf,Sf];omega
theorem Ag{t:Nat}(h0:0<t)(h:∀p,p<n->(ent (KD n S t) p).2.length≠t):∀s∈S,(ent (KD n S t) s.a).1+s.g<=(ent (KD n S t) s.b).1:=λs hs=>by
 obtain⟨u,rfl⟩:∃u,t=u+1:=⟨t-1,by omega⟩
 have e:ent (KD n S (u+1)) s.a=ent (KD n S u) s.a:=Classical.byContradiction λz=>h s.a (hS s hs).1 ((RX hS (u+1)).2 s.a h0 z);rw[e]
 exact(VC hS u).2 s hs
end
inductive Path(S:List Stp):Nat->List Stp->Nat->Prop where
 |nil (p:Nat):Path S p [] p
 |cons {s:Stp} {w:List Stp} {p:Nat} (hs:s∈S) (h:Path S s.b w p):Path S s.a (s::w) p
section
variable{S:List Stp}
theorem Path.append{q m p:Nat}{u v:List Stp}(h1:Path S q u m)(h2:Path S m v p):Path S q (u++v) p:=by
 induction h1 with
 |nil p=>exact h2
 |cons hs h ih=>exact .cons hs (ih h2)
theorem Path.split{p:Nat}{v:List Stp}:∀{u:List Stp}{q:Nat},Path S q (u++v) p->∃m,Path S q u m/\Path S m v p
 |[],q,h=>⟨q,.nil q,h⟩
 |s::u,q,h=>by
  cases h with
  |cons hs h=>obtain⟨m,h1,h2⟩:=Path.split (u:=u) h;exact⟨m,.cons hs h1,h2⟩
theorem Path.mem{q p:Nat}{w:List Stp}(h:Path S q w p):∀s∈w,s∈S:=by
 induction h with
 |nil p=>intro s h;cases h
 |cons hs h ih=>
  intro s hm;rcases QO.mp hm with rfl|hm
  ·exact hs
  ·exact ih s hm
theorem Walk.path{p:Nat}{w:List Stp}(h:Walk S p w):∃q,Path S q w p:=by
 induction h with
 |nil p=>exact⟨p,.nil p⟩
 |snoc hs h ih=>obtain⟨q,hq⟩:=ih;exact⟨q,hq.append (.cons hs (.nil _))⟩
theorem Path.walk{p:Nat}:∀{w:List Stp}{q:Nat},Path S q w p->∀{u:List Stp},Walk S q u->Walk S p (u++w)
 |[],q,h,u,hu=>by cases h;rw[Q5];exact hu
 |s::w,q,h,u,hu=>by
  cases h with
  |cons hs h=>have:=Path.walk h (Walk.snoc hs hu);rw[Jk]at this;exact this
theorem Path.head{q p:Nat}{s:Stp}{w:List Stp}(h:Path S q (s::w) p):q=s.a:=by cases h;rfl
theorem Path.step{q p:Nat}{s:Stp}{w:List Stp}(h:Path S q (s::w) p):s∈S/\Path S s.b w p:=by cases h with|cons hs h=>exact⟨hs,h⟩
theorem Path.at{q p:Nat}{w:List Stp}(h:Path S q w p){i:Nat}{s:Stp}(hi:w[i]?=some s):Path S q (w.take i) s.a/\Path S q (w.take (i+1)) s.b/\Path S s.b (w.drop (i+1)) p:=by
 have hl:i<w.length:=(Qg.mp hi).1
 have e:w.drop i=s::w.drop (i+1):=by
  rw[QR hl]
  congr 1
  exact(Qg.mp hi).2
 have h':Path S q (w.take i++w.drop i) p:=by rw[J8];exact h
 obtain⟨m,h1,h2⟩:=h'.split;rw[e]at h2;have hm:=h2.head;subst hm;obtain⟨hs,h3⟩:=h2.step;refine⟨h1,?_,h3⟩;rw[JG,hi];exact h1.append (.cons hs (.nil _))
theorem Path.next{q p:Nat}{w:List Stp}(h:Path S q w p){i:Nat}{s t:Stp}(hi:w[i]?=some s)(hj:w[i+1]?=some t):t.a=s.b:=by obtain⟨_,_,h3⟩:=h.at hi;have hl:i+1<w.length:=(Qg.mp hj).1;rw[QR hl]at h3;rw[←(Qg.mp hj).2];exact h3.head.symm
structure PH(w:List Stp)(i j:Nat):Prop where
 ij:i<=j
 jl:j<w.length
 same:∀s t,w[i]?=some s->w[j]?=some t->s.a=t.b
 first:∀j'<j,∀i' ≤ j',∀s t,w[i']?=some s->w[j']?=some t->s.a≠t.b
def NH(w:List Stp):Prop:=∀j<w.length,∀i ≤ j,∀s t,w[i]?=some s->w[j]?=some t->s.a≠t.b
theorem Dt{n:Nat}(hS:∀s∈S,s.a<n/\s.b<n){q p:Nat}{w:List Stp}(h:Path S q w p)(hl:n<=w.length)(h0:0<n):¬NH w:=λhn=>by
 obtain⟨s0,w0,rfl⟩:∃s0 w0,w=s0::w0:=by
  cases w with
  |nil=>rw[QN]at hl;omega
  |cons a b=>exact⟨a,b,rfl⟩
 let P:List Nat:=s0.a::(s0::w0).map Stp.b
 have key:∀k l:Nat,k<l->∀x y:Nat,P[k]?=some x->P[l]?=some y->x≠y:=λk l hkl x y hx hy=>by
  obtain⟨l,rfl⟩:∃m,l=m+1:=⟨l-1,by omega⟩
  have hy:((s0::w0).map Stp.b)[l]?=some y:=hy;rw[Qe]at hy;cases ht:(s0::w0)[l]? with
  |none=>rw[ht]at hy;cases hy
  |some t=>
  rw[ht]at hy;cases hy;have hll:l<(s0::w0).length:=(Qg.mp ht).1;obtain⟨s,hs⟩:∃s,(s0::w0)[k]?=some s:=⟨_,Qd (by omega)⟩
  have hxs:x=s.a:=by
   cases k with
   |zero=>cases hs;cases hx;rfl
   |succ k=>
    have hx:((s0::w0).map Stp.b)[k]?=some x:=hx;rw[Qe]at hx;obtain⟨r,hr⟩:∃r,(s0::w0)[k]?=some r:=⟨_,Qd (by omega)⟩
    rw[hr]at hx;cases hx;exact(h.next hr hs).symm
  rw[hxs];exact hn l hll k (by omega) s t hs ht
 have nd:P.Nodup:=by rw[List.nodup_iff_pairwise_ne,List.pairwise_iff_getElem];intro k l hk hl2 hkl;exact key k l hkl _ _ (Qd hk) (Qd hl2)
 have bound:∀x∈P,x<n:=λx hx=>by
  rcases QO.mp hx with rfl|hx
  ·exact(hS s0 h.step.1).1
  ·obtain⟨s,hs,rfl⟩:=Qt.mp hx;exact(hS s (h.mem s hs)).2
 have le:P.length<=n:=by
  have:=List.Nodup.length_le_of_subset nd (l₂:=Uv n) λx hx=>Q8.mpr (bound x hx)
  rwa[Qq]at this
 have:P.length=(s0::w0).length+1:=by show((s0::w0).map Stp.b).length+1=_;rw[Qb]
 omega
theorem Af{n:Nat}(hS:∀s∈S,s.a<n/\s.b<n)(h0:0<n){p:Nat}(hw:(ent (KD n S n) p).2.length=n){i j:Nat}(r:PH (ent (KD n S n) p).2 i j) :
  ∃x,Path S x (((ent (KD n S n) p).2.take (j+1)).drop i) x/\0<Kh (((ent (KD n S n) p).2.take (j+1)).drop i):=by
 obtain⟨hwk,hg⟩:=SZ hS n p;generalize hW:(ent (KD n S n) p).2=w at hw r hwk hg⊢;obtain⟨q,hp⟩:=hwk.path;have hij:=r.ij;have hjl:=r.jl;obtain⟨s,hs⟩:∃s,w[i]?=some s:=⟨_,Qd (by omega)⟩
 obtain⟨t,ht⟩:∃t,w[j]?=some t:=⟨_,Qd hjl⟩
 have hst:=r.same s t hs ht;obtain⟨a1,a2,a3⟩:=hp.at hs;obtain⟨b1,b2,b3⟩:=hp.at ht;have e1:w.take (j+1)=w.take i++(w.take (j+1)).drop i:=by have:=(J8 i (w.take (j+1))).symm;rw[List.take_take,Nat.min_eq_left (by omega)]at this;exact this
 rw[e1]at b2;obtain⟨m,c1,c2⟩:=b2.split
 have hm:m=s.a:=by
  have e2:(w.take (j+1)).drop i=s::(w.take (j+1)).drop (i+1):=by
   rw[QR (by rw[Q0];omega)]
   congr 1
   rw[List.getElem_take];exact(Qg.mp hs).2
  rw[e2]at c2;exact c2.head
 subst hm;rw[←hst]at c2 b3;refine⟨s.a,c2,?_⟩;have hsh:Path S q (w.take i++w.drop (j+1)) p:=a1.append b3;have hshw:=hsh.walk (u:=[]) (.nil q);rw[Jm]at hshw;have hlen:(w.take i++w.drop (j+1)).length<=n-1:=by rw[Ql,Q0,Jw];omega
 have most:=Bc hS hshw (n-1) hlen;have hgw:Kh w=Kh (w.take i)+Kh ((w.take (j+1)).drop i)+Kh (w.drop (j+1)):=by rw[←Wf,←e1,←Wf,J8]
 rw[Wf]at most
 have lt:(ent (KD n S (n-1)) p).1<(ent (KD n S n) p).1:=by
  obtain⟨k,_⟩:=VC hS (n-1);rw[Nat.sub_add_cancel h0]at k;rcases k.how p with e|⟨_,_,_,_,lt⟩
  ·have:=(RX hS (n-1)).1 p;rw[←e,hW,hw]at this;omega
  ·exact lt
 omega
theorem qt{q p:Nat}{w:List Stp}(h:Path S q w p){i j:Nat}(r:PH w i j):(((w.take (j+1)).drop i).map Stp.a).Nodup:=by
 rw[List.nodup_iff_pairwise_ne,List.pairwise_iff_getElem];intro k l hk hl hkl;have hij:=r.ij;have hjl:=r.jl;simp only[Qb,Jw,Q0]at hk hl;simp only[JU,List.getElem_drop,List.getElem_take];obtain⟨m,rfl⟩:∃m,l=m+1:=⟨l-1,by omega⟩
 have e1:w[i+m]?=some w[i+m]:=Qd (by omega);have e2:w[i+m+1]?=some w[i+(m+1)]:=Qd (by omega);have e3:w[i+k]?=some w[i+k]:=Qd (by omega);rw[h.next e1 e2];exact r.first (i+m) (by omega) (i+k) (by omega) _ _ e3 e1
end
def Kd(f:Int×Int->Int)(i:Nat):Option Int->Int
 |none=>0
 |some t=>f ((i:Int),t)
def plF(n:Nat):Option Int->Nat
 |none=>n
 |some t=>t.toNat
def Yq(n b:Nat):Option Int:=if b=n then none else some (b:Int)
def Kg(f:Int×Int->Int)(k:Nat):LO->Int
 |[]=>0
 |o::r=>Kd f k o+Kg f (k+1) r
theorem ML(f:Int×Int->Int){o':Option Int}:∀{d:LO}{k i:Nat}{o:Option Int},d[i]?=some o->Kg f k (d.set i o')=Kg f k d+Kd f (k+i) o'-Kd f (k+i) o
 |[],_,_,_,h=>by cases h
 |x::d,k,0,o,h=>by cases h;show Kd f k o'+Kg f (k+1) d=Kd f k x+Kg f (k+1) d+Kd f k o'-Kd f k x;omega
 |x::d,k,i+1,o,h=>by rw[List.set_cons_succ];unfold Kg;rw[ML f (d:=d) (k:=k+1) (i:=i) (o:=o) (by simpa using h),show k+1+i=k+(i+1)by omega];omega
theorem Lm{o' x:Option Int}:∀{d:LO}{i:Nat}{o:Option Int},d[i]?=some o->(((d.set i o').count x:Nat):Int)=(d.count x:Nat)+(if o'=x then 1 else 0)-(if o=x then 1 else 0)
 |[],_,_,h=>by cases h
 |y::d,0,o,h=>by cases h;rw[List.set_cons_zero,Jt,Jt];by_cases h1:o'=x<;>by_cases h2:y=x<;>simp[h1,h2]<;>omega
 |y::d,i+1,o,h=>by have ih:=Lm (o':=o') (x:=x) (d:=d) (i:=i) (o:=o) (by simpa using h);rw[List.set_cons_succ,Jt,Jt];omega
structure ZK(cs:List Int)(qs:LP)(m:Nat)(ws:LO):Prop where
 len:ws.length=m
 wish:∀(i:Nat) t,ws[i]?=some (some t)->((i:Int),t)∈qs
 cop:∀(k:Nat) c,cs[k]?=some c->((ws.count (some (k:Int)):Nat):Int)<=c
structure Yh(n m:Nat)(qs:LP):Prop where
 nd:qs.Nodup
 lo:∀q∈qs,0<=q.1/\q.1<m/\0<=q.2/\q.2<n
inductive IsSt(cs:List Int)(f:Int×Int->Int)(qs:LP)(ws:LO):Stp->Prop where
 |mv {i:Nat} {o o':Option Int} (h:ws[i]?=some o) (hne:o'≠o) (hq:∀t,o'=some t->((i:Int),t)∈qs):IsSt cs f qs ws ⟨plF cs.length o,plF cs.length o',Kd f i o'-Kd f i o,some i⟩
 |left {t:Nat} {c:Int} (h:cs[t]?=some c) (hl:((ws.count (some (t:Int)):Nat):Int)<c):IsSt cs f qs ws ⟨t,cs.length,0,none⟩
 |give {t:Nat} (h:t<cs.length):IsSt cs f qs ws ⟨cs.length,t,0,none⟩
def app(n:Nat)(d:LO)(s:Stp):LO:=match s.w with
 |some i=>d.set i (Yq n s.b)
 |none=>d
def nIn(t:Nat)(R:List Stp):Nat:=(R.filter λs=>s.w.isSome&&s.b==t).length
def Xb(t:Nat)(R:List Stp):Nat:=(R.filter λs=>s.w.isSome&&s.a==t).length
section
variable{cs:List Int}{f:Int×Int->Int}{qs:LP}{m:Nat}{ws:LO}
theorem Ga(hp:Yh cs.length m qs){i:Nat}{o:Option Int}(h:∀t,o=some t->((i:Int),t)∈qs):Yq cs.length (plF cs.length o)=o:=by
 cases o with
 |none=>unfold Yq plF;rw[Qm rfl]
 |some t=>
  have:=hp.lo _ (h t rfl)
  show(if t.toNat=cs.length then none else some ((t.toNat:Nat):Int))=some t
  rw[Qu (by omega)]
  congr 1
  omega
theorem Rr(hp:Yh cs.length m qs){i:Nat}{o:Option Int}{t:Nat}(ht:t<cs.length)(h:∀t,o=some t->((i:Int),t)∈qs):plF cs.length o=t ↔ o=some (t:Int):=by
 cases o with
 |none=>exact⟨λe=>by have e:cs.length=t:=e;omega,λe=>by cases e⟩
 |some u=>
  have:=hp.lo _ (h u rfl);show u.toNat=t ↔ _;constructor
  ·intro e;congr 1;omega
  ·intro e;cases e;omega
theorem RV(hp:Yh cs.length m qs)(hd:ZK cs qs m ws):∀(R:List Stp)(d:LO),(∀s∈R,IsSt cs f qs ws s)->(R.map Stp.a).Nodup->(∀s∈R,∀i,s.w=some i->d[i]?=ws[i]?)->d.length=ws.length->(∀(i:Nat) t,d[i]?=some (some t)->((i:Int),t)∈qs) ->
  Kg f 0 (R.foldl (app cs.length) d)=Kg f 0 d+Kh R/\(R.foldl (app cs.length) d).length=ws.length/\(∀(i:Nat) t,(R.foldl (app cs.length) d)[i]?=some (some t)->((i:Int),t)∈qs) /\
  ∀t,t<cs.length->(((R.foldl (app cs.length) d).count (some (t:Int)):Nat):Int)=(d.count (some (t:Int)):Nat)+(nIn t R:Nat)-(Xb t R:Nat)
 |[],d,_,_,_,hl,hq=>⟨by show _=_+Kh [];rw[MM];show Kg f 0 d=_;omega,hl,hq,λt _=>by show((d.count _:Nat):Int)=_+((0:Nat):Int)-((0:Nat):Int);omega⟩
 |s::R,d,hR,hn,ha,hl,hq=>by
  rw[Qx,List.nodup_cons]at hn;have hgc:Kh (s::R)=s.g+Kh R:=by show Kh ([s]++R)=_;rw[Wf,Sf]
  rw[JZ,hgc];cases hR s Qo with
  |@mv i o o' h hne hq'=>
   have hdi:d[i]?=some o:=(ha _ Qo i rfl).trans h;have ho:∀t,o=some t->((i:Int),t)∈qs:=λt e=>hd.wish i t (by rw[h,e])
   have hil:i<d.length:=(Qg.mp hdi).1;have eapp:app cs.length d ⟨plF cs.length o,plF cs.length o',Kd f i o'-Kd f i o,some i⟩=d.set i o':=by show d.set i (Yq cs.length (plF cs.length o'))=_;rw[Ga hp hq']
   rw[eapp]
   obtain⟨k1,k2,k3,k4⟩:=RV hp hd R (d.set i o') (λs hs=>hR s (Qk _ hs)) hn.2 (λs hs j hj=>by
    have hji:i≠j:=λz=>by
     subst z;cases hR s (Qk _ hs)with
     |@mv i2 o2 o2' h2 _ _=>cases hj;rw[h]at h2;cases h2;exact hn.1 (Qt.mpr ⟨_,hs,rfl⟩)
     |left _ _=>cases hj
     |give _=>cases hj
    rw[Qr hji];exact ha s (Qk _ hs) j hj) (by rw[Q6];exact hl) (λj t e=>by
    by_cases z:i=j
    ·subst z;rw[QF hil]at e;cases e;exact hq' t rfl
    ·rw[Qr z]at e;exact hq j t e)
   refine⟨?_,k2,k3,λt ht=>?_⟩
   ·rw[k1,ML f hdi,QS];show _=Kg f 0 d+((Kd f i o'-Kd f i o)+Kh R);omega
   ·rw[k4 t ht,Lm hdi]
    have e1:(if o'=some (t:Int)then(1:Int)else 0)=if plF cs.length o'=t then 1 else 0:=by
     by_cases z:o'=some (t:Int)
     ·rw[Qm z,Qm ((Rr hp ht hq').mpr z)]
     ·rw[Qu z,Qu (λy=>z ((Rr hp ht hq').mp y))]
    have e2:(if o=some (t:Int)then(1:Int)else 0)=if plF cs.length o=t then 1 else 0:=by
     by_cases z:o=some (t:Int)
     ·rw[Qm z,Qm ((Rr hp ht ho).mpr z)]
     ·rw[Qu z,Qu (λy=>z ((Rr hp ht ho).mp y))]
    have e3:∀(x:Nat),((nIn t (⟨plF cs.length o,plF cs.length o',Kd f i o'-Kd f i o,some i⟩::R):Nat):Int)=(if plF cs.length o'=t then 1 else 0)+(nIn t R:Nat):=λx=>by
     unfold nIn;rw[List.filter_cons];by_cases z:plF cs.length o'=t
     ·rw[if_pos z,if_pos (by simp[z]),List.length_cons];omega
     ·rw[if_neg z,if_neg (by simp[z])];omega
    have e4:∀(x:Nat),((Xb t (⟨plF cs.length o,plF cs.length o',Kd f i o'-Kd f i o,some i⟩::R):Nat):Int)=(if plF cs.length o=t then 1 else 0)+(Xb t R:Nat):=λx=>by
     unfold Xb;rw[List.filter_cons];by_cases z:plF cs.length o=t
     ·rw[if_pos z,if_pos (by simp[z]),List.length_cons];omega
     ·rw[if_neg z,if_neg (by simp[z])];omega
    rw[e1,e2,e3 0,e4 0];omega
  |left _ _=>obtain⟨k1,k2,k3,k4⟩:=RV hp hd R d (λs hs=>hR s (Qk _ hs)) hn.2 (λs hs=>ha s (Qk _ hs)) hl hq;refine⟨?_,k2,k3,k4⟩;show Kg f 0 (R.foldl _ d)=Kg f 0 d+(0+Kh R);rw[k1];omega
  |give _=>obtain⟨k1,k2,k3,k4⟩:=RV hp hd R d (λs hs=>hR s (Qk _ hs)) hn.2 (λs hs=>ha s (Qk _ hs)) hl hq;refine⟨?_,k2,k3,k4⟩;show Kg f 0 (R.foldl _ d)=Kg f 0 d+(0+Kh R);rw[k1];omega
theorem Nb(t:Nat):∀R:List Stp,nIn t R<=(R.map Stp.b).count t
 |[]=>Qv _
 |s::R=>by
  have ih:=Nb t R;unfold nIn at ih⊢;rw[List.filter_cons,Qx,Jt];split
  ·rename_i h;rw[Jc]at h;rw[QC,Qm h.2];omega
  ·omega
theorem Ds(hp:Yh cs.length m qs)(hd:ZK cs qs m ws){R:List Stp}(hR:∀s∈R,IsSt cs f qs ws s)(hn:(R.map Stp.a).Nodup)(hb:(R.map Stp.b).Perm (R.map Stp.a)):ZK cs qs m (R.foldl (app cs.length) ws)/\Kg f 0 (R.foldl (app cs.length) ws)=Kg f 0 ws+Kh R:=by
 obtain⟨k1,k2,k3,k4⟩:=RV hp hd R ws hR hn (λs hs i e=>rfl) rfl hd.wish;refine⟨⟨by rw[k2];exact hd.len,k3,λt c hc=>?_⟩,k1⟩;have ht:t<cs.length:=(Qg.mp hc).1;rw[k4 t ht];have h0:=hd.cop t c hc;have h1:(R.map Stp.a).count t<=1:=List.nodup_iff_count.mp hn t;have h2:=Nb t R;rw[hb.count_eq]at h2;by_cases z:nIn t R=0
 ·omega
 ·have hin:nIn t R=1:=by omega
  have hmem:t∈R.map Stp.a:=List.count_pos_iff.mp (by omega);obtain⟨s,hs,hst⟩:=Qt.mp hmem;cases hR s hs with
  |@mv i o o' h hne hq'=>
   have:1<=Xb t R:=by unfold Xb;exact List.length_pos_iff.mpr (List.ne_nil_of_mem (List.mem_filter.mpr ⟨hs,by simpa using hst⟩))
   omega
  |@left u c' h hl=>have hst:u=t:=hst;subst hst;rw[h]at hc;cases hc;omega
  |@give u h=>have hst:cs.length=t:=hst;omega
end
theorem FW{S:List Stp}{q p:Nat}{w:List Stp}(h:Path S q w p):w.map Stp.a++[p]=q::w.map Stp.b:=by
 induction h with
 |nil p=>rfl
 |cons hs h ih=>rw[Qx,Qx,List.cons_append,ih]
theorem Ae{S:List Stp}{x:Nat}{w:List Stp}(h:Path S x w x):(w.map Stp.b).Perm (w.map Stp.a):=by have e:=FW h;have p1:(w.map Stp.a++[x]).Perm (x::w.map Stp.a):=List.perm_append_comm;rw[e]at p1;exact List.Perm.cons_inv p1
def Zz(f:Int×Int->Int)(V:Nat->Int)(qs:LP)(i:Int):Int:=qs.foldl (λa q=>if q.1=i then max a (f q-V q.2.toNat)else a) 0
theorem RW(f:Int×Int->Int)(V:Nat->Int)(i:Int):∀(qs:LP)(a:Int),a<=qs.foldl (λa q=>if q.1=i then max a (f q-V q.2.toNat)else a) a /\
  (∀q∈qs,q.1=i->f q-V q.2.toNat<=qs.foldl (λa q=>if q.1=i then max a (f q-V q.2.toNat)else a) a) /\
  ∀B,a<=B->(∀q∈qs,q.1=i->f q-V q.2.toNat<=B)->qs.foldl (λa q=>if q.1=i then max a (f q-V q.2.toNat)else a) a<=B
 |[],a=>⟨QW _,(λq h=>by cases h),λB h _=>h⟩
 |q::qs,a=>by
  rw[JZ];obtain⟨h1,h2,h3⟩:=RW f V i qs (if q.1=i then max a (f q-V q.2.toNat)else a);have hb:a<=(if q.1=i then max a (f q-V q.2.toNat)else a):=by split<;>omega
  refine⟨JP hb h1,λp hp e=>?_,λB ha hB=>h3 B ?_ λp hp=>hB p (Qk _ hp)⟩
  ·rcases QO.mp hp with rfl|hp
   ·rw[Qm e]at h1⊢;omega
   ·exact h2 p hp e
  ·have:=hB q Qo;split
   ·rename_i e;have:=this e;omega
   ·exact ha
theorem Ll{f:Int×Int->Int}{ps:List Int}:∀(ws:LO)(k:Nat)(A:Nat->Int),(∀(j:Nat) o,ws[j]?=some o->A (k+j)=Kd f (k+j) o-(match o with|some t=>ps.getD t.toNat 0|none=>0))->((List.range' k ws.length).map A).sum=Kg f k ws-pz ps ws
 |[],k,A,_=>by show(0:Int)=0-0;omega
 |o::ws,k,A,h=>by
  rw[QC,List.range'_succ,Qx,Ja,Ll ws (k+1) A λj o' e=>by have:=h (j+1) o' (by simpa using e);rw[show k+1+j=k+(j+1)by omega];exact this];have h0:=h 0 o rfl;rw[Nat.add_zero]at h0;rw[h0];cases o with
  |none=>show Kd f k none-0+(Kg f (k+1) ws-pz ps ws)=Kd f k none+Kg f (k+1) ws-(0+pz ps ws);omega
  |some t=>show Kd f k (some t)-ps.getD t.toNat 0+(Kg f (k+1) ws-pz ps ws)=Kd f k (some t)+Kg f (k+1) ws-(ps.getD t.toNat 0+pz ps ws);omega
section
variable{cs:List Int}{f:Int×Int->Int}{qs:LP}{m:Nat}{ws:LO}{S:List Stp}
theorem IsSt.lt(hp:Yh cs.length m qs)(hd:ZK cs qs m ws){s:Stp}(h:IsSt cs f qs ws s):s.a<cs.length+1/\s.b<cs.length+1:=by
 have key:∀{i:Nat}{o:Option Int},(∀t,o=some t->((i:Int),t)∈qs)->plF cs.length o<cs.length+1:=λ{i o} h=>by
  cases o with
  |none=>exact Ub _
  |some t=>have:=hp.lo _ (h t rfl);show t.toNat<_;omega
 cases h with
 |mv h hne hq=>exact⟨key λt e=>hd.wish _ t (by rw[h,e]),key hq⟩
 |left h hl=>have:=(Qg.mp h).1;exact⟨J9 this,Ub _⟩
 |give h=>exact⟨Ub _,J9 h⟩
theorem Dr{V:Nat->Int}(still:∀s∈S,V s.a+s.g<=V s.b){q p:Nat}{w:List Stp}(h:Path S q w p):V q+Kh w<=V p:=by
 induction h with
 |nil p=>rw[MM];omega
 |@cons s w p hs h ih=>
  have:=still s hs;have e:Kh (s::w)=s.g+Kh w:=by show Kh ([s]++w)=_;rw[Wf,Sf]
  omega
theorem Dq(hp:Yh cs.length m qs)(hd:ZK cs qs m ws)(hin:∀s∈S,IsSt cs f qs ws s)(hall:∀s,IsSt cs f qs ws s->s∈S){V:Nat->Int}(hV:∀p,V p=(ent (KD (cs.length+1) S (cs.length+1)) p).1)
  (still:∀p,p<cs.length+1->(ent (KD (cs.length+1) S (cs.length+1)) p).2.length≠cs.length+1) :
  OkP cs.length m (λa b=>f (a,b)) qs 1 ((Uv m).map λi:Nat=>Zz f V qs (i:Int)) ((Uv cs.length).map V)/\Rm cs ((Uv m).map λi:Nat=>Zz f V qs (i:Int)) ((Uv cs.length).map V)=Kg f 0 ws:=by
 have hS:∀s∈S,s.a<cs.length+1/\s.b<cs.length+1:=λs hs=>(hin s hs).lt hp hd;have st:∀s∈S,V s.a+s.g<=V s.b:=λs hs=>by rw[hV,hV];exact Ag hS (Nat.succ_pos _) still s hs
 have v0:∀p,0<=V p:=λp=>by have:=Ln hS (Ua (cs.length+1)) p;rw[SQ hS]at this;rw[hV];exact this
 have vn:V cs.length=0:=by
  obtain⟨hw,hg⟩:=SZ hS (cs.length+1) cs.length;obtain⟨q,hq⟩:=hw.path;have h1:=Dr st hq;rw[hg,←hV]at h1;have h2:=v0 q;by_cases z:q=cs.length
  ·rw[z]at h1 h2;omega
  ·have hql:q<cs.length:=by
    cases hw2:(ent (KD (cs.length+1) S (cs.length+1)) cs.length).2 with
    |nil=>rw[hw2]at hq;cases hq;exact absurd rfl z
    |cons s w=>rw[hw2]at hq;have:=(hS s hq.step.1).1;rw[←hq.head]at this;omega
   have h3:=st _ (hall _ (.give hql));have h3:V cs.length+0<=V q:=h3;have:=v0 cs.length;omega
 have psD:∀k,k<cs.length->((Uv cs.length).map V).getD k 0=V k:=λk hk=>by rw[Qh,Qe,QQ hk];rfl
 have ask:∀(i:Nat) o,ws[i]?=some o->Zz f V qs (i:Int)=Kd f i o-(match o with|some t=>((Uv cs.length).map V).getD t.toNat 0|none=>0):=λi o h=>by
  obtain⟨a1,a2,a3⟩:=RW f V (i:Int) qs 0;cases o with
  |none=>
   have:Zz f V qs (i:Int)<=0:=a3 0 (QW _) λq hq e=>by have h1:=st _ (hall _ (.mv (f:=f) h (o':=some q.2) (by intro z;cases z) λt et=>by cases et;rw[←e];exact hq));have h1:V cs.length+(f ((i:Int),q.2)-0)<=V q.2.toNat:=h1;rw[←e]at h1;have:f (q.1,q.2)=f q:=rfl;omega
   show Zz f V qs (i:Int)=0-0;have:0<=Zz f V qs (i:Int):=a1;omega
  |some t=>
   have hq:=hd.wish i t h;have hb:=hp.lo _ hq;have hup:=st _ (hall _ (.mv (f:=f) h (o':=none) (by intro z;cases z) λt et=>by cases et));have hup:V t.toNat+(0-f ((i:Int),t))<=V cs.length:=hup;show Zz f V qs (i:Int)=f ((i:Int),t)-((Uv cs.length).map V).getD t.toNat 0;rw[psD t.toNat (by omega)];have lo:f ((i:Int),t)-V t.toNat<=Zz f V qs (i:Int):=a2 _ hq rfl
   have hi:Zz f V qs (i:Int)<=f ((i:Int),t)-V t.toNat:=a3 _ (by omega) λq hq e=>by
    by_cases z:q.2=t
    ·have:q=((i:Int),t):=by rw[←e,←z]
     rw[this];exact QW _
    ·have h1:=st _ (hall _ (.mv (f:=f) h (o':=some q.2) (by intro y;cases y;exact z rfl) λt et=>by cases et;rw[←e];exact hq));have h1:V t.toNat+(f ((i:Int),q.2)-f ((i:Int),t))<=V q.2.toNat:=h1;have:f (((i:Int)),q.2)=f q:=by rw[←e]
     omega
   omega
 refine⟨⟨by decide,by rw[Qb,Qq],by rw[Qb,Qq],λa ha=>?_,λp hp'=>?_,λq hq=>?_⟩,?_⟩
 ·obtain⟨i,_,rfl⟩:=Qt.mp ha;exact(RW f V (i:Int) qs 0).1
 ·obtain⟨i,_,rfl⟩:=Qt.mp hp';exact v0 i
 ·have hb:=hp.lo q hq;rw[psD q.2.toNat (by omega),Qh,Qe,QQ (by omega)];have h2:=(RW f V q.1 qs 0).2.1 q hq rfl;show 1*f q<=Zz f V qs ((q.1.toNat:Nat):Int)+V q.2.toNat;have e:((q.1.toNat:Nat):Int)=q.1:=by omega
  rw[e];have h2:f q-V q.2.toNat<=Zz f V qs q.1:=h2;omega
 ·unfold Rm;rw[List.range_eq_range' (n:=m),←hd.len,Ll (f:=f) (ps:=(Uv cs.length).map V) ws 0 (λi:Nat=>Zz f V qs (i:Int)) λj o e=>by rw[QS];exact ask j o e];have hth:∀t,some t∈ws->0<=t/\t<cs.length:=λt ht=>by obtain⟨i,hi⟩:=List.mem_iff_getElem?.mp ht;have:=hp.lo _ (hd.wish i t hi);exact⟨this.2.2.1,this.2.2.2⟩
  rw[Ov ws hth,L9 _ _ (by rw[Qb,Qq])]
  have e:K2 cs.length (λk=>cs.getD k 0*((Uv cs.length).map V).getD k 0)=K2 cs.length λk=>((ws.count (some (k:Int)):Nat):Int)*((Uv cs.length).map V).getD k 0:=OE λk hk=>by
   rw[psD k hk];have hc:cs[k]?=some (cs.getD k 0):=by rw[Qh,Qd hk];rfl
   have hle:=hd.cop k _ hc;by_cases z:((ws.count (some (k:Int)):Nat):Int)=cs.getD k 0
   ·rw[z]
   ·have h1:=st _ (hall _ (.left (f:=f) (qs:=qs) hc (by omega)));have h1:V k+0<=V cs.length:=h1;have:=v0 k;have hz:V k=0:=by omega
    rw[hz,Int.mul_zero,Int.mul_zero]
  rw[e];omega
end
def YK:Option Nat->D
 |some i=>.int i
 |none=>.none
def U3(s:Stp):D:=.tuple [.int s.a,.int s.b,.int s.g,YK s.w]
def ZJ(x:Int×List Stp):D:=.tuple [.int x.1,.list (x.2.map U3)]
def UV(V:Int->Int->Int)(q:Int×Int):Int:=V q.1 q.2
def Zc(n:Nat)(f:Int×Int->Int)(ws:LO):List Stp:=(Uv ws.length).filterMap λi=>match ws.getD i none with
 |none=>none
 |some t=>some ⟨t.toNat,n, -(Kd f i (some t)),some i⟩
def K3(n:Nat)(f:Int×Int->Int)(qs:LP)(ws:LO):List Stp:=qs.filterMap λq=>if ws.getD q.1.toNat none≠some q.2 then some ⟨plF n (ws.getD q.1.toNat none),q.2.toNat,f q-Kd f q.1.toNat (ws.getD q.1.toNat none),some q.1.toNat⟩else none
def ZQ(cs:List Int)(ws:LO):List Stp:=(Uv cs.length).filterMap λt=>if 0<cs.getD t 0-((ws.count (some (t:Int)):Nat):Int)then some ⟨t,cs.length,0,none⟩else none
def ZP(n:Nat):List Stp:=(Uv n).map λt=>⟨n,t,0,none⟩
def Yw(cs:List Int)(f:Int×Int->Int)(qs:LP)(ws:LO):List Stp:=Zc cs.length f ws++K3 cs.length f qs ws++(ZQ cs ws++ZP cs.length)
theorem Bb{m j:Nat}{h h':Nat->Int}(hj:j<m)(e:∀i,i≠j->h' i=h i):(((Uv m).map h).map int).set j (.int (h' j))=((Uv m).map h').map int:=by
 apply Jq;intro i;by_cases z:j=i
 ·subst z;rw[QF (by rw[Qb,Qb,Qq];exact hj),Qe,Qe,QQ hj];rfl
 ·rw[Qr z,Qe,Qe,Qe,Qe];by_cases hi:i<m
  ·rw[QQ hi];show some (int (h i))=some (int (h' i));rw[e i λy=>z y.symm]
  ·rw[QB (by rw[Qq];omega)];rfl
theorem MK{m:Nat}{h:Nat->Int}{j:Nat}(hj:j<m):oIx (.list (((Uv m).map h).map int)) (.int (j:Int))=some (.int (h j)):=ZB (by rw[Qe,Qe,QQ hj];rfl)
section
variable{cs:List Int}{ls:L3}{ws:LO}{V:Int->Int->Int}{qs:LP}
theorem qq{n:Nat}{o:Option Int}(h:∀t,o=some t->0<=t):XT [.int n,U4 o]=some (.int (plF n o)):=by
 refine K7 (Z:=[pb (.int n),pb (U4 o)]) rfl ?_;unfold Tf;cases o with
 |none=>exact Kv (Ni (Kx (k:=isNon) (x:=PyData.none) (UK rfl)) (UK rfl)) rfl
 |some t=>refine Kv (Pl (Kx (k:=isNon) (x:=int t) (UK rfl)) (UK rfl)) ?_;have:=h t rfl;show Out.rt (.int t)=Out.rt (.int ((t.toNat:Nat):Int));rw[show((t.toNat:Nat):Int)=t by omega]
def ZY(V:Int->Int->Int)(ws:LO)(qs:LP)(i:Nat):Int:=match ws.getD i none with
 |none=>0
 |some t=>if((i:Int),t)∈qs then V i t else 0
theorem PF{k:Int}(h0:0<=k)(h1:k<ws.length):oIx (U7 ws) (.int k)=some (U4 (ws.getD k.toNat none)):=by
 obtain⟨j,rfl⟩:∃j:Nat,k=j:=⟨k.toNat,by omega⟩
 refine ZB ?_;rw[Qe,Qy,Qh,Qd (by omega)];rfl
theorem MJ{i:Nat}{o:Option Int}(h:ws[i]?=some o):ws.getD i none=o:=by rw[Qh,h];rfl
theorem Ba(hp:Yh cs.length ws.length qs)(hd:ZK cs qs ws.length ws)(hm:ws.length<=1000)(hq1:qs.length<=1000):WC [.int (cs.length:Nat),.list (qs.map (Za V)),U7 ws]=some (.list ((Zc cs.length (UV V) ws++K3 cs.length (UV V) qs ws).map U3)):=by
 refine K7 (Z:=[pb (.int (cs.length:Nat)),pb (.list (qs.map (Za V))),pb (U7 ws),none,none,none,none,none]) rfl ?_;unfold Te;have hlen:Kb [U7 ws]=some (.int ws.length):=by show Kb [.list (ws.map U4)]=_;rw[Zh,Qb]
 have pos:∀i t,ws.getD i none=some t->i<ws.length/\((i:Int),t)∈qs:=λi t e=>by
  by_cases hi:i<ws.length
  ·rw[Qh,Qd hi]at e;exact⟨hi,hd.wish i t (by rw[Qd hi];exact congrArg some e)⟩
  ·rw[Qh,QB (by omega)]at e;cases e
 refine Ki (Z7 (Pw (n:=ws.length) (ZI (UM UU UT) (Qa rfl)) (Zs rfl hlen) hm) (Qa rfl) rfl) ?_;apply Kz;apply Zv (λk Z=>∃x4 x5 x6,Z=[pb (.int (cs.length:Nat)),pb (.list (qs.map (Za V))),pb (U7 ws),some (.own (((Uv ws.length).map (ZY V ws (qs.take k))).map int)),x4,x5,x6,none])
 case h1=>exact Zj (UK rfl) ZZ
 case h0=>
  refine⟨none,none,none,?_⟩
  have e:((Uv ws.length).map (ZY V ws (qs.take 0))).map int=Uw ws.length (.int 0):=by
   rw[List.eq_replicate_iff];refine⟨by rw[Qb,Qb,Qq],λb hb=>?_⟩;obtain⟨x,hx,rfl⟩:=Qt.mp hb;obtain⟨i,_,rfl⟩:=Qt.mp hx;unfold ZY;split
   ·rfl
   ·rw[if_neg (by rw[List.take_zero];simp)]
  rw[e];rfl
 case hst=>
  rintro k d Z hk ⟨x4,x5,x6,rfl⟩;rw[Qe]at hk;cases hq:qs[k]? with
  |none=>rw[hq]at hk;cases hk
  |some q=>
  rw[hq]at hk;cases hk;have hb:=hp.lo q (Qp hq);refine⟨_,Kt rfl (UX (UR (Qa rfl) rfl) (UX (UR (Qa rfl) rfl) (UX (UR (Qa rfl) rfl) Kq))),?_⟩;unfold N5;have hta:qs.take (k+1)=qs.take k++[q]:=by rw[JG,hq];rfl
  apply Kw
  case h1=>exact U2 (KH rfl (UK rfl) (PF hb.1 hb.2.1)) (UK rfl) (Pi (b:=some q.2))
  case h2=>
   intro hh;have hh:ws.getD q.1.toNat none=some q.2:=Qa hh;refine ZA (SN (UK rfl) rfl (UK rfl) rfl ⟨hb.1,by rw[Qb,Qb,Qq];exact hb.2.1⟩ rfl) (K5 ⟨some (.pub (.int q.1)),pb (.int q.2),pb (.int (V q.1 q.2)),?_⟩)
   have e:=Bb (m:=ws.length) (j:=q.1.toNat) (h:=ZY V ws (qs.take k)) (h':=ZY V ws (qs.take (k+1))) (by omega) λi hne=>by
    unfold ZY;cases ws.getD i none with
    |none=>rfl
    |some t=>
     dsimp only;rw[hta];by_cases z:((i:Int),t)∈qs.take k
     ·rw[Qm z,Qm (Jd _ z)]
     ·rw[Qu z,Qu];intro y;rcases Q2.mp y with y|y
      ·exact z y
      ·have:=Je.mp y;rw[←this]at hne;exact hne (by show i=((i:Int)).toNat;rw[Qy])
   have ev:ZY V ws (qs.take (k+1)) q.1.toNat=V q.1 q.2:=by
    unfold ZY;rw[hh];have ei:((q.1.toNat:Nat):Int)=q.1:=by omega
    dsimp only;rw[ei,if_pos (by rw[hta];exact List.mem_append_right _ (by simp))]
   rw[ev]at e;rw[←e];rfl
  case h3=>
   intro hh;have hh:¬ws.getD q.1.toNat none=some q.2:=Jf hh;refine KU (K5 ⟨some (.pub (.int q.1)),pb (.int q.2),pb (.int (V q.1 q.2)),?_⟩)
   have e:(Uv ws.length).map (ZY V ws (qs.take (k+1)))=(Uv ws.length).map (ZY V ws (qs.take k)):=JB λi _=>by
    unfold ZY;cases hw:ws.getD i none with
    |none=>rfl
    |some t=>
     dsimp only;rw[hta];by_cases z:((i:Int),t)∈qs.take k
     ·rw[Qm z,Qm (Jd _ z)]
     ·rw[Qu z,Qu];intro y;rcases Q2.mp y with y|y
      ·exact z y
      ·have y:=Je.mp y;rw[←y]at hh;exact hh (by show ws.getD ((i:Int)).toNat none=some t;rw[Qy];exact hw)
   rw[e];rfl
 case hend=>
  rintro Z ⟨x4,x5,x6,rfl⟩;refine KB ?_;have hth:qs.take (qs.map (Za V)).length=qs:=by rw[Qb,JL]
  rw[hth]
  have hadE:∀i,ZY V ws qs i=Kd (UV V) i (ws.getD i none):=λi=>by
   unfold ZY;cases hw:ws.getD i none with
   |none=>rfl
   |some t=>exact Qm (pos i t hw).2
  have hc:∀y4 y5 y6 y7:Option Sl,K0 (gT 2 (gNC (gN 8) (gNC (gN 9) (gN0)))) (UW (λd=>!isNon d) (UA 9)) (Ku (UL (UA 9) (UL (UA 0) (UL (Ze (UZ 3 (UA 8))) (UL (UA 8) (UH)))))) (Z8 0 (ws.map U4)) ([pb (.int (cs.length:Nat)),pb (.list (qs.map (Za V))),pb (U7 ws),pb (.list (((Uv ws.length).map (ZY V ws qs)).map int)),y4,y5,y6,y7]++Uw 2 none) []=some ((Zc cs.length (UV V) ws).map U3):=by
   intro y4 y5 y6 y7
   have em:(Zc cs.length (UV V) ws).map U3=((Uv ws.length).map λi=>(match ws.getD i none with|none=>none|some t=>some (U3 ⟨t.toNat,cs.length, -(Kd (UV V) i (some t)),some i⟩):Option D)).filterMap id:=by
    unfold Zc;rw[List.map_filterMap,List.filterMap_map]
    congr 1
    funext i;dsimp only[Function.comp,id];cases ws.getD i none<;>rfl
   rw[em];refine SW (λZ=>∃z4 z5 z6 z7 x y,Z=[pb (.int (cs.length:Nat)),pb (.list (qs.map (Za V))),pb (U7 ws),pb (.list (((Uv ws.length).map (ZY V ws qs)).map int)),z4,z5,z6,z7,x,y]) _ _ _ _ (by rw[Qb,Qq,Yo,Qb]) ?_ ⟨y4,y5,y6,y7,none,none,rfl⟩ (by rw[Yo,Qb,QN];omega);rintro i d e hdd he Z ⟨z4,z5,z6,z7,x,y,rfl⟩;obtain⟨z,hz,rfl⟩:=YS hdd;rw[Qe]at hz;cases hw:ws[i]? with
   |none=>rw[hw]at hz;cases hz
   |some o=>
   rw[hw]at hz;cases hz;have hil:i<ws.length:=(Qg.mp hw).1;have hg:=MJ hw;rw[Qe,QQ hil]at he;have he:some (match ws.getD i none with|none=>none|some t=>some (U3 ⟨t.toNat,cs.length, -(Kd (UV V) i (some t)),some i⟩):Option D)=some e:=he;rw[hg]at he;cases he;rw[QS];refine⟨_,Kt rfl (UX (UR (Qa rfl) rfl) (UX (UR (Qa rfl) rfl) Kq)),?_,?_,_,_,_,_,_,_,rfl⟩
   ·cases o with
    |none=>exact Kx (k:=λd=>!isNon d) (x:=PyData.none) (UK rfl)
    |some t=>exact Kx (k:=λd=>!isNon d) (x:=int t) (UK rfl)
   ·intro v hv;cases o with
    |none=>cases hv
    |some t=>
     cases hv;have hb:=hp.lo _ (pos i t hg).2;have et:((t.toNat:Nat):Int)=t:=by have:=hb.2.2.1;omega
     show _=Res.ok (PyData.tuple [.int ((t.toNat:Nat):Int),.int ((cs.length:Nat):Int),.int (-(Kd (UV V) i (some t))),.int (i:Nat)]) _;rw[et,show Kd (UV V) i (some t)=ZY V ws qs i by rw[hadE,hg]];exact YT (UM (UK rfl) (UM (UK rfl) (UM (Y2 (KH rfl (UK rfl) (MK hil))) (UM (UK rfl) UT)))) (Qa rfl)
  have nlS:∀S:List Stp,(S.map U3).all nl0=true:=λS=>Jn.mpr λd hd=>by obtain⟨s,_,rfl⟩:=Qt.mp hd;obtain⟨a,b,g,w⟩:=s;cases w<;>rfl
  have hcl:∀x4 x5 x6:Option Sl,X0 (Zr (YB (UL (UA 2) (UH))) 2 (gT 2 (gNC (gN 8) (gNC (gN 9) (gN0)))) (UW (λd=>!isNon d) (UA 9)) (Ku (UL (UA 9) (UL (UA 0) (UL (Ze (UZ 3 (UA 8))) (UL (UA 8) (UH))))))) [pb (.int (cs.length:Nat)),pb (.list (qs.map (Za V))),pb (U7 ws),some (.own (((Uv ws.length).map (ZY V ws qs)).map int)),x4,x5,x6,none]=.ok ((Zc cs.length (UV V) ws).map U3) [pb (.int (cs.length:Nat)),pb (.list (qs.map (Za V))),pb (U7 ws),some (.own (((Uv ws.length).map (ZY V ws qs)).map int)),x4,x5,x6,none]:=λx4 x5 x6=>
   CV (Z':=Zq [pb (.int (cs.length:Nat)),pb (.list (qs.map (Za V))),pb (U7 ws),some (.own (((Uv ws.length).map (ZY V ws qs)).map int)),x4,x5,x6,none]) (Yk (Xs (UM (UK rfl) UT) Xr) (hc _ _ _ _)) (nlS _)
  refine Ki (Z7 (hcl _ _ _) (Qa rfl) rfl) ?_;apply Kz;apply Zv (λk Z=>∃x4 x5 x6,Z=[pb (.int (cs.length:Nat)),pb (.list (qs.map (Za V))),pb (U7 ws),some (.own (((Uv ws.length).map (ZY V ws qs)).map int)),x4,x5,x6,some (.own ((Zc cs.length (UV V) ws++K3 cs.length (UV V) (qs.take k) ws).map U3))])
  case h1=>exact Zj (UK rfl) ZZ
  case h0=>exact⟨_,_,_,by rw[JS];show _=[_,_,_,_,_,_,_,some (Sl.own ((Zc cs.length (UV V) ws++[]).map U3))];rw[Q5];rfl⟩
  case hst=>
   rintro k d Z hk ⟨x4,x5,x6,rfl⟩;rw[Qe]at hk;cases hq:qs[k]? with
   |none=>rw[hq]at hk;cases hk
   |some q=>
   rw[hq]at hk;cases hk;have hb:=hp.lo q (Qp hq);have hta:qs.take (k+1)=qs.take k++[q]:=by rw[JG,hq];rfl
   have hkl:k<qs.length:=(Qg.mp hq).1
   have hsz:((Zc cs.length (UV V) ws++K3 cs.length (UV V) (qs.take k) ws).map U3).length<1000000:=by
    rw[Qb,Ql];have h1:(Zc cs.length (UV V) ws).length<=ws.length:=by unfold Zc;have:=Ji (λi=>match ws.getD i none with|none=>none|some t=>some (⟨t.toNat,cs.length, -(Kd (UV V) i (some t)),some i⟩:Stp)) (Uv ws.length);rw[Qq]at this;exact this
    have h2:(K3 cs.length (UV V) (qs.take k) ws).length<=qs.length:=by unfold K3;refine QP (Ji _ _) ?_;rw[Q0];omega
    omega
   refine⟨_,Kt rfl (UX (UR (Qa rfl) rfl) (UX (UR (Qa rfl) rfl) (UX (UR (Qa rfl) rfl) Kq))),?_⟩;unfold N6;have e2:∀r:List Stp,K3 cs.length (UV V) [q] ws=r->K3 cs.length (UV V) (qs.take (k+1)) ws=K3 cs.length (UV V) (qs.take k) ws++r:=λr hr=>by rw[hta];unfold K3 at hr⊢;rw[List.filterMap_append,hr]
   apply Kw
   case h1=>exact U2 (KH rfl (UK rfl) (PF hb.1 hb.2.1)) (UK rfl) (Fj (b:=some q.2))
   case h2=>
    intro hh;have hh:¬ws.getD q.1.toNat none=some q.2:=by simpa using hh
    have hpl:XT [.int (cs.length:Nat),U4 (ws.getD q.1.toNat none)]=some (.int (plF cs.length (ws.getD q.1.toNat none))):=qq λt e=>by have:=hp.lo _ (pos _ t e).2;exact this.2.2.1
    refine ZA (X3 rfl (YT (UM (Kj (UM (UK rfl) (UM (KH rfl (UK rfl) (PF hb.1 hb.2.1)) UT)) rfl hpl) (UM (UK rfl) (UM (U2 (UK rfl) (Rx rfl (UK rfl) rfl (show oIx _ (.int q.1)=some (.int (ZY V ws qs q.1.toNat))from by have:=MK (m:=ws.length) (h:=ZY V ws qs) (j:=q.1.toNat) (by omega);rw[show((q.1.toNat:Nat):Int)=q.1 by omega]at this;exact this)) YC) (UM (UK rfl) UT)))) (Qa rfl)) rfl hsz rfl) (K5 ⟨some (.pub (.int q.1)),pb (.int q.2),pb (.int (V q.1 q.2)),?_⟩);have er:K3 cs.length (UV V) [q] ws=[⟨plF cs.length (ws.getD q.1.toNat none),q.2.toNat,UV V q-Kd (UV V) q.1.toNat (ws.getD q.1.toNat none),some q.1.toNat⟩]:=by unfold K3;rw[Jz,Qm hh];rfl
    rw[e2 _ er,←Jk,Qz (l₂:=[_])];show _=[_,_,_,_,_,_,_,some (Sl.own (_++[PyData.tuple [_,.int ((q.2.toNat:Nat):Int),.int (UV V q-Kd (UV V) q.1.toNat (ws.getD q.1.toNat none)),.int ((q.1.toNat:Nat):Int)]]))];rw[show((q.2.toNat:Nat):Int)=q.2 by omega,show((q.1.toNat:Nat):Int)=q.1 by omega,←hadE];rfl
   case h3=>
    intro hh;have hh:ws.getD q.1.toNat none=some q.2:=by simpa using hh
    refine KU (K5 ⟨some (.pub (.int q.1)),pb (.int q.2),pb (.int (V q.1 q.2)),?_⟩);have er:K3 cs.length (UV V) [q] ws=[]:=by unfold K3;rw[List.filterMap_cons,if_neg (by rw[hh];simp)];rfl
    rw[e2 _ er,Q5];rfl
  case hend=>rintro Z ⟨x4,x5,x6,rfl⟩;rw[hth];exact KB (Kv (Yl rfl rfl) rfl)
end
section
variable{cs:List Int}{ls:L3}{ws:LO}{V:Int->Int->Int}{qs:LP}
theorem C9(g:Good cs ls)(hm:ws.length=ls.length):WB [Ka cs ls,U7 ws]=some (.list ((ZQ cs ws++ZP cs.length).map U3)):=by
 refine K7 (Z:=[pb (Ka cs ls),pb (U7 ws),none,none,none]) rfl ?_;unfold Td;have c6:=g.c6;have hlc:Kb [.list (cs.map int)]=some (.int cs.length):=by rw[Zh,Qb]
 refine Ki (KR (ZO (UM (KH rfl UU TN) UT) hlc) (Qa rfl) rfl) ?_;refine Ki (KR (Kj (UM (UK rfl) (UM (UK rfl) UT)) rfl (qS g)) (Qa rfl) rfl) ?_;have hll:(YQ cs ws).length=cs.length:=by unfold YQ;rw[Qb,Qq]
 have hc:K0 (gT 2 (gNC (gN 5) (gNC (gN 6) (gN0)))) (Zi (oIB λi j=>decide (j<i)) 6 (UN (.int 0))) (Ku (UL (UA 5) (UL (UA 2) (UL (UN (.int 0)) (UL (UN .none) (UH)))))) (Z8 0 ((YQ cs ws).map int)) (Kf [pb (Ka cs ls),pb (U7 ws),pb (.int cs.length),pb (.list ((YQ cs ws).map int)),none]++Uw 2 none) []=some ((ZQ cs ws).map U3):=by
  have em:(ZQ cs ws).map U3=((Uv cs.length).map λt=>(if 0<cs.getD t 0-((ws.count (some (t:Int)):Nat):Int)then some (U3 ⟨t,cs.length,0,none⟩)else none:Option D)).filterMap id:=by
   unfold ZQ;rw[List.map_filterMap,List.filterMap_map]
   congr 1
   funext i;dsimp only[Function.comp,id]
   split<;>rfl
  rw[em];refine SW (λZ=>∃x y,Z=[pb (Ka cs ls),pb (U7 ws),pb (.int cs.length),pb (.list ((YQ cs ws).map int)),none,x,y]) _ _ _ _ (by rw[Qb,Qq,Yo,Qb,hll]) ?_ ⟨none,none,rfl⟩ (by rw[Yo,Qb,hll,QN];omega);rintro i d e hd he Z ⟨x,y,rfl⟩;obtain⟨z,hz,rfl⟩:=YS hd;rw[Qe]at hz
  have hil:i<cs.length:=by
   rw[←hll];cases hw:(YQ cs ws)[i]? with
   |none=>rw[hw]at hz;cases hz
   |some v=>exact(Qg.mp hw).1
  have hlv:(YQ cs ws)[i]?=some (cs.getD i 0-((ws.count (some (i:Int)):Nat):Int)):=by unfold YQ;rw[Qe,QQ hil];rfl
  rw[hlv]at hz;cases hz;rw[Qe,QQ hil]at he;cases he;rw[QS];refine⟨_,Kt rfl (UX (UR (Qa rfl) rfl) (UX (UR (Qa rfl) rfl) Kq)),?_,?_,_,_,rfl⟩
  ·have e:(if 0<cs.getD i 0-((ws.count (some (i:Int)):Nat):Int)then some (U3 ⟨i,cs.length,0,none⟩)else none:Option D).isSome=decide (0<cs.getD i 0-((ws.count (some (i:Int)):Nat):Int)):=by
    by_cases h:0<cs.getD i 0-((ws.count (some (i:Int)):Nat):Int)
    ·rw[Qm h,Q7 h];rfl
    ·rw[Qu h,QH h];rfl
   rw[e];exact Z6 rfl UU rfl
  ·intro v hv;dsimp only at hv;split at hv
   ·cases hv;exact YT (UM (UK rfl) (UM (UK rfl) (UM UU (UM UU UT)))) (Qa rfl)
   ·cases hv
 refine Ki (Z7 (Yk (Xs (UM (UK rfl) UT) Xr) hc) (Qa rfl) rfl) ?_;have hrl:(ZW 0 (cs.length:Int)).length=cs.length:=by rw[X7];omega
 have hc2:∀x4:Option Sl,K0 (gN 5) (UN true) (Ku (UL (UA 2) (UL (UA 5) (UL (UN (.int 0)) (UL (UN .none) (UH)))))) (ZW 0 (cs.length:Int)) (Kf [pb (Ka cs ls),pb (U7 ws),pb (.int cs.length),pb (.list ((YQ cs ws).map int)),x4]++Uw 1 none) []=some ((ZP cs.length).map U3):=λx4=>by refine Y6 (λZ=>∃z x,Z=[pb (Ka cs ls),pb (U7 ws),pb (.int cs.length),pb (.list ((YQ cs ws).map int)),z,x]) _ _ _ _ (by unfold ZP;rw[Qb,Qb,Qq,hrl]) ?_ ⟨_,none,rfl⟩ (by rw[hrl,QN];omega);rintro i d e hd he Z ⟨z,x,rfl⟩;obtain⟨rfl,hlt⟩:=VG hd;unfold ZP at he;rw[Qe,Qe,QQ (by omega)]at he;cases he;rw[Uc];exact⟨_,UR (Qa rfl) rfl,rfl,YT (UM (UK rfl) (UM (UK rfl) (UM UU (UM UU UT)))) (Qa rfl),_,_,rfl⟩
 have h1:(ZQ cs ws).length<=cs.length:=by unfold ZQ;have:=Ji (λt=>if 0<cs.getD t 0-((ws.count (some (t:Int)):Nat):Int)then some (⟨t,cs.length,0,none⟩:Stp)else none) (Uv cs.length);rw[Qq]at this;exact this
 have h2:(ZP cs.length).length=cs.length:=by unfold ZP;rw[Qb,Qq]
 refine Kv (U2 (Yl rfl rfl) (Kx (Yk (W9 (UM (UK rfl) UT) (Vi (by omega) (by omega))) (hc2 _))) (Xz (by rw[Qb,Qb];omega))) ?_;rw[Qz]
theorem Hl(g:Good cs ls)(hm:ws.length=ls.length)(hp:Yh cs.length ws.length qs)(hd:ZK cs qs ws.length ws)(hq1:qs.length<=1000):YO [Ka cs ls,.list (qs.map (Za V)),U7 ws]=some (.list ((Yw cs (UV V) qs ws).map U3)):=by
 refine K7 (Z:=[pb (Ka cs ls),pb (.list (qs.map (Za V))),pb (U7 ws)]) rfl ?_;unfold Tc;have c6:=g.c6;have l7:=g.l7;have hlc:Kb [.list (cs.map int)]=some (.int (cs.length:Nat)):=by rw[Zh,Qb]
 have h1:(Zc cs.length (UV V) ws).length<=ws.length:=by unfold Zc;have:=Ji (λi=>match ws.getD i none with|none=>none|some t=>some (⟨t.toNat,cs.length, -(Kd (UV V) i (some t)),some i⟩:Stp)) (Uv ws.length);rw[Qq]at this;exact this
 have h2:(K3 cs.length (UV V) qs ws).length<=qs.length:=by unfold K3;exact Ji _ _
 have h3:(ZQ cs ws).length<=cs.length:=by unfold ZQ;have:=Ji (λt=>if 0<cs.getD t 0-((ws.count (some (t:Int)):Nat):Int)then some (⟨t,cs.length,0,none⟩:Stp)else none) (Uv cs.length);rw[Qq]at this;exact this
 have h4:(ZP cs.length).length=cs.length:=by unfold ZP;rw[Qb,Qq]
 refine Kv (U2 (Kj (UM (ZO (UM (KH rfl UU TN) UT) hlc) (UM (UK rfl) (UM (UK rfl) UT))) rfl (Ba hp hd (by omega) hq1)) (Kj (UM (UK rfl) (UM (UK rfl) UT)) rfl (C9 g hm)) (Xz (by rw[Qb,Qb,Ql,Ql];omega))) ?_;unfold Yw;rw[Qz (l₁:=Zc cs.length (UV V) ws++K3 cs.length (UV V) qs ws)]
theorem RU{m:Nat}{f:Int×Int->Int}(hp:Yh cs.length m qs)(hd:ZK cs qs m ws):∀s∈Yw cs f qs ws,IsSt cs f qs ws s:=λs hs=>by
 have gt:∀{i:Nat}{o:Option Int},i<ws.length->ws.getD i none=o->ws[i]?=some o:=λ{i o} hi e=>by rw[Qh,Qd hi]at e;rw[Qd hi];exact congrArg some e
 unfold Yw at hs;rcases Q2.mp hs with hs|hs
 ·rcases Q2.mp hs with hs|hs
  ·unfold Zc at hs;obtain⟨i,hi,e⟩:=Jl.mp hs;have hi:=Q8.mp hi;cases hw:ws.getD i none with
   |none=>rw[hw]at e;cases e
   |some t=>
    rw[hw]at e;have e:=QT e;subst e;have:=IsSt.mv (cs:=cs) (f:=f) (qs:=qs) (gt hi hw) (o':=none) (by intro z;cases z) (λt e=>by cases e);have e2:Kd f i none-Kd f i (some t) = -(Kd f i (some t)):=by show 0-_=_;omega
    rw[e2]at this;exact this
  ·unfold K3 at hs;obtain⟨q,hq,e⟩:=Jl.mp hs;have hb:=hp.lo q hq;split at e
   ·rename_i hne;have e:=QT e;subst e;have hi:q.1.toNat<ws.length:=by rw[hd.len];omega
    have ei:((q.1.toNat:Nat):Int)=q.1:=by omega
    have:=IsSt.mv (cs:=cs) (f:=f) (qs:=qs) (gt hi rfl) (o':=some q.2) (λz=>hne z.symm) (λt e=>by cases e;rw[ei];exact hq);have e2:Kd f q.1.toNat (some q.2)=f q:=by show f (((q.1.toNat:Nat):Int),q.2)=_;rw[ei]
    rw[e2]at this;exact this
   ·cases e
 ·rcases Q2.mp hs with hs|hs
  ·unfold ZQ at hs;obtain⟨t,ht,e⟩:=Jl.mp hs;have ht:=Q8.mp ht;split at e
   ·rename_i hl;have e:=QT e;subst e;exact .left (c:=cs.getD t 0) (by rw[Qh,Qd ht];rfl) (by omega)
   ·cases e
  ·unfold ZP at hs;obtain⟨t,ht,rfl⟩:=Qt.mp hs;exact .give (Q8.mp ht)
theorem C8{m:Nat}{f:Int×Int->Int}(hp:Yh cs.length m qs)(hd:ZK cs qs m ws):∀s,IsSt cs f qs ws s->s∈Yw cs f qs ws:=λs hs=>by
 unfold Yw;cases hs with
 |@mv i o o' h hne hq=>
  have hi:i<ws.length:=(Qg.mp h).1;have hg:=MJ h;refine Jd _ ?_;cases o' with
  |none=>
   refine Jd _ ?_;cases o with
   |none=>exact absurd rfl hne
   |some t=>unfold Zc;refine Jl.mpr ⟨i,Q8.mpr hi,?_⟩;rw[hg];show some (⟨t.toNat,cs.length, -(Kd f i (some t)),some i⟩:Stp)=some ⟨t.toNat,cs.length,0-Kd f i (some t),some i⟩;rw[show(0:Int)-Kd f i (some t) = -(Kd f i (some t))by omega]
  |some t=>refine QI _ ?_;have hqt:=hq t rfl;have hb:=hp.lo _ hqt;unfold K3;refine Jl.mpr ⟨((i:Int),t),hqt,?_⟩;dsimp only;rw[Qy,hg,Qm (λz=>hne z.symm)];rfl
 |@left t c h hl=>
  refine QI _ (Jd _ ?_);have ht:t<cs.length:=(Qg.mp h).1;unfold ZQ;refine Jl.mpr ⟨t,Q8.mpr ht,?_⟩;have e:cs.getD t 0=c:=by rw[Qh,h];rfl
  rw[e,Qm (by omega)]
 |@give t h=>refine QI _ (QI _ ?_);unfold ZP;exact Qt.mpr ⟨t,Q8.mpr h,rfl⟩
end
theorem NG{W:Tab}{p:Nat}(h:p<W.length):oIx (.list (W.map ZJ)) (.int (p:Int))=some (ZJ (ent W p)):=by refine ZB ?_;unfold ent;rw[Qe,Qh,Qd h];rfl
theorem C7{W:Tab}{S:List Stp}(hS:∀s∈S,s.a<W.length/\s.b<W.length)(hW:∀p,(ent W p).2.length<=1000)(hl:W.length<=1000):WA [.list (W.map ZJ),.list (S.map U3)]=some (.list ((Rs W S).map ZJ)):=by
 refine K7 (Z:=[pb (.list (W.map ZJ)),pb (.list (S.map U3)),none,none,none,none,none,none,none,none]) rfl ?_;unfold Tb;refine Ki (Z7 (MW rfl (show Xu [.list (W.map ZJ)]=some (W.map ZJ)from rfl)) (Qa rfl) rfl) ?_;apply Kz;apply Zv (λk Z=>∃x3 x4 x5 x6 x7 x8 x9,Z=[pb (.list (W.map ZJ)),pb (.list (S.map U3)),some (.own (((S.take k).foldl (Yn W) W).map ZJ)),x3,x4,x5,x6,x7,x8,x9])
 case h1=>exact Zj (UK rfl) ZZ
 case h0=>exact⟨_,_,_,_,_,_,_,rfl⟩
 case hst=>
  rintro k d Z hk ⟨x3,x4,x5,x6,x7,x8,x9,rfl⟩;rw[Qe]at hk;cases hq:S[k]? with
  |none=>rw[hq]at hk;cases hk
  |some s=>
  rw[hq]at hk;cases hk;have hs:=hS s (Qp hq);have hta:S.take (k+1)=S.take k++[s]:=by rw[JG,hq];rfl
  have hfl:(S.take (k+1)).foldl (Yn W) W=Yn W ((S.take k).foldl (Yn W) W) s:=by rw[hta,List.foldl_append];rfl
  have hTl:∀(R:List Stp)(T:Tab),(R.foldl (Yn W) T).length=T.length:=λR=>by
   induction R with
   |nil=>intro T;rfl
   |cons x R ih=>intro T;rw[JZ,ih,Bd]
  generalize hT:(S.take k).foldl (Yn W) W=T at hfl⊢;have hTlen:T.length=W.length:=by rw[←hT,hTl]
  refine⟨_,UR (Qa rfl) rfl,?_⟩;unfold N0;refine Ki (W5 (UK rfl) (Kt rfl (UX (UR (Qa rfl) rfl) (UX (UR (Qa rfl) rfl) (UX (UR (Qa rfl) rfl) (UX (UR (Qa rfl) rfl) Kq)))))) ?_;refine Ki (W5 (KH rfl (UK rfl) (NG hs.1)) (Kt rfl (UX (UR (Qa rfl) rfl) (UX (UR (Qa rfl) rfl) Kq)))) ?_;have i0:oIx (ZJ (ent T s.b)) (.int 0)=some (.int (ent T s.b).1):=ZB (j:=0) rfl;apply Kw
  case h1=>exact U2 (U2 (UK rfl) (UK rfl) Zp) (U2 (Rx rfl (UK rfl) rfl (NG (by rw[hTlen];exact hs.2))) UU i0) rfl
  case h2=>
   intro hh;have hh:(ent T s.b).1<(ent W s.a).1+s.g:=Qa hh;have hadd:U0 (.list ((ent W s.a).2.map U3)) (.list [U3 s])=some (.list (((ent W s.a).2++[s]).map U3)):=by rw[Xz (by rw[Qb];have:=hW s.a;show _+1<=_;omega),Qz];rfl
   refine ZA (SN (YT (UM (U2 (UK rfl) (UK rfl) Zp) (UM (U2 (UK rfl) (ZI (UM (UK rfl) UT) (Qa rfl)) hadd) UT)) (Qa rfl)) rfl (UK rfl) rfl ⟨Int.natCast_nonneg _,by rw[Qb,hTlen];have:=hs.2;omega⟩ rfl) (K5 ⟨some (.pub (U3 s)),pb (.int s.a),pb (.int s.b),pb (.int s.g),pb (YK s.w),pb (.int (ent W s.a).1),pb (.list ((ent W s.a).2.map U3)),?_⟩);rw[hfl];unfold Yn;rw[Qm hh,List.map_set];show [_,_,some (Sl.own ((T.map ZJ).set ((s.b:Int)).toNat _)),_,_,_,_,_,_,_]=_;rw[Qy];rfl
  case h3=>intro hh;have hh:¬(ent T s.b).1<(ent W s.a).1+s.g:=Jf hh;refine KU (K5 ⟨some (.pub (U3 s)),pb (.int s.a),pb (.int s.b),pb (.int s.g),pb (YK s.w),pb (.int (ent W s.a).1),pb (.list ((ent W s.a).2.map U3)),?_⟩);rw[hfl];unfold Yn;rw[Qu hh];rfl
 case hend=>rintro Z ⟨x3,x4,x5,x6,x7,x8,x9,rfl⟩;refine KB (Kv (Yl rfl rfl) ?_);rw[Qb,JL];rfl
theorem Lk{n:Nat}{S:List Stp}(hS:∀s∈S,s.a<n/\s.b<n)(hn:n<=100):Xm [.int (n:Nat),.list (S.map U3)]=some (.list ((KD n S n).map ZJ)):=by
 refine K7 (Z:=[pb (.int (n:Nat)),pb (.list (S.map U3)),none,none]) rfl ?_;unfold Ta;have hmul:Kr (.list [.tuple [.int 0,.list []]]) (.int (n:Nat))=some (.list ((KD n S 0).map ZJ)):=by rw[Nn (by omega)];unfold KD;rw[List.map_replicate];rfl
 refine Ki (KR (U2 (ZI (UM (YT (UM UU (UM (ZI UT (Qa rfl)) UT)) (Qa rfl)) UT) (Qa rfl)) (UK rfl) hmul) (Qa rfl) rfl) ?_;apply Kz;apply Zv (λk Z=>k<=n/\∃x3,Z=[pb (.int (n:Nat)),pb (.list (S.map U3)),pb (.list ((KD n S k).map ZJ)),x3])
 case h1=>exact W9 (UM (UK rfl) UT) (Vi (by omega) (by omega))
 case h0=>exact⟨Ua _,_,rfl⟩
 case hst=>rintro k d Z hk ⟨_,x3,rfl⟩;obtain⟨rfl,hlt⟩:=VG hk;refine⟨_,UR (Qa rfl) rfl,?_⟩;unfold NF;have hl:=Sm hS k;have hlo:=C7 (W:=KD n S k) (S:=S) (by rw[hl];exact hS) (λp=>QP ((RX hS k).1 p) (by omega)) (by rw[hl];omega);exact ZA (KR (Kj (UM (UK rfl) (UM (UK rfl) UT)) rfl hlo) (Qa rfl) rfl) (K5 ⟨by omega,_,rfl⟩)
 case hend=>rintro Z ⟨_,x3,rfl⟩;refine KB (Kv (UK rfl) ?_);rw[X7,show((n:Int)-0).toNat=n by omega]
theorem Fd{xs:List D}{i j:Nat}(hij:i<=j)(hj:j<=xs.length):DL.cutD xs (some (i:Int)) (some (j:Int))=(xs.take j).drop i:=by unfold DL.cutD HT.sIx;dsimp only;rw[Qu (by omega),Qu (by omega),Qy,Qy,Nat.min_eq_left hj,Nat.min_eq_left (show i<=xs.length by omega),List.drop_take]
theorem qY{w:List Stp}(hl:w.length<=1000):∃d,Wz [.list (w.map U3)]=some d/\∃r,d=.list (r.map U3)/\((NH w/\r=[]) ∨ ∃i j,PH w i j/\r=(w.take (j+1)).drop i):=by
 refine W4 (Z:=[pb (.list (w.map U3)),none,none,none]) rfl ?_;unfold V9;apply Kz;apply Zv (λk Z=>(∃x1 x2 x3,Z=[pb (.list (w.map U3)),x1,x2,x3])/\∀j'<k,∀i' ≤ j',∀s t,w[i']?=some s->w[j']?=some t->s.a≠t.b)
 case h1=>exact Xs (UM (UK rfl) UT) Xr
 case h0=>exact⟨⟨_,_,_,rfl⟩,λj' h=>absurd h (J5 _)⟩
 case hst=>
  rintro k d Z hk ⟨⟨x1,x2,x3,rfl⟩,hb⟩;obtain⟨z,hz,rfl⟩:=YS hk;rw[Qe]at hz;cases ht:w[k]? with
  |none=>rw[ht]at hz;cases hz
  |some t=>
  rw[ht]at hz;cases hz;have hkl:k<w.length:=(Qg.mp ht).1;rw[QS];refine⟨_,Kt rfl (UX (UR (Qa rfl) rfl) (UX (UR (Qa rfl) rfl) Kq)),?_⟩;unfold NC;apply Zv (λl Z=>(∃x3,Z=[pb (.list (w.map U3)),pb (.int (k:Nat)),pb (U3 t),x3])/\∀i'<l,∀s,w[i']?=some s->s.a≠t.b)
  case h1=>exact W9 (UM (U2 (UK rfl) UU Zp) UT) (Vi (by omega) (by omega))
  case h0=>exact⟨⟨_,rfl⟩,λi' h=>absurd h (J5 _)⟩
  case hst=>
   rintro l d Z hl2 ⟨⟨x3,rfl⟩,hc⟩;obtain⟨rfl,hlt⟩:=VG hl2;have hlk:l<=k:=by omega
   obtain⟨s,hs⟩:∃s,w[l]?=some s:=⟨_,Qd (by omega)⟩
   refine⟨_,UR (Qa rfl) rfl,?_⟩;have zl:(0:Int)+(l:Int)=l:=by omega
   rw[zl];unfold NE;have il:oIx (.list (w.map U3)) (.int (l:Int))=some (U3 s):=ZB (by rw[Qe,hs];rfl);have i0:oIx (U3 s) (.int 0)=some (.int s.a):=ZB (j:=0) rfl;have i1:oIx (U3 t) (.int 1)=some (.int t.b):=ZB (j:=1) rfl;apply Kw
   case h1=>exact U2 (U2 (KH rfl (UK rfl) il) UU i0) (KH rfl UU i1) Wa
   case h2=>
    intro hh;have hh:(s.a:Int)=(t.b:Int):=Qa hh;have hcut:YA (.list (w.map U3)) (some (l:Int)) (some ((k:Int)+1))=some (.list (((w.take (k+1)).drop l).map U3)):=by rw[Vg,show((k:Int)+1)=((k+1:Nat):Int)by omega,Fd (by omega) (by rw[Qb];omega),List.map_drop,Ui]
    refine Kv (W3 (UK rfl) (Y4 (UK rfl)) (Y4 (U2 (UK rfl) UU Zp)) hcut) (S8 (S8 (Vx ⟨_,rfl,_,rfl,.inr ⟨l,k,⟨hlk,hkl,λs' t' e1 e2=>?_,hb⟩,rfl⟩⟩)));rw[hs]at e1;rw[ht]at e2;cases e1;cases e2;omega
   case h3=>
    intro hh;have hh:¬(s.a:Int)=(t.b:Int):=Jf hh;refine KU (K5 ⟨⟨_,rfl⟩,λi' hi' s' e=>?_⟩);rcases JQ.mp hi' with hi'|rfl
    ·exact hc i' hi' s' e
    ·rw[hs]at e;cases e;omega
  case hend=>
   rintro Z ⟨⟨x3,rfl⟩,hc⟩;refine K5 ⟨⟨_,_,_,rfl⟩,λj' hj' i' hi' s' t' e1 e2=>?_⟩;rcases JQ.mp hj' with hj'|rfl
   ·exact hb j' hj' i' hi' s' t' e1 e2
   ·rw[ht]at e2;cases e2;exact hc i' (by rw[X7];omega) s' e1
 case hend=>rintro Z ⟨⟨x1,x2,x3,rfl⟩,hb⟩;refine KB (Kv (ZI UT (Qa rfl)) ⟨_,rfl,[],rfl,.inl ⟨λj hj=>hb j (by rw[Yo,Qb];exact hj),rfl⟩⟩)
def Y0(n:Nat)(s:Stp):Option (Nat×Option Int):=s.w.map λi=>(i,Yq n s.b)
def ZE(p:Nat×Option Int):D:=.tuple [.int (p.1:Nat),U4 p.2]
def rot(b:Nat)(r:List Stp):List Stp:=r.drop b++r.take b
theorem MI(b:Nat)(r:List Stp):(rot b r).Perm r:=by unfold rot;have:=List.perm_append_comm (l₁:=r.drop b) (l₂:=r.take b);rw[J8]at this;exact this
theorem qA{n:Nat}{r:List Stp}(hl:r.length<=1000):∃b,b<=r.length/\((∃s,r[b]?=some s/\s.a=n)∨(b=0/\∀s∈r,s.a≠n))/\XS [.int (n:Nat),.list (r.map U3)]=some (.list (((rot b r).filterMap (Y0 n)).map ZE)):=by
 have key:∃d,XS [.int (n:Nat),.list (r.map U3)]=some d/\∃b,b<=r.length/\((∃s,r[b]?=some s/\s.a=n)∨(b=0/\∀s∈r,s.a≠n))/\d=.list (((rot b r).filterMap (Y0 n)).map ZE):=by
  refine W4 (Z:=[pb (.int (n:Nat)),pb (.list (r.map U3)),none,none,none,none,none,none,none,none]) rfl ?_;unfold V8;refine Ki (KR UU (Qa rfl) rfl) ?_;apply Kz;apply Zv (λk Z=>∃(b:Nat)(x3 x4:Option Sl),Z=[pb (.int (n:Nat)),pb (.list (r.map U3)),pb (.int (b:Nat)),x3,x4,none,none,none,none,none]/\b<=r.length/\((∃s,r[b]?=some s/\s.a=n)∨(b=0/\∀s∈r.take k,s.a≠n)))
  case h1=>exact Xs (UM (UK rfl) UT) Xr
  case h0=>exact⟨0,_,_,rfl,Ua _,.inr ⟨rfl,λs h=>by rw[JS]at h;cases h⟩⟩
  case hst=>
   rintro k d Z hk ⟨b,x3,x4,rfl,hbl,hb⟩;obtain⟨z,hz,rfl⟩:=YS hk;rw[Qe]at hz;cases ht:r[k]? with
   |none=>rw[ht]at hz;cases hz
   |some t=>
   rw[ht]at hz;cases hz;have hkl:k<r.length:=(Qg.mp ht).1;rw[QS];refine⟨_,Kt rfl (UX (UR (Qa rfl) rfl) (UX (UR (Qa rfl) rfl) Kq)),?_⟩;unfold NA;have i0:oIx (U3 t) (.int 0)=some (.int t.a):=ZB (j:=0) rfl;apply Kw
   case h1=>exact U2 (KH rfl UU i0) (UK rfl) Wa
   case h2=>intro hh;have hh:(t.a:Int)=(n:Int):=Qa hh;exact ZA (KR (UK rfl) (Qa rfl) rfl) (K5 ⟨k,_,_,rfl,by omega,.inl ⟨t,ht,by omega⟩⟩)
   case h3=>
    intro hh;have hh:¬(t.a:Int)=(n:Int):=Jf hh;refine KU (K5 ⟨b,_,_,rfl,hbl,?_⟩);rcases hb with hb|⟨hb,hc⟩
    ·exact .inl hb
    ·refine .inr ⟨hb,λs hs=>?_⟩;rw[JG,ht]at hs;rcases Q2.mp hs with hs|hs
     ·exact hc s hs
     ·rw[Je.mp hs];omega
  case hend=>
   rintro Z ⟨b,x3,x4,rfl,hbl,hb⟩;refine KB ?_;have hb':(∃s,r[b]?=some s/\s.a=n)∨(b=0/\∀s∈r,s.a≠n):=by rw[Yo,Qb,JL]at hb;exact hb
   refine Ki (Z7 (Va UT (Qa rfl)) (Qa rfl) rfl) ?_;have c1:YA (.list (r.map U3)) (some (b:Int)) none=some (.list ((r.drop b).map U3)):=by rw[Vg,CP (by rw[Qb];exact hbl),List.map_drop]
   have c2:YA (.list (r.map U3)) none (some (b:Int))=some (.list ((r.take b).map U3)):=by rw[Vg,Fi (by rw[Qb];exact hbl),Ui]
   have c3:U0 (.list ((r.drop b).map U3)) (.list ((r.take b).map U3))=some (.list ((rot b r).map U3)):=by rw[Xz (by rw[Qb,Qb,Jw,Q0];omega)];unfold rot;rw[Qz]
   apply Kz;apply Zv (λk Z=>∃x6 x7 x8 x9,Z=[pb (.int (n:Nat)),pb (.list (r.map U3)),pb (.int (b:Nat)),x3,x4,some (.own ((((rot b r).take k).filterMap (Y0 n)).map ZE)),x6,x7,x8,x9])
   case h1=>exact Zj (U2 (W3 (UK rfl) (Y4 (UK rfl)) UU c1) (W3 (UK rfl) UU (Y4 (UK rfl)) c2) c3) ZZ
   case h0=>exact⟨_,_,_,_,rfl⟩
   case hst=>
    rintro k d Z hk ⟨x6,x7,x8,x9,rfl⟩;rw[Qe]at hk;cases hq:(rot b r)[k]? with
    |none=>rw[hq]at hk;cases hk
    |some s=>
    rw[hq]at hk;cases hk;have hkl:k<(rot b r).length:=(Qg.mp hq).1;have hrl:(rot b r).length=r.length:=(MI b r).length_eq;have hta:(rot b r).take (k+1)=(rot b r).take k++[s]:=by rw[JG,hq];rfl
    refine⟨_,Kt rfl (UX (UR (Qa rfl) rfl) (UX (UR (Qa rfl) rfl) (UX (UR (Qa rfl) rfl) (UX (UR (Qa rfl) rfl) Kq)))),?_⟩;unfold NB;have hsz:((((rot b r).take k).filterMap (Y0 n)).map ZE).length<1000000:=by rw[Qb];have:=Ji (Y0 n) ((rot b r).take k);rw[Q0]at this;omega
    cases hw:s.w with
    |none=>
     apply Kw
     case h1=>exact Kx (k:=λd=>!isNon d) (x:=YK none) (UK rfl)
     case h2=>intro hh;cases hh
     case h3=>
      intro _;refine KU (K5 ⟨some (.pub (.int s.a)),pb (.int s.b),pb (.int s.g),pb (YK none),?_⟩);rw[hta,List.filterMap_append];have:[s].filterMap (Y0 n)=[]:=by unfold Y0;rw[Jz,hw];rfl
      rw[this,Q5];rfl
    |some i=>
     apply Kw
     case h1=>exact Kx (k:=λd=>!isNon d) (x:=YK (some i)) (UK rfl)
     case h3=>intro hh;cases hh
     case h2=>
      intro _
      have htest:∀Z:UG,Z[7]?=some (some (.pub (.int (s.b:Int))))->Z[0]?=some (some (.pub (.int (n:Int))))->mIf (Zi oEq 7 (UA 0)) (UN .none) (UA 7) Z=.ok (U4 (Yq n s.b)) Z:=λZ h7 h0=>by
       unfold Yq;by_cases z:s.b=n
       ·rw[Qm z];exact Ni (Z6 h7 (UK h0) (by rw[Wa,Q7 (by rw[z])])) UU
       ·rw[Qu z];exact Pl (Z6 h7 (UK h0) (by rw[Wa,QH (by omega)])) (UK h7)
      refine ZA (X3 rfl (YT (UM (UK rfl) (UM (htest _ rfl rfl) UT)) (Qa rfl)) rfl hsz rfl) (K5 ⟨some (.pub (.int s.a)),pb (.int s.b),pb (.int s.g),pb (YK (some i)),?_⟩);rw[hta,List.filterMap_append];have:[s].filterMap (Y0 n)=[(i,Yq n s.b)]:=by unfold Y0;rw[Jz,hw];rfl
      rw[this,Qz];rfl
   case hend=>rintro Z ⟨x6,x7,x8,x9,rfl⟩;refine KB (Kv (Yl rfl rfl) ⟨_,rfl,b,hbl,hb',?_⟩);rw[Qb,JL]
 obtain⟨d,e,b,h1,h2,rfl⟩:=key;exact⟨b,h1,h2,e⟩
theorem Ou(n:Nat):∀(R:List Stp)(d:LO),(R.filterMap (Y0 n)).foldl (λd p=>d.set p.1 p.2) d=R.foldl (app n) d
 |[],d=>rfl
 |s::R,d=>by
  rw[JZ,Jz];unfold Y0 app;cases s.w with
  |none=>exact Ou n R d
  |some i=>exact Ou n R (d.set i (Yq n s.b))
theorem C6{ws:LO}{tk:List (Nat×Option Int)}(h:∀p∈tk,p.1<ws.length):WD [U7 ws,.list (tk.map ZE)]=some (U7 (tk.foldl (λd p=>d.set p.1 p.2) ws)):=by
 refine K7 (Z:=[pb (U7 ws),pb (.list (tk.map ZE)),none,none,none]) rfl ?_;unfold Tg;refine Ki (Z7 (MW rfl (show Xu [U7 ws]=some (ws.map U4)from rfl)) (Qa rfl) rfl) ?_
 have hlen:∀(R:List (Nat×Option Int))(d:LO),(R.foldl (λd p=>d.set p.1 p.2) d).length=d.length:=λR=>by
  induction R with
  |nil=>intro d;rfl
  |cons p R ih=>intro d;rw[JZ,ih,Q6]
 apply Kz;apply Zv (λk Z=>∃x3 x4,Z=[pb (U7 ws),pb (.list (tk.map ZE)),some (.own (((tk.take k).foldl (λd p=>d.set p.1 p.2) ws).map U4)),x3,x4])
 case h1=>exact Zj (UK rfl) ZZ
 case h0=>exact⟨_,_,rfl⟩
 case hst=>
  rintro k d Z hk ⟨x3,x4,rfl⟩;rw[Qe]at hk;cases hq:tk[k]? with
  |none=>rw[hq]at hk;cases hk
  |some p=>
  rw[hq]at hk;cases hk;have hpl:=h p (Qp hq);have hta:tk.take (k+1)=tk.take k++[p]:=by rw[JG,hq];rfl
  refine⟨_,Kt rfl (UX (UR (Qa rfl) rfl) (UX (UR (Qa rfl) rfl) Kq)),?_⟩;unfold Ny;refine ZA (SN (UK rfl) rfl (UK rfl) rfl ⟨Int.natCast_nonneg _,by rw[Qb,hlen];omega⟩ rfl) (K5 ⟨some (.pub (.int (p.1:Nat))),pb (U4 p.2),?_⟩);rw[hta,List.foldl_append];show [_,_,some (Sl.own ((((tk.take k).foldl (λd p=>d.set p.1 p.2) ws).map U4).set ((p.1:Int)).toNat (U4 p.2))),_,_]=[_,_,some (Sl.own ((((tk.take k).foldl (λd p=>d.set p.1 p.2) ws).set p.1 p.2).map U4)),_,_];rw[Qy,List.map_set]
 case hend=>rintro Z ⟨x3,x4,rfl⟩;refine KB (Kv (Yl rfl rfl) ?_);rw[Qb,JL];rfl
def TY(cs:List Int)(f:Int×Int->Int)(qs:LP)(ws:LO):Prop:=∀p,p<cs.length+1->(ent (KD (cs.length+1) (Yw cs f qs ws) (cs.length+1)) p).2.length≠cs.length+1
structure Re(cs:List Int)(f:Int×Int->Int)(qs:LP)(ws:LO)(r:List Stp)(b:Nat):Prop where
 rnd:∃x,Path (Yw cs f qs ws) x r x
 nd:(r.map Stp.a).Nodup
 pos:0<Kh r
 bl:b<=r.length
 bat:(∃s,r[b]?=some s/\s.a=cs.length)∨(b=0/\∀s∈r,s.a≠cs.length)
def ZD(n b:Nat)(r:List Stp):List (Nat×Option Int):=(rot b r).filterMap (Y0 n)
theorem Sc(s:Stp)(R:List Stp):Kh (s::R)=s.g+Kh R:=by show Kh ([s]++R)=_;rw[Wf,Sf]
theorem Bv{u v:List Stp}(h:u.Perm v):Kh u=Kh v:=by
 induction h with
 |nil=>rfl
 |cons x _ ih=>rw[Sc,Sc,ih]
 |swap x y l=>rw[Sc,Sc,Sc,Sc];omega
 |trans _ _ ih1 ih2=>rw[ih1,ih2]
theorem Bu{R:List Stp}(h:∀s∈R,s.g=0):Kh R=0:=by
 induction R with
 |nil=>rfl
 |cons s R ih=>
  have e:Kh (s::R)=s.g+Kh R:=by show Kh ([s]++R)=_;rw[Wf,Sf]
  rw[e,h s Qo,ih λx hx=>h x (Qk _ hx)];rfl
section
variable{cs:List Int}{ls:L3}{ws:LO}{V:Int->Int->Int}{qs:LP}{f:Int×Int->Int}{m:Nat}
theorem Re.does(hp:Yh cs.length m qs)(hd:ZK cs qs m ws){r:List Stp}{b:Nat}(h:Re cs f qs ws r b):ZK cs qs m ((ZD cs.length b r).foldl (λd p=>d.set p.1 p.2) ws)/\Kg f 0 ((ZD cs.length b r).foldl (λd p=>d.set p.1 p.2) ws)=Kg f 0 ws+Kh r/\ZD cs.length b r≠[]/\∀p∈ZD cs.length b r,p.1<ws.length:=by
 obtain⟨x,hx⟩:=h.rnd;have hin:∀s∈r,IsSt cs f qs ws s:=λs hs=>RU hp hd s (hx.mem s hs);have pr:=MI b r;have hinR:∀s∈rot b r,IsSt cs f qs ws s:=λs hs=>hin s (pr.mem_iff.mp hs);have ndR:((rot b r).map Stp.a).Nodup:=(pr.map Stp.a).nodup_iff.mpr h.nd;have pbR:((rot b r).map Stp.b).Perm ((rot b r).map Stp.a):=((pr.map Stp.b).trans (Ae hx)).trans (pr.map Stp.a).symm
 obtain⟨h1,h2⟩:=Ds hp hd hinR ndR pbR;unfold ZD;rw[Ou];refine⟨h1,by rw[h2,Bv pr],λz=>?_,λp hpm=>?_⟩
 ·have:Kh r=0:=Bu λs hs=>by
   have hw:Y0 cs.length s=none:=by have:=List.filterMap_eq_nil_iff.mp z s (pr.mem_iff.mpr hs);exact this
   cases hin s hs with
   |mv _ _ _=>cases hw
   |left _ _=>rfl
   |give _=>rfl
  have:=h.pos;omega
 ·obtain⟨s,hs,e⟩:=Jl.mp hpm;cases hinR s hs with
  |@mv i o o' hw _ _=>cases e;exact(Qg.mp hw).1
  |left _ _=>cases e
  |give _=>cases e
theorem LB(g:Good cs ls)(hm:ws.length=ls.length)(hp:Yh cs.length ws.length qs)(hd:ZK cs qs ws.length ws)(hq1:qs.length<=500):∃d,XR [Ka cs ls,.list (qs.map (Za V)),U7 ws]=some d/\((d=.list []/\TY cs (UV V) qs ws) ∨ ∃r b,d=.list ((ZD cs.length b r).map ZE)/\Re cs (UV V) qs ws r b):=by
 refine W4 (Z:=[pb (Ka cs ls),pb (.list (qs.map (Za V))),pb (U7 ws),none,none,none]) rfl ?_;unfold V7;have c6:=g.c6;have l7:=g.l7;have hlc:Kb [.list (cs.map int)]=some (.int cs.length):=by rw[Zh,Qb]
 have hS:∀s∈Yw cs (UV V) qs ws,s.a<cs.length+1/\s.b<cs.length+1:=λs hs=>(RU hp hd s hs).lt hp hd;have hwd:=Lk hS (by omega)
 have hsteps:=Hl (V:=V) g hm hp hd (by omega);refine Ki (KR (ZO (UM (KH rfl UU TN) UT) hlc) (Qa rfl) rfl) ?_;have hadd:U0 (.int (cs.length:Int)) (.int 1)=some (.int ((cs.length+1:Nat):Int)):=by rw[Zp];rfl
 apply Kz;apply Zv (λk Z=>(∃x4 x5,Z=[pb (Ka cs ls),pb (.list (qs.map (Za V))),pb (U7 ws),pb (.int cs.length),x4,x5])/\∀p<k,(ent (KD (cs.length+1) (Yw cs (UV V) qs ws) (cs.length+1)) p).2.length≠cs.length+1)
 case h1=>exact Zj (Kj (UM (U2 (UK rfl) UU hadd) (UM (Kj (UM (UK rfl) (UM (UK rfl) (UM (UK rfl) UT))) rfl hsteps) UT)) rfl hwd) ZZ
 case h0=>exact⟨⟨_,_,rfl⟩,λp h=>absurd h (J5 _)⟩
 case hst=>
  rintro k d Z hk ⟨⟨x4,x5,rfl⟩,hb⟩;rw[Qe]at hk;cases hq:(KD (cs.length+1) (Yw cs (UV V) qs ws) (cs.length+1))[k]? with
  |none=>rw[hq]at hk;cases hk
  |some e=>
  rw[hq]at hk;cases hk;have he:ent (KD (cs.length+1) (Yw cs (UV V) qs ws) (cs.length+1)) k=e:=by unfold ent;rw[Qh,hq];rfl
  refine⟨_,Kt rfl (UX (UR (Qa rfl) rfl) (UX (UR (Qa rfl) rfl) Kq)),?_⟩;unfold Nz;have hlw:Kb [.list (e.2.map U3)]=some (.int e.2.length):=by rw[Zh,Qb]
  apply Kw
  case h1=>exact U2 (Zs rfl hlw) (U2 (UK rfl) UU hadd) Wa
  case h2=>
   intro hh;have hh:((e.2.length:Nat):Int)=((cs.length+1:Nat):Int):=Qa hh;have hlen:e.2.length=cs.length+1:=by omega
   obtain⟨d,hrw,r,rfl,hr⟩:=qY (w:=e.2) (by omega);have hwk:=SZ hS (cs.length+1) k;rw[he]at hwk;obtain⟨q,hpath⟩:=hwk.1.path;rcases hr with ⟨hno,rfl⟩|⟨i,j,hra,rfl⟩
   ·exact absurd hno (Dt hS hpath (by omega) (Nat.succ_pos _))
   ·have hlr:((e.2.take (j+1)).drop i).length<=1000:=by rw[Jw,Q0];omega
    obtain⟨b,hbl,hbat,hway⟩:=qA (n:=cs.length) hlr;have hrg:=Af hS (Nat.succ_pos _) (p:=k) (by rw[he];exact hlen) (by rw[he];exact hra);rw[he]at hrg;obtain⟨x,hx,hgp⟩:=hrg;exact Kv (Kj (UM (UK rfl) (UM (Kj (UM (UK rfl) UT) rfl hrw) UT)) rfl hway) (S8 (Vx ⟨_,rfl,.inr ⟨_,b,rfl,⟨⟨x,hx⟩,qt hpath hra,hgp,hbl,hbat⟩⟩⟩))
  case h3=>
   intro hh;have hh:¬((e.2.length:Nat):Int)=((cs.length+1:Nat):Int):=Jf hh;refine KU (K5 ⟨⟨_,_,rfl⟩,λp hpk=>?_⟩);rcases JQ.mp hpk with hpk|rfl
   ·exact hb p hpk
   ·rw[he];omega
 case hend=>rintro Z ⟨⟨x4,x5,rfl⟩,hb⟩;refine KB (Kv (ZI UT (Qa rfl)) ⟨_,rfl,.inl ⟨rfl,λp hpn=>hb p ?_⟩⟩);rw[Qb,Sm hS];exact hpn
theorem NP{M:Int}(hM0:0<=M)(hM:∀q∈qs,f q<=M):∀(ws:LO)(k:Nat),(∀(i:Nat) t,ws[i]?=some (some t)->(((k+i:Nat):Int),t)∈qs)->Kg f k ws<=ws.length*M
 |[],k,_=>by show(0:Int)<=((0:Nat):Int)*M;rw[show(((0:Nat)):Int)=0 from rfl,Int.zero_mul];exact QW _
 |o::ws,k,h=>by
  have ih:=NP hM0 hM ws (k+1) λi t e=>by have:=h (i+1) t (by simpa using e);rw[show k+1+i=k+(i+1)by omega];exact this
  have h0:Kd f k o<=M:=by
   cases o with
   |none=>exact hM0
   |some t=>exact hM _ (by have:=h 0 t rfl;rw[Nat.add_zero]at this;exact this)
  rw[QC];show Kd f k o+Kg f (k+1) ws<=_;rw[show(((ws.length+1:Nat)):Int)=(ws.length:Int)+1 by omega,Int.add_mul,Int.one_mul];omega
theorem Lj(g:Good cs ls)(hm:m=ls.length)(hp:Yh cs.length m qs)(hq1:qs.length<=500){M:Int}(hM0:0<=M)(hM:∀q∈qs,UV V q<=M):∀(N:Nat)(ws:LO)(d:D),ZK cs qs m ws->((d=.list []/\TY cs (UV V) qs ws) ∨ ∃r b,d=.list ((ZD cs.length b r).map ZE)/\Re cs (UV V) qs ws r b) ->
  (m*M-Kg (UV V) 0 ws<N)->∃ws',ZK cs qs m ws'/\TY cs (UV V) qs ws'/\X1 (SL (UA 3)) RB N [pb (Ka cs ls),pb (.list (qs.map (Za V))),pb (U7 ws),pb d]=.nx [pb (Ka cs ls),pb (.list (qs.map (Za V))),pb (U7 ws'),pb (.list [])]
 |0,ws,d,hd,_,hN=>by have:=NP hM0 hM ws 0 (λi t e=>by rw[QS];exact hd.wish i t e);rw[hd.len]at this;exact absurd hN (by omega)
 |N+1,ws,d,hd,hg,hN=>by
  rcases hg with ⟨rfl,hst⟩|⟨r,b,rfl,hgr⟩
  ·refine⟨ws,hd,hst,?_⟩;unfold X1;rw[M7 (ds:=[]) (UK rfl)];rfl
  ·obtain⟨h1,h2,h3,h4⟩:=hgr.does hp hd;generalize hws':(ZD cs.length b r).foldl (λd p=>d.set p.1 p.2) ws=ws' at h1 h2;have hbe:=C6 h4;rw[hws']at hbe;obtain⟨d',hgw,hg'⟩:=LB (V:=V) (ws:=ws') g (by rw[h1.len,hm]) (by rw[h1.len];exact hp) (by rw[h1.len];exact h1) hq1;obtain⟨ws2,k1,k2,k3⟩:=Lj g hm hp hq1 hM0 hM N ws' d' h1 hg' (by have:=hgr.pos;omega);refine⟨ws2,k1,k2,?_⟩;unfold X1;rw[M7 (ds:=(ZD cs.length b r).map ZE) (UK rfl)]
   have hne:(!((ZD cs.length b r).map ZE).isEmpty)=true:=by
    cases hw:ZD cs.length b r with
    |nil=>exact absurd hw h3
    |cons _ _=>rfl
   dsimp only;rw[Qm hne];have hb:Ho RB [pb (Ka cs ls),pb (.list (qs.map (Za V))),pb (U7 ws),pb (.list ((ZD cs.length b r).map ZE))] (λo=>o=.nx [pb (Ka cs ls),pb (.list (qs.map (Za V))),pb (U7 ws'),pb d']):=by unfold RB;refine Ki (KR (Kj (UM (UK rfl) (UM (UK rfl) UT)) rfl hbe) (Qa rfl) rfl) ?_;exact ZA (KR (Kj (UM (UK rfl) (UM (UK rfl) (UM (UK rfl) UT))) rfl hgw) (Qa rfl) rfl) rfl
   rw[hb.out];exact k3
theorem Ad(g:Good cs ls)(hp:Yh cs.length ls.length qs)(hq1:qs.length<=500){M:Int}(hM0:0<=M)(hM:∀q∈qs,UV V q<=M)(hF:ls.length*M<10 ^ 60):∃d,Wy [Ka cs ls,.list (qs.map (Za V))]=some d/\∃ws,d=U7 ws/\ZK cs qs ls.length ws/\TY cs (UV V) qs ws:=by
 refine W4 (Z:=[pb (Ka cs ls),pb (.list (qs.map (Za V))),none,none]) rfl ?_;unfold V6;have l7:=g.l7;have hll:Kb [.list (ls.map KG)]=some (.int (ls.length:Nat)):=by rw[Zh,Qb]
 let ws0:LO:=Uw ls.length none
 have hmul:Kr (.list [.none]) (.int (ls.length:Nat))=some (U7 ws0):=by rw[Nn (by omega)];show _=some (Ux ((Uw ls.length none).map U4));rw[List.map_replicate];rfl
 have hd0:ZK cs qs ls.length ws0:=⟨by show(Uw _ _).length=_;rw[QU],(λi t h=>by
  have h:(Uw ls.length (none:Option Int))[i]?=some (some t):=h;rw[QA]at h;split at h
  ·cases h
  ·cases h),λk c e=>by
  have h0:ws0.count (some (k:Int))=0:=List.count_eq_zero.mpr λh=>by cases (List.mem_replicate.mp h).2
  rw[h0];have:=g.c7 c (Qp e)
  show(0:Int)<=c
  omega⟩
 refine Ki (KR (U2 (ZI (UM UU UT) (Qa rfl)) (ZO (UM (KH rfl UU WX) UT) hll) hmul) (Qa rfl) rfl) ?_;obtain⟨d',hgw,hg'⟩:=LB (V:=V) (ws:=ws0) g hd0.len (by rw[hd0.len];exact hp) (by rw[hd0.len];exact hd0) hq1;refine Ki (KR (Kj (UM (UK rfl) (UM (UK rfl) (UM (UK rfl) UT))) rfl hgw) (Qa rfl) rfl) ?_
 have h0:∀(n k:Nat),Kg (UV V) k (Uw n none)=0:=λn=>by
  induction n with
  |zero=>intro k;rfl
  |succ n ih=>intro k;rw[QX];show 0+Kg (UV V) (k+1) (Uw n none)=0;rw[ih];rfl
 have hfu:ls.length*M-Kg (UV V) 0 ws0<(XX:Nat):=by
  have e:Kg (UV V) 0 ws0=0:=h0 _ _;have e2:((XX:Nat):Int)=10 ^ 60:=by unfold XX;rfl
  rw[e,e2];omega
 obtain⟨ws',k1,k2,k3⟩:=Lj g rfl hp hq1 hM0 hM XX ws0 d' hd0 hg' hfu;refine Ki k3 ?_;exact Kv (UK rfl) ⟨_,rfl,ws',rfl,k1,k2⟩
end
section
variable{cs:List Int}{ls:L3}
end
section
variable{cs:List Int}{ls:L3}{as ps:List Int}
theorem FV(g:Good cs ls):(Ky 0 ls).length<=42:=by rw[(SX ls 0).length_eq];exact RA g
end
theorem MH{f:Int×Int->Int}{ps:List Int}:∀(ws:LO)(as:List Int)(k:Nat),as.length=ws.length->(∀a∈as,0<=a)->(∀(i:Nat) t,ws[i]?=some (some t)->f (((k+i:Nat):Int),t)<=as.getD i 0+ps.getD t.toNat 0)->Kg f k ws<=as.sum+pz ps ws
 |[],[],k,_,_,_=>by show(0:Int)<=0+0;omega
 |o::ws,a::as,k,hl,ha,h=>by
  have ih:=MH (f:=f) (ps:=ps) ws as (k+1) (by simpa using hl) (λx hx=>ha x (List.mem_cons_of_mem _ hx)) λi t e=>by have:=h (i+1) t (by simpa using e);rw[show k+1+i=k+(i+1)by omega];simpa using this
  have h0:=ha a Qo;rw[Ja];cases o with
  |none=>show 0+Kg f (k+1) ws<=a+as.sum+(0+pz ps ws);omega
  |some t=>
   have h1:=h 0 t rfl;have h1:f ((k:Int),t)<=a+ps.getD t.toNat 0:=by simpa using h1
   show f ((k:Int),t)+Kg f (k+1) ws<=a+as.sum+(ps.getD t.toNat 0+pz ps ws);omega
 |[],_::_,_,hl,_,_=>by cases hl
 |_::_,[],_,hl,_,_=>by cases hl
section
variable{cs:List Int}{ls:L3}{ws:LO}{qs:LP}{f:Int×Int->Int}{m:Nat}{as ps:List Int}
theorem Bt(hp:Yh cs.length m qs)(hd:ZK cs qs m ws)(ok:OkP cs.length m (λa b=>f (a,b)) qs 1 as ps):Kg f 0 ws<=Rm cs as ps:=by
 have h1:=MH (f:=f) (ps:=ps) ws as 0 (by rw[ok.la,hd.len]) ok.aa λi t e=>by have:=ok.le _ (hd.wish i t e);rw[QS];have e1:((i:Int)).toNat=i:=Qy i;rw[Int.one_mul]at this;dsimp only at this;rw[e1]at this;exact this
 have hth:∀t,some t∈ws->0<=t/\t<cs.length:=λt ht=>by obtain⟨i,hi⟩:=List.mem_iff_getElem?.mp ht;have:=hp.lo _ (hd.wish i t hi);exact⟨this.2.2.1,this.2.2.2⟩
 rw[Ov ws hth]at h1;unfold Rm;rw[L9 _ _ ok.lp]
 have h2:K2 cs.length (λk=>((ws.count (some (k:Int)):Nat):Int)*ps.getD k 0)<=K2 cs.length λk=>cs.getD k 0*ps.getD k 0:=RI _ λk hk=>by
  have hc:cs[k]?=some (cs.getD k 0):=by rw[Qh,Qd hk];rfl
  have hk2:0<=ps.getD k 0:=by rw[Qh,Qd (by rw[ok.lp];exact hk)];exact ok.pp _ (JK _)
  exact Jo (hd.cop k _ hc) hk2
 omega
theorem Ac(hp:Yh cs.length m qs)(hd:ZK cs qs m ws)(st:TY cs f qs ws){us:LO}(hu:ZK cs qs m us):Kg f 0 us<=Kg f 0 ws:=by obtain⟨ok,e⟩:=Dq hp hd (RU hp hd) (C8 hp hd) (V:=λp=>(ent (KD (cs.length+1) (Yw cs f qs ws) (cs.length+1)) p).1) (λ_=>rfl) st;have:=Bt hp hu ok;rw[e]at this;exact this
end
section
variable{cs:List Int}{ls:L3}{ws:LO}{qs:LP}{V:Int->Int->Int}
def prW(cs:List Int)(f:Int×Int->Int)(qs:LP)(ws:LO)(p:Nat):Int:=(ent (KD (cs.length+1) (Yw cs f qs ws) (cs.length+1)) p).1
theorem Bs(g:Good cs ls)(hp:Yh cs.length ls.length qs)(hd:ZK cs qs ls.length ws)(hq1:qs.length<=500):Wx [Ka cs ls,.list (qs.map (Za V)),U7 ws]=some (.list (((Uv cs.length).map (prW cs (UV V) qs ws)).map int)):=by
 refine K7 (Z:=[pb (Ka cs ls),pb (.list (qs.map (Za V))),pb (U7 ws),none,none]) rfl ?_;unfold V5;have c6:=g.c6;have hS:∀s∈Yw cs (UV V) qs ws,s.a<cs.length+1/\s.b<cs.length+1:=λs hs=>(RU hp hd s hs).lt hp hd;have hlc:Kb [.list (cs.map int)]=some (.int cs.length):=by rw[Zh,Qb]
 have has:YO [Ka cs ls,.list (qs.map (Za V)),U7 ws]=some (.list ((Yw cs (UV V) qs ws).map U3)):=Hl g hd.len (by rw[hd.len];exact hp) (by rw[hd.len];exact hd) (by omega);have hwd:=Lk hS (by omega);generalize hT:KD (cs.length+1) (Yw cs (UV V) qs ws) (cs.length+1)=T at hwd;have hTl:T.length=cs.length+1:=by rw[←hT];exact Sm hS _
 refine Ki (KR (ZO (UM (KH rfl UU TN) UT) hlc) (Qa rfl) rfl) ?_;refine Ki (KR (Kj (UM (U2 (UK rfl) UU Zp) (UM (Kj (UM (UK rfl) (UM (UK rfl) (UM (UK rfl) UT))) rfl has) UT)) rfl hwd) (Qa rfl) rfl) ?_
 have hcd:DL.cutD (T.map ZJ) none (some (cs.length:Int))=(T.take cs.length).map ZJ:=by
  have h2:HT.sIx (T.map ZJ).length (T.map ZJ).length (some (cs.length:Int))=cs.length:=by rw[Qb,hTl];unfold HT.sIx;simp;omega
  unfold DL.cutD;rw[h2,show HT.sIx (T.map ZJ).length 0 none=0 from rfl,List.drop_zero,Nat.sub_zero,Ui]
 have hcut:YA (.list (T.map ZJ)) none (some (cs.length:Int))=some (.list ((T.take cs.length).map ZJ)):=by rw[Vg,hcd]
 have hc:K0 (gT 2 (gNC (gN 5) (gNC (gN 6) (gN0)))) (UN true) (UA 5) ((T.take cs.length).map ZJ) (Kf [pb (Ka cs ls),pb (.list (qs.map (Za V))),pb (U7 ws),pb (.int cs.length),pb (.list (T.map ZJ))]++Uw 2 none) []=some ([]++((Uv cs.length).map (prW cs (UV V) qs ws)).map int):=by
  refine Y6 (λZ=>∃x y,Z=[pb (Ka cs ls),pb (.list (qs.map (Za V))),pb (U7 ws),pb (.int cs.length),pb (.list (T.map ZJ)),x,y]) _ _ _ _ ?_ ?_ ⟨none,none,rfl⟩ ?_
  ·rw[Qb,Qb,Qb,Q0,Qq];omega
  ·rintro i d e hd' he Z ⟨x,y,rfl⟩;rw[Qe,Qe]at he;have hil:i<cs.length:=by have:=(Qg.mp hd').1;rw[Qb,Q0]at this;omega
   rw[QQ hil]at he;cases he;rw[Qe,List.getElem?_take_of_lt hil,Qd (by omega)]at hd';cases hd';have hv:prW cs (UV V) qs ws i=T[i].1:=by unfold prW ent;rw[hT,Qh,Qd (by omega)];rfl
   rw[hv];exact⟨_,Kt rfl (UX (UR (Qa rfl) rfl) (UX (UR (Qa rfl) rfl) Kq)),rfl,UK rfl,_,_,rfl⟩
  ·rw[QN,Qb,Q0];omega
 exact Kv (Kx (Yk (Zj (W3 (UK rfl) UU (Y4 (UK rfl)) hcut) ZZ) hc)) rfl
theorem FT{n m:Nat}(hp:Yh n m qs)(hm:m<=1000)(P:Nat->Int):Ww [.int (m:Nat),.list (qs.map (Za V)),.list (((Uv n).map P).map int)]=some (.list (((Uv m).map λi:Nat=>Zz (UV V) P qs (i:Int)).map int)):=by
 refine K7 (Z:=[pb (.int (m:Nat)),pb (.list (qs.map (Za V))),pb (.list (((Uv n).map P).map int)),none,none,none,none]) rfl ?_;unfold V4;refine Ki (Z7 (Pw (n:=m) (ZI (UM UU UT) (Qa rfl)) (UK rfl) hm) (Qa rfl) rfl) ?_;apply Kz;apply Zv (λk Z=>∃x4 x5 x6,Z=[pb (.int (m:Nat)),pb (.list (qs.map (Za V))),pb (.list (((Uv n).map P).map int)),some (.own (((Uv m).map λi:Nat=>Zz (UV V) P (qs.take k) (i:Int)).map int)),x4,x5,x6])
 case h1=>exact Zj (UK rfl) ZZ
 case h0=>
  refine⟨none,none,none,?_⟩
  have e:(Uw m (int 0))=((Uv m).map λi:Nat=>Zz (UV V) P (qs.take 0) (i:Int)).map int:=by
   rw[Q4];apply List.ext_getElem
   ·rw[QU,Qb,Qq]
   ·intro i h1 h2;rw[List.getElem_replicate,JU];rfl
  rw[←e];rfl
 case hst=>
  rintro k d Z hk ⟨x4,x5,x6,rfl⟩;rw[Qe]at hk;cases hq:qs[k]? with
  |none=>rw[hq]at hk;cases hk
  |some q=>
  rw[hq]at hk;cases hk;have hb:=hp.lo q (Qp hq);obtain⟨⟨a,ha⟩,⟨t,ht⟩⟩:(∃a:Nat,q.1=a)/\∃t:Nat,q.2=t:=⟨⟨q.1.toNat,by omega⟩,⟨q.2.toNat,by omega⟩⟩
  have ham:a<m:=by omega
  have htn:t<n:=by omega
  refine⟨_,Kt rfl (UX (UR (Qa rfl) rfl) (UX (UR (Qa rfl) rfl) (UX (UR (Qa rfl) rfl) Kq))),?_⟩;unfold N7;have h1:oIx (.list (((Uv m).map λi:Nat=>Zz (UV V) P (qs.take k) (i:Int)).map int)) (.int q.1)=some (.int (Zz (UV V) P (qs.take k) (a:Int))):=by rw[ha];exact ZB (by rw[Qe,Qe,QQ ham];rfl)
  have h2:oIx (.list (((Uv n).map P).map int)) (.int q.2)=some (.int (P t)):=by rw[ht];exact ZB (by rw[Qe,Qe,QQ htn];rfl)
  refine ZA (SN (ZO (UM (Rx rfl (UK rfl) rfl h1) (UM (U2 (UK rfl) (KH rfl (UK rfl) h2) YC) UT)) NV) rfl (UK rfl) rfl ⟨hb.1,by rw[Qb,Qb,Qq];exact hb.2.1⟩ rfl) (K5 ⟨some (.pub (.int q.1)),pb (.int q.2),pb (.int (V q.1 q.2)),?_⟩);have e:∀i:Nat,Zz (UV V) P (qs.take (k+1)) (i:Int)=if q.1=(i:Int)then max (Zz (UV V) P (qs.take k) (i:Int)) (UV V q-P q.2.toNat)else Zz (UV V) P (qs.take k) (i:Int):=λi=>by unfold Zz;rw[List.take_add_one,hq,List.foldl_append];rfl
  have e2:((((Uv m).map λi:Nat=>Zz (UV V) P (qs.take k) (i:Int)).map int).set q.1.toNat (.int (if V q.1 q.2-P t > Zz (UV V) P (qs.take k) (a:Int)then V q.1 q.2-P t else Zz (UV V) P (qs.take k) (a:Int))))=((Uv m).map λi:Nat=>Zz (UV V) P (qs.take (k+1)) (i:Int)).map int:=by
   apply List.ext_getElem
   ·rw[Q6,Qb,Qb,Qb,Qb]
   ·intro i h1 h2;have hi:i<m:=by rw[Qb,Qb,Qq]at h2;exact h2
    rw[List.getElem_set,JU,JU,JU,JU,JW,e];by_cases hia:a=i
    ·subst hia;rw[Qm (by omega),Qm ha,show q.2.toNat=t by omega]
     congr 1
     show _=max _ (V q.1 q.2-P t)
     split<;>omega
    ·rw[Qu (by omega),Qu (by omega)]
  rw[←e2];rfl
 case hend=>rintro Z ⟨x4,x5,x6,rfl⟩;refine KB (Kv (Yl rfl rfl) ?_);rw[Qb,JL]
abbrev askL(m:Nat)(f:Int×Int->Int)(P:Nat->Int)(qs:LP):List Int:=(Uv m).map λi:Nat=>Zz f P qs (i:Int)
theorem qz(g:Good cs ls)(hp:Yh cs.length ls.length qs)(hd:ZK cs qs ls.length ws)(hq1:qs.length<=500):Wv [Ka cs ls,.list (qs.map (Za V)),U7 ws]=some (papD 1 (askL ls.length (UV V) (prW cs (UV V) qs ws) qs) ((Uv cs.length).map (prW cs (UV V) qs ws))):=by
 refine K7 (Z:=[pb (Ka cs ls),pb (.list (qs.map (Za V))),pb (U7 ws),none]) rfl ?_;unfold V3;have l7:=g.l7;have hll:Kb [.list (ls.map KG)]=some (.int ls.length):=by rw[Zh,Qb]
 refine Ki (KR (Kj (UM (UK rfl) (UM (UK rfl) (UM (UK rfl) UT))) rfl (Bs g hp hd hq1)) (Qa rfl) rfl) ?_;exact Kv (YT (UM UU (UM (Kj (UM (ZO (UM (KH rfl UU WX) UT) hll) (UM (UK rfl) (UM (UK rfl) UT))) rfl (FT hp (by omega) _)) (UM (UK rfl) UT))) (Qa rfl)) rfl
theorem OC(g:Good cs ls):Yh cs.length ls.length (Ky 0 ls) where
 nd:=Ha ls 0 λrs hr=>(g.rk rs hr).once
 lo:=λq hq=>by have:=De g q hq;exact⟨this.1.1,this.1.2,this.2.1,this.2.2⟩
theorem qX{o:Ord}{old:Option LO}{ts:List Int}(g:Good cs ls)(ga:Yp cs.length ls.length old ts):∃ws,Yu [Ka cs ls,KJ o old ts]=some (.tuple [U7 ws,papD 1 (askL ls.length (UV (Zb ls o old ts)) (prW cs (UV (Zb ls o old ts)) (Ky 0 ls) ws) (Ky 0 ls)) ((Uv cs.length).map (prW cs (UV (Zb ls o old ts)) (Ky 0 ls) ws))])/\ZK cs (Ky 0 ls) ls.length ws/\TY cs (UV (Zb ls o old ts)) (Ky 0 ls) ws:=by have hq:=FV g;have l7:=g.l7;obtain⟨d,hb,ws,rfl,hd,hst⟩:=Ad (V:=Zb ls o old ts) g (OC g) (by omega) (M:=18446744073709551616) (by decide) (λq hq=>Int.le_of_lt (Du g ga hq).2) (by omega);refine⟨ws,?_,hd,hst⟩;refine K7 (Z:=[pb (Ka cs ls),pb (KJ o old ts),none,none]) rfl ?_;unfold V2;refine Ki (KR (Kj (UM (UK rfl) (UM (UK rfl) UT)) rfl (qO g ga)) (Qa rfl) rfl) ?_;refine Ki (KR (Kj (UM (UK rfl) (UM (UK rfl) UT)) rfl hb) (Qa rfl) rfl) ?_;exact Kv (YT (UM (UK rfl) (UM (Kj (UM (UK rfl) (UM (UK rfl) (UM (UK rfl) UT))) rfl (qz g (OC g) hd (by omega))) UT)) (Qa rfl)) rfl
end
section
variable{cs:List Int}{f:Int×Int->Int}{qs:LP}{m:Nat}{ws:LO}
end
section
variable{cs:List Int}{ls:L3}{ws:LO}{o:Ord}{old:Option LO}{ts:List Int}
theorem qW(g:Good cs ls)(dl:Deal cs ls ws):Ws [Ka cs ls,U7 ws]=some (.bool true):=by
 refine K7 (Z:=[pb (Ka cs ls),pb (U7 ws),none,none]) rfl ?_;unfold VS;have l7:=g.l7;have hl:=dl.len;have hll:Kb [.list (ls.map KG)]=some (.int ls.length):=by rw[Zh,Qb]
 have hul:Kb [U7 ws]=some (.int ws.length):=by unfold U7;rw[Zh,Qb]
 have hne:oNe (.int ws.length) (.int ls.length)=some false:=by rw[T8,hl];simp
 apply Kz;apply Kw
 case h1=>exact X2 (Y1 (XA (Kx (k:=λd=>Uy (KF d "list")) (x:=U7 ws) (UK rfl)))) (U2 (Zs rfl hul) (ZO (UM (KH rfl UU WX) UT) hll) hne)
 case h2=>intro h;cases h
 case h3=>
  intro _;refine KU (KB ?_);apply Kz;apply Zv (λi Z=>∃x2 x3,Z=[pb (Ka cs ls),pb (U7 ws),x2,x3])
  case h1=>exact Xs (UM (UK rfl) UT) Xr
  case h0=>exact⟨_,_,rfl⟩
  case hst=>
   rintro i d Z hi ⟨x2,x3,rfl⟩;obtain⟨z,hz,rfl⟩:=YS hi;rw[Qe]at hz;cases hwi:ws[i]? with
   |none=>rw[hwi]at hz;cases hz
   |some o=>
   rw[hwi]at hz;cases hz;have hil:i<ls.length:=by have:=(Qg.mp hwi).1;omega
   have hls:ls[i]?=some ls[i]:=Qd hil;rw[QS];refine⟨_,Kt rfl (UX (UR (Qa rfl) rfl) (UX (UR (Qa rfl) rfl) Kq)),?_⟩;unfold N8;cases o with
   |none=>
    apply Kz;apply Kw
    case h1=>exact RE (Kx (k:=λd=>!isNon d) (x:=PyData.none) (UK rfl))
    case h2=>intro h;cases h
    case h3=>
     intro _;refine KU (KB ?_);apply Kw
     case h1=>exact RE (Kx (k:=λd=>!isNon d) (x:=PyData.none) (UK rfl))
     case h2=>intro h;cases h
     case h3=>exact λ_=>KU (K5 ⟨_,_,rfl⟩)
   |some t=>
    have htm:=dl.wish i t _ hwi hls;have gr:=g.rk ls[i] (Qp hls);have ht:=gr.flat t htm;have hfl:(ls[i]).flatten.length<64:=by have:=Sg cs.length _ gr.once gr.flat;have:=g.c6;omega
    apply Kz;apply Kw
    case h1=>exact RD (Kx (k:=λd=>!isNon d) (x:=int t) (UK rfl)) (X2 (Y1 (XA (Kj (UM (UK rfl) UT) rfl (qN t)))) (Z6 rfl (Kj (UM (UK rfl) (UM (UK rfl) UT)) rfl (M2 hls hfl)) Ak))
    case h2=>intro h;simp[htm]at h
    case h3=>
     intro _;refine KU (KB ?_);apply Kw
     case h1=>exact RD (Kx (k:=λd=>!isNon d) (x:=int t) (UK rfl)) (U2 (MX (UK rfl) (UM (UK rfl) UT) He) (U2 (KH rfl UU TN) (UK rfl) (ix_c ht.1 ht.2)) rfl)
     case h2=>
      intro h;have h:=Qa h;obtain⟨k,rfl⟩:∃k:Nat,t=k:=⟨t.toNat,by omega⟩
      have hc:=dl.cop k (cs.getD k 0) (by rw[Qh,Qd (show k<cs.length by omega)];rfl);rw[Qy]at h;omega
     case h3=>exact λ_=>KU (K5 ⟨_,_,rfl⟩)
  case hend=>rintro Z ⟨x2,x3,rfl⟩;exact KB (Kv UU rfl)
theorem Br(h:ZK cs (Ky 0 ls) ls.length ws):Deal cs ls ws where
 len:=h.len
 wish:=λi t rs hw hrs=>by
  obtain⟨i',rs',h1,h2,h3⟩:=Ve (h.wish i t hw);have h2:(i:Int)=((0+i':Nat):Int):=h2;have hii:i=i':=by omega
  subst hii;rw[hrs]at h1;cases h1;exact h3
 cop:=h.cop
theorem PD(ls:L3):∀(ws:LO)(l2:L3)(k:Nat),(∀(j:Nat) rs,l2[j]?=some rs->ls.getD (k+j) []=rs)->ws.length=l2.length->Kg (UV (Zb ls o old ts)) k ws=Km (Kl (KO ls o old ts) k l2 ws)
 |[],[],_,_,_=>rfl
 |[],_::_,_,_,h=>by cases h
 |_::_,[],_,_,h=>by cases h
 |x::ws,rs::l2,k,hj,hl=>by
  have ih:=PD ls ws l2 (k+1) (λj r h=>by rw[show k+1+j=k+(j+1)by omega];exact hj (j+1) r h) (by simpa using hl);show Kd _ k x+Kg _ (k+1) ws=Km (x.map (KO ls o old ts k rs)::Kl _ (k+1) l2 ws);rw[VF,ih]
  congr 1
  cases x with
  |none=>rfl
  |some t=>show Zb ls o old ts (k:Int) t=KO ls o old ts k rs t;unfold Zb;rw[Qy,show ls.getD k []=rs from hj 0 rs rfl]
end
section
variable{cs:List Int}{ls:L3}{o:Ord}{old:Option LO}{ts:List Int}{ws:LO}
theorem Dp(du:Deal cs ls ws):ZK cs (Ky 0 ls) ls.length ws:=⟨du.len,λi t h=>by
 have hil:i<ls.length:=by have:=(Qg.mp h).1;have:=du.len;omega
 have hrs:ls[i]?=some ls[i]:=Qd hil;have:=Mw (k:=0) hrs (du.wish i t _ h hrs);rwa[QS]at this,du.cop⟩
end
def cR(r:Nat)(got:List Int):Nat:=(got.filter λx=>decide (1<=x)&&decide (x<=(r:Int))).length
theorem PB(r:Nat):∀got:List Int,cR (r+1) got=cR r got+got.count (1+(r:Int))
 |[]=>rfl
 |x::got=>by
  have ih:=PB r got;unfold cR at ih⊢;rw[Jt];by_cases h1:1<=x
  ·by_cases h2:x<=(r:Int)
   ·rw[List.filter_cons_of_pos (by simp[h1];omega),List.filter_cons_of_pos (by simp[h1,h2]),List.length_cons,List.length_cons,ih,if_neg (by simp;omega)];omega
   ·by_cases h3:x=1+(r:Int)
    ·rw[List.filter_cons_of_pos (by simp;omega),List.filter_cons_of_neg (by simp;omega),List.length_cons,ih,if_pos (by simp[h3])];omega
    ·rw[List.filter_cons_of_neg (by simp;omega),List.filter_cons_of_neg (by simp;omega),ih,if_neg (by simp[h3])];omega
  ·rw[List.filter_cons_of_neg (by simp;omega),List.filter_cons_of_neg (by simp;omega),ih,if_neg (by simp;omega)];omega
theorem NO(got:List Int):cR 0 got=0:=by unfold cR;rw[List.length_eq_zero_iff,List.filter_eq_nil_iff];intro x _;simp;omega
section
variable{cs:List Int}{ls:L3}{ws us:LO}
theorem Ob{x:Int}{r:List Int}(h:fnz (x::r)<=0):x<=0:=by unfold fnz at h;split at h<;>omega
theorem FS{o:Ord}{old:Option LO}{ts:List Int}(g:Good cs ls)(d1:Deal cs ls us)(d2:Deal cs ls ws)(ga:Yp cs.length ls.length old ts)(h:Km (Kl (KO ls o old ts) 0 ls us)<=Km (Kl (KO ls o old ts) 0 ls ws)):(o=.firsts->1<=lng ls->cR 1 (UQ ls us)<=cR 1 (UQ ls ws))/\(o≠.firsts->(UQ ls ws).count 0<=(UQ ls us).count 0):=by
 have hb:=Lo (o:=o) g d1 d2 ga;rw[QH (by omega)]at hb
 have hf:fnz (YZ o (U1 (lng ls) (UQ ls us)) (U1 (lng ls) (UQ ls ws)))<=0:=by
  unfold XM at hb;by_cases z:fnz (YZ o (U1 (lng ls) (UQ ls us)) (U1 (lng ls) (UQ ls ws)))=0
  ·omega
  ·rw[Qu z]at hb;have:=Jf hb;omega
 have hlast:Kk (U1 (lng ls) (UQ ls us)) (U1 (lng ls) (UQ ls ws))=Kk ((Uv (lng ls)).map λr:Nat=>(((UQ ls us).count (1+(r:Int)):Nat):Int)) ((Uv (lng ls)).map λr:Nat=>(((UQ ls ws).count (1+(r:Int)):Nat):Int))++[(((UQ ls us).count 0:Nat):Int)-(((UQ ls ws).count 0:Nat):Int)]:=by unfold U1;rw[SV (by rw[Qb,Qb])];rfl
 refine⟨λho hL=>?_,λho=>?_⟩
 ·subst ho;obtain⟨L,hLe⟩:∃L,lng ls=L+1:=⟨lng ls-1,by omega⟩
  have e:∀got:List Int,∃r,U1 (lng ls) got=((cR 1 got:Nat):Int)::r:=λgot=>by rw[hLe,PB 0 got,NO];unfold U1;rw[List.range_succ_eq_map];exact⟨_,by rw[Qx,List.cons_append,QS]⟩
  obtain⟨r1,e1⟩:=e (UQ ls us);obtain⟨r2,e2⟩:=e (UQ ls ws);rw[e1,e2]at hf;have:=Ob (show fnz ((((cR 1 (UQ ls us):Nat):Int)-((cR 1 (UQ ls ws):Nat):Int))::Kk r1 r2)<=0 from hf);omega
 ·have hx : -((((UQ ls us).count 0:Nat):Int)-(((UQ ls ws).count 0:Nat):Int))<=0:=by
   cases o with
   |firsts=>exact absurd rfl ho
   |full=>unfold YZ at hf;dsimp only at hf;rw[hlast,List.map_append,List.length_append,List.drop_append_of_le_length (by rw[List.length_map];simp),List.drop_of_length_le (by rw[List.length_map];simp)]at hf;exact Ob hf
   |lasts=>unfold YZ at hf;dsimp only at hf;rw[hlast,Qz,List.reverse_append]at hf;exact Ob hf
  omega
end
theorem Na:∀(xs ys:List Int),xs.length=ys.length->HT.ZC xs ys=false->HT.ZC ys xs=false->xs=ys
 |[],[],_,_,_=>rfl
 |[],_::_,h,_,_=>by cases h
 |_::_,[],h,_,_=>by cases h
 |x::xs,y::ys,h,h1,h2=>by
  unfold HT.ZC at h1 h2
  have e:x=y:=by
   rcases Int.lt_trichotomy x y with z|z|z
   ·rw[Qu (by omega),Q7 z]at h1;cases h1
   ·exact z
   ·rw[Qu (by omega),Q7 z]at h2;cases h2
  subst e;simp at h1 h2;rw[Na xs ys (by simpa using h) h1 h2]
section
variable{cs:List Int}{ls:L3}{ws us:LO}
theorem ga0{n m:Nat}:Yp n m none []:=⟨λws h=>(by cases h),λws t h=>(by cases h),List.nodup_nil,λa h=>(by cases h)⟩
theorem ON(g:Good cs ls)(dl:Deal cs ls ws)(o:Ord):XN [Ka cs ls,.str o.tx,U7 ws]=some (.list ((ZR o (U1 (lng ls) (UQ ls ws))++[0]).map int)):=by refine K7 (Z:=[pb (Ka cs ls),pb (.str o.tx),pb (U7 ws)]) rfl ?_;unfold VQ;have hk:=Fe (o:=o) g dl (ga0 (n:=cs.length) (m:=ls.length));rw[JJ,Q5]at hk;exact Kv (Kj (UM (UK rfl) (UM (YT (UM (UK rfl) (UM UU (UM (ZI UT (Qa rfl)) UT))) (Qa rfl)) (UM (UK rfl) UT))) rfl hk) rfl
theorem Pz(g:Good cs ls)(dl:Deal cs ls ws)(du:Deal cs ls us){o:Ord}(h:Km (Kl (KO ls o none []) 0 ls us)<=Km (Kl (KO ls o none []) 0 ls ws)):HT.ZC (ZR o (U1 (lng ls) (UQ ls ws))++[0]) (ZR o (U1 (lng ls) (UQ ls us))++[0])=false:=by have hb:=Lo (o:=o) g du dl (ga0 (n:=cs.length) (m:=ls.length));rw[QH (by omega)]at hb;have hk:=Dy (o:=o) g du dl (ga0 (n:=cs.length) (m:=ls.length));rw[hb]at hk;rw[JJ,Q5,JJ,Q5]at hk;exact hk
theorem cnt0(h:1<=lng ls):oIx (.list ((U1 (lng ls) (UQ ls ws)).map int)) (.int 0)=some (.int ((cR 1 (UQ ls ws):Nat):Int)):=by
 have e:cR 1 (UQ ls ws)=(UQ ls ws).count (1+((0:Nat):Int)):=by have:=PB 0 (UQ ls ws);rw[NO]at this;exact this.trans (QS _)
 refine ZB (j:=0) ?_;unfold U1;rw[Qe,Qs (by rw[Qb,Qq];omega),Qe,QQ (by omega),e];rfl
theorem Xg:oIx (.list ((U1 (lng ls) (UQ ls ws)).map int)) (.int (-1))=some (.int (((UQ ls ws).count 0:Nat):Int)):=No (by
 unfold U1;rw[Qz,List.map_singleton,List.getLast?_append,List.getLast?_singleton]
 rfl)
theorem Li(L:Nat)(got:List Int):ZL (U1 L got)=((got.count 0:Nat):Int):=by unfold ZL U1;simp
theorem Do:∀ns:List Int,ns.length<=63->Wq [.list (ns.map int)]=some (.bool true):=by
 intro ns hns;refine K7 (Z:=[pb (.list (ns.map int)),none,none,none,none,none,none,none,none,none,none]) rfl ?_;unfold VP;obtain⟨r,hr,cs,ls,rfl,g⟩:=qx (ns:=ns) (by omega) 1;have l7:=g.l7;have c6:=g.c6;have hL:lng ls<=5:=Sx g.l1 λrs h=>(g.rk rs h).few;refine Ki (KR (Kj (UM (UK rfl) (UM UU (UM UU (UM UU (UM UU UT))))) rfl hr) (Qa rfl) rfl) ?_;refine Ki (Z7 (Va (UM UU (UM UU (UM UU UT))) (Qa rfl)) (Qa rfl) rfl) ?_
 have hb:∀o:Ord,∃ws d,Yu [Ka cs ls,KJ o none []]=some (.tuple [U7 ws,d])/\Deal cs ls ws/\∀us,Deal cs ls us->Km (Kl (KO ls o none []) 0 ls us)<=Km (Kl (KO ls o none []) 0 ls ws):=λo=>by obtain⟨ws,hbd,hdq,hst⟩:=qX (o:=o) g (ga0 (n:=cs.length) (m:=ls.length));have dl:=Br hdq;refine⟨ws,_,hbd,dl,λus du=>?_⟩;have:=Ac (OC g) hdq hst (Dp du);rw[PD ls us ls 0 (λj rs h=>by rw[QS,Qh,h];rfl) du.len,PD ls ws ls 0 (λj rs h=>by rw[QS,Qh,h];rfl) dl.len]at this;exact this
 let W:Ord->LO:=λo=>Classical.choose (hb o)
 have hW:∀o:Ord,∃d,Yu [Ka cs ls,KJ o none []]=some (.tuple [U7 (W o),d]):=λo=>(Classical.choose_spec (hb o)).elim λd h=>⟨d,h.1⟩;have dW:∀o:Ord,Deal cs ls (W o):=λo=>(Classical.choose_spec (hb o)).elim λd h=>h.2.1;have mW:∀(o:Ord) us,Deal cs ls us->Km (Kl (KO ls o none []) 0 ls us)<=Km (Kl (KO ls o none []) 0 ls (W o)):=λo=>(Classical.choose_spec (hb o)).elim λd h=>h.2.2
 clear_value W
 have eW:=λ(o:Ord) us (du:Deal cs ls us)=>FS (o:=o) g du (dW o) (ga0 (n:=cs.length) (m:=ls.length)) (mW o us du)
 let S0:Option Sl:=some (.pub (.list (ns.map int)))
 let S1:Option Sl:=some (.pub (Ka cs ls))
 let S2:Option Sl:=some (.pub (.list [.str "firsts", .str "full", .str "lasts"]))
 let T:List D:=[U7 (W .firsts),U7 (W .full),U7 (W .lasts)]
 let S3:Option Sl:=some (.pub (.list T))
 let R:UG:=[S0,S1,S2,none,none,none,none,none,none,none,none]
 have hc:K0 (gN 11) (UN true) (UO oIx (US 2 Yu (UL (UA 1) (UL (Ku (UL (UA 11) (UL (UN .none) (UL (Ks (UH)) (UH))))) (UH)))) (UN (.int 0))) [.str "firsts", .str "full", .str "lasts"] (Kf R++Uw 1 none) []=some T:=by
  have one:∀(o:Ord),∃d,Yu [Ka cs ls,.tuple [.str o.tx,.none,.list []]]=some (.tuple [U7 (W o),d]):=hW;refine(Y6 (λZ=>∃x,Z=R++[x]) [.str "firsts", .str "full", .str "lasts"] T (Kf R++Uw 1 none) [] rfl ?_ ⟨none,rfl⟩ (by show 0+3<=1000000;omega)).trans (by rw[Jm]);have go:∀(o:Ord)(Z:UG),(∃x,Z=R++[x])->∃Z1,gN 11 (.str o.tx) Z=some Z1/\UN true Z1=.ok true Z1/\UO oIx (US 2 Yu (UL (UA 1) (UL (Ku (UL (UA 11) (UL (UN .none) (UL (Ks (UH)) (UH))))) (UH)))) (UN (.int 0)) Z1=.ok (U7 (W o)) Z1/\∃x,Kf Z1=R++[x]:=by rintro o Z ⟨x,rfl⟩;obtain⟨d,h⟩:=one o;exact⟨_,UR (Qa rfl) rfl,rfl,U2 (Kj (UM (UK rfl) (UM (YT (UM (UK rfl) (UM UU (UM (ZI UT (Qa rfl)) UT))) (Qa rfl)) UT)) rfl h) UU (show oIx (.tuple [U7 (W o),d]) (.int 0)=some (U7 (W o))from rfl),_,rfl⟩
  intro i d e hd he Z hZ
  match i,hd,he with
  |0,hd,he=>cases hd;cases he;exact go .firsts Z hZ
  |1,hd,he=>cases hd;cases he;exact go .full Z hZ
  |2,hd,he=>cases hd;cases he;exact go .lasts Z hZ
  |n+3,hd,he=>simp at hd
 refine Ki (Z7 (Yk (Zj (Yl rfl rfl) ZZ) hc) (Qa rfl) rfl) ?_
 have hT:∀d∈T,∃o,d=U7 (W o):=λd hd=>by
  have hd:d=U7 (W .firsts)∨d=U7 (W .full)∨d=U7 (W .lasts):=by simpa[T]using hd
  rcases hd with h|h|h
  ·exact⟨_,h⟩
  ·exact⟨_,h⟩
  ·exact⟨_,h⟩
 apply Kz;apply Zv (λ_ Z=>∃y4,Z=[S0,S1,S2,S3,y4,none,none,none,none,none,none])
 case h1=>exact Zj (Yl rfl rfl) ZZ
 case h0=>exact⟨_,rfl⟩
 case hst=>rintro i d Z hi ⟨y4,rfl⟩;obtain⟨o,rfl⟩:=hT d (Qp hi);refine⟨_,UR (Qa rfl) rfl,?_⟩;unfold Nr;exact Kw (b:=false) (Y1 (XA (Kj (UM (UK rfl) (UM (UK rfl) UT)) rfl (qW g (dW o))))) (λz=>by cases z) λ_=>KU (K5 ⟨_,rfl⟩)
 case hend=>
 rintro Z ⟨y4,rfl⟩;refine KB ?_
 obtain⟨cl,hcl,hcll⟩:∃cl:List Int,DL.cutD (ns.map int) (some 9) (some 54)=cl.map int/\cl.length<=63:=by
  refine⟨(ns.drop (HT.sIx (ns.map int).length 0 (some 9))).take (HT.sIx (ns.map int).length (ns.map int).length (some 54)-HT.sIx (ns.map int).length 0 (some 9)),?_,?_⟩
  ·unfold DL.cutD;rw[Ui,List.map_drop]
  ·rw[Q0,Jw];omega
 have hmap:∀(cl:List Int)(k:Nat),∃es:List D,es.length=cl.length/\(∀e∈es,∃us,e=U7 us/\Deal cs ls us)/\∀(i:Nat) c e,cl[i]?=some c->es[i]?=some e->Xi [Ka cs ls,.int c,.int (31+((k+i:Nat):Int))]=some e:=by
  intro cl;induction cl with
  |nil=>exact λk=>⟨[],rfl,λe h=>(by cases h),λi d e h=>by simp at h⟩
  |cons c r ih=>
   intro k;obtain⟨es,e1,e2,e3⟩:=ih (k+1);obtain⟨q,hq,us,rfl,du⟩:=Ao g c (31+(k:Int));refine⟨U7 us::es,by rw[QC,e1,QC],λe he=>?_,λi d e h1 h2=>?_⟩
   ·rcases QO.mp he with rfl|he
    ·exact⟨us,rfl,du⟩
    ·exact e2 e he
   ·cases i with
    |zero=>cases h1;cases h2;exact hq
    |succ i=>have:=e3 i d e (by simpa using h1) (by simpa using h2);rwa[show k+1+i=k+(i+1)by omega]at this
 obtain⟨es,e1,e2,e3⟩:=hmap cl 0
 let R2:UG:=[S0,S1,S2,S3,y4,none,none,none,none,none,none]
 have hc2:K0 (gT 2 (gNC (gN 11) (gNC (gN 12) (gN0)))) (UN true) (US 3 Xi (UL (UA 1) (UL (UA 12) (UL (UO U0 (UN (.int 31)) (UA 11)) (UH))))) (Z8 0 (DL.cutD (ns.map int) (some 9) (some 54))) (Kf R2++Uw 2 none) []=some es:=by
  rw[hcl];refine(Y6 (λZ=>∃z x y,Z=[S0,S1,S2,S3,z,none,none,none,none,none,none,x,y]) _ es _ _ (by rw[Yo,Qb];exact e1) ?_ ⟨_,none,none,rfl⟩ (by rw[Yo,Qb,QN];omega)).trans (by rw[Jm]);rintro i d e hd he Z ⟨z4,x,y,rfl⟩;obtain⟨z,hz,rfl⟩:=YS hd;rw[Qe]at hz;cases hc:cl[i]? with
  |none=>rw[hc]at hz;cases hz
  |some c=>
  rw[hc]at hz;cases hz;exact⟨_,Kt rfl (UX (UR (Qa rfl) rfl) (UX (UR (Qa rfl) rfl) Kq)),rfl,Kj (UM (UK rfl) (UM (UK rfl) (UM (U2 UU (UK rfl) Zp) UT))) rfl (e3 i c e hc he),_,_,_,rfl⟩
 have hO:∀d∈T++es,∃us,d=U7 us/\Deal cs ls us:=λd hd=>by
  rcases Q2.mp hd with h|h
  ·obtain⟨o,rfl⟩:=hT d h;exact⟨_,rfl,dW o⟩
  ·exact e2 d h
 refine Ki (KR (U2 (UK rfl) (Kx (Yk (Xs (UM (W3 (UK rfl) (Y4 UU) (Y4 UU) Vg) UT) Xr) hc2)) (Xz (by show 3+es.length<=_;omega))) (Qa rfl) rfl) ?_
 let S5:Option Sl:=some (.pub (.list (T++es)))
 have lenC:∀us:LO,Kb [.list ((U1 (lng ls) (UQ ls us)).map int)]=some (.int ((lng ls+1:Nat):Int)):=λus=>by rw[Zh,Qb,Xq]
 apply Kz;apply Zv (λ_ Z=>∃y4 y6 y7 y8,Z=[S0,S1,S2,S3,y4,S5,y6,y7,y8,none,none])
 case h1=>exact Zj (UK rfl) ZZ
 case h0=>exact⟨_,_,_,_,rfl⟩
 case hst=>
  rintro i d Z hi ⟨y4,y6,y7,y8,rfl⟩;obtain⟨us,rfl,du⟩:=hO d (Qp hi);refine⟨_,UR (Qa rfl) rfl,?_⟩;unfold Nt;refine Ki (KR (Kj (UM (UK rfl) (UM (UK rfl) UT)) rfl (Sk g du)) (Qa rfl) rfl) ?_
  let S4:Option Sl:=some (.pub (U7 us))
  let S6:Option Sl:=some (.pub (.list ((U1 (lng ls) (UQ ls us)).map int)))
  have t0:oIx (.list T) (.int 0)=some (U7 (W .firsts)):=rfl;apply Kz
  have hand:Zd (UO (oIB λi j=>decide (j<i)) (K9 6) (UN (.int 1))) (UO (oIB λi j=>decide (j<i)) (UZ 6 (UN (.int 0))) (UO oIx (US 2 ZU (UL (UA 1) (UL (UZ 3 (UN (.int 0))) (UH)))) (UN (.int 0)))) [S0,S1,S2,S3,S4,S5,S6,y7,y8,none,none]=.ok false [S0,S1,S2,S3,S4,S5,S6,y7,y8,none,none]:=by
   by_cases h1:1<=lng ls
   ·refine RD (U2 (Zs rfl (lenC us)) UU (by rw[Rv,Q7 (by omega)])) (U2 (KH rfl UU (cnt0 h1)) (U2 (Kj (UM (UK rfl) (UM (KH rfl UU t0) UT)) rfl (Sk g (dW .firsts))) UU (cnt0 h1)) ?_);have:=(eW .firsts us du).1 rfl h1;rw[Rv,QH (by omega)]
   ·exact RE (U2 (Zs rfl (lenC us)) UU (by rw[Rv,QH (by omega)]))
  refine Kw (b:=false) hand (λz=>by cases z) λ_=>KU (KB ?_)
  apply Kz;apply Zv (λ_ Z=>∃y7,Z=[S0,S1,S2,S3,S4,S5,S6,y7,y8,none,none])
  case h1=>exact Zj (W3 (UK rfl) (Y4 UU) UU Vg) ZZ
  case h0=>exact⟨_,rfl⟩
  case hst=>
   rintro j d Z hj ⟨y7,rfl⟩;have hd:d∈[U7 (W .full),U7 (W .lasts)]:=Qp hj
   obtain⟨o,rfl,ho⟩:∃o,d=U7 (W o)/\o≠.firsts:=by
    rcases QO.mp hd with h|h
    ·exact⟨_,h,λz=>by cases z⟩
    ·exact⟨_,Je.mp h,λz=>by cases z⟩
   refine⟨_,UR (Qa rfl) rfl,?_⟩;unfold Nu;have:=(eW o us du).2 ho;exact Kw (b:=false) (U2 (KH rfl (Y2 UU) Xg) (U2 (Kj (UM (UK rfl) (UM (UK rfl) UT)) rfl (Sk g (dW o))) (Y2 UU) Xg) (by rw[Rv,QH (by omega)])) (λz=>by cases z) λ_=>KU (K5 ⟨_,rfl⟩)
  case hend=>
  rintro Z ⟨y7,rfl⟩;refine KB ?_;apply Zv (λ_ Z=>∃y7 y8,Z=[S0,S1,S2,S3,S4,S5,S6,y7,y8,none,none])
  case h1=>exact Nh (UM (UK rfl) (UM (UK rfl) UT)) rfl
  case h0=>exact⟨_,_,rfl⟩
  case hst=>
   rintro j d Z hj ⟨y7,y8,rfl⟩;have hd:d∈[PyData.tuple [.str "firsts", U7 (W .firsts)],.tuple [.str "full", U7 (W .full)],.tuple [.str "lasts", U7 (W .lasts)]]:=Qp hj
   obtain⟨o,rfl⟩:∃o:Ord,d=.tuple [.str o.tx,U7 (W o)]:=by
    rcases QO.mp hd with h|h
    ·exact⟨.firsts,h⟩
    ·rcases QO.mp h with h|h
     ·exact⟨.full,h⟩
     ·exact⟨.lasts,Je.mp h⟩
   refine⟨_,Kt rfl (UX (UR (Qa rfl) rfl) (UX (UR (Qa rfl) rfl) Kq)),?_⟩;unfold Nv;exact Kw (b:=false) (U2 (Kj (UM (UK rfl) (UM (UK rfl) (UM (UK rfl) UT))) rfl (ON g du o)) (Kj (UM (UK rfl) (UM (UK rfl) (UM (UK rfl) UT))) rfl (ON g (dW o) o)) (by rw[ET];exact congrArg some (Pz g (dW o) du (mW o us du)))) (λz=>by cases z) λ_=>KU (K5 ⟨_,_,rfl⟩)
  case hend=>rintro Z ⟨y7,y8,rfl⟩;exact K5 ⟨_,_,_,_,rfl⟩
 case hend=>
 rintro Z ⟨y4,y6,y7,y8,rfl⟩;refine KB ?_
 let R3:UG:=[S0,S1,S2,S3,y4,S5,y6,y7,y8,none,none]
 let C:Ord->List Int:=λo=>U1 (lng ls) (UQ ls (W o))
 have hc3:K0 (gN 11) (UN true) (US 2 ZU (UL (UA 1) (UL (UA 11) (UH)))) (DL.cutD T none (some 2)) (Kf R3++Uw 1 none) []=some [.list ((C .firsts).map int),.list ((C .full).map int)]:=by
  show K0 _ _ _ [U7 (W .firsts),U7 (W .full)] _ _=_;refine(Y6 (λZ=>∃z4 z6 z7 z8 x,Z=[S0,S1,S2,S3,z4,S5,z6,z7,z8,none,none,x]) [U7 (W .firsts),U7 (W .full)] [.list ((C .firsts).map int),.list ((C .full).map int)] (Kf R3++Uw 1 none) [] rfl ?_ ⟨_,_,_,_,none,rfl⟩ (by show 0+2<=1000000;omega)).trans (by rw[Jm]);intro i d e hd he Z hZ;obtain⟨z4,z6,z7,z8,x,rfl⟩:=hZ
  match i,hd,he with
  |0,hd,he=>cases hd;cases he;exact⟨_,UR (Qa rfl) rfl,rfl,Kj (UM (UK rfl) (UM (UK rfl) UT)) rfl (Sk g (dW .firsts)),_,_,_,_,_,rfl⟩
  |1,hd,he=>cases hd;cases he;exact⟨_,UR (Qa rfl) rfl,rfl,Kj (UM (UK rfl) (UM (UK rfl) UT)) rfl (Sk g (dW .full)),_,_,_,_,_,rfl⟩
  |n+2,hd,he=>simp at hd
 refine Ki (Z1:=[S0,S1,S2,S3,y4,S5,y6,y7,y8,pb (.list ((C .firsts).map int)),pb (.list ((C .full).map int))]) (W5 (Kx (Yk (Zj (W3 (UK rfl) UU (Y4 UU) Vg) ZZ) hc3)) (tg_L rfl (UX (UR (Qa rfl) rfl) (UX (UR (Qa rfl) rfl) Kq)))) ?_
 have key:((UQ ls (W .firsts)).count 0=(UQ ls (W .full)).count 0)->C .firsts=C .full:=λe=>by
  have h1:=Pz (o:=.firsts) g (dW .firsts) (dW .full) (mW .firsts _ (dW .full));have h2:=Pz (o:=.full) g (dW .full) (dW .firsts) (mW .full _ (dW .firsts));unfold ZR at h1 h2;dsimp only at h1 h2;rw[Li,Li,e,List.cons_append,List.cons_append]at h2;have h2:HT.ZC (C .full++[0]) (C .firsts++[0])=false:=by unfold HT.ZC at h2;simpa using h2
  have:=Na _ _ (by rw[Ql,Ql];show(U1 _ _).length+_=(U1 _ _).length+_;rw[Xq,Xq]) h1 h2;exact List.append_cancel_right this
 by_cases e:(UQ ls (W .firsts)).count 0=(UQ ls (W .full)).count 0
 ·have hne:oNe (.int (((UQ ls (W .firsts)).count 0:Nat):Int)) (.int (((UQ ls (W .full)).count 0:Nat):Int))=some false:=by rw[T8,e];simp
  have heq:oEq (.list ((C .firsts).map int)) (.list ((C .full).map int))=some true:=by rw[key e];exact Df (MB _) (by have:=MA (C .full);unfold K8 at this;omega)
  exact Kv (Rw (t:=false) (u:=true) (Kx (U2 (KH rfl (Y2 UU) Xg) (KH rfl (Y2 UU) Xg) hne)) λ_=>Kx (Z6 rfl (UK rfl) heq)) rfl
 ·have hne:oNe (.int (((UQ ls (W .firsts)).count 0:Nat):Int)) (.int (((UQ ls (W .full)).count 0:Nat):Int))=some true:=by
   rw[T8];show some (!decide (_=_))=_;rw[QH (by omega)];rfl
  exact Kv (Rw (t:=true) (u:=true) (Kx (U2 (KH rfl (Y2 UU) Xg) (KH rfl (Y2 UU) Xg) hne)) λz=>by cases z) rfl
end
end W
open PySem PySem.W PyProof.Rows
set_option maxRecDepth 100000 in
set_option maxHeartbeats 0 in
theorem PySem.Challenge.cw_wishdeal_k47_orders_beside_one_another_holds : PySem.Challenge.rw_wishdeal_k47_orders_beside_one_another.Holds := by
 w_on;o_law
 refine holds_open (q:=W.q0) (loose:=[]) (Xt:=λs=>xlAt W.q0 [] s&&recOk [] s) (XP:=XL W.q0 []) (Yf:=Hook.obs .none) (Ya:=Hook.val .none) (YP:=Hook.says .none) (N:=4810) (d:=W.d_bw) (kwd:=[])
  W.Fa (Hook.of .none) (Hook.keeps .none) (λs e=>xl_of s (Bool.and_eq_true_iff.mp e).1) XL.keeps (by rfl) (by rfl) (by rfl)
  (λs e=>recFacts_of (Bool.and_eq_true_iff.mp e).2) (by rfl) (by assumption) (by decide +kernel) ⟨rfl,rfl,rfl,rfl,rfl,by decide +kernel⟩ ?hw (W.walk W.Do)
 case hw=>w_witness2


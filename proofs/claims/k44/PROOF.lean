import PyProof.Rows.All
import Wide.All
import OpenK.AllK
import Wide.FinOn
import Lean
import PyProof.EqAt
import PyProof.EqKinds
import PyProof.TupleCall
import PyProof.EnumMake
import PyProof.ZipIter
import PyProof.ExcClass2
import PyProof.ExcInit
import PyProof.ExcBaseAll.ValueError
import PyProof.FString2
import PyProof.ExcArgsOwn
import PyProof.InstStoreFacts
import ObjForm.Fk.InstStore
import ObjForm.Fk.InstLoad
import PyProof.StationsW
import PyProof.RulesAs
import PyProof.NsDelKeeps
import OpenK.KMore
import PyProof.IsiBase
import OpenK.KNot
import PyProof.Rows.RuleN_isinstance
import PyProof.NeData
import PyProof.P3In
import PyProof.StrWalks
import PyProof.ConsumeWalk
import PyProof.SliceStr2
import PyProof.MeetsStr
import KE.KItem
import KE.KUnpack
import KE.KRevSl
import PyProof.Rows.SetFrom
import PyProof.SetRoads
import PyProof.Rows.Range3
import PyProof.CallType
import PyProof.Rows.CallKwBuiltin
import PyProof.Rows.MinMaxN
import PyProof.SumWalkG
import PyProof.Rows.SeqMore
import PyProof.Rows.SortWalk
import PyProof.Rows.SumAny
import PyProof.Rows.SeqMore2
import KE.KSortTup
import PyProof.Rows.SortShellK
import PyProof.ReprRoads
import PyProof.ReprBulk
import PyProof.CallFns
import PyProof.NeKinds
import PyProof.Rows.StrJoinMade
import PyProof.StrCalls
import KE.KIntText
import PyProof.ReprDict
import PyProof.DictIter
import PyProof.Rows.DictUnroll
import PySem.Challenge.RW_wishdeal_k44_whole_bettered_until_best
set_option compiler.extract_closed false
set_option Elab.async false
set_option linter.all false
set_option maxRecDepth 100000
set_option maxHeartbeats 4000000
theorem Qa:type_of% @of_decide_eq_true:=@of_decide_eq_true
theorem Qp:type_of% @if_pos:=@if_pos
theorem QB:type_of% @if_neg:=@if_neg
theorem QG:type_of% @decide_eq_false:=@decide_eq_false
theorem Q5:type_of% @decide_eq_true:=@decide_eq_true
theorem Je:type_of% @of_decide_eq_false:=@of_decide_eq_false
theorem Ud:type_of% @if_false:=@if_false
open List renaming length_map→Qb,getElem?_map→Qe,getElem?_eq_getElem→Qf,getElem?_eq_some_iff→Qg,length_append→Qj,mem_cons_of_mem→Ql,mem_cons_self→Qm,getD_eq_getElem?_getD→Qn,mem_of_getElem?→Qo,getElem?_set_ne→Qq,mem_map→Qs,length_range→Qu,getElem?_replicate→Qv,getElem?_append_left→Qw,getElem?_append_right→Qx,map_cons→Qy,length_replicate→QA,length_nil→QC,getElem?_set_self→QD,map_append→QE,size_toArray→QI,length_cons→QJ,mem_append_right→QK,flatten_cons→QM,length_take→QO,mem_cons→QP,mem_append→QR,getElem?_range→QS,replicate_succ→QU,length_set→QX,mem_singleton→QZ,lookup_cons→Q0,all_eq_true→Q2,map_map→Q4,length_singleton→Q6,mem_range→Q7,mem_append_left→Q8,append_assoc→Q9,getElem?_eq_none→Ja,drop_eq_getElem_cons→Jb,append_nil→Jc,length_filterMap_le→Jf,nil_append→Ji,length_drop→Jj,getElem?_cons_succ→Jk,mem_filterMap→Jm,filterMap_cons→Jn,pairwise_cons→Jw,take_length→Jy,mem_replicate→JE,map_replicate→JF,foldl_cons→JH,take_succ→JJ,take_append_drop→JK,getLast?_eq_getElem?→JL,nodup_cons→JM,length_zip→JN,count_cons→JP,getElem_mem→JX,getElem_map→JY,length_pos_of_mem→J0,zip_cons_cons→J5,sum_cons→J7,take_zero→J9,mem_flatten→Ub,filter_eq_self→Uc,map_take→Ue,map_nil→Ug,drop_zero→Uh,range→Uw,replicate→Ux,Pairwise→UH
open PySem renaming wpAny_bind→Qd,wpAny_pure→Qh,wpAny_mono→QH,wpAny_loadPart_at→QL,wpAny_truthy_bool→Q3,wpAny_isSubtype_exc→Jq,wpAny_standAt→Js,wpAny_passesOwn→Jt,wpAny_typeNameOfWhole_keyiter→Ju,wpAny_call_entry→JA,wpAny_holding→JB,wpAny_pyIter_list→JG,mem_of_lookup→JV,Value→Ul,Shared→Um,Program→Uo,Addr→Up,FuncData→Uq,Expr→Ur,sizeLine→Us,wpAny→Ut,starEach→Uu,compareOp→Uv,assignEach→UJ,foldedSetIterable→UK
open PySem.Heap renaming lt_size→Qi,get?_push_of_some→Qk,get?_push_size→Qz
open Nat renaming le_refl→Qr,lt_of_lt_of_le→QF,ne_of_lt→QN,le_trans→QT,zero_add→QY,le_of_not_lt→Jd,lt_irrefl→Jo,zero_le→JI,min_eq_left→JQ,ne_of_gt→JR,lt_succ_iff_lt_or_eq→JU,le_succ→JZ,add_sub_cancel→J4,not_lt_zero→J6,lt_succ_of_lt→J8,lt_succ_self→Ua,succ_pos→Ui,add_zero→Uj
open Int renaming toNat_natCast→Qt,le_refl→QW,le_antisymm→JO,le_trans→JS,zero_add→JT,not_lt→Uk
open Option.some renaming inj→QQ
open Array renaming getD_eq_getD_getElem?→Jg,length_toList→Jh,getElem?_eq_getElem→Jr
open Bool renaming false_ne_true→Jl,and_eq_true→Jp,false_eq_true→JD
open PySem.F renaming slot_dict_keyiterator_next→Jv
open PySem.W.Fast renaming te1987589406359920131→Jx
open PyProof.Rows renaming callWith_type1→Jz
open PySem.W renaming kia_one→JC
open Option renaming getD_some→JW
open Array.Perm renaming refl→Uf
open PySem.PyData renaming list→Uy,bool→Uz,str→UA,strOk→UB,canLayAll0→UC,depth→UD,eqv→UE,shown→UI
open PySem.PassesOwn renaming never→UF
open PySem.Str renaming ofString→UG
abbrev L3:=List (List (List Int))
abbrev LO:=List (Option Int)
abbrev LP:=List (Int×Int)
open PySem.W (Frag)
open PySem.PyData (int)
open List (replicate)
namespace DL
open PySem PySem.Spec PySem.W PyProof.Rows
def topRunT(tb:String->Option Builtin)(p:Uo)(w:World)(m:Nat)(ann:Option Ul):Nat->SharedT->Thread->Option SharedT
 |0,_,_=>none
 |n+1,s,t=>match through t,stepOk m ann t with
  |true,_=>some s
  |false,false=>none
  |false,true=>match stepT (denote tb) p w s t with
   |some x=>topRunT tb p w m ann n x.1 x.2
   |none=>none
theorem Gu{tb:String->Option Builtin}{p:Uo}{w:World}{m:Nat}{ann:Option Ul}:∀{n:Nat}{s s':SharedT}{t:Thread},topRunT tb p w m ann n s t=some s'->topRun tb p w m ann n s.abs t=some s'.abs
 |0,_,_,_,h=>by cases h
 |n+1,s,s',t,h=>by
  rw[topRunT]at h;rw[topRun];cases ht:through t with
  |true=>rw[ht]at h;cases h;rfl
  |false=>
   rw[ht]at h;cases hk:stepOk m ann t with
   |false=>rw[hk]at h;cases h
   |true=>
    rw[hk]at h;dsimp only at h⊢;cases hs:stepT (denote tb) p w s t with
    |none=>rw[hs]at h;cases h
    |some x=>rw[hs]at h;rw[stepT_spec hs];exact Gu h
def btOf(l:List Obj):BT:=(l.foldl (λ(x:BT×Nat) o=>(x.1.ins x.2 o,x.2+1)) (.nil,0)).1
noncomputable def T0 (w:World) (os:OsState):SharedT:=⟨btOf (boot_heap w.params).objs.toList,11,(boot_heap w.params).life,#[],boot_drawn,boot_toks,os⟩
theorem Bs(w:World)(os:OsState):(T0 w os).abs=⟨boot_heap w.params,#[],boot_drawn,boot_toks,os⟩:=by kernel_rfl
theorem qF(w:World):((boot_heap w.params).isNs mainGlobals&&(#[]:Array GenState).size==0,(boot_heap w.params).objs.size,(boot_heap w.params).nsMap mainGlobals "__annotations__")=(true,11,some (.ref 6)):=by kernel_rfl
noncomputable abbrev Fg (p q:Uo) (loose:List Str) (Xt:Um->Bool) (w:World) (t:SharedT):=
 ((staticsOk (importedModules p.main.body) (boot_heap w.params) t.abs.heap&&namesBound p t.abs.heap&&gensDone t.abs&&laidKept (boot_heap w.params) t.abs.heap),openSeen q loose (importedModules p.main.body) Xt true t.abs)
theorem D7{p q:Uo}{loose:List Str}{Xt:Um->Bool}{N M:Nat}(e:opening p=plainProg p.main.scope.names)(hN:Nat.ble 600 N=true)(f:∀s,fenceModules? p s=some s)(le:Nat.ble M N=true)
  (run:∀(w:World)(os:OsState),(topRunT treeTable p w 11 (some (.ref 6)) M (T0 w os) (topStub p)).map (Fg p q loose Xt w)=some (true,openGood q loose)):LeftO p q loose Xt (Hook.obs .none) (Hook.val .none) N:=λw=>by
 obtain⟨⟨h,gs,d,k,os⟩,e0,e'⟩:=Option.map_eq_some_iff.mp (boot_open e hN f w);have e':(h,gs,d,k)=(boot_heap w.params,#[],boot_drawn,boot_toks):=e';obtain⟨rfl,rfl,rfl,rfl⟩:h=boot_heap w.params/\gs=#[]/\d=boot_drawn/\k=boot_toks:=by simpa only[Prod.mk.injEq]using e'
 obtain⟨t,ht,l⟩:=Option.map_eq_some_iff.mp (run w os);have hr:=Gu ht;rw[Bs]at hr;have r:=topRun_mono (N-M) _ _ _ _ hr;rw[show M+(N-M)=N by have:=Nat.le_of_ble_eq_true le;omega]at r;obtain⟨l1,l2⟩:=Prod.mk.inj l;have z:=qF w;obtain⟨z1,z2,z3⟩:_/\_/\_:=by simpa only[Prod.mk.injEq]using z
 have tf:topFrom treeTable p w N ⟨boot_heap w.params,#[],boot_drawn,boot_toks,os⟩=some t.abs:=by
  unfold topFrom;dsimp only;rw[z1,z2,z3,r]
  show(match staticsOk (importedModules p.main.body) (boot_heap w.params) t.abs.heap&&namesBound p t.abs.heap&&gensDone t.abs&&laidKept (boot_heap w.params) t.abs.heap with|true=>some t.abs|false=>none)=_
  rw[l1]
 unfold openEnds;rw[e0]
 show(topFrom treeTable p w N _).map _=_
 rw[tf];exact congrArg some (Prod.ext l2 rfl)
end DL
open PySem in
lay_quick PySem.Challenge.pw_wishdeal_k44_whole_bettered_until_best DL.topRunT PySem.W.openGood PySem.W.staticsOk PySem.W.namesBound PySem.W.laidKept PySem.W.xlAt
namespace W
open PySem PySem.Spec DL
noncomputable abbrev p0:Uo:=PySem.Challenge.pw_wishdeal_k44_whole_bettered_until_best
noncomputable def Xu:List Nat:=[1,2,4,5,6,8,9,10,11,12,13,14,15,16,17,18,19,21,23,24,25,27,28,29,31,32,33,34,35,37,39,40,41,42,43,44,45,46,47,48,49,50,51,53,54,56,57,58,59,60,61,62,63,64,65,66,67,68,69,70,71,72,73,74,75,76,77]
noncomputable def ixL:List Nat:=[1,2,12,13,14,15,16,17,18,19,21,24,25,27,28,29,31,32,33,34,35,37,39,40,41,42,43,44,45,46,47,48,49,50,51,53,54,56,57,58,59,60,61,62,63,64,65,66,67,68,69,70,71,72,73,74,75,76,77]
noncomputable abbrev q0:Uo:=PySem.W.view p0 Xu
theorem Ff:∀(w:World)(os:OsState),(PySem.W.Fast.tw10708255244068714335 PySem.W.Fast.tw14364793385576792824 PySem.W.Fast.tw5268323931007635182 w 11 (some (.ref 6)) 2754 (T0 w os) (PySem.W.topStub PySem.W.Fast.tw5268323931007635182)).map (λt=>((PySem.W.Fast.tw13471830651028734593 (PySem.W.Fast.tw5923862056798008813 (Program.main PySem.W.Fast.tw5268323931007635182).body) (PySem.W.boot_heap w.params) t.abs.heap&&PySem.W.Fast.tw4683006035507612052 PySem.W.Fast.tw5268323931007635182 t.abs.heap&&PySem.W.gensDone t.abs&&PySem.W.Fast.tw16898566250750103049 (PySem.W.boot_heap w.params) t.abs.heap),PySem.W.Fast.tw4187177175401517315 (PySem.W.view PySem.W.Fast.tw5268323931007635182 Xu) [] (PySem.W.Fast.tw5923862056798008813 (Program.main PySem.W.Fast.tw5268323931007635182).body) (λs=>PySem.W.Fast.tw4757257242682413121 (PySem.W.view PySem.W.Fast.tw5268323931007635182 Xu) [] s&&PySem.W.recOk [] s) true t.abs))=some (true,PySem.W.Fast.tw3486900944545009338 (PySem.W.view PySem.W.Fast.tw5268323931007635182 Xu) []):=by intro w os;kernel_rfl
theorem Fe:PySem.W.LeftO p0 q0 [] (λs=>PySem.W.xlAt q0 [] s&&PySem.W.recOk [] s) (PySem.W.Hook.obs .none) (PySem.W.Hook.val .none) 5408:=by
 refine D7 (M:=2754) (by kernel_rfl) rfl (λs=>by kernel_rfl) rfl λw os=>?_
 have h:=Ff w os;rw[←PySem.W.Fast.te10708255244068714335,←PySem.W.Fast.te14364793385576792824,←PySem.W.Fast.te4187177175401517315,←PySem.W.Fast.te5923862056798008813,←PySem.W.Fast.te13471830651028734593,←PySem.W.Fast.te4683006035507612052,←PySem.W.Fast.te16898566250750103049,←PySem.W.Fast.te4757257242682413121,←PySem.W.Fast.te3486900944545009338,←PySem.W.Fast.te5268323931007635182]at h;exact h
end W
namespace L2
open PySem PySem.Spec PyProof.Rows
abbrev Key:=Sum Int Str
noncomputable def Sx:Key->Ul->Bool
 |.inl k,v=>Value.isInt k v
 |.inr x,v=>Value.isStrOf x v
noncomputable def keyH(w:World):Key->Int
 |.inl k=>hashInt k
 |.inr x=>hashStr w x
theorem Wu:∀{k:Key}{v:Ul},Sx k v=true->(∃i t,k=Sum.inl i/\v=Value.int i t)∨(∃x t,k=Sum.inr x/\v=Value.str x t)
 |.inl i,v,h=>by obtain⟨t,e⟩:=Value.isInt_shape (k:=i) (v:=v) h;exact .inl ⟨i,t,rfl,e⟩
 |.inr x,v,h=>by obtain⟨t,e⟩:=Value.isStrOf_shape (x:=x) (v:=v) h;exact .inr ⟨x,t,rfl,e⟩
theorem qE(i:Int)(t:Tok):Sx (.inl i) (.int i t)=true:=by simp[Sx,Value.isInt]
theorem qD(x:Str)(t:Tok):Sx (.inr x) (.str x t)=true:=by simp[Sx,Value.isStrOf]
theorem Dw(a b:Int):decide ((Sum.inl a:Key)=Sum.inl b)=(a==b):=by
 by_cases e:a=b
 ·subst e;simp
 ·have h:¬(Sum.inl a:Key)=Sum.inl b:=λq=>e (Sum.inl.inj q)
  rw[QG h];exact(beq_eq_false_iff_ne.mpr e).symm
theorem Dv(a b:Str):decide ((Sum.inr a:Key)=Sum.inr b)=decide (a=b):=by
 by_cases e:a=b
 ·subst e;simp
 ·have h:¬(Sum.inr a:Key)=Sum.inr b:=λq=>e (Sum.inr.inj q)
  rw[QG h,QG e]
theorem Du(a:Int)(b:Str):decide ((Sum.inl a:Key)=Sum.inr b)=false:=QG (λq=>nomatch q)
theorem Dt(a:Str)(b:Int):decide ((Sum.inr a:Key)=Sum.inl b)=false:=QG (λq=>nomatch q)
noncomputable def YU(prog:Uo)(w:World):PySem.KeyKind prog w Key where
 is:=Sx
 hash:=keyH w
 inj:=λv a b ha hb=>by
  rcases Wu ha with ⟨i,t,rfl,rfl⟩|⟨x,t,rfl,rfl⟩
  ·rcases Wu hb with ⟨j,u,rfl,e⟩|⟨y,u,rfl,e⟩
   ·injection e with e1 _;rw[e1]
   ·exact nomatch e
  ·rcases Wu hb with ⟨j,u,rfl,e⟩|⟨y,u,rfl,e⟩
   ·exact nomatch e
   ·injection e with e1 _;rw[e1]
 byValue:=λk v h=>by rcases Wu h with ⟨i,t,rfl,rfl⟩|⟨x,t,rfl,rfl⟩<;>rfl
 pyHash:=λhv h=>by
  rcases Wu hv with ⟨i,t,rfl,rfl⟩|⟨x,t,rfl,rfl⟩
  ·exact wpAny_pyHash_int h
  ·exact wpAny_pyHash_str h
 eqBool:=λhu hv h=>by
  rcases Wu hu with ⟨i,t,rfl,rfl⟩|⟨x,t,rfl,rfl⟩
  ·rcases Wu hv with ⟨j,u,rfl,rfl⟩|⟨y,u,rfl,rfl⟩
   ·rw[Dw]at h;exact wpAny_eqBool_int h
   ·rw[Du]at h;exact SeqAt.EqAt.int_str i t y u _ _ _ _ h
  ·rcases Wu hv with ⟨j,u,rfl,rfl⟩|⟨y,u,rfl,rfl⟩
   ·rw[Dt]at h;exact SeqAt.EqAt.str_int x t j u _ _ _ _ h
   ·rw[Dv]at h;exact wpAny_eqBool_str h
 «strs»:=λk x t v h=>by
  rcases Wu h with ⟨i,u,rfl,e⟩|⟨y,u,rfl,e⟩
  ·exact nomatch e
  ·injection e with e1 _
   subst e1;cases v<;>rfl
theorem jr(prog:Uo)(w:World)(i:Int)(t:Tok):(YU prog w).is (.inl i) (.int i t)=true:=qE i t
theorem jq(prog:Uo)(w:World)(x:Str)(t:Tok):(YU prog w).is (.inr x) (.str x t)=true:=qD x t
inductive V where
 |non|bl (b:Bool)|int (i:Int)|str (x:Str)|byt (b:Array UInt8)|flt (b:UInt64)|ref (a:Up)|ty (n:String)
 deriving DecidableEq
noncomputable def RelV:V->Ul->Prop
 |.non,u=>u=Value.none
 |.bl b,u=>u=Value.bool b
 |.int i,u=>∃t,u=Value.int i t
 |.str x,u=>∃t,u=Value.str x t
 |.byt b,u=>∃t,u=Value.bytes b t
 |.flt b,u=>∃t,u=Value.float b t
 |.ref a,u=>u=Value.ref a
 |.ty n,u=>u=Value.type n
noncomputable abbrev Vals:List V->List Ul->Prop:=Paired RelV
theorem Vals.length{xs:List V}{us:List Ul}(r:Vals xs us):xs.length=us.length:=Paired.length r
theorem Vals.get:∀{xs:List V}{us:List Ul}{i:Nat}{x:V},Vals xs us->xs[i]?=some x->∃u,us[i]?=some u/\RelV x u
 |_,_,_,_,.nil,e=>by simp at e
 |_,_,0,_,.cons r _,e=>by simp at e;subst e;exact⟨_,rfl,r⟩
 |_,_,i+1,x,.cons _ t,e=>by obtain⟨u,h1,h2⟩:=Vals.get (i:=i) (x:=x) t (by simpa using e);exact⟨u,by simpa using h1,h2⟩
theorem Vals.set{x:V}{u:Ul}(r:RelV x u):∀{xs:List V}{us:List Ul}(i:Nat),Vals xs us->Vals (xs.set i x) (us.set i u)
 |_,_,_,.nil=>.nil
 |_,_,0,.cons _ t=>.cons r t
 |_,_,i+1,.cons q t=>.cons q (Vals.set r i t)
theorem Vals.append:∀{xs ys:List V}{us ws:List Ul},Vals xs us->Vals ys ws->Vals (xs++ys) (us++ws)
 |_,_,_,_,.nil,s=>s
 |_,_,_,_,.cons r t,s=>.cons r (Vals.append t s)
theorem Vals.take:∀{xs:List V}{us:List Ul}(n:Nat),Vals xs us->Vals (xs.take n) (us.take n)
 |_,_,0,_=>.nil
 |_,_,_+1,.nil=>.nil
 |_,_,n+1,.cons r t=>.cons r (Vals.take n t)
theorem Vals.drop:∀{xs:List V}{us:List Ul}(n:Nat),Vals xs us->Vals (xs.drop n) (us.drop n)
 |_,_,0,r=>r
 |_,_,_+1,.nil=>.nil
 |_,_,n+1,.cons _ t=>Vals.drop n t
noncomputable def RelO:Option V->Option Ul->Prop
 |some v,some u=>RelV v u
 |none,none=>True
 |_,_=>False
noncomputable def KV{κ:Type}:List (κ×V)->List (κ×Ul)->Prop:=Paired λ(p:κ×V) (q:κ×Ul)=>p.1=q.1/\RelV p.2 q.2
noncomputable def kV:Key->V
 |.inl i=>.int i
 |.inr x=>.str x
inductive HO where
  |lst (xs:List V)
  |tup (xs:List V)
  |dK (kvs:List (Key×V))|dT (kvs:List (List Key×V))
  |set (S:Int->Bool) (n:Nat)
  |ins (C dx:Up) (fs:List (Str×V))
  |own (x:Up)
  |xd (fs:List (Str×V))
  |met (f x:Up)
  |rng (lo hi:Int)
  |frz (o:Obj) (u:HO)
  |tbl (ps:Array Ul)
  |ext (φ:Heap->Prop)
abbrev Hp:=Up->Option HO
noncomputable def upd(H:Hp)(a:Up)(o:HO):Hp:=λb=>if b=a then some o else H b
theorem Zc{H:Hp}{a:Up}{o:HO}:upd H a o a=some o:=by unfold upd;rw[Qp rfl]
theorem KM{H:Hp}{a b:Up}{o:HO}(h:b≠a):upd H a o b=H b:=by unfold upd;rw[QB h]
theorem NI{H:Hp}{a b:Up}{o u:HO}(h:H a=some o)(h':H b=some u)(d:o≠u):a≠b:=by intro e;subst e;rw[h]at h';exact d (QQ h')
theorem Yc{H:Hp}{a b:Up}{o:HO}(h:H a=some o)(h':H b=none):a≠b:=by intro e;subst e;rw[h]at h';cases h'
section
variable(P:Uo)(w:World)
noncomputable def Zm(H:Hp)(h:Heap)(a:Up):HO->Prop
 |.lst xs=>xs.length<=Us/\∃(its:List Ul)(n:Nat),Vals xs its/\h.get? a=some {cls:=.type "list", data:=.seq its.toArray n}
 |.tup xs=>xs.length<=Us/\∃its:List Ul,Vals xs its/\IsTup h a its.toArray
 |.dK kvs=>kvs.length<=Us/\(a==sysModules)=false/\∃vs,KV kvs vs/\h.DictOf (YU P w) a vs
 |.dT kvs=>kvs.length<=Us/\(a==sysModules)=false/\∃xs:List (List Key×Up×Ul),
   Paired (λ(p:List Key×V) (q:List Key×Up×Ul)=>p.1=q.1/\H q.2.1=some (.tup (p.1.map kV))/\RelV p.2 q.2.2) kvs xs /\
   ∃o es ep,h.get? a=some o/\o.ExactDict/\o.data=.dict es ep/\es.toList=xs.map (entryOfKey (tupleKind (YU P w)))/\(xs.map (·.1)).Nodup
 |.set S n=>h.SetOf (intKind P w) a S n
 |.ins C dx fs=>H dx=some (.own a)/\fs.length<=1000/\dx≠a/\h.get? a=some (PySem.W.instObj C dx) /\
   ∃mA,h.Ns1 dx mA/\(∀f,RelO (fs.lookup f) (mA f))/\PySem.Within mA (fs.map (·.1))
 |.own _=>∃o,h.get? a=some o
 |.xd fs=>∃mA,h.Ns1 a mA/\∀f,RelO (fs.lookup f) (mA f)
 |.rng lo hi=>∃t u v,h.get? a=some {cls:=.type "range", data:=.fields #[.int lo t,.int hi u,.int 1 v]}
 |.frz o u=>h.get? a=some o/\Zm H h a u
 |.tbl ps=>h.get? a=some {cls:=.none,data:=.fields ps}
 |.met f x=>h.get? a=some (PySem.W.methodObj (.ref f) (.ref x))
 |.ext φ=>φ h/\(∃o,h.get? a=some o)/\∀h1 h2:Heap,φ h1->(∀o,h1.get? a=some o->h2.get? a=some o)->φ h2
def HOk(H:Hp)(h:Heap):Prop:=∀a o,H a=some o->Zm P w H h a o
end
section
variable{P:Uo}{w:World}{H H':Hp}{h h':Heap}{a:Up}{o:HO}
theorem Zm.lt(x:Zm P w H h a o):a<h.objs.size:=by
 cases o with
 |lst xs=>obtain⟨_,_,_,_,e⟩:=x;exact Qi e
 |tup xs=>obtain⟨_,_,_,p⟩:=x;exact p.lt
 |dK kvs=>obtain⟨_,_,_,_,o,_,_,e,_⟩:=x;exact Qi e
 |dT kvs=>obtain⟨_,_,_,_,o,_,_,e,_⟩:=x;exact Qi e
 |set S n=>obtain⟨o,_,_,_,e,_⟩:=x;exact Qi e
 |ins C dx fs=>obtain⟨_,_,_,e,_⟩:=x;exact Qi e
 |own y=>obtain⟨_,e⟩:=x;exact Qi e
 |xd fs=>obtain⟨_,⟨_,_,_,e,_⟩,_⟩:=x;exact Qi e
 |rng lo hi=>obtain⟨_,_,_,e⟩:=x;exact Qi e
 |frz ob u=>obtain⟨e,_⟩:=x;exact Qi e
 |tbl ps=>exact Qi (show h.get? a=some _ from x)
 |met f y=>exact Qi (show h.get? a=some _ from x)
 |ext φ=>obtain⟨_,⟨_,e⟩,_⟩:=x;exact Qi e
theorem Paired.mapP{α β:Type}{F G:α->β->Prop}:∀{l₁:List α}{l₂:List β},Paired F l₁ l₂->(∀a b,F a b->G a b)->Paired G l₁ l₂
 |_,_,.nil,_=>.nil
 |_,_,.cons r t,f=>.cons (f _ _ r) (Paired.mapP t f)
theorem Zm.stay(x:Zm P w H h a o)(k:∀b u,(b=a∨H b=some (.own a))->h.get? b=some u->h'.get? b=some u)
  (ho:∀b,H b=some (.own a)->H' b=some (.own a)) (ht:∀b xs,H b=some (.tup xs)->H' b=some (.tup xs)):Zm P w H' h' a o:=by
 induction o with
 |lst xs=>obtain⟨z,its,n,r,e⟩:=x;exact⟨z,its,n,r,k _ _ (.inl rfl) e⟩
 |tup xs=>obtain⟨z,its,r,ob,e,c⟩:=x;exact⟨z,its,r,ob,k _ _ (.inl rfl) e,c⟩
 |dK kvs=>obtain⟨z,y,vs,r,ob,es,ep,e,c⟩:=x;exact⟨z,y,vs,r,ob,es,ep,k _ _ (.inl rfl) e,c⟩
 |dT kvs=>obtain⟨z,y,xs,r,ob,es,ep,e,c⟩:=x;exact⟨z,y,xs,Paired.mapP r λp q z=>⟨z.1,ht _ _ z.2.1,z.2.2⟩,ob,es,ep,k _ _ (.inl rfl) e,c⟩
 |set S n=>obtain⟨ob,es,ep,t,e,c⟩:=x;exact⟨ob,es,ep,t,k _ _ (.inl rfl) e,c⟩
 |ins C dx fs=>obtain⟨d,z,ne,e,mA,⟨od,es,ep,e2,c⟩,r⟩:=x;exact⟨ho _ d,z,ne,k _ _ (.inl rfl) e,mA,⟨od,es,ep,k _ _ (.inr d) e2,c⟩,r⟩
 |own y=>obtain⟨ob,e⟩:=x;exact⟨ob,k _ _ (.inl rfl) e⟩
 |xd fs=>obtain⟨mA,⟨od,es,ep,e,c⟩,r⟩:=x;exact⟨mA,⟨od,es,ep,k _ _ (.inl rfl) e,c⟩,r⟩
 |rng lo hi=>obtain⟨t,u,v,e⟩:=x;exact⟨t,u,v,k _ _ (.inl rfl) e⟩
 |frz ob u ih=>obtain⟨e,q⟩:=x;exact⟨k _ _ (.inl rfl) e,ih q⟩
 |tbl ps=>have e:h.get? a=some {cls:=.none,data:=.fields ps}:=x;show h'.get? a=some {cls:=.none,data:=.fields ps};exact k a _ (.inl rfl) e
 |met f y=>have e:h.get? a=some (PySem.W.methodObj (.ref f) (.ref y)):=x;show h'.get? a=some (PySem.W.methodObj (.ref f) (.ref y));exact k a _ (.inl rfl) e
 |ext φ=>obtain⟨p,⟨o,e⟩,st⟩:=x;exact⟨st _ _ p λo q=>k _ _ (.inl rfl) q,⟨o,k _ _ (.inl rfl) e⟩,st⟩
theorem HOk.lt(x:HOk P w H h)(e:H a=some o):a<h.objs.size:=(x a o e).lt
theorem HOk.fresh(x:HOk P w H h)(e:h.objs.size<=a):H a=none:=by
 cases q:H a with
 |none=>rfl
 |some u=>exact absurd (QF (x.lt q) e) (Jo _)
theorem HOk.kept(x:HOk P w H h)(k:∀b u,h.get? b=some u->h'.get? b=some u):HOk P w H h':=λa o e=>
 (x a o e).stay (λb u _ q=>k b u q) (λ_ q=>q) λ_ _ q=>q
theorem HOk.laid(x:HOk P w H h)(k:∀b u,h.get? b=some u->h'.get? b=some u)(hp:h.objs.size<=a)(new:Zm P w (upd H a o) h' a o):HOk P w (upd H a o) h':=λb u e=>by
 have hn:=x.fresh hp;by_cases hb:b=a
 ·subst hb;rw[Zc]at e;cases e;exact new
 ·rw[KM hb]at e;exact(x b u e).stay (λc v _ q=>k c v q) (λc q=>by rw[KM (Yc q hn)];exact q) λc xs q=>by rw[KM (Yc q hn)];exact q
end
def Rd(H:Hp)(a:Up)(u:HO):Prop:=H a=some u ∨ ∃o,H a=some (.frz o u)
theorem Rd.ok{P:Uo}{w:World}{H:Hp}{h:Heap}{a:Up}{u:HO}(r:Rd H a u)(x:HOk P w H h):Zm P w H h a u:=by
 rcases r with r|⟨o,r⟩
 ·exact x a u r
 ·obtain⟨_,q⟩:=x a _ r;exact q
noncomputable def Mut:Option HO->Prop
 |some (.lst _)=>True
 |some (.dK _)=>True
 |some (.dT _)=>True
 |some (.set _ _)=>True
 |some (.ins _ _ _)=>True
 |some (.ext _)=>True
 |_=>False
section
variable{P:Uo}{w:World}{H:Hp}{h h':Heap}{x e:Up}{o':HO}
theorem HOk.write(ok:HOk P w H h)(mu:Mut (H x))(he:e=x∨H e=some (.own x))(k:∀b u,b≠e->h.get? b=some u->h'.get? b=some u)(heo:∃u,h'.get? e=some u)
  (new:Zm P w (upd H x o') h' x o'):HOk P w (upd H x o') h':=λb u q=>by
 have nown:∀c y,H c=some (.own y)->c≠x:=λc y r z=>by subst z;rw[r]at mu;exact mu
 have ntup:∀c xs,H c=some (.tup xs)->c≠x:=λc xs r z=>by subst z;rw[r]at mu;exact mu
 by_cases hb:b=x
 ·subst hb;rw[Zc]at q;cases q;exact new
 ·rw[KM hb]at q;by_cases hbe:b=e
  ·have q':H b=some (.own x):=by
    rcases he with z|z
    ·exact absurd (hbe.trans z) hb
    ·rw[hbe];exact z
   rw[q]at q';cases q';obtain⟨v,hv⟩:=heo;exact⟨v,by rw[hbe];exact hv⟩
  ·refine(ok b u q).stay (λc v hc r=>k c v ?_ r) (λc r=>by rw[KM (nown c b r)];exact r) λc xs r=>by rw[KM (ntup c xs r)];exact r
   rcases hc with rfl|hc
   ·exact hbe
   ·rintro rfl;rcases he with z|z
    ·exact nown c b hc z
    ·rw[hc]at z;cases z;exact hb rfl
end
structure Un(fs ex:List Up)(H H':Hp)(h h':Heap):Prop where
 keep:∀b o,h.get? b=some o->H b=none->b∉fs->b∉ex->h'.get? b=some o
 slot:∀b o,h.get? b=some o->H b=none->b∈fs->b∉ex->∃sl,h'.get? b=some {o with slots:=sl}
 free:∀b o,h.get? b=some o->H b=none->b∉ex->H' b=none
 there:∀b o,h.get? b=some o->b∉ex->∃o',h'.get? b=some o'
 tups:∀b xs,H b=some (.tup xs)->H' b=some (.tup xs)
 frzs:∀b o u,H b=some (.frz o u)->H' b=some (.frz o u)
 tbls:∀b ps,H b=some (.tbl ps)->∃more,H' b=some (.tbl (ps++more))
section
variable{fs fs' ex ex':List Up}{H H1 H2:Hp}{h h1 h2 h':Heap}{a x e:Up}{o:HO}
theorem Un.any(u:Un fs ex H H1 h h1){b:Up}{ob:Obj}(q:h.get? b=some ob)(n:H b=none)(hx:b∉ex):∃sl,h1.get? b=some {ob with slots:=sl}:=by
 by_cases hb:b∈fs
 ·exact u.slot b ob q n hb hx
 ·exact⟨ob.slots,u.keep b ob q n hb hx⟩
theorem Un.kept(k:∀b u,h.get? b=some u->h'.get? b=some u):Un fs ex H H h h':=
 ⟨λb ob q _ _ _=>k b ob q,λb ob q _ _ _=>⟨ob.slots,k b ob q⟩,λ_ _ _ n _=>n,λb ob q _=>⟨ob,k b ob q⟩,λ_ _ q=>q,λ_ _ _ q=>q,λ_ ps q=>⟨#[],by rw[q];simp⟩⟩
theorem Un.refl:Un fs ex H H h h:=Un.kept λ_ _ q=>q
theorem Un.laid(k:∀b u,h.get? b=some u->h'.get? b=some u)(hp:h.objs.size<=a)(hn:H a=none):Un fs ex H (upd H a o) h h' where
 keep:=λb u q _ _ _=>k b u q
 slot:=λb u q _ _ _=>⟨u.slots,k b u q⟩
 free:=λb u q n _=>by rw[KM (QN (QF (Qi q) hp))];exact n
 there:=λb u q _=>⟨u,k b u q⟩
 tups:=λb xs q=>by rw[KM (Yc q hn)];exact q
 frzs:=λb u xs q=>by rw[KM (Yc q hn)];exact q
 tbls:=λb ps q=>⟨#[],by rw[KM (Yc q hn),q];simp⟩
theorem Un.write(mu:Mut (H x))(he:e=x∨H e=some (.own x))(k:∀b u,b≠e->h.get? b=some u->h'.get? b=some u)(heo:∃u,h'.get? e=some u):Un fs ex H (upd H x o) h h':=by
 have hx:∀b,H b=none->b≠x:=λb n z=>by subst z;rw[n]at mu;exact mu
 have hb:∀b,H b=none->b≠e:=λb n z=>by
  subst z;rcases he with r|r
  ·exact hx b n r
  ·rw[n]at r;cases r
 have hm:∀b u,H b=some u->¬Mut (some u)->b≠x:=λb u q nm z=>by subst z;rw[q]at mu;exact nm mu
 refine⟨λb u q n _ _=>k b u (hb b n) q,λb u q n _ _=>⟨u.slots,k b u (hb b n) q⟩,λb u q n _=>by rw[KM (hx b n)];exact n,λb u q _=>?_,
  λb xs q=>by rw[KM (hm b _ q λz=>z)];exact q,λb u xs q=>by rw[KM (hm b _ q λz=>z)];exact q,λb ps q=>⟨#[],by rw[KM (hm b _ q λz=>z),q];simp⟩⟩
 by_cases hbe:b=e
 ·subst hbe;exact heo
 ·exact⟨u,k b u hbe q⟩
end
noncomputable def trk(h:Heap)(H:Hp):List Up:=(Uw h.objs.size).filter λa=>(H a).isSome
noncomputable def Yx(h:Heap)(H:Hp):Heap:=PySem.W.hideAll h (trk h H)
theorem qC(h:Heap)(H:Hp):(Yx h H).objs.size=h.objs.size:=PySem.W.hideAll_size _ _
theorem Br{h:Heap}{H:Hp}{b:Up}{o:Obj}(e:h.get? b=some o)(n:H b=none):(Yx h H).get? b=some o:=
 PySem.W.hideAll_get _ e λhm=>by have q:(H b).isSome=true:=(List.mem_filter.mp hm).2;rw[n]at q;simp at q
theorem D6{h:Heap}{H:Hp}{b:Up}{o:Obj}(e:(Yx h H).get? b=some o):h.get? b=some o/\H b=none:=by
 have e':h.get? b=some o:=PySem.W.of_hideAll (trk h H) e;refine⟨e',?_⟩;cases q:H b with
 |none=>rfl
 |some x=>have hm:b∈trk h H:=List.mem_filter.mpr ⟨List.mem_range.mpr (Heap.lt_size e'),by simp[q]⟩;have z:(Yx h H).get? b=none:=PySem.W.hideAll_none (trk h H) hm;rw[z]at e;cases e
structure Mod(K:Frag)(mg:Str->Option Ul)(base:Heap):Prop where
 kin:K.In base
 glob:base.Ns mainGlobals mg
 blt:∃mb,base.Ns builtinsNs mb/\∀x:Str,x ≠ "__name__" -> mb x=bootBuiltins x
 nolimit:base.NoLimit
structure Cx where
 prog:Uo
 w:World
 K:Frag
 mg:Str->Option Ul
 base:Heap
 A:Around
 N:List Str
 s₀:Um
 H₀:Hp
 env:Env
 outer:List Env
 stack:List Env
 ex:List Up
 fn:Str->Bool
 calm:Bool
 pn:List (Up×Obj)
 xe:Ul->Um->Prop
noncomputable def frs(l:List Env):List Up:=l.filterMap (·.frame)
noncomputable abbrev Cx.fs(X:Cx):List Up:=frs X.outer
def Vis(sc:Scope)(x:Str):Prop:=sc.names.lookup x=some .local∨sc.names.lookup x=some .cell∨sc.names.lookup x=some .free
def Loc(sc:Scope)(x:Str):Prop:=sc.names.lookup x=some .local∨sc.names.lookup x=some .cell
def Look(env:Env)(h:Heap)(m:Str->Option Ul)(x:Str)(u:Ul):Prop:=
 (env.kindOf x=some .local/\m x=some u)∨((env.kindOf x=some .cell∨env.kindOf x=some .free)/\∃c,env.cells.lookup x=some c/\h.IsCell c (some u))
structure Cx.Ok(X:Cx):Prop where
 mod:Mod X.K X.mg X.base
 kind:X.env.scope.kind=.function
 glob:X.env.globals=mainGlobals
 blt:X.env.builtins=builtinsNs
 above:X.s₀.heap.objs.size<=X.env.locals
 inj:∀x y c,X.env.cells.lookup x=some c->X.env.cells.lookup y=some c->x=y
 has:∀x,(X.env.kindOf x=some .cell∨X.env.kindOf x=some .free)->∃c,X.env.cells.lookup x=some c
 cab:∀x c,X.fn x=true->X.env.cells.lookup x=some c->X.s₀.heap.objs.size<=c
 hd:X.calm=true->X.A.handled=none
 frames:X.A.frames=some X.stack
 stk:X.stack=X.outer∨(X.stack=X.env::X.outer/\X.env.frame=some X.env.locals)
 exf:∀b∈X.ex,b≠X.env.locals/\∀x c,X.env.cells.lookup x=some c->c≠b
 bs:∀b o,X.base.get? b=some o->X.s₀.heap.get? b=some o/\X.H₀ b=none
 bsz:X.base.objs.size<=X.s₀.heap.objs.size
 noex:∀b o,X.base.get? b=some o->b∉X.ex
 exfs:∀b∈X.ex,b∉X.fs
 funs:X.s₀.heap.FunFrames X.base X.outer
 frf:∀b∈X.fs,X.H₀ b=none
structure Inv(X:Cx)(pins:List (Up×Obj))(σ:List (Option V))(H:Hp)(s:Um):Prop where
 ok:X.Ok
 os:s.os=X.s₀.os
 bare:AllBare s.gens
 base:Un X.fs X.ex X.H₀ H X.s₀.heap s.heap
 loc:∃m,s.heap.Ns X.env.locals m/\∀(i:Nat)(x:Str)(v:V),X.N[i]?=some x->σ[i]?=some (some v)->Vis X.env.scope x->∃u,RelV v u/\Look X.env s.heap m x u
 cell:∀x c,X.env.cells.lookup x=some c->∃v,s.heap.IsCell c v
 free:H X.env.locals=none
 freeC:∀x c,X.env.cells.lookup x=some c->H c=none
 pin:∀p∈X.pn++pins,s.heap.get? p.1=some p.2/\H p.1=none/\p.1≠X.env.locals/\p.1∉X.fs/\∀v,p.2.data≠.cell v
 hok:HOk X.prog X.w H s.heap
 len:σ.length=X.N.length
section
variable{X:Cx}{pins:List (Up×Obj)}{σ:List (Option V)}{H H':Hp}{s:Um}{h':Heap}
theorem Cx.Ok.nofr(ok:X.Ok){b:Up}{o:Obj}(e:X.base.get? b=some o):b∉X.fs:=λhb=>by have:=(ok.funs.mem hb).1;rw[e]at this;cases this
theorem Inv.bs(I:Inv X pins σ H s):∀b o,X.base.get? b=some o->s.heap.get? b=some o/\H b=none:=λb o e=>
 ⟨I.base.keep b o (I.ok.bs b o e).1 (I.ok.bs b o e).2 (I.ok.nofr e) (I.ok.noex b o e),I.base.free b o (I.ok.bs b o e).1 (I.ok.bs b o e).2 (I.ok.noex b o e)⟩
theorem Inv.bk(I:Inv X pins σ H s):∀b o,X.base.get? b=some o->s.heap.get? b=some o:=λb o e=>(I.bs b o e).1
theorem Inv.mod(I:Inv X pins σ H s):Mod X.K X.mg X.base:=I.ok.mod
theorem Inv.kIn(I:Inv X pins σ H s):X.K.In s.heap:=I.ok.mod.kin.keeps I.bk
theorem Inv.lt(I:Inv X pins σ H s):X.env.locals<s.heap.objs.size:=let ⟨_,hn,_⟩:=I.loc;hn.lt
theorem Inv.sz(I:Inv X pins σ H s):X.s₀.heap.objs.size<=s.heap.objs.size:=QT I.ok.above (Nat.le_of_lt I.lt)
theorem Inv.nofs(I:Inv X pins σ H s){a:Up}(h:s.heap.objs.size<=a):a∉X.fs:=λhb=>by obtain⟨_,o,ho,_⟩:=I.ok.funs.mem hb;exact absurd (QF (Qi ho) (QT I.sz h)) (Jo _)
theorem Inv.cne(I:Inv X pins σ H s):∀x c,X.env.cells.lookup x=some c->c≠X.env.locals:=λx c e z=>by obtain⟨v,o,ho,hd⟩:=I.cell x c e;obtain⟨m,⟨o',es,ep,ho',hd',_⟩,_⟩:=I.loc;rw[z,ho']at ho;cases ho;rw[hd']at hd;cases hd
theorem Inv.funs(I:Inv X pins σ H s):s.heap.FunFrames X.base X.outer:=by
 have all:∀(l:List Env),(∀b∈frs l,b∈X.fs)->X.s₀.heap.FunFrames X.base l->s.heap.FunFrames X.base l:=by
  intro l;induction l with
  |nil=>intro _ _;trivial
  |cons env r ih=>
   intro hs hl;obtain⟨hk,⟨L,o,hf,hn,ho,hd⟩,hr⟩:=hl;have hL:L∈X.fs:=hs L (by unfold frs;rw[Jn,hf];exact Qm);obtain⟨sl,e⟩:=I.base.slot L o ho (I.ok.frf L hL) hL λz=>I.ok.exfs L z hL
   exact⟨hk,⟨L,_,hf,hn,e,hd⟩,ih (λb hb=>hs b (by unfold frs;rw[Jn,hf];exact Ql _ hb)) hr⟩
 exact all X.outer (λ_ hb=>hb) I.ok.funs
theorem Inv.stack(I:Inv X pins σ H s):s.heap.FunFrames X.base X.stack:=by
 rcases I.ok.stk with e|⟨e,hf⟩
 ·rw[e];exact I.funs
 ·rw[e];obtain⟨m,hn,_⟩:=I.loc;refine .cons (by rw[I.ok.kind];decide) hf hn ?_ I.funs;exact Heap.get?_none_of_le (QT I.ok.bsz I.ok.above)
theorem Inv.stkSub(I:Inv X pins σ H s):∀b∈frs X.stack,b∈X.env.locals::X.fs:=λb hb=>by
 rcases I.ok.stk with e|⟨e,hf⟩
 ·rw[e]at hb;exact Ql _ hb
 ·rw[e]at hb;unfold frs at hb;rw[Jn,hf]at hb;exact hb
theorem Inv.stkFree(I:Inv X pins σ H s):∀b∈frs X.stack,H b=none:=λb hb=>by
 rcases QP.mp (I.stkSub b hb)with e|hb
 ·rw[e];exact I.free
 ·obtain⟨_,o,ho,_⟩:=I.ok.funs.mem hb;exact I.base.free b o ho (I.ok.frf b hb) λz=>I.ok.exfs b z hb
theorem Inv.step{g':Array GenState}{t':Nat}{d':Drawn}{ch:List Up}(I:Inv X pins σ H s)
  (hch:∀b∈ch,(b∈X.ex∨X.s₀.heap.objs.size<=b)/\b≠X.env.locals/\(∀x c,X.env.cells.lookup x=some c->c≠b)/\∀p∈X.pn++pins,p.1≠b)
  (keep:∀b o,b≠X.env.locals->b∉X.fs->b∉ch->s.heap.get? b=some o->H b=none->h'.get? b=some o)
  (slot:∀b o,b≠X.env.locals->b∈X.fs->b∉ch->s.heap.get? b=some o->H b=none->∃sl,h'.get? b=some {o with slots:=sl}) (free:∀b o,b∉ch->s.heap.get? b=some o->H b=none->H' b=none)
  (there:∀b o,b∉ch->s.heap.get? b=some o->∃o',h'.get? b=some o')
  (tups:∀b xs,H b=some (.tup xs)->H' b=some (.tup xs)) (frzs:∀b o u,H b=some (.frz o u)->H' b=some (.frz o u)) (tbls:∀b ps,H b=some (.tbl ps)->∃more,H' b=some (.tbl (ps++more)))
  (ns:∀m,s.heap.Ns X.env.locals m->h'.Ns X.env.locals m) (hok:HOk X.prog X.w H' h') (hg:AllBare g') :
  Inv X pins σ H' {s with heap:=h',gens:=g',drawn:=d',toks:=t'}:=by
 have neL:∀b o,X.s₀.heap.get? b=some o->b≠X.env.locals:=λb o e=>QN (QF (Qi e) I.ok.above)
 have neC:∀b o,X.s₀.heap.get? b=some o->b∉X.ex->b∉ch:=λb o e hx hb=>by
  rcases(hch b hb).1 with z|z
  ·exact hx z
  ·exact absurd (QF (Qi e) z) (Jo _)
 have cellK:∀x c,X.env.cells.lookup x=some c->∀v,s.heap.IsCell c v->h'.IsCell c v:=λx c e v ⟨o,ho,hd⟩=>by
  have nch:c∉ch:=λz=>(hch c z).2.2.1 x c e rfl
  by_cases hc:c∈X.fs
  ·obtain⟨sl,q⟩:=slot c o (I.cne x c e) hc nch ho (I.freeC x c e);exact⟨_,q,hd⟩
  ·exact⟨o,keep c o (I.cne x c e) hc nch ho (I.freeC x c e),hd⟩
 refine⟨I.ok,I.os,hg,⟨λb o e n hb hx=>?_,λb o e n hb hx=>?_,λb o e n hx=>?_,λb o e hx=>?_,λb xs e=>tups b xs (I.base.tups b xs e),λb o xs e=>frzs b o xs (I.base.frzs b o xs e),λb ps e=>?_⟩,?_,λx c e=>?_,?_,λx c e=>?_,λp hp=>?_,hok,I.len⟩
 ·exact keep b o (neL b o e) hb (neC b o e hx) (I.base.keep b o e n hb hx) (I.base.free b o e n hx)
 ·obtain⟨sl,e1⟩:=I.base.slot b o e n hb hx;obtain⟨sl',e2⟩:=slot b _ (neL b o e) hb (neC b o e hx) e1 (I.base.free b o e n hx);exact⟨sl',e2⟩
 ·obtain⟨o',e1⟩:=I.base.there b o e hx;exact free b o' (neC b o e hx) e1 (I.base.free b o e n hx)
 ·obtain⟨o',e1⟩:=I.base.there b o e hx;exact there b o' (neC b o e hx) e1
 ·obtain⟨m1,e1⟩:=I.base.tbls b ps e;obtain⟨m2,e2⟩:=tbls b _ e1;exact⟨m1++m2,by rw[e2,Array.append_assoc]⟩
 ·obtain⟨m,hn,hl⟩:=I.loc;refine⟨m,ns m hn,λi x v e1 e2 e3=>?_⟩;obtain⟨u,r,l⟩:=hl i x v e1 e2 e3;refine⟨u,r,?_⟩;rcases l with l|⟨k,c,e,z⟩
  ·exact .inl l
  ·exact .inr ⟨k,c,e,cellK x c e _ z⟩
 ·obtain⟨v,z⟩:=I.cell x c e;exact⟨v,cellK x c e v z⟩
 ·obtain⟨m,⟨o,_,_,ho,_⟩,_⟩:=I.loc;exact free _ o (λz=>(hch _ z).2.1 rfl) ho I.free
 ·obtain⟨v,o,ho,hd⟩:=I.cell x c e;exact free c o (λz=>(hch c z).2.2.1 x c e rfl) ho (I.freeC x c e)
 ·obtain⟨e,n,ne,nf,d⟩:=I.pin p hp;have nch:p.1∉ch:=λz=>(hch p.1 z).2.2.2 p hp rfl
  exact⟨keep p.1 p.2 ne nf nch e n,free p.1 p.2 nch e n,ne,nf,d⟩
theorem Inv.un{t':Nat}(I:Inv X pins σ H s)(u:Un X.fs [] H H' s.heap h')(hok:HOk X.prog X.w H' h'):Inv X pins σ H' {s with heap:=h',toks:=t'}:=by obtain⟨m,⟨o,es,ep,ho,r⟩,_⟩:=id I.loc;obtain⟨sl,hL⟩:=u.any ho I.free (by simp);exact I.step (g':=s.gens) (d':=s.drawn) (ch:=[]) (λ_ z=>nomatch z) (λb o _ hb _ e n=>u.keep b o e n hb (by simp)) (λb o _ hb _ e n=>u.slot b o e n hb (by simp)) (λb o _ e n=>u.free b o e n (by simp)) (λb o _ e=>u.there b o e (by simp)) u.tups u.frzs u.tbls (λm' hm=>by obtain⟨o',es',ep',ho',r'⟩:=hm;rw[ho]at ho';cases ho';exact⟨_,es',ep',hL,r'⟩) hok I.bare
theorem Inv.call{g':Array GenState}{t':Nat}{d':Drawn}{ch:List Up}(I:Inv X pins σ H s)(u:Un (frs X.stack) ch H H' s.heap h')(hok:HOk X.prog X.w H' h')(hg:AllBare g')
  (hch:∀b∈ch,(b∈X.ex∨X.s₀.heap.objs.size<=b)/\b≠X.env.locals/\(∀x c,X.env.cells.lookup x=some c->c≠b)/\∀p∈X.pn++pins,p.1≠b) :
  Inv X pins σ H' {s with heap:=h',gens:=g',drawn:=d',toks:=t'}:=by
 obtain⟨m,⟨o,es,ep,ho,r⟩,_⟩:=id I.loc;obtain⟨sl,hL⟩:=u.any ho I.free λz=>(hch _ z).2.1 rfl
 exact I.step (ch:=ch) hch (λb o hL hb hc e n=>u.keep b o e n (λz=>(QP.mp (I.stkSub b z)).elim hL hb) hc) (λb o _ _ hc e n=>u.any e n hc) (λb o hc e n=>u.free b o e n hc) (λb o hc e=>u.there b o e hc) u.tups u.frzs u.tbls (λm' hm=>by obtain⟨o',es',ep',ho',r'⟩:=hm;rw[ho]at ho';cases ho';exact⟨_,es',ep',hL,r'⟩) hok hg
theorem Inv.turned{t':Nat}{it:Up}(I:Inv X pins σ H s)(k:∀b o,b≠it->s.heap.get? b=some o->h'.get? b=some o)(hn:H it=none)(hL:it≠X.env.locals)
  (h1:it∈X.ex∨X.s₀.heap.objs.size<=it) (h2:∀x c,X.env.cells.lookup x=some c->c≠it) (h3:∀p∈X.pn++pins,p.1≠it):Inv X pins σ H {s with heap:=h',toks:=t'}:=by
 have nit:∀b u,H b=some u->b≠it:=λb u e z=>by rw[z,hn]at e;cases e
 refine I.step (g':=s.gens) (d':=s.drawn) (ch:=[it]) (λb hb=>?_) (λb o _ _ hc e _=>k b o (λz=>hc (by simp[z])) e) (λb o _ _ hc e _=>⟨o.slots,k b o (λz=>hc (by simp[z])) e⟩) (λ_ _ _ _ n=>n)
  (λb o hc e=>⟨o,k b o (λz=>hc (by simp[z])) e⟩) (λ_ _ e=>e) (λ_ _ _ e=>e) (λb ps e=>⟨#[],by rw[e];simp⟩) (λm hm=>?_) (λb u e=>?_) I.bare
 ·have e:b=it:=by simpa using hb
  subst e;exact⟨h1,hL,h2,h3⟩
 ·obtain⟨o,es,ep,ho,r⟩:=hm;exact⟨o,es,ep,k _ o (Ne.symm hL) ho,r⟩
 ·refine(I.hok b u e).stay (λc v hc q=>k c v ?_ q) (λ_ q=>q) λ_ _ q=>q
  rcases hc with z|z
  ·rw[z];exact nit b u e
  ·exact nit c _ z
theorem Inv.tok(I:Inv X pins σ H s)(t:Nat):Inv X pins σ H {s with toks:=t}:=I.un (h':=s.heap) (t':=t) Un.refl I.hok
theorem Inv.kept{t':Nat}(I:Inv X pins σ H s)(k:∀b u,s.heap.get? b=some u->h'.get? b=some u):Inv X pins σ H {s with heap:=h',toks:=t'}:=I.un (Un.kept k) (I.hok.kept k)
theorem Inv.laid{a:Up}{o:HO}{t':Nat}(I:Inv X pins σ H s)(k:∀b u,s.heap.get? b=some u->h'.get? b=some u)(hp:s.heap.objs.size<=a)(new:Zm X.prog X.w (upd H a o) h' a o) :
  Inv X pins σ (upd H a o) {s with heap:=h',toks:=t'}:=I.un (Un.laid k hp (I.hok.fresh hp)) (I.hok.laid k hp new)
theorem Inv.write{x e:Up}{o:HO}{t':Nat}(I:Inv X pins σ H s)(mu:Mut (H x))(he:e=x∨H e=some (.own x))(k:∀b u,b≠e->s.heap.get? b=some u->h'.get? b=some u)(heo:∃u,h'.get? e=some u)
  (new:Zm X.prog X.w (upd H x o) h' x o):Inv X pins σ (upd H x o) {s with heap:=h',toks:=t'}:=I.un (Un.write mu he k heo) (I.hok.write mu he k heo new)
theorem Inv.pins_of{pins':List (Up×Obj)}(I:Inv X pins σ H s)(h:∀p∈pins',s.heap.get? p.1=some p.2/\H p.1=none/\p.1≠X.env.locals/\p.1∉X.fs/\∀v,p.2.data≠.cell v):Inv X pins' σ H s:=
 ⟨I.ok,I.os,I.bare,I.base,I.loc,I.cell,I.free,I.freeC,λp hp=>(QR.mp hp).elim (λz=>I.pin p (Q8 _ z)) (h p),I.hok,I.len⟩
theorem LY{N:List Str}(hN:N.Nodup){i j:Nat}{x:Str}(a:N[i]?=some x)(b:N[j]?=some x):i=j:=by obtain⟨h1,e1⟩:=Qg.mp a;obtain⟨h2,e2⟩:=Qg.mp b;exact(List.getElem_inj hN).mp (e1.trans e2.symm)
theorem O2{M:Model}{A:Around}{E:Ul->Um->Prop}{i:Nat}{x:Str}{v:V}{u:Ul}{Q:Unit->Um->Prop}(I:Inv X pins σ H s)(hN:X.N.Nodup)(hi:X.N[i]?=some x)(hx:Loc X.env.scope x)(r:RelV v u)
  (h:∀s',Inv X pins (σ.set i (some v)) H s'->(∃a,Heap.SameBut a s.heap s'.heap/\(a=X.env.locals∨X.env.cells.lookup x=some a))->Q () s') (hf:X.fn x=true∨X.env.scope.names.lookup x=some .local:=by first|exact .inl rfl|exact .inr rfl|assumption):Ut M A (storeName X.env x u) Q E s:=by
 obtain⟨m,hn,hl⟩:=id I.loc;have hcls:(X.env.scope.kind==.class || (X.env.scope.kind==.module&&X.env.locals != X.env.globals))=false:=by rw[I.ok.kind];rfl
 have hiσ:i<σ.length:=by rw[I.len];exact(Qg.mp hi).1
 have cne:=I.cne
 have tracked:∀{a:Up}{h':Heap},(∃o,s.heap.get? a=some o/\H a=none)->Heap.SameBut a s.heap h'->HOk X.prog X.w H h':=λ{a h'} ha hs b ob e=>by
  obtain⟨_,_,hfree⟩:=ha;refine(I.hok b ob e).stay (λc w' hc q=>(hs.2 c ?_).trans q) (λ_ q=>q) λ_ _ q=>q
  rintro rfl;rcases hc with rfl|hc
  ·rw[hfree]at e;cases e
  ·rw[hfree]at hc;cases hc
 rcases hx with hk|hk
 ·refine wpAny_storeName_local hk hn (λh' hn' hs=>?_) hcls;obtain⟨oL,_,_,hoL,_⟩:=id hn;refine h _ ⟨I.ok,I.os,I.bare,⟨λb o e n hb hx=>?_,λb o e n hb hx=>?_,I.base.free,λb o e hx=>?_,I.base.tups,I.base.frzs,I.base.tbls⟩,⟨_,hn',λj y v' e1 e2 e3=>?_⟩,λy c e=>?_,I.free,I.freeC,λp hp=>?_,tracked ⟨oL,hoL,I.free⟩ hs,by simpa using I.len⟩ ⟨_,hs,.inl rfl⟩
  ·exact(hs.2 b (QN (QF (Qi e) I.ok.above))).trans (I.base.keep b o e n hb hx)
  ·obtain⟨sl,e1⟩:=I.base.slot b o e n hb hx;exact⟨sl,(hs.2 b (QN (QF (Qi e) I.ok.above))).trans e1⟩
  ·obtain⟨o',e1⟩:=I.base.there b o e hx;exact⟨o',(hs.2 b (QN (QF (Qi e) I.ok.above))).trans e1⟩
  ·by_cases hj:j=i
   ·subst hj;rw[hi]at e1;cases e1;rw[QD hiσ]at e2;cases e2;exact⟨u,r,.inl ⟨hk,by simp⟩⟩
   ·rw[Qq (Ne.symm hj)]at e2;obtain⟨u',r',q⟩:=hl j y v' e1 e2 e3;refine⟨u',r',?_⟩;rcases q with ⟨k,e⟩|⟨k,c,e,z⟩
    ·refine .inl ⟨k,?_⟩;have:y≠x:=λe=>hj (LY hN e1 (e ▸ hi))
     simp[this,e]
    ·exact .inr ⟨k,c,e,z.sameBut hs (cne y c e)⟩
  ·obtain⟨w',z⟩:=I.cell y c e;exact⟨w',z.sameBut hs (cne y c e)⟩
  ·obtain⟨e,n,ne,nf,d⟩:=I.pin p hp;exact⟨(hs.2 p.1 ne).trans e,n,ne,nf,d⟩
 ·have hfn:X.fn x=true:=by
   rcases hf with z|z
   ·exact z
   ·rw[z]at hk;cases hk
  obtain⟨c,hc⟩:=I.ok.has x (.inl hk);obtain⟨w',z⟩:=I.cell x c hc;refine wpAny_storeName_cell I.ok.kind hk hc z (λh' hc' hs=>?_);obtain⟨oc,hoc,hocd⟩:=id z;refine h {s with heap:=h'} ⟨I.ok,I.os,I.bare,⟨λb o e n hb hx=>?_,λb o e n hb hx=>?_,I.base.free,λb o e hx=>?_,I.base.tups,I.base.frzs,I.base.tbls⟩,⟨m,hn.sameBut hs (Ne.symm (cne x c hc)),λj y v' e1 e2 e3=>?_⟩,λy c' e=>?_,I.free,I.freeC,λp hp=>?_,tracked ⟨oc,hoc,I.freeC x c hc⟩ hs,by simpa using I.len⟩ ⟨c,hs,.inr hc⟩
  ·exact(hs.2 b (QN (QF (Qi e) (I.ok.cab x c hfn hc)))).trans (I.base.keep b o e n hb hx)
  ·obtain⟨sl,e1⟩:=I.base.slot b o e n hb hx;exact⟨sl,(hs.2 b (QN (QF (Qi e) (I.ok.cab x c hfn hc)))).trans e1⟩
  ·obtain⟨o',e1⟩:=I.base.there b o e hx;exact⟨o',(hs.2 b (QN (QF (Qi e) (I.ok.cab x c hfn hc)))).trans e1⟩
  ·by_cases hj:j=i
   ·subst hj;rw[hi]at e1;cases e1;rw[QD hiσ]at e2;cases e2;exact⟨u,r,.inr ⟨.inl hk,c,hc,hc'⟩⟩
   ·rw[Qq (Ne.symm hj)]at e2;obtain⟨u',r',q⟩:=hl j y v' e1 e2 e3;refine⟨u',r',?_⟩;rcases q with q|⟨k,c',e,z'⟩
    ·exact .inl q
    ·refine .inr ⟨k,c',e,z'.sameBut hs ?_⟩;rintro rfl;exact hj (LY hN e1 (I.ok.inj _ _ _ e hc ▸ hi))
  ·by_cases hcc:c'=c
   ·subst hcc;exact⟨_,hc'⟩
   ·obtain⟨w2,z2⟩:=I.cell y c' e;exact⟨w2,z2.sameBut hs hcc⟩
  ·obtain⟨e,n,ne,nf,d⟩:=I.pin p hp;refine⟨(hs.2 p.1 ?_).trans e,n,ne,nf,d⟩;intro q;rw[q,hoc]at e;have q':oc=p.2:=QQ e;exact d w' (by rw[←q'];exact hocd)
theorem OJ{M:Model}{A:Around}{E:Ul->Um->Prop}{i:Nat}{x:Str}{v:V}{u:Ul}{Q:Unit->Um->Prop}(I:Inv X pins σ H s)(hN:X.N.Nodup)(hi:X.N[i]?=some x)(hx:Loc X.env.scope x)(r:RelV v u)
  (h:∀s',Inv X pins (σ.set i (some v)) H s'->Q () s') (hf:X.fn x=true∨X.env.scope.names.lookup x=some .local:=by first|exact .inl rfl|exact .inr rfl|assumption):Ut M A (storeName X.env x u) Q E s:=
 O2 I hN hi hx r (λs' I' _=>h s' I') hf
theorem Inv.call'{s':Um}{ch:List Up}(I:Inv X pins σ H s)(ho:s'.os=s.os)(u:Un (frs X.stack) ch H H' s.heap s'.heap)(hok:HOk X.prog X.w H' s'.heap)(hg:AllBare s'.gens)
  (hch:∀b∈ch,(b∈X.ex∨X.s₀.heap.objs.size<=b)/\b≠X.env.locals/\(∀x c,X.env.cells.lookup x=some c->c≠b)/\∀p∈X.pn++pins,p.1≠b):Inv X pins σ H' s':=by
 obtain⟨h',g',d',t',o'⟩:=s';have e:o'=s.os:=ho;subst e;exact I.call (g':=g') (t':=t') (d':=d') u hok hg hch
end
abbrev XK:=Ul->Option Up->Hp->Prop
abbrev St:=List (Option V)
abbrev VK:=V->Hp->Prop
abbrev TE:=St->Hp->VK->Prop
abbrev TT:=St->Hp->(Bool->Hp->Prop)->Prop
abbrev TA:=St->Hp->(List V->Hp->Prop)->Prop
structure Ends where
 nx:St->Hp->Prop
 rt:VK
 bk:St->Hp->Prop:=λ_ _=>False
 ct:St->Hp->Prop:=λ_ _=>False
abbrev TS:=Ends->St->Hp->Prop
def EP(X:Cx)(pins:List (Up×Obj))(σ:St)(Q:VK)(u:Ul)(s':Um):Prop:=∃v H',Inv X pins σ H' s'/\RelV v u/\Q v H'
def TP(X:Cx)(pins:List (Up×Obj))(σ:St)(Q:Bool->Hp->Prop)(b:Bool)(s':Um):Prop:=∃H',Inv X pins σ H' s'/\Q b H'
def AP(X:Cx)(pins:List (Up×Obj))(σ:St)(Q:List V->Hp->Prop)(us:List Ul)(s':Um):Prop:=∃vs H',Inv X pins σ H' s'/\Vals vs us/\Q vs H'
def SP(X:Cx)(pins:List (Up×Obj))(D:Ends)(f:Flow)(s':Um):Prop:=
 match f with
 |.next=>∃σ' H',Inv X pins σ' H' s'/\D.nx σ' H'
 |.brk=>∃σ' H',Inv X pins σ' H' s'/\D.bk σ' H'
 |.cont=>∃σ' H',Inv X pins σ' H' s'/\D.ct σ' H'
 |.ret u=>∃v σ' H',Inv X pins σ' H' s'/\RelV v u/\D.rt v H'
def PE(X:Cx)(e:Ur)(t:TE):Prop:=
 ∀(pins:List (Up×Obj))(s:Um)(σ:St)(H:Hp)(Q:VK),Inv X pins σ H s->t σ H Q->Ut (model X.prog X.w) X.A (eval e X.env) (EP X pins σ Q) X.xe s
def PT(X:Cx)(e:Ur)(t:TT):Prop:=
 ∀(pins:List (Up×Obj))(s:Um)(σ:St)(H:Hp)(Q:Bool->Hp->Prop),Inv X pins σ H s->t σ H Q->Ut (model X.prog X.w) X.A (isTrue e X.env (eval e X.env)) (TP X pins σ Q) X.xe s
def PW(X:Cx)(e:Ur)(t:TT):Prop:=
 ∀(whole:Sem Ul)(pins:List (Up×Obj))(s:Um)(σ:St)(H:Hp)(Q:Bool->Hp->Prop),Inv X pins σ H s->t σ H Q->Ut (model X.prog X.w) X.A (isTrue e X.env whole) (TP X pins σ Q) X.xe s
theorem PW.pt{X:Cx}{e:Ur}{t:TT}(h:PW X e t):PT X e t:=h _
def PA(X:Cx)(es:List Ur)(t:TA):Prop:=
 ∀(pos:Pos)(pins:List (Up×Obj))(s:Um)(σ:St)(H:Hp)(Q:List V->Hp->Prop),Inv X pins σ H s->t σ H Q->Ut (model X.prog X.w) X.A (spliced (backTo pos (Uu es X.env))) (AP X pins σ Q) X.xe s
def PS(X:Cx)(st:Stmt)(t:TS):Prop:=
 ∀(pins:List (Up×Obj))(s:Um)(σ:St)(H:Hp)(D:Ends),Inv X pins σ H s->t D σ H->Ut (model X.prog X.w) X.A (exec st X.env) (SP X pins D) X.xe s
def PSs(X:Cx)(st:List Stmt)(t:TS):Prop:=
 ∀(pins:List (Up×Obj))(s:Um)(σ:St)(H:Hp)(D:Ends),Inv X pins σ H s->t D σ H->Ut (model X.prog X.w) X.A (execs st X.env) (SP X pins D) X.xe s
theorem thn{α:Type}{t:Sem α}{Q Q':α->Um->Prop}{M:Model}{A:Around}{E:Ul->Um->Prop}{s:Um}(h:Ut M A t Q E s)(hQ:∀a s,Q a s->Q' a s):Ut M A t Q' E s:=QH h hQ λ_ _ x=>x
section
variable{X:Cx}
noncomputable def Za(i:Nat):TE:=λσ H Q=>∃v,σ[i]?=some (some v)/\Q v H
noncomputable def tC(v:V):TE:=λ_ H Q=>Q v H
theorem N7{i:Nat}{x:Str}{pos:Pos}(hN:X.N[i]?=some x)(hv:Vis X.env.scope x)(hd:(x==("__debug__" : Str))=false:=by decide)(hcd:(x==("__classdict__" : Str))=false:=by decide):PE X (.Name x pos) (Za i):=by
 intro pins s σ H Q I h;obtain⟨v,e,h⟩:=h;obtain⟨m,hn,hl⟩:=I.loc;obtain⟨u,r,l⟩:=hl i x v hN e hv;have fin:EP X pins σ Q u s:=⟨v,H,I,r,h⟩;rcases l with ⟨hk,hm⟩|⟨hk,c,hc,hcell⟩
 ·exact wpAny_Name (wpAny_loadName_local I.ok.kind hk hn hm fin) hd
 ·rcases hk with hk|hk
  ·exact wpAny_Name (wpAny_loadName_cell I.ok.kind hk hc hcell fin) hd
  ·exact wpAny_Name (wpAny_loadName_free I.ok.kind hk hc hcell fin hcd) hd
theorem Ds{i j pos}:PE X (.Constant (.int i) j pos) (tC (.int i)):=λ_ _ _ H _ I h=>wpAny_Constant_int ⟨.int i,H,I.tok _,⟨_,rfl⟩,h⟩
theorem Fd{b j pos}:PE X (.Constant (.bool b) j pos) (tC (.bl b)):=λ_ _ _ H _ I h=>Constant_bool ⟨.bl b,H,I,rfl,h⟩
theorem Dr{j pos}:PE X (.Constant .none j pos) (tC .non):=λ_ _ _ H _ I h=>Constant_none ⟨.non,H,I,rfl,h⟩
theorem Dq{x j pos}:PE X (.Constant (.str x) j pos) (tC (.str x)):=λ_ _ _ H _ I h=>Calls.Constant_str ⟨.str x,H,I.tok _,⟨_,rfl⟩,h⟩
def Gl(X:Cx)(x:Str):Prop:=X.env.kindOf x=some .globalImplicit
theorem Lg{E:Ul->Um->Prop}{pins:List (Up×Obj)}{s:Um}{σ:St}{H:Hp}{x:Str}{u:Ul}{pos:Pos}{Q:Ul->Um->Prop}(I:Inv X pins σ H s)(hg:Gl X x)(hm:X.mg x=some u)(h:Q u s)
  (hd:(x==("__debug__" : Str))=false:=by decide):Ut (model X.prog X.w) X.A (eval (.Name x pos) X.env) Q E s:=
 Calls.Name_function_global I.ok.kind hg (Calls.loadGlobal_global (by rw[I.ok.glob];exact I.mod.glob.keeps I.bk) hm h) hd
theorem Vp{E:Ul->Um->Prop}{pins:List (Up×Obj)}{s:Um}{σ:St}{H:Hp}{x:Str}{u:Ul}{pos:Pos}{Q:Ul->Um->Prop}(I:Inv X pins σ H s)(hg:Gl X x)(hm:X.mg x=none)(hv:bootBuiltins x=some u)(h:Q u s)
  (hn:x ≠ "__name__" :=by decide) (hd:(x==("__debug__" : Str))=false:=by decide):Ut (model X.prog X.w) X.A (eval (.Name x pos) X.env) Q E s:=by
 obtain⟨mb,h1,h2⟩:=I.mod.blt;exact Calls.Name_function_global I.ok.kind hg (Calls.loadGlobal_builtin (by rw[I.ok.glob];exact I.mod.glob.keeps I.bk) hm (by rw[I.ok.blt];exact h1.keeps I.bk) ((h2 x hn).trans hv) h) hd
theorem Lf{x:Str}{v:V}{u:Ul}{pos:Pos}(hg:Gl X x)(hm:X.mg x=some u)(r:RelV v u)(hd:(x==("__debug__" : Str))=false:=by decide):PE X (.Name x pos) (tC v):=
 λ_ _ _ H _ I h=>Lg I hg hm ⟨v,H,I,r,h⟩ hd
theorem D5{x:Str}{v:V}{u:Ul}{pos:Pos}(hg:Gl X x)(hm:X.mg x=none)(hv:bootBuiltins x=some u)(r:RelV v u)(hn:x ≠ "__name__" :=by decide)(hd:(x==("__debug__" : Str))=false:=by decide):PE X (.Name x pos) (tC v):=
 λ_ _ _ H _ I h=>Vp I hg hm hv ⟨v,H,I,r,h⟩ hn hd
variable{a b:Ur}{ta tb:TE}{pos:Pos}
def PC(X:Cx)(op:CmpOp)(a b:Ur)(t:TE):Prop:=
 ∀(pins:List (Up×Obj))(s:Um)(σ:St)(H:Hp)(Q:VK),Inv X pins σ H s->t σ H Q ->
  Ut (model X.prog X.w) X.A (eval a X.env) (λv s₁=>Ut (model X.prog X.w) X.A (eval b X.env) (λu s₂=>Ut (model X.prog X.w) X.A (Uv op v u) (EP X pins σ Q) X.xe s₂) X.xe s₁) X.xe s
theorem LX(b:Ur){op:CmpOp}(h:op≠.In)(h2:op≠.NotIn):behindInMarks op b=false:=by
 have e1:(op==CmpOp.In)=false:=by cases op<;>first|rfl|exact absurd rfl h
 have e2:(op==CmpOp.NotIn)=false:=by cases op<;>first|rfl|exact absurd rfl h2
 cases b<;>simp[behindInMarks,e1,e2]
noncomputable def tIsN(ta:TE):TE:=λσ H Q=>ta σ H λx H1=>Q (.bl (decide (x=.non))) H1
noncomputable def Fc(ta:TE):TE:=λσ H Q=>ta σ H λx H1=>Q (.bl (!decide (x=.non))) H1
theorem RelV.none_iff{x:V}{v:Ul}(r:RelV x v):(v==Value.none)=decide (x=.non):=by
 cases x with
 |non=>cases r;rfl
 |bl _=>cases r;rfl
 |int _=>obtain⟨t,rfl⟩:=r;rfl
 |str _=>obtain⟨t,rfl⟩:=r;rfl
 |byt _=>obtain⟨t,rfl⟩:=r;rfl
 |flt _=>obtain⟨t,rfl⟩:=r;rfl
 |ref _=>cases r;rfl
 |ty _=>cases r;rfl
theorem N6{j pos'}(ha:PE X a ta):PC X .Is a (.Constant .none j pos') (tIsN ta):=by intro pins s σ H Q I h;refine thn (ha pins s σ H _ I h) λv s1 ⟨x,H1,I1,r1,q1⟩=>?_;exact Constant_none (is_none_gen ⟨.bl _,H1,I1,by rw[r1.none_iff];rfl,q1⟩)
theorem D4{j pos'}(ha:PE X a ta):PC X .IsNot a (.Constant .none j pos') (Fc ta):=by intro pins s σ H Q I h;refine thn (ha pins s σ H _ I h) λv s1 ⟨x,H1,I1,r1,q1⟩=>?_;exact Constant_none (isnot_none_gen ⟨.bl _,H1,I1,by rw[r1.none_iff];rfl,q1⟩)
noncomputable def tB(t:TE):TT:=λσ H Q=>t σ H λx H1=>∃c,x=.bl c/\Q c H1
theorem Dp{op:CmpOp}{t:TE}(h:PC X op a b t)(h1:behindInMarks op b=false:=by first|exact LX _ (by decide) (by decide)|rfl):PE X (.Compare a [op] [b] pos) t:=λpins s σ H Q I hw=>wpAny_Compare1 (h pins s σ H Q I hw) h1
theorem N5{op:CmpOp}{t:TE}(h:PC X op a b t)(h1:behindInMarks op b=false:=by first|exact LX _ (by decide) (by decide)|rfl):PT X (.Compare a [op] [b] pos) (tB t):=by intro pins s σ H Q I hw;refine wpAny_isTrue_Compare1 (thn (h pins s σ H _ I hw) λv s1 h1=>thn h1 λu s2 h2=>thn h2 λc s3 ⟨x,H1,I1,r1,q1⟩=>?_) h1;obtain⟨d,rfl,q⟩:=q1;cases r1;exact Q3 ⟨H1,I1,q⟩
theorem Do{e:Ur}{t:TE}(h:PE X e t)(he:∀whole,isTrue e X.env whole=(do let v ←whole;standAt e.pos;holding [v] (truthy v)):=by intro _;rfl):PT X e (tB t):=by intro pins s σ H Q I hw;refine isTrue_plain (thn (h pins s σ H _ I hw) λv s1 ⟨x,H1,I1,r1,q1⟩=>?_) (he _);obtain⟨d,rfl,q⟩:=q1;cases r1;exact Q3 ⟨H1,I1,q⟩
variable{tA tB':TT}{rest:List Ur}
noncomputable def tAnd(t u:TT):TT:=λσ H Q=>t σ H λc H1=>if c=true then u σ H1 Q else Q false H1
noncomputable def tOr(t u:TT):TT:=λσ H Q=>t σ H λc H1=>if c=true then Q true H1 else u σ H1 Q
noncomputable def tNot(t:TT):TT:=λσ H Q=>t σ H λc H1=>Q (!c) H1
theorem D3(ha:PT X a tA):PW X (.BoolOp .And [a] pos) tA:=by
 intro wh pins s σ H Q I h;refine isTrue_and (thn (ha pins s σ H Q I h) λc s1 e=>?_);cases c with
 |true=>exact isTrue_and_nil e
 |false=>exact e
theorem DU(ha:PT X a tA):PW X (.BoolOp .Or [a] pos) tA:=by
 intro wh pins s σ H Q I h;refine isTrue_or (thn (ha pins s σ H Q I h) λc s1 e=>?_);cases c with
 |false=>exact isTrue_or_nil e
 |true=>exact e
theorem DT(ha:PT X a tA)(hb:PW X (.BoolOp .And (b::rest) pos) tB'):PW X (.BoolOp .And (a::b::rest) pos) (tAnd tA tB'):=by
 intro wh pins s σ H Q I h;refine isTrue_and (thn (ha pins s σ H _ I h) λc s1 ⟨H1,I1,q1⟩=>?_);cases c with
 |true=>exact hb wh pins s1 σ H1 Q I1 q1
 |false=>exact⟨H1,I1,q1⟩
theorem Fb(ha:PT X a tA)(hb:PW X (.BoolOp .Or (b::rest) pos) tB'):PW X (.BoolOp .Or (a::b::rest) pos) (tOr tA tB'):=by
 intro wh pins s σ H Q I h;refine isTrue_or (thn (ha pins s σ H _ I h) λc s1 ⟨H1,I1,q1⟩=>?_);cases c with
 |true=>exact⟨H1,I1,q1⟩
 |false=>exact hb wh pins s1 σ H1 Q I1 q1
theorem DS(ha:PT X a tA):PT X (.UnaryOp .Not a pos) (tNot tA):=by intro pins s σ H Q I h;exact isTrue_not (ha pins s σ H (λc H1=>Q (!c) H1) I h)
noncomputable def Fa(ta tb:TE):TE:=λσ H Q=>ta σ H λx H1=>∃c,x=.bl c/\if c=true then tb σ H1 Q else Q (.bl false) H1
noncomputable def tOrV(ta tb:TE):TE:=λσ H Q=>ta σ H λx H1=>∃c,x=.bl c/\if c=true then Q (.bl true) H1 else tb σ H1 Q
noncomputable def GZ(ta:TE):TE:=λσ H Q=>ta σ H λx H1=>∃c,x=.bl c/\Q (.bl (!c)) H1
theorem DR{op}{t:TE}(h:PE X a t):PE X (.BoolOp op [a] pos) t:=λpins s σ H Q I hw=>BoolOp_one (h pins s σ H Q I hw)
theorem DQ(ha:PE X a ta)(hb:PE X (.BoolOp .And (b::rest) pos) tb):PE X (.BoolOp .And (a::b::rest) pos) (Fa ta tb):=by
 intro pins s σ H Q I h;refine BoolOp_and (thn (ha pins s σ H _ I h) λv s1 ⟨x,H1,I1,r1,q1⟩=>?_);obtain⟨c,rfl,q1⟩:=q1;cases r1;refine Q3 ?_;cases c with
 |true=>exact hb pins s1 σ H1 Q I1 q1
 |false=>exact⟨.bl false,H1,I1,rfl,q1⟩
theorem GY(ha:PE X a ta)(hb:PE X (.BoolOp .Or (b::rest) pos) tb):PE X (.BoolOp .Or (a::b::rest) pos) (tOrV ta tb):=by
 intro pins s σ H Q I h;refine BoolOp_or (thn (ha pins s σ H _ I h) λv s1 ⟨x,H1,I1,r1,q1⟩=>?_);obtain⟨c,rfl,q1⟩:=q1;cases r1;refine Q3 ?_;cases c with
 |false=>exact hb pins s1 σ H1 Q I1 q1
 |true=>exact⟨.bl true,H1,I1,rfl,q1⟩
theorem DP(ha:PE X a ta):PE X (.UnaryOp .Not a pos) (GZ ta):=by intro pins s σ H Q I h;refine UnaryOp_ (thn (ha pins s σ H _ I h) λv s1 ⟨x,H1,I1,r1,q1⟩=>?_);obtain⟨c,rfl,q1⟩:=q1;cases r1;exact not_of (Q3 ⟨.bl (!c),H1,I1,rfl,q1⟩)
noncomputable def tIf(t:TT)(ta tb:TE):TE:=λσ H Q=>t σ H λc H1=>if c=true then ta σ H1 Q else tb σ H1 Q
theorem Bq{c:Ur}(hc:PT X c tA)(ha:PE X a ta)(hb:PE X b tb):PE X (.IfExp c a b pos) (tIf tA ta tb):=by
 intro pins s σ H Q I h;refine wpAny_IfExp (thn (hc pins s σ H _ I h) λd s1 ⟨H1,I1,q1⟩=>?_);cases d with
 |true=>exact ha pins s1 σ H1 Q I1 q1
 |false=>exact hb pins s1 σ H1 Q I1 q1
end
def SqL(K:Frag)(H:Hp)(a:Up)(xs:List V):Prop:=
 Rd H a (.lst xs) ∨
  ∃(o:Obj)(its:Array Ul)(n:Nat),K.lookup a=some o/\o.cls=.type "list" /\ o.dict=none/\o.data=.seq its n/\its.size<=Us/\Vals xs its.toList
def SqT(K:Frag)(H:Hp)(a:Up)(xs:List V):Prop:=
 Rd H a (.tup xs) ∨
  ∃(o:Obj)(its:Array Ul)(n:Nat),K.lookup a=some o/\o.cls=.type "tuple" /\ o.data=.seq its n/\its.size<=Us/\Vals xs its.toList
noncomputable def absV:Ul->Option V
 |.none=>some .non
 |.bool b=>some (.bl b)
 |.int i _=>some (.int i)
 |.str x _=>some (.str x)
 |.bytes b _=>some (.byt b)
 |.float b _=>some (.flt b)
 |.ref a=>some (.ref a)
 |.type n=>some (.ty n)
 |_=>none
theorem RelV.abs{x:V}{u:Ul}(r:RelV x u):absV u=some x:=by
 cases x with
 |non=>cases r;rfl
 |bl _=>cases r;rfl
 |int _=>obtain⟨t,rfl⟩:=r;rfl
 |str _=>obtain⟨t,rfl⟩:=r;rfl
 |byt _=>obtain⟨t,rfl⟩:=r;rfl
 |flt _=>obtain⟨t,rfl⟩:=r;rfl
 |ref _=>cases r;rfl
 |ty _=>cases r;rfl
theorem RelV.inj{x y:V}{u:Ul}(r:RelV x u)(q:RelV y u):x=y:=QQ (r.abs.symm.trans q.abs)
theorem Vals.inj:∀{xs ys:List V}{us:List Ul},Vals xs us->Vals ys us->xs=ys
 |_,_,_,.nil,.nil=>rfl
 |_,_,_,.cons r t,.cons r' t'=>by rw[r.inj r',Vals.inj t t']
section
variable{X:Cx}{pins:List (Up×Obj)}{σ:St}{H:Hp}{s:Um}{a:Up}{xs ys:List V}
theorem SqL.of{K:Frag}(h:H a=some (.lst xs)):SqL K H a xs:=.inl (.inl h)
theorem SqT.of{K:Frag}(h:H a=some (.tup xs)):SqT K H a xs:=.inl (.inl h)
theorem Inv.list(I:Inv X pins σ H s)(h:SqL X.K H a xs):∃its:List Ul,Vals xs its/\PlainL s.heap a its.toArray/\xs.length<=Us:=by
 rcases h with h|⟨o,its,n,hk,hc,hd,hs,hz,r⟩
 ·obtain⟨z,its,n,r,e⟩:=h.ok I.hok;exact⟨its,r,⟨_,n,e,rfl,rfl,rfl⟩,z⟩
 ·refine⟨its.toList,r,⟨o,n,I.kIn a o hk,hc,hd,by simpa using hs⟩,?_⟩;have e:=r.length;simp only[Jh]at e;omega
theorem Inv.tuple(I:Inv X pins σ H s)(h:SqT X.K H a xs):∃its:List Ul,Vals xs its/\IsTup s.heap a its.toArray/\xs.length<=Us:=by
 rcases h with h|⟨o,its,n,hk,hc,hs,hz,r⟩
 ·obtain⟨z,its,r,p⟩:=h.ok I.hok;exact⟨its,r,p,z⟩
 ·refine⟨its.toList,r,⟨o,I.kIn a o hk,hc,n,by simpa using hs⟩,?_⟩;have e:=r.length;simp only[Jh]at e;omega
theorem Inv.list_inj(I:Inv X pins σ H s)(h:SqL X.K H a xs)(h':SqL X.K H a ys):xs=ys:=by
 obtain⟨its,r,⟨o,n,e,_,_,d⟩,_⟩:=I.list h;obtain⟨its',r',⟨o',n',e',_,_,d'⟩,_⟩:=I.list h';rw[e]at e';cases e';rw[d]at d';injection d' with d1 _
 have:its=its':=by simpa using congrArg Array.toList d1
 subst this;exact r.inj r'
theorem Inv.tuple_inj(I:Inv X pins σ H s)(h:SqT X.K H a xs)(h':SqT X.K H a ys):xs=ys:=by
 obtain⟨its,r,⟨o,e,_,n,d⟩,_⟩:=I.tuple h;obtain⟨its',r',⟨o',e',_,n',d'⟩,_⟩:=I.tuple h';rw[e]at e';cases e';rw[d]at d';injection d' with d1 _
 have:its=its':=by simpa using congrArg Array.toList d1
 subst this;exact r.inj r'
end
noncomputable abbrev Cx.wish(X:Cx)(E:Ul->Um->Prop):Cx:={X with xe:=E}
noncomputable abbrev Cx.nox(X:Cx):Cx:=X.wish λ_ _=>False
theorem Cx.Ok.wish{X:Cx}(ok:X.Ok)(E:Ul->Um->Prop):(X.wish E).Ok:=
 ⟨ok.mod,ok.kind,ok.glob,ok.blt,ok.above,ok.inj,ok.has,ok.cab,ok.hd,ok.frames,ok.stk,ok.exf,ok.bs,ok.bsz,ok.noex,ok.exfs,ok.funs,ok.frf⟩
theorem Cx.Ok.unwish{X:Cx}{E:Ul->Um->Prop}(ok:(X.wish E).Ok):X.Ok:=
 ⟨ok.mod,ok.kind,ok.glob,ok.blt,ok.above,ok.inj,ok.has,ok.cab,ok.hd,ok.frames,ok.stk,ok.exf,ok.bs,ok.bsz,ok.noex,ok.exfs,ok.funs,ok.frf⟩
section
variable{X:Cx}{pins:List (Up×Obj)}{σ:St}{H:Hp}{s:Um}{E:Ul->Um->Prop}
theorem Inv.wish(I:Inv X pins σ H s)(E:Ul->Um->Prop):Inv (X.wish E) pins σ H s:=⟨I.ok.wish E,I.os,I.bare,I.base,I.loc,I.cell,I.free,I.freeC,I.pin,I.hok,I.len⟩
theorem Inv.unwish(I:Inv (X.wish E) pins σ H s):Inv X pins σ H s:=⟨I.ok.unwish,I.os,I.bare,I.base,I.loc,I.cell,I.free,I.freeC,I.pin,I.hok,I.len⟩
theorem SP.unwish{D:Ends}{f:Flow}{s':Um}(h:SP (X.wish E) pins D f s'):SP X pins D f s':=by
 cases f with
 |next=>obtain⟨σ',H',I,q⟩:=h;exact⟨σ',H',I.unwish,q⟩
 |brk=>obtain⟨σ',H',I,q⟩:=h;exact⟨σ',H',I.unwish,q⟩
 |cont=>obtain⟨σ',H',I,q⟩:=h;exact⟨σ',H',I.unwish,q⟩
 |ret u=>obtain⟨v,σ',H',I,r,q⟩:=h;exact⟨v,σ',H',I.unwish,r,q⟩
theorem PSs.nox{st:List Stmt}{t:TS}(h:PSs X.nox st t):PSs X st t:=λpins s σ H D I hw=>
 QH (h pins s σ H D (I.wish _) hw) (λ_ _ q=>q.unwish) λ_ _ z=>False.elim z
end
section
variable{X:Cx}{st:Stmt}{rest:List Stmt}{t u:TS}{e:Ur}{te:TE}{pos:Pos}
noncomputable def GX:TS:=λD σ H=>D.nx σ H
noncomputable def tSeq(t u:TS):TS:=λD σ H=>t {D with nx:=u D} σ H
theorem D2:PSs X [] GX:=λ_ _ σ H _ I h=>wpAny_execs_nil ⟨σ,H,I,h⟩
theorem OI(h1:PS X st t)(h2:PSs X rest u):PSs X (st::rest) (tSeq t u):=by
 intro pins s σ H D I h;refine wpAny_execs_cons (thn (h1 pins s σ H {D with nx:=u D} I h) λf s1 q=>?_);cases f with
 |next=>obtain⟨σ',H',I',q⟩:=q;exact h2 pins s1 σ' H' D I' q
 |ret v=>exact q
 |brk=>exact q
 |cont=>exact q
theorem Oo(h1:PS X st t):PSs X [st] t:=by
 intro pins s σ H D I h;refine wpAny_execs_cons (thn (h1 pins s σ H D I h) λf s1 q=>?_);cases f with
 |next=>exact wpAny_execs_nil q
 |ret v=>exact q
 |brk=>exact q
 |cont=>exact q
theorem Inv.quiet{pins:List (Up×Obj)}{σ:St}{H:Hp}{s:Um}(I:Inv X pins σ H s):interactive X.env=false:=by simp[interactive,I.ok.kind]
noncomputable def GW(te:TE):TS:=λD σ H=>te σ H λ_ H1=>D.nx σ H1
theorem On(he:PE X e te)(hs:swapsWith e none pos.line X.env=pure false:=by rfl):PS X (.Expr e pos) (GW te):=by intro pins s σ H D I h;exact wpAny_Expr_any (thn (he pins s σ H _ I h) λv s1 ⟨x,H1,I1,r1,q1⟩=>⟨σ,H1,I1,q1⟩) I.quiet hs
noncomputable def tRet(te:TE):TS:=λD σ H=>te σ H D.rt
theorem N4(he:PE X e te):PS X (.Return (some e) pos) (tRet te):=by intro pins s σ H D I h;exact wpAny_Return_some (thn (he pins s σ H _ I h) λv s1 ⟨x,H1,I1,r1,q1⟩=>⟨x,σ,H1,I1,r1,q1⟩)
noncomputable def tIfS(c:TT)(t u:TS):TS:=λD σ H=>c σ H λb H1=>if b=true then t D σ H1 else u D σ H1
theorem FY{c:Ur}{a b:List Stmt}{tc:TT}(hc:PT X c tc)(ha:PSs X a t)(hb:PSs X b u):PS X (.If c a b pos) (tIfS tc t u):=by
 intro pins s σ H D I h;refine wpAny_If (thn (hc pins s σ H _ I h) λd s1 ⟨H1,I1,q1⟩=>?_);cases d with
 |true=>exact ha pins s1 σ H1 D I1 q1
 |false=>exact hb pins s1 σ H1 D I1 q1
end
abbrev TG:=V->St->Hp->(St->Hp->Prop)->Prop
abbrev TGs:=List V->St->Hp->(St->Hp->Prop)->Prop
def PG(X:Cx)(target:Ur)(t:TG):Prop:=
 ∀(pins:List (Up×Obj))(s:Um)(σ:St)(H:Hp)(v:V)(u:Ul)(Q:St->Hp->Prop),Inv X pins σ H s->RelV v u->t v σ H Q ->
  Ut (model X.prog X.w) X.A (assign target X.env u) (λ_ s'=>∃σ' H',Inv X pins σ' H' s'/\Q σ' H') X.xe s
def PGs(X:Cx)(ts:List Ur)(t:TGs):Prop:=
 ∀(pins:List (Up×Obj))(s:Um)(σ:St)(H:Hp)(vs:List V)(us:List Ul)(Q:St->Hp->Prop),Inv X pins σ H s->Vals vs us->t vs σ H Q ->
  Ut (model X.prog X.w) X.A (assignInOrder ((UJ ts X.env).map (·.2)) us) (λ_ s'=>∃σ' H',Inv X pins σ' H' s'/\Q σ' H') X.xe s
abbrev TIp:=V->V->Hp->VK->Prop
def PIp(X:Cx)(op:Operator)(t:TIp):Prop:=
 ∀(pins:List (Up×Obj))(s:Um)(σ:St)(H:Hp)(x y:V)(v u:Ul)(Q:VK),Inv X pins σ H s->RelV x v->RelV y u->t x y H Q ->
  Ut (model X.prog X.w) X.A (inplaceOp op v u) (EP X pins σ Q) X.xe s
section
variable{X:Cx}{pos:Pos}
noncomputable def PV(i:Nat):TG:=λv σ H Q=>Q (σ.set i (some v)) H
theorem XA{i:Nat}{x:Str}(hN:X.N.Nodup)(hi:X.N[i]?=some x)(hx:Loc X.env.scope x)(hf:X.fn x=true∨X.env.scope.names.lookup x=some .local:=by first|exact .inl rfl|exact .inr rfl|assumption):PG X (.Name x pos) (PV i):=by intro pins s σ H v u Q I r h;exact wpAny_assign_Name (OJ I hN hi hx r (λs' I'=>⟨_,H,I',h⟩) hf)
noncomputable def gNil:TGs:=λvs σ H Q=>vs=[]/\Q σ H
noncomputable def FX(t:TG)(u:TGs):TGs:=λvs σ H Q=>∃v r,vs=v::r/\t v σ H λσ' H'=>u r σ' H' Q
theorem Le:PGs X [] gNil:=by intro pins s σ H vs us Q I r h;obtain⟨e,h⟩:=h;subst e;cases r;exact assignInOrder_nil ⟨σ,H,I,h⟩
theorem OH{e:Ur}{es:List Ur}{t:TG}{u:TGs}(h1:PG X e t)(h2:PGs X es u)
  (hs:(UJ (e::es) X.env).map (·.2)=assign e X.env::(UJ es X.env).map (·.2):=by rfl):PGs X (e::es) (FX t u):=by
 intro pins s σ H vs us Q I r h;obtain⟨v,vr,e1,h⟩:=h;subst e1;cases r with
 |cons r rr=>rw[hs];refine assignInOrder_cons (thn (h1 pins s σ H _ _ _ I r h) λ_ s1 ⟨σ1,H1,I1,q1⟩=>?_);exact h2 pins s1 σ1 H1 _ _ Q I1 rr q1
noncomputable def gTup(K:Frag)(n:Nat)(t:TGs):TG:=λv σ H Q=>∃a xs,v=.ref a/\SqT K H a xs/\xs.length=n/\t xs σ H Q
theorem N3{es:List Ur}{k:Nat}{t:TGs}{n:Nat}(hc:X.calm=true)(h:PGs X es t)
  (hn:(UJ es X.env).length=n:=by rfl) (hst:(UJ es X.env).findIdx? (·.1)=none:=by rfl):PG X (.Tuple es k pos) (gTup X.K n t):=by
 intro pins s σ H v u Q I r hw;obtain⟨a,xs,e1,hq,hl,hw⟩:=hw;subst e1;cases r;obtain⟨its,rv,ht,hz⟩:=I.tuple hq;refine assign_Tuple_tuple (I.ok.hd hc) ht (by simp[hn,←hl,rv.length]) hst λh' hx=>?_
 have I1:Inv X pins σ H {s with heap:=h'}:=I.kept (t':=s.toks) λb o e=>hx b o (QN (Qi e)) e;exact h pins _ σ H xs _ Q I1 (by simpa using rv) hw
noncomputable def tAsg(te:TE)(g:TG):TS:=λD σ H=>te σ H λx H1=>g x σ H1 D.nx
theorem DO{tg e:Ur}{te:TE}{g:TG}(he:PE X e te)(hg:PG X tg g)(hs:swapsWithSole [tg] e pos.line X.env=pure false:=by rfl)(hw:swappedStores [tg] e X.env=pure none:=by rfl)
  (h1:(UJ [tg] X.env).map (·.2)=[assign tg X.env]:=by rfl):PS X (.Assign [tg] e pos) (tAsg te g):=by
 intro pins s σ H D I h;refine wpAny_Assign_stores (thn (he pins s σ H _ I h) λv s1 ⟨x,H1,I1,r1,q1⟩=>?_) hs hw;rw[h1];exact thn (hg pins s1 σ H1 x v _ I1 r1 q1) λ_ s2 q=>q
theorem P9{i:Nat}{x:Str}{e:Ur}{te:TE}{pos':Pos}(hN:X.N.Nodup)(hi:X.N[i]?=some x)(hx:Loc X.env.scope x)(he:PE X e te)(hs:swapsWith e (some (.Name x pos')) pos.line X.env=pure false:=by rfl)(hf:X.fn x=true∨X.env.scope.names.lookup x=some .local:=by first|exact .inl rfl|exact .inr rfl|assumption) :
  PS X (.Assign [.Name x pos'] e pos) (tAsg te (PV i)):=by
 intro pins s σ H D I h;refine wpAny_Assign_Name (thn (he pins s σ H _ I h) λv s1 ⟨y,H1,I1,r1,q1⟩=>?_) hs;exact OJ I1 hN hi hx r1 (λs2 I2=>⟨_,H1,I2,q1⟩) hf
noncomputable def tAug(i:Nat)(te:TE)(ti:TIp):TS:=λD σ H=>∃x,σ[i]?=some (some x)/\te σ H λy H1=>ti x y H1 λz H2=>D.nx (σ.set i (some z)) H2
theorem DN{i:Nat}{x:Str}{e:Ur}{te:TE}{op:Operator}{ti:TIp}{pos':Pos}(hN:X.N.Nodup)(hi:X.N[i]?=some x)(hx:Loc X.env.scope x)(he:PE X e te)(ho:PIp X op ti)(hf:X.fn x=true∨X.env.scope.names.lookup x=some .local:=by first|exact .inl rfl|exact .inr rfl|assumption) :
  PS X (.AugAssign (.Name x pos') op e pos) (tAug i te ti):=by
 intro pins s σ H D I h;obtain⟨v,e1,h⟩:=h;obtain⟨m,hn,hl⟩:=I.loc;have vis:Vis X.env.scope x:=by rcases hx with k|k;exact .inl k;exact .inr (.inl k)
 obtain⟨u,r,l⟩:=hl i x v hi e1 vis;refine wpAny_AugAssign_Name ?_;have go:Ut (model X.prog X.w) X.A (eval e X.env) (λw s₂=>Ut (model X.prog X.w) X.A (inplaceOp op u w) (λr s₃=>Ut (model X.prog X.w) X.A (storeName X.env x r) (λ_=>SP X pins D .next) X.xe s₃) X.xe s₂) X.xe s:=by refine thn (he pins s σ H _ I h) λw s1 ⟨y,H1,I1,r1,q1⟩=>?_;refine thn (ho pins s1 σ H1 v y u w _ I1 r r1 q1) λz s2 ⟨zv,H2,I2,r2,q2⟩=>?_;exact OJ I2 hN hi hx r2 (λs3 I3=>⟨_,H2,I3,q2⟩) hf
 rcases l with ⟨hk,hm⟩|⟨hk,c,hc,hcell⟩
 ·exact wpAny_loadName_local I.ok.kind hk hn hm go
 ·rcases hk with hk|hk
  ·exact wpAny_loadName_cell I.ok.kind hk hc hcell go
  ·rcases hx with k|k
   ·have:X.env.scope.names.lookup x=some .free:=hk;rw[k]at this;cases this
   ·have:X.env.scope.names.lookup x=some .free:=hk;rw[k]at this;cases this
end
section
variable{X:Cx}{pos:Pos}
noncomputable def DM(c:TT)(tb:TS):TS:=λD σ H=>∃W:Nat->St->Hp->Prop,(∃m,W m σ H)/\∀m σ H,W m σ H ->
 c σ H λb H1=>if b=true then ∃N:St->Hp->Prop,(∀σ' H',N σ' H'->∃m',m'<m/\W m' σ' H')/\tb {D with nx:=N,ct:=N,bk:=D.nx} σ H1 else D.nx σ H1
theorem Bp{c:Ur}{body:List Stmt}{tc:TT}{tb:TS}(hp:PassesOwn (model X.prog X.w) X.A X.env X.xe)(hc:PT X c tc)(hb:PSs X body tb):PS X (.While c body [] pos) (DM tc tb):=by
 intro pins s σ H D I h;obtain⟨W,⟨m0,w0⟩,turn⟩:=h;refine wpAny_While (codeAny_whileLoop (λn s'=>∃σ' H',Inv X pins σ' H' s'/\W n σ' H') ?_ m0 ⟨σ,H,I,w0⟩);rintro n s1 ⟨σ1,H1,I1,w1⟩;refine Jt hp (thn (hc pins s1 σ1 H1 _ I1 (turn n σ1 H1 w1)) λb s2 ⟨H2,I2,q2⟩=>?_);cases b with
 |true=>
  obtain⟨N,hN,q2⟩:=q2;rw[Qp rfl];refine Jt hp (thn (hb pins s2 σ1 H2 _ I2 q2) λf s3 q3=>?_);cases f with
  |next=>obtain⟨σ3,H3,I3,n3⟩:=q3;obtain⟨m',hm,w3⟩:=hN σ3 H3 n3;exact⟨m',hm,σ3,H3,I3,w3⟩
  |cont=>obtain⟨σ3,H3,I3,n3⟩:=q3;obtain⟨m',hm,w3⟩:=hN σ3 H3 n3;exact⟨m',hm,σ3,H3,I3,w3⟩
  |brk=>exact q3
  |ret v=>exact q3
 |false=>rw[QB Jl];exact wpAny_execs_nil ⟨σ1,H2,I2,q2⟩
end
structure It where
 go:Nat->Hp->Prop
 yld:Nat->Hp->V->Hp->Prop
 stop:Nat->Hp->Prop
def Zw(X:Cx)(pins:List (Up×Obj))(H:Hp)(b:Up):Prop:=
 H b=none/\b≠X.env.locals/\b∉X.fs/\(b∈X.ex∨X.s₀.heap.objs.size<=b)/\(∀x c,X.env.cells.lookup x=some c->c≠b)/\∀p∈X.pn++pins,p.1≠b
theorem Inv.fpOk{X:Cx}{pins:List (Up×Obj)}{σ:St}{H H':Hp}{s:Um}{b:Up}(I:Inv X pins σ H s)(hb:s.heap.objs.size<=b)(hn:H' b=none):Zw X pins H' b:=by
 refine⟨hn,JR (QF I.lt hb),I.nofs hb,.inr (QT I.sz hb),λx c e z=>?_,λp hp z=>?_⟩
 ·obtain⟨v,q⟩:=I.cell x c e;exact absurd (QF q.lt (by rw[z];exact hb)) (Jo _)
 ·exact absurd (QF (Qi (I.pin p hp).1) (by rw[z];exact hb)) (Jo _)
structure Turn(P:Uo)(w:World)(K:Frag)(tg:Ur)(J:It)(fp:List Up)(it:Up)(tn:Nat->Heap->Prop):Prop where
 mem:it∈fp
 obj:∀i h,tn i h->∀b∈fp,∃o,h.get? b=some o/\∀v,o.data≠.cell v
 keep:∀i h h',tn i h->(∀b∈fp,∀o,h.get? b=some o->h'.get? b=some o)->tn i h'
 item:∀(X:Cx),X.prog=P->X.w=w->X.K=K->X.calm=true->∀(i:Nat)(pins:List (Up×Obj))(s:Um)(σ:St)(H:Hp)(E:Ul->Um->Prop),Inv X pins σ H s->(∀b∈fp,Zw X pins H b)->tn i s.heap->J.go i H ->
  Ut (model P w) X.A (pyNext (.ref it)) (λr s1=>∃u,r=some u /\
   Ut (model P w) X.A (letOwnedTupleGo tg (.ref it) u) (λ_ s2=>∃x H',Inv X pins σ H' s2/\RelV x u/\J.yld i H x H'/\tn (i+1) s2.heap/\∀b∈fp,H' b=none) E s1) E s
 done:∀(X:Cx),X.prog=P->X.w=w->X.K=K->X.calm=true->∀(i:Nat)(pins:List (Up×Obj))(s:Um)(σ:St)(H:Hp)(E:Ul->Um->Prop),Inv X pins σ H s->(∀b∈fp,Zw X pins H b)->tn i s.heap->J.stop i H ->
  Ut (model P w) X.A (pyNext (.ref it)) (λr s1=>r=none/\Inv X pins σ H s1) E s
 self:∀(A:Around)(i:Nat)(s:Um)(Q:Ul->Um->Prop)(E:Ul->Um->Prop),tn i s.heap->Q (.ref it) s->Ut (model P w) A (pyIter (.ref it)) Q E s
abbrev TI:=St->Hp->(It->Hp->Prop)->Prop
def PIE(X:Cx)(pins:List (Up×Obj))(σ:St)(tg:Ur)(R:It->Hp->Prop)(itv:Ul)(s2:Um):Prop:=
 ∃(it:Up)(fp:List Up)(tn:Nat->Heap->Prop)(J:It)(H':Hp),itv=.ref it/\Inv X pins σ H' s2/\Turn X.prog X.w X.K tg J fp it tn/\tn 0 s2.heap/\(∀b∈fp,Zw X pins H' b)/\R J H'
def PI(X:Cx)(tg iter:Ur)(wi:TI):Prop:=
 ∀(pins:List (Up×Obj))(s:Um)(σ:St)(H:Hp)(R:It->Hp->Prop),Inv X pins σ H s->wi σ H R ->
  Ut (model X.prog X.w) X.A (eval iter X.env) (λv s1=>Ut (model X.prog X.w) X.A (pyIter v) (PIE X pins σ tg R) X.xe s1) X.xe s
theorem Rm{M:Model}{A:Around}{E:Ul->Um->Prop}{s:Um}{tg:Ur}{it:Up}{u:Ul}{o:Obj}{n:String}{vs:Array Ul}{Q:Unit->Um->Prop}(ho:s.heap.get? it=some o)(hc:o.cls=.type n)(hd:o.data=.fields vs)
  (hn:["enumerate", "zip", "dict_itemiterator", "dict_reverseitemiterator", "odict_iterator", "itertools.zip_longest", "itertools.pairwise"].contains n=false) (hQ:Q () s):Ut M A (letOwnedTupleGo tg (.ref it) u) Q E s:=by
 unfold letOwnedTupleGo
 cases tg<;>first
  |exact Qh hQ
  |(cases u<;>first
    |exact Qh hQ
    |(
      refine Qd (wpAny_load ho ?_);rw[hc,hd];show Ut M A (if(["enumerate", "zip", "dict_itemiterator", "dict_reverseitemiterator", "odict_iterator", "itertools.zip_longest", "itertools.pairwise"].contains n&&vs[0]?==some (rawInt _))=true then _ else _) Q E s;rw[QB (by intro h;rw[hn,Bool.false_and]at h;cases h)];exact Qh hQ))
noncomputable def Itl(K:Frag)(a:Up):It:=
 ⟨λi H=>∃xs x,SqL K H a xs/\xs[i]?=some x,λi H x H'=>H'=H/\∀xs,SqL K H a xs->xs[i]?=some x,λi H=>∃xs,SqL K H a xs/\xs.length<=i⟩
noncomputable def Itt(K:Frag)(a:Up):It:=
 ⟨λi H=>∃xs x,SqT K H a xs/\xs[i]?=some x,λi H x H'=>H'=H/\∀xs,SqT K H a xs->xs[i]?=some x,λi H=>∃xs,SqT K H a xs/\xs.length<=i⟩
noncomputable def Itr(lo:Int)(n:Nat):It:=⟨λi _=>i<n,λi H x H'=>H'=H/\x=.int (lo+i),λi _=>n<=i⟩
theorem qB{P:Uo}{w:World}{K:Frag}{tg:Ur}(a it:Up):Turn P w K tg (Itl K a) [it] it (λi h=>h.IsListIter it a i) where
 mem:=by simp
 obj:=λi h st b hb=>by
  have e:b=it:=by simpa using hb
  subst e;obtain⟨o,e,c,d⟩:=st;exact⟨o,e,λv z=>by rw[d]at z;cases z⟩
 keep:=λi h h' st k=>st.at λo e=>k it (by simp) o e
 item:=by
  intro X hP hw hK hc i pins s σ H E I hf st hg;subst hP hw hK;obtain⟨xs,x,hq,hx⟩:=hg;obtain⟨its,rv,p,hz⟩:=I.list hq;obtain⟨u,hu,ru⟩:=rv.get hx;obtain⟨f0,f1,f2,f3,f4,f5⟩:=hf it (by simp);refine wpAny_pyNext_list_item st p.isList (x:=u) (by simpa using hu) λh' st' sb=>?_
  have I1:Inv X pins σ H {s with heap:=h'}:=I.turned (t':=s.toks) (λb o hb e=>(sb.2 b hb).trans e) f0 f1 f3 f4 f5;obtain⟨o,e,c,d⟩:=id st';exact⟨u,rfl,Rm (s:={s with heap:=h'}) e c d (by decide) ⟨x,H,I1,ru,⟨rfl,λys hy=>by rw[I.list_inj hy hq];exact hx⟩,st',λb hb=>(hf b hb).1⟩⟩
 done:=by intro X hP hw hK hc i pins s σ H E I hf st hg;subst hP hw hK;obtain⟨xs,hq,hx⟩:=hg;obtain⟨its,rv,p,hz⟩:=I.list hq;obtain⟨f0,f1,f2,f3,f4,f5⟩:=hf it (by simp);have hl:=rv.length;exact wpAny_pyNext_list_end (I.ok.hd hc) st p.isList (by simp;omega) λh' eb=>⟨rfl,I.turned (t':=s.toks) (λb o hb e=>eb b o hb e) f0 f1 f3 f4 f5⟩
 self:=λ_ _ _ _ _ st h=>wpAny_pyIter_listiter st h
theorem q9{P:Uo}{w:World}{K:Frag}{tg:Ur}(a it:Up):Turn P w K tg (Itt K a) [it] it (λi h=>h.IsTupleIter it a i) where
 mem:=by simp
 obj:=λi h st b hb=>by
  have e:b=it:=by simpa using hb
  subst e;obtain⟨o,e,c,d⟩:=st;exact⟨o,e,λv z=>by rw[d]at z;cases z⟩
 keep:=λi h h' st k=>st.at λo e=>k it (by simp) o e
 item:=by
  intro X hP hw hK hc i pins s σ H E I hf st hg;subst hP hw hK;obtain⟨xs,x,hq,hx⟩:=hg;obtain⟨its,rv,p,hz⟩:=I.tuple hq;obtain⟨u,hu,ru⟩:=rv.get hx;obtain⟨f0,f1,f2,f3,f4,f5⟩:=hf it (by simp);refine wpAny_pyNext_tuple_item st (show s.heap.IsTuple a its.toArray from p) (x:=u) (by simpa using hu) λh' st' sb=>?_
  have I1:Inv X pins σ H {s with heap:=h'}:=I.turned (t':=s.toks) (λb o hb e=>(sb.2 b hb).trans e) f0 f1 f3 f4 f5;obtain⟨o,e,c,d⟩:=id st';exact⟨u,rfl,Rm (s:={s with heap:=h'}) e c d (by decide) ⟨x,H,I1,ru,⟨rfl,λys hy=>by rw[I.tuple_inj hy hq];exact hx⟩,st',λb hb=>(hf b hb).1⟩⟩
 done:=by intro X hP hw hK hc i pins s σ H E I hf st hg;subst hP hw hK;obtain⟨xs,hq,hx⟩:=hg;obtain⟨its,rv,p,hz⟩:=I.tuple hq;obtain⟨f0,f1,f2,f3,f4,f5⟩:=hf it (by simp);have hl:=rv.length;exact wpAny_pyNext_tuple_end (I.ok.hd hc) st (show s.heap.IsTuple a its.toArray from p) (by simp;omega) λh' eb=>⟨rfl,I.turned (t':=s.toks) (λb o hb e=>eb b o hb e) f0 f1 f3 f4 f5⟩
 self:=λ_ _ _ _ _ st h=>wpAny_pyIter_tupleiter st h
theorem q8{P:Uo}{w:World}{K:Frag}{tg:Ur}(it:Up)(lo:Int)(n:Nat):Turn P w K tg (Itr lo n) [it] it (λi h=>IsRangeIter h it (lo+(i:Nat)*1) ((n:Int)-(i:Nat)) 1) where
 mem:=by simp
 obj:=λi h st b hb=>by
  have e:b=it:=by simpa using hb
  subst e;exact⟨_,st,λv z=>by have z':Data.fields _=Data.cell v:=z;cases z'⟩
 keep:=λi h h' st k=>k it (by simp) _ st
 item:=by
  intro X hP hw hK hc i pins s σ H E I hf st hg;subst hP hw hK;obtain⟨f0,f1,f2,f3,f4,f5⟩:=hf it (by simp);have W:=Walks.range (prog:=X.prog) (w:=X.w) (I.ok.hd hc) it lo 1 n;refine W.item i s _ _ hg st λv h' tk hv st' kk=>?_
  obtain⟨t,rfl⟩:=hv;have I1:Inv X pins σ H {s with heap:=h',toks:=tk}:=I.turned (λb o hb e=>kk b o (by simpa using hb) e) f0 f1 f3 f4 f5;refine⟨_,rfl,Rm (s:={s with heap:=h',toks:=tk}) (n:= "range_iterator") st' rfl rfl (by decide) ⟨.int (lo+i),H,I1,⟨t,?_⟩,⟨rfl,rfl⟩,st',λb hb=>(hf b hb).1⟩⟩;rw[Int.mul_one]
 done:=by intro X hP hw hK hc i pins s σ H E I hf st hg;subst hP hw hK;obtain⟨f0,f1,f2,f3,f4,f5⟩:=hf it (by simp);exact wpAny_pyNext_range_end (I.ok.hd hc) st (by have:n<=i:=hg;omega) λh' eb=>⟨rfl,I.turned (t':=s.toks) (λb o hb e=>eb b o hb e) f0 f1 f3 f4 f5⟩
 self:=λ_ _ _ _ _ st h=>wpAny_pyIter_rangeiter st h
section
variable{X:Cx}{tg:Ur}
theorem LW{pins:List (Up×Obj)}{σ:St}{H:Hp}{s:Um}{R:It->Hp->Prop}{E:Ul->Um->Prop}{lo hi:Int}{t u v:Tok}{tk:Nat}(I:Inv X pins σ H s)(h1 : -(2 ^ 62)<=lo)(h2:lo<2 ^ 62)(h3 : -(2 ^ 62)<=hi)(h4:hi<2 ^ 62)
  (q:R (Itr lo (hi-lo).toNat) H):Ut (model X.prog X.w) X.A (pyIter (.ref s.heap.objs.size)) (PIE X pins σ tg R) E {s with heap:=s.heap.push {cls:=.type "range", data:=.fields #[.int lo t,.int hi u,.int 1 v]},toks:=tk}:=by
 refine wpAny_pyIter_range (IsRange.new ..) (small_one h1 h2 h3 h4) ?_;have I1:Inv X pins σ H {s with heap:=s.heap.push {cls:=.type "range", data:=.fields #[.int lo t,.int hi u,.int 1 v]},toks:=tk}:=I.kept λb o e=>Qk _ e
 refine⟨(s.heap.push {cls:=.type "range", data:=.fields #[.int lo t,.int hi u,.int 1 v]}).objs.size,[(s.heap.push {cls:=.type "range", data:=.fields #[.int lo t,.int hi u,.int 1 v]}).objs.size],_,_,H,rfl,
  I1.kept (t':=tk) λb o e=>Qk _ e,q8 _ lo (hi-lo).toNat,?_,λb hb=>?_,q⟩
 ·have e1:lo+((0:Nat):Int)*1=lo:=by simp
  have e2:(((hi-lo).toNat:Nat):Int)-((0:Nat):Int)=Builtin.Range.rangeSize lo hi 1:=by rw[rangeSize_one];split<;>omega
  show IsRangeIter _ _ (lo+((0:Nat):Int)*1) ((((hi-lo).toNat:Nat):Int)-((0:Nat):Int)) 1;rw[e1,e2];exact Qz _ rfl
 ·have e:b=(s.heap.push {cls:=.type "range", data:=.fields #[.int lo t,.int hi u,.int 1 v]}).objs.size:=by simpa using hb
  subst e;exact I1.fpOk (Qr _) (I1.hok.fresh (Qr _))
noncomputable def FW(ta:TA):TI:=λσ H R=>ta σ H λvs H1=>∃j:Int,vs=[.int j] /\ -(2 ^ 62)<=j/\j<2 ^ 62/\R (Itr 0 j.toNat) H1
noncomputable def FV(ta:TA):TI:=λσ H R=>ta σ H λvs H1=>∃i j:Int,vs=[.int i,.int j]/\(-(2 ^ 62)<=i/\i<2 ^ 62 /\ -(2 ^ 62)<=j/\j<2 ^ 62)/\R (Itr i (j-i).toNat) H1
theorem qA{a:Ur}{ta:TA}{p pos:Pos}(hg:Gl X "range")(hm:X.mg "range" = none)(ha:PA X [a] ta)(hs:Uu [a] X.env=[(false,eval a X.env)]:=by rfl):PI X tg (.Call (.Name "range" p) [a] [] pos) (FW ta):=by
 intro pins s σ H R I h;refine Call_ (Vp I hg hm boot_range (Jz (thn (ha pos pins s σ H _ I h) λus s1 ⟨vs,H1,I1,r1,q1⟩=>?_) hs rfl));obtain⟨j,e,q1,q2,q⟩:=q1;subst e;cases r1 with
 |cons r rr=>cases rr;obtain⟨t,rfl⟩:=r;exact call_range_1 (LW I1 (by omega) (by omega) q1 q2 (by simpa using q))
theorem qz{a b:Ur}{ta:TA}{p pos:Pos}(hg:Gl X "range")(hm:X.mg "range" = none)(ha:PA X [a,b] ta)(hs:Uu [a,b] X.env=[(false,eval a X.env),(false,eval b X.env)]:=by rfl)(hs2:Uu [b] X.env=[(false,eval b X.env)]:=by rfl) :
  PI X tg (.Call (.Name "range" p) [a,b] [] pos) (FV ta):=by
 intro pins s σ H R I h;refine Call_ (Vp I hg hm boot_range (Jz (thn (ha pos pins s σ H _ I h) λus s1 ⟨vs,H1,I1,r1,q1⟩=>?_) (by rw[hs,hs2]) (by rw[hs2];rfl)));obtain⟨i,j,e,⟨q1,q2,q3,q4⟩,q⟩:=q1;subst e;cases r1 with
 |cons r rr=>
  cases rr with
  |cons r' rr=>cases rr;obtain⟨t,rfl⟩:=r;obtain⟨t',rfl⟩:=r';exact call_range_2 (LW I1 q1 q2 q3 q4 q)
noncomputable def tFor(wi:TI)(g:TG)(tb:TS):TS:=λD σ H=>wi σ H λJ H1=>∃W:Nat->Nat->St->Hp->Prop,(∃m,W 0 m σ H1)/\∀i m σ H,W i m σ H ->
 (J.stop i H/\D.nx σ H)∨(J.go i H/\∃N:St->Hp->Prop,(∀σ' H',N σ' H'->∃m',m'<m/\W (i+1) m' σ' H')/\∀x H',J.yld i H x H'->g x σ H' λσ2 H2=>tb {D with nx:=N,ct:=N,bk:=D.nx} σ2 H2)
noncomputable def Rz(fp:List Up)(h:Heap):List (Up×Obj):=fp.filterMap λb=>(h.get? b).map λo=>(b,o)
theorem PF{fp:List Up}{h:Heap}{b:Up}{o:Obj}(hb:b∈fp)(e:h.get? b=some o):(b,o)∈Rz fp h:=Jm.mpr ⟨b,hb,by rw[e];rfl⟩
theorem qy{fp:List Up}{h:Heap}{p:Up×Obj}(hp:p∈Rz fp h):p.1∈fp/\h.get? p.1=some p.2:=by
 obtain⟨b,hb,e⟩:=Jm.mp hp;cases q:h.get? b with
 |none=>rw[q]at e;cases e
 |some o=>rw[q]at e;have e':(b,o)=p:=QQ e;subst e';exact⟨hb,q⟩
theorem Inv.pinned{pins:List (Up×Obj)}{σ:St}{H:Hp}{s:Um}{fp:List Up}(I:Inv X pins σ H s)(hf:∀b∈fp,Zw X pins H b)(ho:∀b∈fp,∃o,s.heap.get? b=some o/\∀v,o.data≠.cell v):Inv X (pins++Rz fp s.heap) σ H s:=
 I.pins_of λp hp=>(QR.mp hp).elim (λz=>I.pin p (QK _ z)) λz=>by obtain⟨hb,e⟩:=qy z;obtain⟨f0,f1,f2,_⟩:=hf p.1 hb;obtain⟨o,e',d⟩:=ho p.1 hb;rw[e]at e';cases e';exact⟨e,f0,f1,f2,d⟩
theorem Inv.unpinned{pins pl:List (Up×Obj)}{σ:St}{H:Hp}{s:Um}(I:Inv X (pins++pl) σ H s):Inv X pins σ H s:=I.pins_of λp hp=>I.pin p (QK _ (Q8 _ hp))
theorem N0{iter:Ur}{body:List Stmt}{wi:TI}{g:TG}{tb:TS}{pos:Pos}(hp:PassesOwn (model X.prog X.w) X.A X.env X.xe)(hc:X.calm=true)(hi:PI X tg iter wi)(hg:PG X tg g)(hb:PSs X body tb)
  (hs:∀x,UK iter X.env x=pure x:=by intro _;rfl):PS X (.For tg iter body [] pos) (tFor wi g tb):=by
 intro pins s σ H D I h;refine wpAny_For (thn (hi pins s σ H _ I h) λv s1 h1=>thn h1 λitv s2 h2=>?_) hs;obtain⟨it,fp,tn,J,H2,e,I2,T,st2,f2,W,⟨m0,w0⟩,turn⟩:=h2;subst e;have stat:∀{H':Hp},(∀b∈fp,H' b=none)->∀b∈fp,Zw X pins H' b:=λhn b hb=>⟨hn b hb,(f2 b hb).2⟩;refine codeAny_forLoop_any (λn s'=>∃i σ' H',Inv X pins σ' H' s'/\tn i s'.heap/\(∀b∈fp,H' b=none)/\W i n σ' H') ?_ m0 ⟨0,σ,H2,I2,st2,λb hb=>(f2 b hb).1,w0⟩;rintro n s3 ⟨i,σ3,H3,I3,st3,fr3,w3⟩;rcases turn i n σ3 H3 w3 with ⟨stop,qn⟩|⟨go,N,hN,step⟩
 ·refine Jt hp (thn (T.done X rfl rfl rfl hc i pins s3 σ3 H3 X.xe I3 (stat fr3) st3 stop) λr s4 ⟨hr,I4⟩=>?_);subst hr;exact wpAny_execs_nil ⟨σ3,H3,I4,qn⟩
 ·refine Jt hp (thn (T.item X rfl rfl rfl hc i pins s3 σ3 H3 X.xe I3 (stat fr3) st3 go) λr s4 ⟨u,hr,h4⟩=>?_);subst hr;refine Jt hp (thn h4 λ_ s5 ⟨x,H5,I5,r5,y5,st5,fr5⟩=>?_);have I5':=I5.pinned (stat fr5) (T.obj _ _ st5);refine Jt hp (thn (hg _ s5 σ3 H5 x u _ I5' r5 (step x H5 y5)) λ_ s6 ⟨σ6,H6,I6,q6⟩=>?_);refine Jt hp (thn (hb _ s6 σ6 H6 _ I6 q6) λf s7 q7=>?_);have again:∀{σ7:St}{H7:Hp},Inv X (pins++Rz fp s5.heap) σ7 H7 s7->N σ7 H7->∃m,m<n/\∃i σ' H',Inv X pins σ' H' s7/\tn i s7.heap/\(∀b∈fp,H' b=none)/\W i m σ' H':=λ{σ7 H7} I7 n7=>by obtain⟨m',hm,w7⟩:=hN σ7 H7 n7;refine⟨m',hm,i+1,σ7,H7,I7.unpinned,T.keep _ _ _ st5 λb hb o e=>(I7.pin (b,o) (QK _ (QK _ (PF hb e)))).1,λb hb=>?_,w7⟩;obtain⟨o,e,d⟩:=T.obj _ _ st5 b hb;exact(I7.pin (b,o) (QK _ (QK _ (PF hb e)))).2.1
  cases f with
  |next=>obtain⟨σ7,H7,I7,n7⟩:=q7;exact again I7 n7
  |cont=>obtain⟨σ7,H7,I7,n7⟩:=q7;exact again I7 n7
  |brk=>obtain⟨σ7,H7,I7,q7⟩:=q7;exact⟨σ7,H7,I7.unpinned,q7⟩
  |ret v=>obtain⟨x7,σ7,H7,I7,r7,q7⟩:=q7;exact⟨x7,σ7,H7,I7.unpinned,r7,q7⟩
end
abbrev R2:=V->V->Hp->VK->Prop
def OpR(X:Cx)(f:Ul->Ul->Sem Ul)(r:R2):Prop:=
 ∀(pins:List (Up×Obj))(s:Um)(σ:St)(H:Hp)(x y:V)(v u:Ul)(Q:VK),Inv X pins σ H s->RelV x v->RelV y u->r x y H Q ->
  Ut (model X.prog X.w) X.A (f v u) (EP X pins σ Q) X.xe s
def UnR(X:Cx)(f:Ul->Sem Ul)(r:V->Hp->VK->Prop):Prop:=
 ∀(pins:List (Up×Obj))(s:Um)(σ:St)(H:Hp)(x:V)(v:Ul)(Q:VK),Inv X pins σ H s->RelV x v->r x H Q ->
  Ut (model X.prog X.w) X.A (f v) (EP X pins σ Q) X.xe s
def YB(X:Cx)(f:Ul)(r:List V->Hp->VK->Prop):Prop:=
 ∀(pins:List (Up×Obj))(s:Um)(σ:St)(H:Hp)(xs:List V)(us:List Ul)(Q:VK),Inv X pins σ H s->Vals xs us->r xs H Q ->
  Ut (model X.prog X.w) X.A (call f us) (EP X pins σ Q) X.xe s
def TruR(X:Cx)(r:V->Hp->(Bool->Hp->Prop)->Prop):Prop:=
 ∀(pins:List (Up×Obj))(s:Um)(σ:St)(H:Hp)(x:V)(v:Ul)(Q:Bool->Hp->Prop),Inv X pins σ H s->RelV x v->r x H Q ->
  Ut (model X.prog X.w) X.A (truthy v) (TP X pins σ Q) X.xe s
noncomputable def tOp(r:R2)(ta tb:TE):TE:=λσ H Q=>ta σ H λx H1=>tb σ H1 λy H2=>r x y H2 Q
noncomputable def tUn(r:V->Hp->VK->Prop)(ta:TE):TE:=λσ H Q=>ta σ H λx H1=>r x H1 Q
noncomputable def rI(C:Int->Int->Prop)(g:Int->Int->V):R2:=λx y H Q=>∃i j,x=.int i/\y=.int j/\C i j/\Q (g i j) H
noncomputable def rI0(g:Int->Int->V):R2:=λx y H Q=>∃i j,x=.int i/\y=.int j/\Q (g i j) H
noncomputable def rU(g:Int->V):V->Hp->VK->Prop:=λx H Q=>∃i,x=.int i/\Q (g i) H
section
variable{X:Cx}{a b c:Ur}{ta tb tc:TE}{pos:Pos}
theorem Sg(ha:PE X a ta)(hb:PE X b tb){pins:List (Up×Obj)}{s:Um}{σ:St}{H:Hp}{R:V->V->Hp->Prop}(I:Inv X pins σ H s)
  (h:ta σ H λx H1=>tb σ H1 λy H2=>R x y H2) {Q:Ul->Um->Prop} {f:Ul->Ul->Sem Ul}
  (hf:∀v u s2 x y H2,Inv X pins σ H2 s2->RelV x v->RelV y u->R x y H2->Ut (model X.prog X.w) X.A (f v u) Q X.xe s2) :
  Ut (model X.prog X.w) X.A (eval a X.env) (λv s₁=>Ut (model X.prog X.w) X.A (eval b X.env) (λu s₂=>Ut (model X.prog X.w) X.A (f v u) Q X.xe s₂) X.xe s₁) X.xe s:=by
 refine thn (ha pins s σ H _ I h) λv s1 ⟨x,H1,I1,r1,q1⟩=>?_;refine thn (hb pins s1 σ H1 _ I1 q1) λu s2 ⟨y,H2,I2,r2,q2⟩=>?_;exact hf v u s2 x y H2 I2 r1 r2 q2
theorem NJ{op:Operator}{r:R2}(ho:OpR X (binaryOp op) r)(ha:PE X a ta)(hb:PE X b tb):PE X (.BinOp a op b pos) (tOp r ta tb):=by intro pins s σ H Q I h;exact wpAny_BinOp (Sg ha hb I h λv u s2 x y H2 I2 rx ry q=>ho pins s2 σ H2 x y v u Q I2 rx ry q)
theorem FT{op:UnaryOp}{r:V->Hp->VK->Prop}(ho:UnR X (unaryOp op) r)(ha:PE X a ta):PE X (.UnaryOp op a pos) (tUn r ta):=by intro pins s σ H Q I h;exact UnaryOp_ (thn (ha pins s σ H _ I h) λv s1 ⟨x,H1,I1,r1,q1⟩=>ho pins s1 σ H1 x v Q I1 r1 q1)
theorem opI{f:Ul->Ul->Sem Ul}{C:Int->Int->Prop}{g:Int->Int->Int}
  (rule:∀(i j:Int)(t u:Tok)(s:Um)(Q:Ul->Um->Prop)(E:Ul->Um->Prop),C i j->Q (.int (g i j) s.toks) {s with toks:=s.toks+1}->Ut (model X.prog X.w) X.A (f (.int i t) (.int j u)) Q E s) :
  OpR X f (rI C λi j=>.int (g i j)):=by
 intro pins s σ H x y v u Q I rx ry h;obtain⟨i,j,rfl,rfl,hc,q⟩:=h;obtain⟨t,rfl⟩:=rx;obtain⟨t',rfl⟩:=ry;exact rule i j t t' s _ _ hc ⟨.int (g i j),H,I.tok _,⟨_,rfl⟩,q⟩
theorem opI0{f:Ul->Ul->Sem Ul}{g:Int->Int->Int}
  (rule:∀(i j:Int)(t u:Tok)(s:Um)(Q:Ul->Um->Prop)(E:Ul->Um->Prop),Q (.int (g i j) s.toks) {s with toks:=s.toks+1}->Ut (model X.prog X.w) X.A (f (.int i t) (.int j u)) Q E s) :
  OpR X f (rI0 λi j=>.int (g i j)):=by
 intro pins s σ H x y v u Q I rx ry h;obtain⟨i,j,rfl,rfl,q⟩:=h;obtain⟨t,rfl⟩:=rx;obtain⟨t',rfl⟩:=ry;exact rule i j t t' s _ _ ⟨.int (g i j),H,I.tok _,⟨_,rfl⟩,q⟩
theorem Ww{f:Ul->Ul->Sem Ul}{g:Int->Int->Bool}
  (rule:∀(i j:Int)(t u:Tok)(s:Um)(Q:Ul->Um->Prop)(E:Ul->Um->Prop),Q (.bool (g i j)) s->Ut (model X.prog X.w) X.A (f (.int i t) (.int j u)) Q E s) :
  OpR X f (rI0 λi j=>.bl (g i j)):=by
 intro pins s σ H x y v u Q I rx ry h;obtain⟨i,j,rfl,rfl,q⟩:=h;obtain⟨t,rfl⟩:=rx;obtain⟨t',rfl⟩:=ry;exact rule i j t t' s _ _ ⟨.bl (g i j),H,I,rfl,q⟩
def CPow(i j:Int):Prop:=0<=j/\j<=1000000/\i.natAbs<2 ^ 64
def CMul(i j:Int):Prop:=(-(2 ^ 64)<i/\i<2 ^ 64)∨(-(2 ^ 64)<j/\j<2 ^ 64)
theorem CMul.ok{i j:Int}(h:CMul i j):IntMulOk i j:=by
 rcases h with ⟨h1,h2⟩|⟨h1,h2⟩
 ·exact .of_left (intBits_le_64 h1 h2)
 ·exact .of_right (intBits_le_64 h1 h2)
theorem Et:OpR X (binaryOp .Add) (rI0 λi j=>.int (i+j)):=opI0 λ_ _ _ _ _ _ _ q=>add_int q
theorem Es:OpR X (binaryOp .Sub) (rI0 λi j=>.int (i-j)):=opI0 λ_ _ _ _ _ _ _ q=>sub_int q
theorem Er:OpR X (binaryOp .Mult) (rI CMul λi j=>.int (i*j)):=opI λ_ _ _ _ _ _ _ hc q=>mul_int q hc.ok
theorem Ep:OpR X (binaryOp .Mod) (rI (λ_ j=>0<j) λi j=>.int (i % j)):=opI λi j _ _ _ _ _ hc q=>by have h1:(0:Int)<j:=hc;exact mod_int' (by omega) (by rw[Int.fmod_eq_emod_of_nonneg i (by omega)];exact q)
theorem Eo:OpR X (binaryOp .Pow) (rI CPow λi j=>.int (i ^ j.toNat)):=opI λ_ _ _ _ _ _ _ hc q=>pow_int_small hc.1 hc.2.1 hc.2.2 q
theorem D1:OpR X (inplaceOp .Mult) (rI CMul λi j=>.int (i*j)):=opI λ_ _ _ _ _ _ _ hc q=>imul_int q hc.ok
theorem unI{f:Ul->Sem Ul}{g:Int->Int}
  (rule:∀(i:Int)(t:Tok)(s:Um)(Q:Ul->Um->Prop)(E:Ul->Um->Prop),Q (.int (g i) s.toks) {s with toks:=s.toks+1}->Ut (model X.prog X.w) X.A (f (.int i t)) Q E s) :
  UnR X f (rU λi=>.int (g i)):=by
 intro pins s σ H x v Q I rx h;obtain⟨i,rfl,q⟩:=h;obtain⟨t,rfl⟩:=rx;exact rule i t s _ _ ⟨.int (g i),H,I.tok _,⟨_,rfl⟩,q⟩
theorem En:UnR X (unaryOp .USub) (rU λi=>.int (-i)):=unI λ_ _ _ _ _ q=>neg_int q
end
section
variable{X:Cx}{a b c:Ur}{ta tb tc:TE}{pos:Pos}
theorem NZ{pins:List (Up×Obj)}{σ:St}{H:Hp}{s:Um}{Q:VK}{k k':Bool}(I:Inv X pins σ H s)(q:Q (.bl k) H)(e:k=k'):EP X pins σ Q (.bool k') s:=by subst e;exact⟨.bl k,H,I,rfl,q⟩
theorem FS:OpR X (Uv .Lt) (rI0 λi j=>.bl (decide (i<j))):=Ww λ_ _ _ _ _ _ _ q=>lt_int q
theorem FR:OpR X (Uv .LtE) (rI0 λi j=>.bl (decide (i<=j))):=Ww λ_ _ _ _ _ _ _ q=>le_int q
theorem FQ:OpR X (Uv .Gt) (rI0 λi j=>.bl (decide (j<i))):=Ww λ_ _ _ _ _ _ _ q=>gt_int q
theorem FP:OpR X (Uv .GtE) (rI0 λi j=>.bl (decide (j<=i))):=Ww λ_ _ _ _ _ _ _ q=>ge_int q
theorem qx:OpR X (Uv .In) (λx y H Q=>∃i j,x=.str i/\y=.str j/\Q (.bl (!(Builtin.Str.occurrences j i 0 j.length 1).isEmpty)) H):=by intro pins s σ H x y v u Q I rx ry h;obtain⟨i,j,rfl,rfl,q⟩:=h;obtain⟨t,rfl⟩:=rx;obtain⟨t',rfl⟩:=ry;exact in_str (NZ I q rfl)
theorem j6:OpR X (Uv .NotIn) (λx y H Q=>∃i j,x=.str i/\y=.str j/\Q (.bl (!(!(Builtin.Str.occurrences j i 0 j.length 1).isEmpty))) H):=by intro pins s σ H x y v u Q I rx ry h;obtain⟨i,j,rfl,rfl,q⟩:=h;obtain⟨t,rfl⟩:=rx;obtain⟨t',rfl⟩:=ry;exact notIn_str (NZ I q rfl)
theorem OpR.or{f:Ul->Ul->Sem Ul}{r r':R2}(h:OpR X f r)(h':OpR X f r'):OpR X f (λx y H Q=>r x y H Q∨r' x y H Q):=by
 intro pins s σ H x y v u Q I rx ry q;rcases q with q|q
 ·exact h pins s σ H x y v u Q I rx ry q
 ·exact h' pins s σ H x y v u Q I rx ry q
theorem P8(b:Ur){op:CmpOp}(h:op≠.In:=by decide)(h2:op≠.NotIn:=by decide):behindInMarks op b=false:=by
 have e1:(op==CmpOp.In)=false:=by cases op<;>first|rfl|exact absurd rfl h
 have e2:(op==CmpOp.NotIn)=false:=by cases op<;>first|rfl|exact absurd rfl h2
 cases b<;>simp[behindInMarks,e1,e2]
theorem Ld{op:CmpOp}{r:R2}(ho:OpR X (Uv op) r)(ha:PE X a ta)(hb:PE X b tb)(hm:behindInMarks op b=false):PE X (.Compare a [op] [b] pos) (tOp r ta tb):=by intro pins s σ H Q I h;exact wpAny_Compare1 (Sg ha hb I h λv u s2 x y H2 I2 rx ry q=>ho pins s2 σ H2 x y v u Q I2 rx ry q) hm
noncomputable def NA(t:TE):TT:=λσ H Q=>t σ H λx H'=>∃k,x=.bl k/\Q k H'
theorem Om{op:CmpOp}{r:R2}(ho:OpR X (Uv op) r)(ha:PE X a ta)(hb:PE X b tb)(hm:behindInMarks op b=false):PT X (.Compare a [op] [b] pos) (NA (tOp r ta tb)):=by
 intro pins s σ H Q I h
 refine wpAny_isTrue_Compare1 (thn (ha pins s σ H _ I h) λv s1 ⟨x,H1,I1,r1,q1⟩=>thn (hb pins s1 σ H1 _ I1 q1) λu s2 ⟨y,H2,I2,r2,q2⟩=>
  thn (ho pins s2 σ H2 x y v u _ I2 r1 r2 q2) λc s3 ⟨z,H3,I3,r3,k,e,q3⟩=>?_) hm
 subst e;cases r3;exact Q3 ⟨H3,I3,q3⟩
noncomputable def NY(r r':R2)(ta tb tc:TE):TE:=λσ H Q=>ta σ H λx H1=>tb σ H1 λy H2=>r x y H2 λz H3=>∃k,z=.bl k /\
 (if k=true then tc σ H3 λw' H4=>r' y w' H4 Q else Q (.bl false) H3)
theorem Bo{op op':CmpOp}{r r':R2}(ho:OpR X (Uv op) r)(ho':OpR X (Uv op') r')(ha:PE X a ta)(hb:PE X b tb)(hc:PE X c tc)
  (hm:lastMarks [op,op'] [b,c]=false:=by with_unfolding_all rfl):PE X (.Compare a [op,op'] [b,c] pos) (NY r r' ta tb tc):=by
 intro pins s σ H Q I h
 refine Compare_chain (thn (ha pins s σ H _ I h) λv s1 ⟨x,H1,I1,r1,q1⟩=>chain_link (thn (hb pins s1 σ H1 _ I1 q1) λu s2 ⟨y,H2,I2,r2,q2⟩=>
  thn (ho pins s2 σ H2 x y v u _ I2 r1 r2 q2) λd s3 ⟨z,H3,I3,r3,k,e,q3⟩=>?_)) hm
 subst e;cases r3;refine Q3 ?_;cases k with
 |false=>exact ite_ff ⟨.bl false,H3,I3,rfl,q3⟩
 |true=>exact ite_tt (chain_last (thn (hc pins s3 σ H3 _ I3 q3) λw' s4 ⟨z',H4,I4,r4,q4⟩=>ho' pins s4 σ H4 y z' u w' Q I4 r2 r4 q4))
theorem BZ{op op':CmpOp}{r r':R2}(ho:OpR X (Uv op) r)(ho':OpR X (Uv op') r')(ha:PE X a ta)(hb:PE X b tb)(hc:PE X c tc)
  (hm:lastMarks [op,op'] [b,c]=false:=by with_unfolding_all rfl):PT X (.Compare a [op,op'] [b,c] pos) (NA (NY r r' ta tb tc)):=by
 intro pins s σ H Q I h
 refine isTrue_chain (thn (ha pins s σ H _ I h) λv s1 ⟨x,H1,I1,r1,q1⟩=>test_link (thn (hb pins s1 σ H1 _ I1 q1) λu s2 ⟨y,H2,I2,r2,q2⟩=>
  thn (ho pins s2 σ H2 x y v u _ I2 r1 r2 q2) λd s3 ⟨z,H3,I3,r3,k,e,q3⟩=>?_)) hm
 subst e;cases r3;refine Q3 ?_;cases k with
 |false=>obtain⟨k',e',q'⟩:=q3;cases e';exact ite_ff ⟨H3,I3,q'⟩
 |true=>refine ite_tt (test_last (thn (hc pins s3 σ H3 _ I3 q3) λw' s4 ⟨z',H4,I4,r4,q4⟩=>thn (ho' pins s4 σ H4 y z' u w' _ I4 r2 r4 q4) λd' s5 ⟨z2,H5,I5,r5,k2,e2,q5⟩=>?_));subst e2;cases r5;exact Q3 ⟨H5,I5,q5⟩
def TruV(K:Frag)(x:V)(H:Hp)(k:Bool):Prop:=
 match x with
 |.non=>k=false
 |.bl b=>k=b
 |.int i=>k=(i != 0)
 |.str y=>y.length<=Us/\k=((y.length:Int) != 0)
 |.byt y=>y.size<=Us/\k=((y.size:Int) != 0)
 |.ref p=>(∃xs,SqL K H p xs/\k = !xs.isEmpty)∨(∃xs,SqT K H p xs/\k = !xs.isEmpty) ∨ ∃kvs,H p=some (.dK kvs)/\k = !kvs.isEmpty
 |_=>False
theorem qZ{κ:Type}{kvs:List (κ×V)}{vs:List (κ×Ul)}(r:KV kvs vs):(!vs.isEmpty) = !kvs.isEmpty:=by cases r<;>rfl
theorem Gm{xs:List V}{its:List Ul}(r:Vals xs its):(!its.toArray.isEmpty) = !xs.isEmpty:=by cases r<;>simp
theorem Ry:(Us:Nat)<2 ^ 63:=by rw[sizeLine_eq];decide
theorem Em:TruR X (λx H Q=>∃k,TruV X.K x H k/\Q k H):=by
 intro pins s σ H x v Q I rx h;obtain⟨k,e,q⟩:=h;have hl:=Ry;have hs:Us=16777216:=sizeLine_eq;cases x with
 |non=>cases rx;have e':k=false:=e;subst e';exact truthy_none ⟨H,I,q⟩
 |bl b=>cases rx;have e':k=b:=e;subst e';exact Q3 ⟨H,I,q⟩
 |int i=>obtain⟨t,rfl⟩:=rx;have e':k=(i != 0):=e;subst e';exact PySem.P.truthy_int ⟨H,I,q⟩
 |str y=>obtain⟨t,rfl⟩:=rx;obtain⟨hy,e'⟩:y.length<=Us/\k=((y.length:Int) != 0):=e;subst e';exact PySem.P.truthy_str (by omega) ⟨H,I.tok _,q⟩
 |byt y=>obtain⟨t,rfl⟩:=rx;obtain⟨hy,e'⟩:y.size<=Us/\k=((y.size:Int) != 0):=e;subst e';exact PySem.W.truthy_bytes (by omega) ⟨H,I.tok _,q⟩
 |ref p=>
  cases rx;have e':(∃xs,SqL X.K H p xs/\k = !xs.isEmpty)∨(∃xs,SqT X.K H p xs/\k = !xs.isEmpty) ∨ ∃kvs,H p=some (.dK kvs)/\k = !kvs.isEmpty:=e;rcases e' with ⟨xs,hx,e'⟩|⟨xs,hx,e'⟩|⟨kvs,hx,e'⟩
  ·subst e';obtain⟨its,r,pl,hz⟩:=I.list hx;have hlen:=r.length;exact wpAny_truthy_list pl.isList (by simp only[QI];omega) ⟨H,I.tok _,by rw[Gm r];exact q⟩
  ·subst e';obtain⟨its,r,pl,hz⟩:=I.tuple hx;have hlen:=r.length;exact truthy_tuple pl (by simp only[QI];omega) ⟨H,I.tok _,by rw[Gm r];exact q⟩
  ·subst e';obtain⟨hz,hS,vs,r,m⟩:kvs.length<=Us/\(p==sysModules)=false/\∃vs,KV kvs vs/\s.heap.DictOf (YU X.prog X.w) p vs:=I.hok p _ hx;have hlen:kvs.length=vs.length:=Paired.length r;exact wpAny_truthy_dict hS m (by omega) ⟨H,I.tok _,by rw[qZ r];exact q⟩
 |_=>exact(show False from e).elim
theorem BY(ha:PE X a ta)(he:∀whole,isTrue a X.env whole=(do let v ←whole;standAt a.pos;holding [v] (truthy v))) :
  PT X a (λσ H Q=>ta σ H λx H'=>∃k,TruV X.K x H' k/\Q k H'):=by
 intro pins s σ H Q I h;exact isTrue_plain (thn (ha pins s σ H _ I h) λv s1 ⟨x,H1,I1,r1,q1⟩=>Em pins s1 σ H1 x v Q I1 r1 q1) (he _)
theorem qY:OpR X (binaryOp .Add) (λx y H Q=>∃i j,x=.str i/\y=.str j/\i.length+j.length<=Us/\Q (.str (i++j)) H):=by intro pins s σ H x y v u Q I rx ry h;obtain⟨i,j,rfl,rfl,hz,q⟩:=h;obtain⟨t,rfl⟩:=rx;obtain⟨t',rfl⟩:=ry;exact add_str (λt' tk=>⟨.str (i++j),H,I.tok _,⟨_,rfl⟩,q⟩) hz
theorem RZ{x:V}{us:List Ul}(r:Vals [x] us):∃u,us=[u]/\RelV x u:=by
 cases r with
 |cons r1 r2=>cases r2;exact⟨_,rfl,r1⟩
theorem PU{x y:V}{us:List Ul}(r:Vals [x,y] us):∃u w',us=[u,w']/\RelV x u/\RelV y w':=by
 cases r with
 |cons r1 r2=>
  cases r2 with
  |cons r3 r4=>cases r4;exact⟨_,_,rfl,r1,r3⟩
theorem qw(hc:X.calm=true):YB X (.builtin "max") (λxs H Q=>∃i j,xs=[.int i,.int j]/\Q (.int (if j > i then j else i)) H):=by
 intro pins s σ H xs us Q I r h;obtain⟨i,j,rfl,q⟩:=h;obtain⟨u,w',rfl,⟨t,rfl⟩,⟨t',rfl⟩⟩:=PU r;refine max_two_ints (I.ok.hd hc) λh' tk k=>⟨_,H,I.kept k,?_,q⟩
 by_cases hj:j > i
 ·rw[Qp hj,Qp hj];exact⟨_,rfl⟩
 ·rw[QB hj,QB hj];exact⟨_,rfl⟩
theorem qv:YB X (.type "int") (λxs H Q=>(∃i,xs=[.int i]/\Q (.int i) H) ∨ ∃k,xs=[.bl k]/\Q (.int (if k then 1 else 0)) H):=by
 intro pins s σ H xs us Q I r h;rcases h with ⟨i,rfl,q⟩|⟨k,rfl,q⟩
 ·obtain⟨u,rfl,t,rfl⟩:=RZ r;exact call_int_int ⟨.int i,H,I,⟨_,rfl⟩,q⟩
 ·obtain⟨u,rfl,r1⟩:=RZ r;cases r1;exact call_int_bool ⟨.int (if k then 1 else 0),H,I.tok _,⟨_,rfl⟩,q⟩
def LenV(K:Frag)(x:V)(H:Hp)(n:Nat):Prop:=
 match x with
 |.str y=>y.length<=Us/\n=y.length
 |.byt y=>y.size<=Us/\n=y.size
 |.ref p=>(∃xs,SqL K H p xs/\n=xs.length) ∨ ∃xs,SqT K H p xs/\n=xs.length
 |_=>False
theorem LB:YB X (.builtin "len") (λxs H Q=>∃x n,xs=[x]/\LenV X.K x H n/\Q (.int n) H):=by
 intro pins s σ H xs us Q I r h;obtain⟨x,n,rfl,e,q⟩:=h;obtain⟨u,rfl,rx⟩:=RZ r;have hl:=Ry;have hs:Us=16777216:=sizeLine_eq;cases x with
 |str y=>obtain⟨t,rfl⟩:=rx;obtain⟨hy,e'⟩:y.length<=Us/\n=y.length:=e;subst e';exact len_str (by omega) ⟨.int _,H,I.tok _,⟨_,rfl⟩,q⟩
 |byt y=>obtain⟨t,rfl⟩:=rx;obtain⟨hy,e'⟩:y.size<=Us/\n=y.size:=e;subst e';exact PySem.W.len_bytes (by omega) ⟨.int _,H,I.tok _,⟨_,rfl⟩,q⟩
 |ref p=>
  cases rx;have e':(∃xs,SqL X.K H p xs/\n=xs.length) ∨ ∃xs,SqT X.K H p xs/\n=xs.length:=e;rcases e' with ⟨xs,hx,e'⟩|⟨xs,hx,e'⟩
  ·subst e';obtain⟨its,r',pl,hz⟩:=I.list hx;have hlen:=r'.length;exact Calls.call_len_list pl.isList (by simp only[QI];omega) ⟨.int xs.length,H,I.tok _,⟨_,by simp only[QI];rw[hlen]⟩,q⟩
  ·subst e';obtain⟨its,r',pl,hz⟩:=I.tuple hx;have hlen:=r'.length;exact len_tuple pl (by simp only[QI];omega) ⟨.int xs.length,H,I.tok _,⟨_,by simp only[QI];rw[hlen]⟩,q⟩
 |_=>exact(show False from e).elim
end
section
variable{prog:Uo}{w:World}{A:Around}{E:Ul->Um->Prop}{s:Um}{K:Frag}{x dx C f:Up}{mA:Str->Option Ul}{name:Str}{v:Ul}
end
theorem RelO.some_of{v:V}{o:Option Ul}(r:RelO (some v) o):∃u,o=some u/\RelV v u:=by
 cases o with
 |none=>exact(show False from r).elim
 |some u=>exact⟨u,rfl,r⟩
section
variable{P:Uo}{w:World}{H H':Hp}{h h':Heap}{a C dx:Up}{fs fs':List (Str×V)}
end
section
variable{X:Cx}{pins:List (Up×Obj)}{σ:St}{H:Hp}{s:Um}{a C dx:Up}{fs:List (Str×V)}{f:Str}{v:V}{A:Around}{E:Ul->Um->Prop}
end
section
variable{X:Cx}{o e value:Ur}{f:Str}{pos pos' tpos:Pos}{ta tv:TE}
end
section
variable{X:Cx}{pins:List (Up×Obj)}{σ:St}{H:Hp}{s:Um}{A:Around}{E:Ul->Um->Prop}{Q:Ul->Um->Prop}{c:Ul}{b:Bool}
end
structure Room(k:Nat)(A:Around):Prop where
 hd:A.handled=none
 dp:A.depth+3*k+5<recursionLimit
 un:A.units+16*k+200<cLine
 gd:A.guards=some []
theorem Room.mono{j k:Nat}{A:Around}(r:Room k A)(h:j<=k):Room j A:=⟨r.hd,by have:=r.dp;omega,by have:=r.un;omega,r.gd⟩
theorem Room.deeper{k:Nat}{A:Around}(r:Room (k+1) A)(env:Env):Room k (A.deeper env):=
 ⟨r.hd,by have:=r.dp;show A.depth+1+3*k+5<_;omega,by have:=r.un;show A.units+3+16*k+200<_;omega,r.gd⟩
theorem Room.depth{k:Nat}{A:Around}(r:Room k A):A.depth<recursionLimit:=by have:=r.dp;omega
theorem Room.units{k:Nat}{A:Around}(r:Room k A):A.units+64<cLine:=by have:=r.un;omega
noncomputable def tNil:TA:=λ_ H Q=>Q [] H
noncomputable def FO(ta:TE)(tr:TA):TA:=λσ H Q=>ta σ H λx H1=>tr σ H1 λxs H2=>Q (x::xs) H2
section
variable{X:Cx}{e:Ur}{es:List Ur}{te:TE}{t:TA}{pos:Pos}
theorem Vo:PA X [] tNil:=λ_ _ _ _ H Q I h=>Calls.spliced_nil ⟨[],H,I,.nil,h⟩
theorem X6(ha:PE X e te)(hr:PA X es t)(hs:Uu (e::es) X.env=(false,eval e X.env)::Uu es X.env:=by rfl):PA X (e::es) (FO te t):=by intro pos pins s σ H Q I h;rw[hs];show Ut _ _ (spliced ((false,eval e X.env)::backTo pos (Uu es X.env))) _ _ s;refine Calls.spliced_cons (thn (ha pins s σ H _ I h) λu s1 ⟨x,H1,I1,r1,q1⟩=>?_);exact thn (hr pos pins s1 σ H1 _ I1 q1) λus s2 ⟨xs,H2,I2,r2,q2⟩=>⟨x::xs,H2,I2,.cons r1 r2,q2⟩
noncomputable def tTup(t:TA):TE:=λσ H Q=>t σ H λxs H1=>xs.length<=Us/\∀p,H1 p=none->Q (.ref p) (upd H1 p (.tup xs))
noncomputable def tLst(t:TA):TE:=λσ H Q=>t σ H λxs H1=>xs.length<=Us/\∀p,H1 p=none->Q (.ref p) (upd H1 p (.lst xs))
theorem NX{x1}(h:PA X es t):PE X (.Tuple es x1 pos) (tTup t):=by intro pins s σ H Q I hq;refine wpAny_Tuple_spliced (thn (h pos pins s σ H _ I hq) λus s1 ⟨xs,H1,I1,r,z,q⟩=>⟨by rw[←r.length];exact z,?_⟩);have hf:H1 s1.heap.objs.size=none:=I1.hok.fresh (Qr _);refine⟨.ref s1.heap.objs.size,upd H1 s1.heap.objs.size (.tup xs),I1.laid (t':=s1.toks) (λb u e=>Qk _ e) (Qr _) ?_,rfl,q _ hf⟩;exact⟨z,us,r,⟨_,Qz _ rfl,rfl,_,rfl⟩⟩
theorem NW(h:PA X es t):PE X (.List es pos) (tLst t):=by intro pins s σ H Q I hq;refine wpAny_List_spliced (thn (h pos pins s σ H _ I hq) λus s1 ⟨xs,H1,I1,r,z,q⟩=>⟨by rw[←r.length];exact z,?_⟩);have hf:H1 s1.heap.objs.size=none:=I1.hok.fresh (Qr _);refine⟨.ref s1.heap.objs.size,upd H1 s1.heap.objs.size (.lst xs),I1.laid (t':=s1.toks) (λb u e=>Qk _ e) (Qr _) ?_,rfl,q _ hf⟩;exact⟨z,us,0,r,Qz _ rfl⟩
end
abbrev Sp:=List V->Hp->VK->XK->Prop
abbrev CXT:=List Env->Hp->Um->XK->Ul->Um->Prop
structure Env0(P:Uo)(w:World)(K:Frag)(mg:Str->Option Ul)(base:Heap)(A:Around)(outer:List Env)(s:Um)(H:Hp):Prop where
 frames:A.frames=some outer
 mod:Mod K mg base
 bs:∀b o,base.get? b=some o->s.heap.get? b=some o/\H b=none
 bsz:base.objs.size<=s.heap.objs.size
 funs:s.heap.FunFrames base outer
 frf:∀b∈frs outer,H b=none
 hok:HOk P w H s.heap
 bare:AllBare s.gens
def CE(outer:List Env)(P:Uo)(w:World)(H:Hp)(s:Um)(Q:VK)(u:Ul)(s':Um):Prop:=
 ∃v H',s'.os=s.os/\AllBare s'.gens/\Un (frs outer) [] H H' s.heap s'.heap/\HOk P w H' s'.heap/\RelV v u/\Q v H'
def CR(CX:CXT)(outer:List Env)(P:Uo)(w:World)(H:Hp)(s:Um)(Q:VK)(E:XK)(r:Result)(s':Um):Prop:=
 match r with
 |.ok (.ret u)=>CE outer P w H s Q u s'
 |.ok _=>False
 |.error e=>CX outer H s E e s'
structure FnOk(P:Uo)(w:World)(K:Frag)(mg:Str->Option Ul)(base:Heap)(CX:CXT)(k:Nat)(f:Up)(fd:Uq)(ps:List Str)(sp:Sp):Prop where
 len:∀vs H Q E,sp vs H Q E->vs.length=ps.length
 run:∀(A:Around)(outer:List Env)(s:Um)(H:Hp)(args:Args)(us:List Ul)(vs:List V)(Q:VK)(E:XK),Room k A->Env0 P w K mg base A outer s H->BindsTo s fd args (ps.zip us)->Vals vs us->sp vs H Q E ->
  codeAny (model P w) A (.call (.ref f) args) (CR CX outer P w H s Q E) s
section
variable{X:Cx}{pins:List (Up×Obj)}{σ:St}{H:Hp}{s s':Um}
theorem Inv.env0(I:Inv X pins σ H s):Env0 X.prog X.w X.K X.mg X.base X.A X.stack s H:=
 ⟨I.ok.frames,I.ok.mod,I.bs,QT I.ok.bsz I.sz,I.stack,I.stkFree,I.hok,I.bare⟩
theorem Inv.after{Q:VK}{u:Ul}(I:Inv X pins σ H s)(h:CE X.stack X.prog X.w H s Q u s'):EP X pins σ Q u s':=by obtain⟨v,H',os,bare,un,hok,r,q⟩:=h;obtain⟨hh,g,d,t,os'⟩:=s';obtain rfl:os'=s.os:=os;exact⟨v,H',I.call (h':=hh) (g':=g) (d':=d) (t':=t) (ch:=[]) un hok bare (λb z=>absurd z (by simp)),r,q⟩
end
noncomputable def FN(sp:Sp)(dvs:List V)(E:XK)(t:TA):TE:=λσ H Q=>t σ H λvs H1=>sp (vs++dvs) H1 Q E
def Vn(K:Frag)(fd:Uq)(ps:List Str)(ds:List Ul):Prop:=
 ∀(s:Um)(us:List Ul),K.In s.heap->(us++ds).length=ps.length->BindsTo s fd ⟨us,[]⟩ (ps.zip (us++ds))
theorem Vn.all{K:Frag}{fd:Uq}{ps:List Str}(h:∀us:List Ul,us.length=ps.length->bindArgs fd ⟨us,[]⟩=pure (ps.zip us)):Vn K fd ps []:=λs us _ hl=>by rw[Jc]at hl⊢;exact .of_eq (h us hl)
def Oa(CX:CXT)(X:Cx)(E:XK):Prop:=∀(pins:List (Up×Obj))(σ:St)(H:Hp)(s:Um)(e:Ul)(s':Um),Inv X pins σ H s->CX X.stack H s E e s'->X.xe e s'
section
variable{X:Cx}{CX:CXT}{k:Nat}{f C:Up}{fd:Uq}{ps:List Str}{sp:Sp}{dvs:List V}{ds:List Ul}{E:XK}{x m:Str}{p pos apos:Pos}{e o:Ur}{es:List Ur}{ta:TE}{t:TA}
theorem El{pins:List (Up×Obj)}{σ:St}{H:Hp}{s:Um}{Q:VK}{us:List Ul}{vs:List V}(F:FnOk X.prog X.w X.K X.mg X.base CX k f fd ps sp)(hr:Room k X.A)(hb:Vn X.K fd ps ds)(hd:Vals dvs ds)(hx:Oa CX X E)
  (I:Inv X pins σ H s) (r:Vals vs us) (h:sp (vs++dvs) H Q E):Ut (model X.prog X.w) X.A (call (.ref f) us) (EP X pins σ Q) X.xe s:=by
 have r2:Vals (vs++dvs) (us++ds):=r.append hd;have hl:(us++ds).length=ps.length:=by rw[←r2.length];exact F.len _ _ _ _ h
 refine wpAny_call (codeAny_mono (F.run X.A X.stack s H ⟨us,[]⟩ (us++ds) (vs++dvs) Q E hr I.env0 (hb s us I.kIn hl) r2 h) λr s' hq=>?_);cases r with
 |error e=>exact hx pins σ H s e s' I hq
 |ok fl=>
  cases fl with
  |ret u=>exact I.after hq
  |next=>exact False.elim hq
  |brk=>exact False.elim hq
  |cont=>exact False.elim hq
theorem D0(F:FnOk X.prog X.w X.K X.mg X.base CX k f fd ps sp)(hr:Room k X.A)(hg:Gl X x)(hm:X.mg x=some (.ref f))(hk:PySem.W.keepIn X.K (.ref f)=true)(hb:Vn X.K fd ps ds)(hd:Vals dvs ds)(hx:Oa CX X E)
  (ha:PA X (e::es) t) (hdb:(x==("__debug__" : Str))=false:=by decide) (he:Uu (e::es) X.env=(false,eval e X.env)::Uu es X.env:=by rfl) (hpl:(backTo pos (Uu es X.env)).any (·.1)=false:=by rfl) :
  PE X (.Call (.Name x p) (e::es) [] pos) (FN sp dvs E t):=by
 intro pins s σ H Q I h;refine wpAny_Call_Name_kw (Lg I hg hm ?_ hdb);refine PySem.W.callWith_K (h₀:=X.base) I.ok.mod.kin hk (thn (ha pos pins s σ H _ I h) λus s1 ⟨vs,H1,I1,r,q⟩=>⟨I1.kIn,?_⟩) he hpl;exact El F hr hb hd hx I1 r q
end
section
variable{X:Cx}{CX:CXT}{k:Nat}{f C:Up}{fd:Uq}{ps ks:List Str}{sp:Sp}{E:XK}{x m:Str}{p pos apos kpos:Pos}{e o:Ur}{es:List Ur}{kws:List Keyword}{te ta:TE}{t tk:TA}{nm:Option Str}
variable{g:List Ul->List Ul->List Ul}{gV:List V->List V->List V}
end
structure RB(N P:List Str)(sc:Scope):Prop where
 kind:sc.kind=.function
 co:sc.isCoroutine=false
 gen:sc.isGenerator=false
 nd:N.Nodup
 pre:N.take P.length=P
 par:∀x∈P,sc.names.lookup x=some .local∨sc.names.lookup x=some .cell
 nofree:∀y∈sc.names,y.2≠.free
theorem HW{kindOf:Str->Option NameKind}{x:Str}:∀{binds:List (Str×Ul)}{m:Str->Option Ul},(∀v,(x,v)∉binds)->bindL kindOf binds m x=m x
 |[],_,_=>rfl
 |(n,v)::r,m,h=>by
  unfold bindL;rw[HW λw hw=>h w (Ql _ hw)];split
  ·have:x≠n:=by rintro rfl;exact h v Qm
   simp[this]
  ·rfl
theorem HV{kindOf:Str->Option NameKind}{x:Str}:∀{binds:List (Str×Ul)}{m:Str->Option Ul},(∀v,(x,v)∉binds)->bindC kindOf binds m x=m x
 |[],_,_=>rfl
 |(n,v)::r,m,h=>by
  unfold bindC;rw[HV λw hw=>h w (Ql _ hw)];split
  ·rfl
  ·have:x≠n:=by rintro rfl;exact h v Qm
   simp[this]
theorem HU{kindOf:Str->Option NameKind}{x:Str}{v:Ul}:∀{P:List Str}{vs:List Ul}{i:Nat}{m:Str->Option Ul},P.Nodup->P[i]?=some x->vs[i]?=some v->kindOf x=some .local ->
  bindL kindOf (P.zip vs) m x=some v
 |[],_,_,_,_,h,_,_=>by simp at h
 |_::_,[],_,_,_,_,h,_=>by simp at h
 |p::P,w::vs,0,m,nd,h1,h2,hk=>by simp at h1 h2;subst h1;subst h2;show bindL kindOf ((p,w)::P.zip vs) m p=_;unfold bindL;rw[HW λv hv=>(JM.mp nd).1 (List.of_mem_zip hv).1,Qp hk];simp
 |p::P,w::vs,i+1,m,nd,h1,h2,hk=>by show bindL kindOf ((p,w)::P.zip vs) m x=_;unfold bindL;exact HU (i:=i) (List.nodup_cons.mp nd).2 (by simpa using h1) (by simpa using h2) hk
theorem HS{kindOf:Str->Option NameKind}{x:Str}{v:Ul}:∀{P:List Str}{vs:List Ul}{i:Nat}{m:Str->Option Ul},P.Nodup->P[i]?=some x->vs[i]?=some v->kindOf x≠some .local ->
  bindC kindOf (P.zip vs) m x=some v
 |[],_,_,_,_,h,_,_=>by simp at h
 |_::_,[],_,_,_,_,h,_=>by simp at h
 |p::P,w::vs,0,m,nd,h1,h2,hk=>by simp at h1 h2;subst h1;subst h2;show bindC kindOf ((p,w)::P.zip vs) m p=_;unfold bindC;rw[HV λv hv=>(JM.mp nd).1 (List.of_mem_zip hv).1,QB hk];simp
 |p::P,w::vs,i+1,m,nd,h1,h2,hk=>by show bindC kindOf ((p,w)::P.zip vs) m x=_;unfold bindC;exact HS (i:=i) (List.nodup_cons.mp nd).2 (by simpa using h1) (by simpa using h2) hk
noncomputable def XE(N:List Str)(vs:List V):St:=vs.map some++Ux (N.length-vs.length) none
noncomputable def Y0(CX:CXT)(P:Uo)(w:World)(K:Frag)(mg:Str->Option Ul)(base:Heap)(N:List Str)(qual:Str)(scope:Scope)(f:Up)(cd:Ul)(A:Around)(outer:List Env)(s:Um)(H:Hp)(E:XK):Cx where
 prog:=P
 w:=w
 K:=K
 mg:=mg
 base:=base
 A:=A.deeper (envOfC qual scope s.heap.objs.size f cd)
 N:=N
 s₀:=s
 H₀:=H
 env:=envOfC qual scope s.heap.objs.size f cd
 outer:=outer
 stack:=envOfC qual scope s.heap.objs.size f cd::outer
 ex:=[]
 calm:=true
 fn:=λ_=>true
 pn:=[]
 xe:=λe s'=>Ut (model P w) (A.deeper (envOfC qual scope s.heap.objs.size f cd)) (leaving (envOfC qual scope s.heap.objs.size f cd) e) (λ_ s''=>CX outer H s E e s'') (λe' s''=>CX outer H s E e' s'') s'
theorem LA{sc:Scope}{n:Nat}{x:Str}(h:sc.names.lookup x=some .cell):∃c,(cellsFrom n sc.names []).lookup x=some c:=by have q:=PySem.W.cellsFrom_some sc.names n [] (.inl h);exact Option.isSome_iff_exists.mp q
theorem qU{CX:CXT}{P:Uo}{w:World}{K:Frag}{mg:Str->Option Ul}{base:Heap}{N ps:List Str}{qual:Str}{scope:Scope}{f:Up}{cd:Ul}{A:Around}{outer:List Env}{s s1:Um}{H:Hp}{E:XK}{us:List Ul}{vs:List V}
  (S:RB N ps scope) (hd:A.handled=none) (e0:Env0 P w K mg base A outer s H) (hl:vs.length=ps.length) (r:Vals vs us)
  (x:InCallC s s.heap.objs.size (bindL (envOfC qual scope s.heap.objs.size f cd).kindOf (ps.zip us) λ_=>none) (cellsFrom (s.heap.objs.size+1) scope.names []) (bindC (envOfC qual scope s.heap.objs.size f cd).kindOf (ps.zip us) λ_=>none) s1) :
  Inv (Y0 CX P w K mg base N qual scope f cd A outer s H E) [] (XE N vs) H s1:=by
 have hpl:ps.length<=N.length:=by have:=congrArg List.length S.pre;rw[QO]at this;omega
 obtain⟨h1,tk,rfl,hk⟩:=x.done;have noA:∀b:Up,b∉(Y0 CX P w K mg base N qual scope f cd A outer s H E).ex:=λb z=>absurd (show b∈([]:List Up)from z) (by simp)
 refine⟨⟨e0.mod,S.kind,rfl,rfl,Qr _,λy z c h1 h2=>?_,λy hy=>?_,λy c _ h=>?_,λ_=>hd,Around.frames_deeper e0.frames,.inr ⟨rfl,rfl⟩,λb z=>absurd z (noA b),e0.bs,e0.bsz,λb _ _=>noA b,λb z=>absurd z (noA b),e0.funs,e0.frf⟩,
  rfl,e0.bare,Un.kept hk,⟨_,x.toInCall.ns,λi y v h1 h2 h3=>?_⟩,λy c h=>⟨_,x.cell y c h⟩,e0.hok.fresh (Nat.le_refl _),λy c h=>?_,λp hp=>absurd (show p∈([]:List (Up×Obj))from hp) (by simp),e0.hok.kept hk,?_⟩
 ·exact name_of_addr x.apart (JV h1) (JV h2)
 ·have hy:scope.names.lookup y=some .cell∨scope.names.lookup y=some .free:=hy;rcases hy with hy|hy
  ·exact LA hy
  ·exact absurd rfl (S.nofree _ (JV hy))
 ·exact Nat.le_of_lt (x.above y c (JV h))
 ·have hi:i<vs.length:=by
   unfold XE at h2;by_cases hi:i<vs.length
   ·exact hi
   ·rw[List.getElem?_append_right (by simpa using hi)]at h2;rw[Qv]at h2;split at h2<;>cases h2
  have ha:vs[i]?=some v:=by
   unfold XE at h2;rw[List.getElem?_append_left (by simpa using hi),List.getElem?_map]at h2;cases e:vs[i]? with
   |none=>rw[e]at h2;cases h2
   |some a=>rw[e]at h2;cases h2;rfl
  obtain⟨u,hu,rv⟩:=r.get ha;have hp:ps[i]?=some y:=by rw[←S.pre,List.getElem?_take_of_lt (by omega)];exact h1
  have ndP:ps.Nodup:=by rw[←S.pre];exact S.nd.sublist (List.take_sublist _ _)
  refine⟨u,rv,?_⟩;rcases S.par y (Qo hp)with k|k
  ·exact .inl ⟨k,HU ndP hp hu k⟩
  ·obtain⟨c,e⟩:=LA (n:=s.heap.objs.size+1) k;refine .inr ⟨.inl k,c,e,?_⟩;have q:=x.cell y c e;rw[HS ndP hp hu (by show scope.names.lookup y≠_;rw[k];decide)]at q;exact q
 ·exact e0.hok.fresh (Nat.le_of_lt (x.above y c (JV h)))
 ·unfold XE;show _=N.length;rw[Qj,Qb,QA];omega
theorem FM{CX:CXT}{P:Uo}{w:World}{K:Frag}{mg:Str->Option Ul}{base:Heap}{k:Nat}{f:Up}{name qual:Str}{params:Arguments}{body:List Stmt}{scope:Scope}{dV kV doc pm cdv ct oc:Ul}{an od:Option Up}
  {osl:Array (Option Ul)} {N ps:List Str} {sp:Sp} (lk:K.lookup f=some ⟨oc,od,.func (PySem.W.fnOf name qual params body scope dV kV doc pm an cdv ct),osl⟩) (hcd:PySem.W.codeIn K cdv qual=true) (S:RB N ps scope)
  (len:∀vs H Q E,sp vs H Q E->vs.length=ps.length)
  (hbody:∀(A:Around)(outer:List Env)(s:Um)(H:Hp)(vs:List V)(Q:VK)(E:XK),Room k (A.deeper (envOfC qual scope s.heap.objs.size f cdv))->sp vs H Q E ->
   ∃t,PSs (Y0 CX P w K mg base N qual scope f cdv A outer s H E) body t/\t {nx:=λ_ H'=>Q .non H',rt:=Q} (XE N vs) H) :
  FnOk P w K mg base CX (k+1) f (PySem.W.fnOf name qual params body scope dV kV doc pm an cdv ct) ps sp:=by
 refine⟨len,λA outer s H args us vs Q E hr e0 hb r hsp=>?_⟩;have hl:=len _ _ _ _ hsp;have KX:K.In s.heap:=e0.mod.kin.keeps λb o e=>(e0.bs b o e).1;have lim:s.heap.NoLimit:=e0.mod.nolimit.keeps λb o e=>(e0.bs b o e).1
 have hkind:∀y∈ps.zip us,scope.names.lookup y.1=some .local∨(scope.names.lookup y.1=some .cell/\((cellsFrom (s.heap.objs.size+1) scope.names []).lookup y.1).isSome=true):=λ⟨n,v⟩ hy=>by
  rcases S.par n (List.of_mem_zip hy).1 with q|q
  ·exact .inl q
  ·exact .inr ⟨q,PySem.W.cellsFrom_some _ _ _ (.inl q)⟩
 refine codeAny_call_function hr.depth (KX _ _ lk) rfl S.co S.gen rfl (PySem.W.codeRec_of KX hcd) (hb _ _ _ _ ?_);refine wpAny_newFunctionEnv_cells S.kind hkind λenv he s1 x=>?_;subst he
 refine⟨lim.keeps x.toInCall.keep,codeAny_func ?_⟩;obtain⟨t,ht,hq⟩:=hbody A outer s H vs Q E (hr.deeper _) hsp;have I:Inv (Y0 CX P w K mg base N qual scope f cdv A outer s H E) [] (XE N vs) H s1:=qU S hr.hd e0 hl r x;refine QH (ht [] s1 (XE N vs) H _ I hq) (λfl s' hs=>?_) λe s' hs=>hs
 have fin:∀{σ':St}{H':Hp}{v:V}{u:Ul},Inv (Y0 CX P w K mg base N qual scope f cdv A outer s H E) [] σ' H' s'->RelV v u->Q v H'->CE outer P w H s Q u s':=
  λ{σ' H' v u} J rv q=>⟨v,H',J.os,J.bare,J.base,J.hok,rv,q⟩
 cases fl with
 |ret u=>obtain⟨v,σ',H',J,rv,q⟩:=hs;exact fin J rv q
 |next=>obtain⟨σ',H',J,q⟩:=hs;exact fin (v:=V.non) (u:=Value.none) J rfl q
 |brk=>obtain⟨_,_,_,q⟩:=hs;exact False.elim q
 |cont=>obtain⟨_,_,_,q⟩:=hs;exact False.elim q
section
variable{X:Cx}{x:Str}{p pos:Pos}{e:Ur}{es:List Ur}{t:TA}{id T:String}{r:List V->Hp->VK->Prop}
noncomputable def tCB(r:List V->Hp->VK->Prop)(t:TA):TE:=λσ H Q=>t σ H λvs H1=>r vs H1 Q
theorem Po(hc:YB X (.builtin id) r)(hg:Gl X x)(hm:X.mg x=none)(hv:bootBuiltins x=some (.builtin id))(ha:PA X (e::es) t)(hn:x ≠ "__name__" :=by decide)(hdb:(x==("__debug__" : Str))=false:=by decide)
  (he:Uu (e::es) X.env=(false,eval e X.env)::Uu es X.env:=by rfl) (hpl:(backTo pos (Uu es X.env)).any (·.1)=false:=by rfl):PE X (.Call (.Name x p) (e::es) [] pos) (tCB r t):=by
 intro pins s σ H Q I h;refine wpAny_Call_Name_kw (Vp I hg hm hv ?_ hn hdb);exact PyProof.Rows.callWith_builtin1 (thn (ha pos pins s σ H _ I h) λus s1 ⟨vs,H1,I1,r1,q1⟩=>hc pins s1 σ H1 vs us Q I1 r1 q1) he hpl
theorem PJ(hc:YB X (.type T) r)(hg:Gl X x)(hm:X.mg x=none)(hv:bootBuiltins x=some (.type T))(ha:PA X (e::es) t)(hn:x ≠ "__name__" :=by decide)(hdb:(x==("__debug__" : Str))=false:=by decide)
  (he:Uu (e::es) X.env=(false,eval e X.env)::Uu es X.env:=by rfl) (hpl:(backTo pos (Uu es X.env)).any (·.1)=false:=by rfl):PE X (.Call (.Name x p) (e::es) [] pos) (tCB r t):=by
 intro pins s σ H Q I h;refine wpAny_Call_Name_kw (Vp I hg hm hv ?_ hn hdb);exact Jz (thn (ha pos pins s σ H _ I h) λus s1 ⟨vs,H1,I1,r1,q1⟩=>hc pins s1 σ H1 vs us Q I1 r1 q1) he hpl
end
end L2
namespace HT
open PySem PyProof.Rows
section
open PySem.SeqAt
open PySem.AutoSeq1 (wpAny_loadPart')
open PySem.MeetsSeq PySem.MeetsSeq2 PySem.MeetsSeq3
end
section
variable{prog:Uo}{w:World}{A:Around}{E:Ul->Um->Prop}{s:Um}
noncomputable def sIx(n d:Nat):Option Int->Nat
 |none=>d
 |some v=>if v<0 then(v+(n:Int)).toNat else min v.toNat n
theorem BX(n d:Nat):sIx n d none=d:=rfl
theorem DZ(n d k:Nat):sIx n d (some (k:Int))=min k n:=by
 show(if(k:Int)<0 then((k:Int)+(n:Int)).toNat else min (k:Int).toNat n)=min k n
 rw[QB (by omega),Qt]
end
end HT
namespace L2
open PySem PySem.Spec PyProof.Rows
abbrev TO:=St->Hp->(Option Int->Hp->Prop)->Prop
def PO(X:Cx)(e:Option Ur)(t:TO):Prop:=
 ∀(pins:List (Up×Obj))(s:Um)(σ:St)(H:Hp)(Q:Option Int->Hp->Prop),Inv X pins σ H s->t σ H Q ->
  Ut (model X.prog X.w) X.A (evalPart e X.env) (λu s'=>∃o H',Inv X pins σ H' s'/\IsPart u o/\Q o H') X.xe s
noncomputable def DY:TO:=λ_ H Q=>Q none H
noncomputable def FL(t:TE):TO:=λσ H Q=>t σ H λx H1=>∃i,x=.int i/\Q (some i) H1
section
variable{X:Cx}{e:Ur}{te:TE}{lo hi:Option Ur}{tl th:TO}{pos p2:Pos}
theorem DX:PO X none DY:=by intro pins s σ H Q I h;rw[evalPart_none];exact Qh ⟨none,H,I,.none,h⟩
theorem DW(h:PE X e te):PO X (some e) (FL te):=by
 intro pins s σ H Q I hw;rw[evalPart_some];refine thn (h pins s σ H _ I hw) λu s1 ⟨x,H1,I1,r1,q1⟩=>?_
 obtain⟨i,rfl,q⟩:=q1;obtain⟨t,rfl⟩:=r1;exact⟨some i,H1,I1,.int i t,q⟩
def SlR(X:Cx)(r:V->Option Int->Option Int->Hp->VK->Prop):Prop:=
 ∀(pins:List (Up×Obj))(s:Um)(σ:St)(H:Hp)(x:V)(v vl vu:Ul)(lo hi:Option Int)(sl:Up)(Q:VK),Inv X pins σ H s->RelV x v->s.heap.IsSliceOf sl vl vu .none->IsPart vl lo->IsPart vu hi->r x lo hi H Q ->
  ∃T id,typeLookup (.type T) "__getitem__" = pure (some (.builtin id))/\s.TypeIs v T/\Ut (model X.prog X.w) X.A (getItem v (.ref sl)) (EP X pins σ Q) X.xe s
theorem SlR.or{r r':V->Option Int->Option Int->Hp->VK->Prop}(h:SlR X r)(h':SlR X r'):SlR X (λx lo hi H Q=>r x lo hi H Q∨r' x lo hi H Q):=by
 intro pins s σ H x v vl vu lo hi sl Q I rx hs pl pu q;rcases q with q|q
 ·exact h pins s σ H x v vl vu lo hi sl Q I rx hs pl pu q
 ·exact h' pins s σ H x v vl vu lo hi sl Q I rx hs pl pu q
noncomputable def tSl(r:V->Option Int->Option Int->Hp->VK->Prop)(te:TE)(tl th:TO):TE:=λσ H Q=>te σ H λx H1=>tl σ H1 λl H2=>th σ H2 λu H3=>r x l u H3 Q
theorem BW{r:V->Option Int->Option Int->Hp->VK->Prop}(hr:SlR X r)(he:PE X e te)(hl:PO X lo tl)(hu:PO X hi th):PE X (.Subscript e (.Slice lo hi none p2) pos) (tSl r te tl th):=by
 intro pins s σ H Q I h;refine Subscript_ (thn (he pins s σ H _ I h) λv s1 ⟨x,H1,I1,r1,q1⟩=>?_);refine wpAny_Slice (thn (hl pins s1 σ H1 _ I1 q1) λvl s2 ⟨l,H2,I2,pl,q2⟩=>thn (hu pins s2 σ H2 _ I2 q2) λvu s3 ⟨u,H3,I3,pu,q3⟩=>?_);rw[evalPart_none];refine Qh ?_;have I4:Inv X pins σ H3 {s3 with heap:=s3.heap.push {cls:=.type "slice", data:=.fields #[vl,vu,.none]}}:=I3.kept (t':=s3.toks) λb ob q=>Qk _ q
 obtain⟨T,id,hT,ht,hg⟩:=hr pins {s3 with heap:=s3.heap.push {cls:=.type "slice", data:=.fields #[vl,vu,.none]}} σ H3 x v vl vu l u s3.heap.objs.size Q I4 r1 (Heap.IsSliceOf.new ..) pl pu q3;show Ut (model X.prog X.w) X.A (subscriptTail e (.Slice lo hi none p2) v (.ref s3.heap.objs.size)) (EP X pins σ Q) X.xe {s3 with heap:=s3.heap.push {cls:=.type "slice", data:=.fields #[vl,vu,.none]}};exact tail_any (ops:=[.ref s3.heap.objs.size,v]) ht hT hg (by with_unfolding_all rfl)
noncomputable def Xm(xs:List V)(lo hi:Option Int):List V:=(xs.drop (HT.sIx xs.length 0 lo)).take (HT.sIx xs.length xs.length hi-HT.sIx xs.length 0 lo)
theorem jp(xs:List V)(lo hi:Option Int):(Xm xs lo hi).length<=xs.length:=by unfold Xm;rw[QO,Jj];omega
end
noncomputable def ixN(n:Nat)(i:Int):Option Nat:=if 0<=i then(if i<n then some i.toNat else none)else if -(n:Int)<=i then some (i+n).toNat else none
noncomputable def atI{α:Type}(xs:List α)(i:Int):Option α:=(ixN xs.length i).bind λj=>xs[j]?
theorem DV{n:Nat}{i:Int}{j:Nat}(h:ixN n i=some j):seqIndex? i n=some j/\j<n /\ -(n:Int)<=i/\i<n:=by
 unfold ixN at h;by_cases h0:0<=i
 ·rw[Qp h0]at h;by_cases h1:i<n
  ·rw[Qp h1]at h;have e:i.toNat=j:=QQ h;exact⟨by rw[seqIndex_of h0 h1,e],by omega,by omega,h1⟩
  ·rw[QB h1]at h;cases h
 ·rw[QB h0]at h;by_cases h1 : -(n:Int)<=i
  ·rw[Qp h1]at h;have e:(i+n).toNat=j:=QQ h;exact⟨by rw[seqIndex_neg (by omega) h1,e],by omega,h1,by omega⟩
  ·rw[QB h1]at h;cases h
theorem Ol{α:Type}{xs:List α}{i:Int}{v:α}(h:atI xs i=some v):∃j,seqIndex? i xs.length=some j/\xs[j]?=some v/\j<xs.length /\ -(xs.length:Int)<=i/\i<xs.length:=by
 unfold atI at h;cases e:ixN xs.length i with
 |none=>rw[e]at h;cases h
 |some j=>rw[e]at h;obtain⟨h1,h2,h3,h4⟩:=DV e;exact⟨j,h1,h,h2,h3,h4⟩
theorem KU{α:Type}{xs:List α}{j:Nat}{v:α}(h:xs[j]?=some v):atI xs (j:Int)=some v:=by
 have hj:j<xs.length:=(Qg.mp h).1;have e:ixN xs.length (j:Int)=some j:=by unfold ixN;rw[if_pos (by omega),if_pos (by omega)];simp
 unfold atI;rw[e];exact h
def Oj(b:Ur):Prop:=∀o i,subscripted b false o i=operate [o,i] (getItem o i)
def IxR(X:Cx)(r:R2):Prop:=
 ∀(value slice:Ur)(pins:List (Up×Obj))(s:Um)(σ:St)(H:Hp)(x y:V)(v u:Ul)(Q:VK),Inv X pins σ H s->RelV x v->RelV y u->r x y H Q ->
  subscripted slice false v u=operate [v,u] (getItem v u)->Ut (model X.prog X.w) X.A (subscriptTail value slice v u) (EP X pins σ Q) X.xe s
def MtR(X:Cx)(id:String)(r:V->List V->Hp->VK->Prop):Prop:=
 ∀(pins:List (Up×Obj))(s:Um)(σ:St)(H:Hp)(x:V)(xs:List V)(v:Ul)(us:List Ul)(Q:VK),Inv X pins σ H s->RelV x v->Vals xs us->r x xs H Q ->
  Ut (model X.prog X.w) X.A (call (.builtin id) (v::us)) (EP X pins σ Q) X.xe s
section
variable{X:Cx}{a b:Ur}{ta tb:TE}{pos:Pos}
theorem IxR.or{r r':R2}(h:IxR X r)(h':IxR X r'):IxR X (λx y H Q=>r x y H Q∨r' x y H Q):=by
 intro value slice pins s σ H x y v u Q I rx ry q hs;rcases q with q|q
 ·exact h value slice pins s σ H x y v u Q I rx ry q hs
 ·exact h' value slice pins s σ H x y v u Q I rx ry q hs
theorem Nz{r:R2}(hr:IxR X r)(ha:PE X a ta)(hb:PE X b tb)(hs:Oj b):PE X (.Subscript a b pos) (tOp r ta tb):=by intro pins s σ H Q I h;exact Subscript_ (Sg ha hb I h λv u s2 x y H2 I2 rx ry q=>hr a b pins s2 σ H2 x y v u Q I2 rx ry q (hs _ _))
noncomputable def rIxL(K:Frag):R2:=λx y H Q=>∃p xs i v,x=.ref p/\y=.int i/\SqL K H p xs/\atI xs i=some v/\Q v H
noncomputable def rIxT(K:Frag):R2:=λx y H Q=>∃p xs i v,x=.ref p/\y=.int i/\SqT K H p xs/\atI xs i=some v/\Q v H
noncomputable def rIxS:R2:=λx y H Q=>∃z i c,x=.str z/\y=.int i/\z.length<=Us/\atI z.cps.toList i=some c/\Q (.str ⟨#[c]⟩) H
theorem Cy:IxR X (rIxL X.K):=by
 intro value slice pins s σ H x y v u Q I rx ry h hs;obtain⟨p,xs,i,z,rfl,rfl,hq,he,q⟩:=h;cases rx;obtain⟨t,rfl⟩:=ry;obtain⟨its,r,pl,hz⟩:=I.list hq;obtain⟨j,h1,h2,h3,h4,h5⟩:=Ol he;obtain⟨w,ew,rw'⟩:=r.get h2;have hl:=r.length;have hn:=Ry;have fin:EP X pins σ Q w s:=⟨z,H,I,rw',q⟩
 by_cases h0:0<=i
 ·have hj:i.toNat=j:=by
   rw[seqIndex_of h0 h5]at h1;exact QQ h1
  exact item_listR pl.isList h0 (by omega) (by rw[hj];simpa using ew) fin hs
 ·have hj:(i+(its.toArray.size:Int)).toNat=j:=by
   rw[seqIndex_neg (by omega) h4]at h1;rw[QI,←hl];exact QQ h1
  exact subscriptTail_builtinR (x:=w) pl.isList.typeIs slot_list_getitem.lookup
   (wpAny_getItem_list_neg (Q:=λr s'=>r=w/\EP X pins σ Q r s') pl.isList (by omega) (by rw[List.size_toArray]<;>omega) (by omega) (by rw[hj];simpa using ew) ⟨rfl,fin⟩) hs
theorem Ek:IxR X (rIxT X.K):=by
 intro value slice pins s σ H x y v u Q I rx ry h hs;obtain⟨p,xs,i,z,rfl,rfl,hq,he,q⟩:=h;cases rx;obtain⟨t,rfl⟩:=ry;obtain⟨its,r,pl,hz⟩:=I.tuple hq;obtain⟨j,h1,h2,h3,h4,h5⟩:=Ol he;obtain⟨w,ew,rw'⟩:=r.get h2;have hl:=r.length;have hn:=Ry;have fin:EP X pins σ Q w s:=⟨z,H,I,rw',q⟩
 exact subscriptTail_builtinR (x:=w) pl.typeIs slot_tuple_getitem.lookup
  (getItem_tuple (j:=j) (Q:=λr s'=>r=w/\EP X pins σ Q r s') pl (by omega) (by omega) (by rw[List.size_toArray,←hl];exact h1) (by simpa using ew) ⟨rfl,fin⟩) hs
theorem Ej:IxR X rIxS:=by
 intro value slice pins s σ H x y v u Q I rx ry h hs;obtain⟨z,i,c,rfl,rfl,hz,he,q⟩:=h;obtain⟨t,rfl⟩:=rx;obtain⟨t',rfl⟩:=ry;obtain⟨j,h1,h2,h3,h4,h5⟩:=Ol he;have hl:z.cps.toList.length=z.length:=by simp[Str.length]
 rw[hl]at h1 h4 h5;have hn:=Ry;exact tail_any (typeIs_str s z t) slot_str_getitem.lookup (getItem_str (c:=c) (by have e1:decide (i < -(2 ^ 63:Int))=false:=QG (by omega);have e2:decide (i ≥ 2 ^ 63)=false:=QG (by omega);rw[e1,e2,Bool.or_false]) (by rw[h1];simpa using h2) ⟨.str ⟨#[c]⟩,H,I.tok _,⟨_,rfl⟩,q⟩) hs
noncomputable def rIx(K:Frag):R2:=λx y H Q=>rIxL K x y H Q∨rIxT K x y H Q∨rIxS x y H Q
theorem NV:IxR X (rIx X.K):=Cy.or (Ek.or Ej)
theorem jM(lo hi:Option Int)(n:Nat):(sliceBounds lo hi none n).1=((HT.sIx n 0 lo:Nat):Int)/\(sliceBounds lo hi none n).2.1=((HT.sIx n n hi:Nat):Int)/\(sliceBounds lo hi none n).2.2=1:=by
 refine⟨?_,?_,rfl⟩
 ·cases lo with
  |none=>simp[sliceBounds,HT.sIx]
  |some i=>
   simp only[sliceBounds,HT.sIx,Option.getD_none,show(1:Int) > 0 by decide,if_true];by_cases h:i<0
   ·simp only[h,if_true]<;>omega
   ·simp only[h,Ud]<;>omega
 ·cases hi with
  |none=>simp[sliceBounds,HT.sIx]
  |some i=>
   simp only[sliceBounds,HT.sIx,Option.getD_none,show(1:Int) > 0 by decide,if_true];by_cases h:i<0
   ·simp only[h,if_true]<;>omega
   ·simp only[h,Ud]<;>omega
theorem jW(its:List Ul)(lo hi:Option Int):slicePick its.toArray lo hi none=((its.drop (HT.sIx its.length 0 lo)).take (HT.sIx its.length its.length hi-HT.sIx its.length 0 lo)).toArray:=by obtain⟨h1,h2,h3⟩:=jM lo hi its.toArray.size;unfold slicePick;rw[h1,h2,h3];simp only[sliceRange_one,pick_run,QI]<;>rfl
noncomputable def rSlL(K:Frag):V->Option Int->Option Int->Hp->VK->Prop:=λx lo hi H Q=>∃a xs,x=.ref a/\SqL K H a xs/\∀p,H p=none->Q (.ref p) (upd H p (.lst (Xm xs lo hi)))
theorem Cw:SlR X (rSlL X.K):=by intro pins s σ H x v vl vu lo hi sl Q I rx hs pl pu h;obtain⟨a,xs,rfl,hx,q⟩:=h;cases rx;obtain⟨its,r,ht,hz⟩:=I.list hx;have hlen:=r.length;refine⟨"list", _,slot_list_getitem.lookup,ht.isList.typeIs,?_⟩;refine wpAny_getItem_list_slice ht.isList hs pl pu .none (by simp) ?_ (by rw[List.size_toArray]<;>omega);rw[jW,←hlen];refine⟨.ref s.heap.objs.size,_,I.laid (t':=s.toks) (o:=.lst (Xm xs lo hi)) (λb ob q=>Qk _ q) (Qr _) ?_,rfl,q _ (I.hok.fresh (Qr _))⟩;exact⟨QT (jp xs lo hi) hz,_,0,(r.drop (HT.sIx xs.length 0 lo)).take (HT.sIx xs.length xs.length hi-HT.sIx xs.length 0 lo),Qz _ rfl⟩
theorem Gs:YB X (.type "list") (λxs H Q=>∃p ys,xs=[.ref p]/\(SqL X.K H p ys∨SqT X.K H p ys)/\∀l,H l=none->Q (.ref l) (upd H l (.lst ys))):=by
 intro pins s σ H xs us Q I r h;obtain⟨p,ys,rfl,hq,q⟩:=h;obtain⟨u,rfl,rx⟩:=RZ r;cases rx
 have fin:∀(its:List Ul),Vals ys its->ys.length<=Us->∀(h':Heap)(c':Nat),(∀b o',s.heap.get? b=some o'->h'.get? b=some o') ->
   h'.get? s.heap.objs.size=some {cls:=.type "list", dict:=none,data:=.seq its.toArray c',slots:=#[]}->EP X pins σ Q (.ref s.heap.objs.size) {s with heap:=h'}:=λits r' hz h' c' kp e=>
  ⟨.ref s.heap.objs.size,_,I.laid (t':=s.toks) kp (Qr _) (show Zm X.prog X.w _ h' _ (.lst ys)from⟨hz,its,c',r',e⟩),rfl,q _ (I.hok.fresh (Qr _))⟩
 rcases hq with hq|hq
 ·obtain⟨its,r',pl,hz⟩:=I.list hq;have hlen:=r'.length;obtain⟨o,ho,hc,n,hd⟩:=pl.isList;exact call_list_seq p (.inl rfl) ho hc hd (λh' c' kp e=>fin its r' hz h' c' kp e) (by simp only[QI]<;>omega)
 ·obtain⟨its,r',pl,hz⟩:=I.tuple hq;have hlen:=r'.length;obtain⟨o,ho,hc,n,hd⟩:=pl;exact call_list_seq p (.inr rfl) ho hc hd (λh' c' kp e=>fin its r' hz h' c' kp e) (by simp only[QI]<;>omega)
def tyV(K:Frag)(T:String)(x:V)(H:Hp):Prop:=match x with
 |.str _=>T = "str"
 |.int _=>T = "int"
 |.ref p=>(T = "list" /\ ∃xs,SqL K H p xs)∨(T = "tuple" /\ ∃o,K.lookup p=some o/\o.cls=.type "tuple" /\ o.dict=none) ∨
   (T = "dict" /\ ((∃kvs,H p=some (.dK kvs)) ∨ ∃kvs,H p=some (.dT kvs)))∨(T = "set" /\ ∃S n,H p=some (.set S n))
 |_=>False
theorem Ei{pins:List (Up×Obj)}{σ:St}{H:Hp}{s:Um}{T:String}{x:V}{v:Ul}(I:Inv X pins σ H s)(r:RelV x v)(ty:tyV X.K T x H) :
  s.TypeIs v T/\∀a,v=.ref a->∃ob,s.heap.get? a=some ob/\ob.dict=none:=by
 cases x with
 |str z=>obtain⟨t,rfl⟩:=r;cases (show T = "str" from ty);exact⟨typeIs_str s z t,λ_ e=>nomatch e⟩
 |int i=>obtain⟨t,rfl⟩:=r;cases (show T = "int" from ty);exact⟨typeIs_int s i t,λ_ e=>nomatch e⟩
 |ref p=>
  cases r;rcases ty with ⟨rfl,xs,hq⟩|⟨rfl,o,hk,hc,hd⟩|⟨rfl,hk⟩|⟨rfl,S,n,hk⟩
  ·obtain⟨its,_,pl,_⟩:=I.list hq;refine⟨pl.isList.typeIs,λa e=>?_⟩;cases e;obtain⟨o,n,e,c,hd,_⟩:=pl;exact⟨o,e,hd⟩
  ·refine⟨⟨o,I.kIn p o hk,hc⟩,λa e=>?_⟩;cases e;exact⟨o,I.kIn _ o hk,hd⟩
  ·have z:∃o,s.heap.get? p=some o/\o.ExactDict:=by
    rcases hk with ⟨kvs,hk⟩|⟨kvs,hk⟩
    ·obtain⟨_,_,_,_,o,_,_,e,ex,_⟩:=I.hok p _ hk;exact⟨o,e,ex⟩
    ·obtain⟨_,_,_,_,o,_,_,e,ex,_⟩:=I.hok p _ hk;exact⟨o,e,ex⟩
   obtain⟨o,e,ex⟩:=z;refine⟨⟨o,e,ex.1⟩,λa e2=>?_⟩;cases e2;exact⟨o,e,ex.2.1⟩
  ·obtain⟨o,_,_,_,e,ex,_⟩:=I.hok p _ hk;refine⟨⟨o,e,ex.1⟩,λa e2=>?_⟩;cases e2;exact⟨o,e,ex.2.1⟩
 |_=>exact False.elim ty
noncomputable def tBM(K:Frag)(T:String)(r:V->List V->Hp->VK->Prop)(to:TE)(t:TA):TE:=λσ H Q=>to σ H λx H1=>tyV K T x H1/\t σ H1 λxs H2=>r x xs H2 Q
variable{o e:Ur}{es:List Ur}{to:TE}{t:TA}{name:Str}{apos cpos:Pos}{T id:String}{r:V->List V->Hp->VK->Prop}
theorem RY(pa:PlainAttrs T)(slot:Slot T name id)(hty:typeOf (.builtin id)=pure (.type "method_descriptor"))(hm:MtR X id r)(ho:PE X o to)(ha:PA X (e::es) t)
  (hbase:attributeBase o name X.env (eval o X.env)=eval o X.env:=by rfl)
  (hfew:((backTo cpos (Uu (e::es) X.env)).all (λx=>!x.1)&&(backToKw cpos (keywordEach [] X.env)).all (λx=>x.1.isSome)
   && decide ((e::es).length+([]:List Keyword).length+(if([]:List Keyword).isEmpty then 0 else 1)<30))=true:=by rfl)
  (hline:(apos.endLine==cpos.line)=true:=by rfl) (hs:Uu (e::es) X.env=(false,eval e X.env)::Uu es X.env:=by rfl) (hplain:(backTo cpos (Uu es X.env)).any (·.1)=false:=by rfl) :
  PE X (.Call (.Attribute o name apos) (e::es) [] cpos) (tBM X.K T r to t):=by
 intro pins s σ H Q I h;refine wpAny_Call_method_late hbase hfew hline rfl (thn (ho pins s σ H _ I h) λv s1 ⟨x,H1,I1,r1,ty,q1⟩=>?_);obtain⟨h1,h2⟩:=Ei I1 r1 ty;refine⟨T,id,pa,slot,hty,h1,h2,?_⟩;have hA:=ha cpos pins s1 σ H1 _ I1 q1;rw[hs]at hA⊢;refine Calls.callWith_builtin (by show(false || (backTo cpos (Uu es X.env)).any (·.1))=false;rw[hplain]<;>rfl) (Calls.evalArgs_plain ?_);exact thn hA λus s2 ⟨vs,H2,I2,r2,q2⟩=>hm pins s2 σ H2 x vs v us Q I2 r1 r2 q2
end
def MtM(X:Cx)(id:String)(r:V->List V->Hp->VK->Prop):Prop:=
 ∀(pins:List (Up×Obj))(s:Um)(σ:St)(H:Hp)(x:V)(xs:List V)(v:Ul)(us:List Ul)(Q:VK),Inv X pins σ H s->RelV x v->Vals xs us->r x xs H Q ->
  Ut (model X.prog X.w) X.A (call (.builtin id) (v::us)) (EP X pins σ Q) X.xe s
theorem Vals.one:∀{x:V}{us:List Ul},Vals [x] us->∃u,us=[u]/\RelV x u
 |_,_,.cons r .nil=>⟨_,rfl,r⟩
theorem Vals.two:∀{x y:V}{us:List Ul},Vals [x,y] us->∃u v,us=[u,v]/\RelV x u/\RelV y v
 |_,_,_,.cons r (.cons q .nil)=>⟨_,_,rfl,r,q⟩
theorem Vals.reverse{xs:List V}{us:List Ul}(h:Vals xs us):Vals xs.reverse us.reverse:=by
 induction h with
 |nil=>exact .nil
 |cons r t ih=>rw[List.reverse_cons,List.reverse_cons];exact Vals.append ih (.cons r .nil)
theorem Vals.rep{xs:List V}{us:List Ul}(h:Vals xs us):∀k:Nat,Vals (Ux k xs).flatten (Ux k us).flatten
 |0=>.nil
 |k+1=>by rw[QU,QU,QM,QM];exact Vals.append h (Vals.rep h k)
theorem Hc(its:List Ul):∀(k:Nat)(acc:List Ul),
  List.foldl (λx1 x2=>x1++x2) acc.toArray (Ux k its.toArray)=(acc++(Ux k its).flatten).toArray
 |0,acc=>by simp
 |k+1,acc=>by
  have e:acc.toArray++its.toArray=(acc++its).toArray:=by simp
  have e2:(acc++its)++(Ux k its).flatten=acc++(Ux (k+1) its).flatten:=by rw[QU,QM,Q9]
  rw[←e2,←Hc its k (acc++its),←e,QU,JH]
section
variable{X:Cx}{pins:List (Up×Obj)}{σ:St}{H:Hp}{s:Um}{l b:Up}{xs ys zs:List V}
theorem Inv.lset{its its':List Ul}{n:Nat}{f:Array Ul->Array Ul}{t':Nat}(I:Inv X pins σ H s)(hH:H l=some (.lst xs))
  (e:s.heap.get? l=some {cls:=.type "list", data:=.seq its.toArray n}) (hf:f its.toArray=its'.toArray) (hv:Vals ys its') (hz:ys.length<=Us) :
  Inv X pins σ (upd H l (.lst ys)) {s with heap:=s.heap.update l (Obj.mapSeq f),toks:=t'}:=by
 have q:=PySem.IsL.update e f;rw[hf]at q;refine I.write (x:=l) (e:=l) (by rw[hH];exact trivial) (.inl rfl) (λb' u hb hu=>(Heap.get?_update_other s.heap (Obj.mapSeq f) (Ne.symm hb)).trans hu) ⟨_,q⟩ ?_;exact⟨hz,its',_,hv,q⟩
theorem Inv.lnew{its:List Ul}{t':Nat}(I:Inv X pins σ H s)(hv:Vals ys its)(hz:ys.length<=Us) :
  Inv X pins σ (upd H s.heap.objs.size (.lst ys)) {s with heap:=s.heap.push {cls:=.type "list", data:=.seq its.toArray},toks:=t'}:=
 I.laid (λ_ _ q=>Qk _ q) (Qr _) ⟨hz,its,0,hv,Qz _ rfl⟩
theorem Inv.fresh(I:Inv X pins σ H s):H s.heap.objs.size=none:=I.hok.fresh (Qr _)
theorem Inv.lstM(I:Inv X pins σ H s)(hH:H l=some (.lst xs)):xs.length<=Us/\∃(its:List Ul)(n:Nat),Vals xs its/\xs.length=its.length/\s.heap.get? l=some {cls:=.type "list", data:=.seq its.toArray n}:=by obtain⟨z,its,n,r,e⟩:=I.hok l _ hH;exact⟨z,its,n,r,r.length,e⟩
theorem Lz{n:Nat}(h:n<=Us):Builtin.List.listTooLong n=false:=by unfold Builtin.List.listTooLong;exact QG (by omega)
end
section
variable{X:Cx}
noncomputable def Cv:V->List V->Hp->VK->Prop:=λx vs H Q=>∃l xs y,x=.ref l/\vs=[y]/\H l=some (.lst xs)/\xs.length<Us/\Q .non (upd H l (.lst (xs++[y])))
theorem Hb:MtM X "list.append" Cv:=by intro pins s σ H x vs v us Q I rx rv h;obtain⟨l,xs,y,rfl,rfl,hH,hz,q⟩:=h;cases rx;obtain⟨u,rfl,ru⟩:=rv.one;obtain⟨z,its,n,r,hl,e⟩:=I.lstM hH;refine call_meets F.slot_list_append ⟨_,e,rfl⟩ F.entry_list_append (F.args_list_append_2 _ _) (PySem.list_append l its.toArray n u (by rw[QI];omega)) ⟨e,?_⟩;refine⟨.non,_,I.lset (its':=its++[u]) hH e (by simp) (r.append (.cons ru .nil)) ?_,rfl,q⟩;rw[Qj,Q6];omega
noncomputable def Cu:V->List V->Hp->VK->Prop:=λx vs H Q=>∃l b xs zs,x=.ref l/\vs=[.ref b]/\H l=some (.lst xs)/\H b=some (.lst zs)/\xs.length+zs.length<=Us/\Q .non (upd H l (.lst (xs++zs)))
theorem qT:MtM X "list.extend" Cu:=by
 intro pins s σ H x vs v us Q I rx rv h;obtain⟨l,b,xs,zs,rfl,rfl,hH,hB,hz,q⟩:=h;cases rx;obtain⟨u,rfl,ru⟩:=rv.one;cases ru;obtain⟨z,its,n,r,hl,e⟩:=I.lstM hH;obtain⟨z2,its2,n2,r2,hl2,e2⟩:=I.lstM hB;have hsz:its.toArray.size+its2.toArray.size<=Us:=by rw[QI,QI];omega
 have hlong:¬(!its.toArray.isEmpty&&Builtin.List.listTooLong (its.toArray.size+its2.toArray.size))=true:=by rw[Lz hsz,Bool.and_false];exact Jl
 refine call_meets F.slot_list_extend ⟨_,e,rfl⟩ F.entry_list_extend (F.args_list_extend_2 _ _)
  (AutoSeq1.list_extend_list_list_0 l its.toArray n b its2.toArray n2 hlong (by rw[QI];omega) (by omega)) ⟨e,e2,?_⟩
 refine⟨.non,_,I.lset (its':=its++its2) hH e (by simp) (r.append r2) ?_,rfl,q⟩;rw[Qj];omega
theorem Ct{α:Type}(xs:List α)(k:Nat):(Ux k xs).flatten.length=k*xs.length:=by
 induction k with
 |zero=>simp
 |succ k ih=>rw[QU,QM,Qj,ih,Nat.succ_mul,Nat.add_comm]
end
section
variable{prog:Uo}{w:World}{A:Around}{E:Ul->Um->Prop}{s:Um}
set_option maxRecDepth 100000 in
end
section
variable{X:Cx}
end
end L2
namespace Att
open PySem PySem.W PySem.Calls PyProof.Rows
theorem j7{P:Params}{h:Heap}:∀(ns:List Int)(vs:List Ul),WellAll P h vs (ns.map WData.int)->IntsAre vs ns:=by
 intro ns;induction ns with
 |nil=>intro vs w;rw[Ug]at w;cases w;exact .nil
 |cons n ns ih=>
  intro vs w;rw[Qy]at w;cases w with
  |cons a b=>cases a;exact .cons _ _ (ih _ b)
theorem qS{l:OpenLaw}{n:Nat}(hn:l.most=some n){P:Params}{h:Heap}{args:List WData}{vals:List Ul}
  (hpre:l.row.toRowW.claim.pre args=true) (hwl:WellAll P h vals args) :
  ∃a vs ns,vals=[Value.ref a]/\args=[WData.list (ns.map WData.int)]/\h.get? a=some {cls:=.type "list", data:=.seq vs.toArray}/\IntsAre vs ns/\ns.length<=n:=by
 have hsh:WShape.hasAll [] args [.list .int]=true:=(pre_splitW hpre).1;have hc:l.pre.holds [] {args:=args}=true:=(pre_splitW hpre).2;obtain⟨d,r,rfl,h1,h2⟩:=hasAllW_cons hsh;obtain rfl:=hasAllW_nil h2;obtain⟨xs,rfl,h3⟩:=hasW_list h1;obtain⟨ns,rfl⟩:=items_int h3
 have hlen:ns.length<=n:=by
  unfold OpenLaw.pre at hc;have h4:(WTm.not (.lt (.lit (.int (n:Int))) (.len (.arg 0)))).holds [] {args:=[.list (ns.map .int)]}=true:=by have h4:=(holds_andW hc).1;rw[hn]at h4;exact h4
  have h5:=condW_of h4 (w_not (w_lt w_lit (w_len_list (w_arg rfl))));rw[Qb]at h5;refine Jd λq=>?_;have q':(n:Int)<((ns.length:Nat):Int):=by omega
  first
   |(rw[Q5 q']at h5;exact absurd h5 (by decide))
   |(simp at h5;omega)
 cases hwl with
 |cons w1 w2=>
  cases w2;cases w1 with
  |list ho hall=>exact⟨_,_,ns,rfl,rfl,ho,j7 ns _ hall,hlen⟩
theorem qR(l:OpenLaw)(args:List WData):l.row.toRowW.claim.post args (.bool true) args=true:=
 postW_of (r:=l.row.toRowW) (X:=(true==true))
  (show WShape.has [] (.bool true) .bool=true by first|rfl|decide|simp[WShape.has,WShape.arms,WShape.armsAll])
  (show(WTm.eq .res (.lit (.bool true))).value [] {args:=args,res:=some (.bool true),after:=args}=some (.bool (true==true))from w_eq_bool (w_res rfl) w_lit) rfl
theorem attach_call{l:OpenLaw}{n:Nat}{q:Uo}{loose:List Str}{XP:(Str->Option Ul)->Heap->Prop}{YP:World->Heap->Prop}{d:DefRec}
  (hn:l.most=some n) (hdf:d.params.defaults=[])
  (call:∀(w:World)(s₀ s₁:Um)(mg mb:Str->Option Ul)(fa:Up)(o:Obj)(pm cd doc:Ul)(a:Up)(vs:List Ul)(ns:List Int),
   Ground q loose [] XP w s₀ mg mb s₁.heap->YP w s₁.heap ->
   s₁.heap.get? fa=some o->o.data=.func (docDef d.name d.params d.body d.scope pm cd doc)->s₁.heap.CodeRec cd d.name->mg d.name=some (.ref fa) ->
   s₁.heap.get? a=some {cls:=.type "list", data:=.seq vs.toArray}->IntsAre vs ns->ns.length<=n->s₁.gens=#[] ->
   codeAny (model l.prog w) callerA (.call (.ref fa) ⟨[.ref a],[]⟩) (λr s'=>r=.ok (.ret (.bool true))/\OldK s₁.heap s'.heap/\s'.os=s₁.os/\AllBare s'.gens) s₁) :
  WalkO q loose XP YP l.row.toRowW d [] (λf vs=>PySem.call f vs):=by
 intro w s₀ s₁ mg mb G Y fa o pm cd doc dV kV ho hd hcd hD hmg hg args vals as hpre hlay hrd hwl hlo;obtain rfl:dV=.none:=Dflts.none hD hdf;obtain rfl:kV=.none:=Dflts.noKw hD;obtain⟨a,vs,ns,rfl,rfl,hobj,hints,hlen⟩:=qS hn hpre hwl;refine enter_call (codeAny_mono (call w s₀ s₁ mg mb fa o pm cd doc a vs ns G Y ho (fd_plain hd) hcd hmg hobj hints hlen hg) λr s' hq=>?_);obtain⟨rfl,h2,h3,h4⟩:=hq;exact⟨.inl ⟨.bool true,.bool true,[],rfl,λ_=>rfl,.bool true,qR l _,λ_=>⟨List.Pairwise.nil,λ_ hm=>(nomatch hm)⟩⟩,h2,h3,h4⟩
section
variable{prog:Uo}{w:World}{A:Around}{E:Ul->Um->Prop}{s:Um}{K:Frag}
end
end Att
namespace L2
open PySem PySem.Spec PyProof.Rows
theorem Wb:∀{vs:List Ul}{ns:List Int},IntsAre vs ns->Vals (ns.map V.int) vs
 |_,_,.nil=>.nil
 |_,_,.cons n t h=>.cons ⟨t,rfl⟩ (Wb h)
def Only(H:Hp):Prop:=∀b,H b=none ∨ ∃o xs,H b=some (.frz o (.lst xs))
theorem BV{P:Uo}{w:World}{K:Frag}{mg mb:Str->Option Ul}{CX:CXT}{k:Nat}{fa a:Up}{fd:Uq}{x:Str}{sp:Sp}{s₁:Um}{vs:List Ul}{ns:List Int}
  (KX:K.In s₁.heap) (hns:s₁.heap.Ns mainGlobals mg) (hb:s₁.heap.Ns builtinsNs mb) (hbb:∀x:Str,x ≠ "__name__" -> mb x=bootBuiltins x) (hlim:s₁.heap.NoLimit) (hg:s₁.gens=#[])
  (ha:s₁.heap.get? a=some {cls:=.type "list", data:=.seq vs.toArray}) (hi:IntsAre vs ns) (hl:ns.length<=Us) (hr:Room k callerA)
  (F:∀base:Heap,K.In base->base.Ns mainGlobals mg->FnOk P w K mg base CX k fa fd [x] sp) (hbind:∀(s:Um)(u:Ul),BindsTo s fd ⟨[u],[]⟩ [(x,u)])
  (hsp:∀H:Hp,Only H->SqL K H a (ns.map V.int)->sp [.ref a] H (λv _=>v=.bl true) λ_ _ _=>False)
  (hCX:∀H e s',CX [] H s₁ (λ_ _ _=>False) e s'->False) :
  codeAny (model P w) callerA (.call (.ref fa) ⟨[.ref a],[]⟩) (λr s'=>r=.ok (.ret (.bool true))/\OldK s₁.heap s'.heap/\s'.os=s₁.os/\AllBare s'.gens) s₁:=by
 have rv:=Wb hi;have lenV:=hi.length
 have core:∀H:Hp,Only H->SqL K H a (ns.map V.int)->HOk P w H s₁.heap->(∀b,H b≠none->b=a)->(H a≠none->K.lookup a=none) ->
   codeAny (model P w) callerA (.call (.ref fa) ⟨[.ref a],[]⟩) (λr s'=>r=.ok (.ret (.bool true))/\OldK s₁.heap s'.heap/\s'.os=s₁.os/\AllBare s'.gens) s₁:=by
  intro H hO hS hok hA hK;have base_of:∀{b:Up}{o:Obj},s₁.heap.get? b=some o->H b=none->(Yx s₁.heap H).get? b=some o:=λe n=>Br e n
  have noA:∀{b:Up}{o:Obj}{es:Array DictEntry}{ep:Nat},s₁.heap.get? b=some o->o.data=.dict es ep->H b=none:=λ{b o es ep} e d=>by
   cases q:H b with
   |none=>rfl
   |some u=>have e':b=a:=hA b (by rw[q];simp);subst e';rw[ha]at e;cases e;have d':Data.seq vs.toArray _=Data.dict es ep:=d;cases d'
  have nsK:∀{b:Up}{m:Str->Option Ul},s₁.heap.Ns b m->(Yx s₁.heap H).Ns b m:=λ{b m} ⟨o,es,ep,e,d,r⟩=>⟨o,es,ep,base_of e (noA e d),d,r⟩
  have hKb:K.In (Yx s₁.heap H):=λb o e=>base_of (KX b o e) (by
   cases q:H b with
   |none=>rfl
   |some u=>have e':b=a:=hA b (by rw[q];simp);subst e';rw[hK (by rw[q];simp)]at e;cases e)
  have hM:Mod K mg (Yx s₁.heap H):=⟨hKb,nsK hns,⟨mb,nsK hb,hbb⟩,let ⟨mc,h1,h2⟩:=hlim;⟨mc,nsK h1,h2⟩⟩
  have e0:Env0 P w K mg (Yx s₁.heap H) callerA [] s₁ H:=⟨rfl,hM,λb o e=>D6 e,Nat.le_of_eq (qC _ _),trivial,λb hb=>absurd (show b∈([]:List Up)from hb) (by simp),hok,.of_eq hg⟩
  refine codeAny_mono ((F _ hKb (nsK hns)).run callerA [] s₁ H ⟨[.ref a],[]⟩ [.ref a] [.ref a] _ _ hr e0 (hbind s₁ (.ref a)) (.cons rfl .nil) (hsp H hO hS)) λr s' h=>?_
  cases r with
  |error e=>exact(hCX H e s' h).elim
  |ok fl=>
   cases fl with
   |next=>exact False.elim h
   |brk=>exact False.elim h
   |cont=>exact False.elim h
   |ret u=>
    obtain⟨v,H',os,bare,un,hok',r',q⟩:=h;have q':v=.bl true:=q;subst q';obtain rfl:u=Value.bool true:=r';refine⟨rfl,OldK.of_keep λb o e=>?_,os,bare⟩;cases q:H b with
    |none=>exact un.keep b o e q (by intro z;exact absurd (show b∈([]:List Up)from z) (by simp)) (by simp)
    |some u=>
     rcases hO b with z|⟨ob,xs,z⟩
     ·rw[q]at z;cases z
     ·have z2:=un.frzs b ob _ z;obtain⟨e1,_⟩:=hok b _ z;obtain⟨e2,_⟩:=hok' b _ z2;rw[e]at e1;cases e1;exact e2
 cases hk:K.lookup a with
 |some o=>have e:=KX a o hk;rw[ha]at e;cases e;refine core (λ_=>none) (λ_=>.inl rfl) (.inr ⟨_,vs.toArray,_,hk,rfl,rfl,rfl,by rw[List.size_toArray,lenV];exact hl,by simpa using rv⟩) (λb u z=>by have z':(none:Option HO)=some u:=z;cases z') (λb z=>absurd rfl z) λz=>absurd rfl z
 |none=>
  refine core (λb=>if b=a then some (.frz {cls:=.type "list", data:=.seq vs.toArray} (.lst (ns.map V.int)))else none) (λb=>?_) (.inl (.inr ⟨{cls:=.type "list", data:=.seq vs.toArray},Qp rfl⟩)) (λb u z=>?_) (λb z=>?_) λ_=>hk
  ·by_cases hb:b=a
   ·exact .inr ⟨_,_,Qp hb⟩
   ·exact .inl (QB hb)
  ·by_cases hb:b=a
   ·have z':=(Qp hb).symm.trans z;cases z';subst hb;exact⟨ha,by rw[Qb];exact hl,vs,_,rv,ha⟩
   ·have z':=(QB hb).symm.trans z;cases z'
  ·by_cases hb:b=a
   ·exact hb
   ·exact absurd (QB hb) z
noncomputable def SG(s:Stmt):Arguments:=match s with
 |.FunctionDef _ a _ _ _ _ _ _ _ _=>a
 |_=>{posonlyargs:=[],args:=[],vararg:=none,kwonlyargs:=[],kw_defaults:=[],kwarg:=none,defaults:=[]}
noncomputable def Vv(s:Stmt):List Stmt:=match s with
 |.FunctionDef _ _ b _ _ _ _ _ _ _=>b
 |_=>[]
noncomputable def ZL(s:Stmt):Scope:=match s with
 |.FunctionDef _ _ _ _ _ _ sc _ _ _=>sc
 |_=>{kind:=.function,names:=[],isGenerator:=false,isCoroutine:=false}
noncomputable abbrev CX0:CXT:=λ_ _ _ _ _ _=>False
noncomputable abbrev E0:XK:=λ_ _ _=>False
theorem FJ{X:Cx}:Oa CX0 X E0:=λ_ _ _ _ _ _ _ h=>h.elim
structure Fun(K:Frag)(x qual:Str)(st:Stmt)(f:Up)(fd:Uq):Prop where
 ex:∃(oc:Ul)(od:Option Up)(kV doc pm:Ul)(an:Option Up)(cdv ct:Ul)(osl:Array (Option Ul)),
  fd=PySem.W.fnOf x qual (SG st) (Vv st) (ZL st) .none kV doc pm an cdv ct/\K.lookup f=some ⟨oc,od,.func fd,osl⟩/\PySem.W.codeIn K cdv qual=true
 kp:PySem.W.keepIn K (.ref f)=true
section
variable{P:Uo}{w:World}{K:Frag}{mg:Str->Option Ul}{base:Heap}
theorem Fun.ok{x qual:Str}{st:Stmt}{f:Up}{fd:Uq}{N ps:List Str}{k:Nat}{sp:Sp}(F:Fun K x qual st f fd)(S:RB N ps (ZL st))(len:∀vs H Q E,sp vs H Q E->vs.length=ps.length)
  (hbody:∀(cdv:Ul)(A:Around)(outer:List Env)(s:Um)(H:Hp)(vs:List V)(Q:VK)(E:XK),Room k (A.deeper (envOfC qual (ZL st) s.heap.objs.size f cdv))->sp vs H Q E ->
   ∃t,PSs (Y0 CX0 P w K mg base N qual (ZL st) f cdv A outer s H E).nox (Vv st) t/\t {nx:=λ_ H'=>Q .non H',rt:=Q} (XE N vs) H):FnOk P w K mg base CX0 (k+1) f fd ps sp:=by
 obtain⟨oc,od,kV,doc,pm,an,cdv,ct,osl,rfl,lk,hcd⟩:=F.ex;refine FM lk hcd S len λA outer s H vs Q E hr hsp=>?_
 obtain⟨t,h,q⟩:=hbody cdv A outer s H vs Q E hr hsp;exact⟨t,h.nox,q⟩
theorem Fun.binds{x qual:Str}{st:Stmt}{f:Up}{fd:Uq}{ps:List Str}(F:Fun K x qual st f fd)
  (h:∀(kV doc pm:Ul)(an:Option Up)(cdv ct:Ul)(us:List Ul),us.length=ps.length->bindArgs (PySem.W.fnOf x qual (SG st) (Vv st) (ZL st) .none kV doc pm an cdv ct) ⟨us,[]⟩=pure (ps.zip us)):Vn K fd ps []:=by
 obtain⟨oc,od,kV,doc,pm,an,cdv,ct,osl,rfl,lk,hcd⟩:=F.ex;exact .all (h kV doc pm an cdv ct)
end
section
variable{X:Cx}
end
def Same(H H':Hp):Prop:=∀b o,H b=some o->H' b=some o
theorem Same.refl(H:Hp):Same H H:=λ_ _ h=>h
theorem Same.trans{H H1 H2:Hp}(a:Same H H1)(b:Same H1 H2):Same H H2:=λc o h=>b c o (a c o h)
theorem Same.free{H H':Hp}(e:Same H H'){l:Up}(h:H' l=Option.none):H l=Option.none:=by
 cases q:H l with
 |none=>rfl
 |some o=>rw[e l o q]at h;cases h
theorem Same.seq{K:Frag}{H H':Hp}{a:Up}{xs:List V}(e:Same H H')(h:SqL K H a xs):SqL K H' a xs:=by
 rcases h with (h|⟨o,h⟩)|h
 ·exact .inl (.inl (e _ _ h))
 ·exact .inl (.inr ⟨o,e _ _ h⟩)
 ·exact .inr h
section
variable{X:Cx}{pins:List (Up×Obj)}{σ:St}{H:Hp}{s:Um}{h':Heap}
theorem Inv.turnedNew{t':Nat}{fp:List Up}{p:Up}{o:HO}(I:Inv X pins σ H s)(hf:∀b∈fp,Zw X pins H b)
  (k:∀b o,b∉fp->s.heap.get? b=some o->h'.get? b=some o) (hp:s.heap.objs.size<=p) (new:Zm X.prog X.w (upd H p o) h' p o) :
  Inv X pins σ (upd H p o) {s with heap:=h',toks:=t'}:=by
 have hn:H p=none:=I.hok.fresh hp;have trk:∀b u,H b=some u->b∉fp:=λb u e z=>by rw[(hf b z).1]at e;cases e
 refine I.step (g':=s.gens) (d':=s.drawn) (ch:=fp) (λb hb=>?_) (λb o _ _ hc e _=>k b o hc e) (λb o _ _ hc e _=>⟨o.slots,k b o hc e⟩)
  (λb o _ e n=>by rw[KM (QN (QF (Qi e) hp))];exact n) (λb o hc e=>⟨o,k b o hc e⟩)
  (λb xs e=>by rw[KM (Yc e hn)];exact e) (λb ob u e=>by rw[KM (Yc e hn)];exact e) (λb ps e=>⟨#[],by rw[KM (Yc e hn),e];simp⟩)
  (λm hm=>?_) (λb u e=>?_) I.bare
 ·obtain⟨_,f1,_,f3,f4,f5⟩:=hf b hb;exact⟨f3,f1,f4,f5⟩
 ·obtain⟨ob,es,ep,ho,r⟩:=hm;exact⟨ob,es,ep,k _ ob (λz=>(hf _ z).2.1 rfl) ho,r⟩
 ·by_cases hb:b=p
  ·subst hb;rw[Zc]at e;cases e;exact new
  ·rw[KM hb]at e;refine(I.hok b u e).stay (λc v hc q=>k c v ?_ q) (λc q=>by rw[KM (Yc q hn)];exact q) λc xs q=>by rw[KM (Yc q hn)];exact q
   rcases hc with z|z
   ·rw[z];exact trk b u e
   ·exact trk c _ z
theorem Inv.turnedL{t':Nat}{fp:List Up}(I:Inv X pins σ H s)(hf:∀b∈fp,Zw X pins H b)
  (k:∀b o,b∉fp->s.heap.get? b=some o->h'.get? b=some o):Inv X pins σ H {s with heap:=h',toks:=t'}:=by
 have trk:∀b u,H b=some u->b∉fp:=λb u e z=>by rw[(hf b z).1]at e;cases e
 refine I.step (g':=s.gens) (d':=s.drawn) (ch:=fp) (λb hb=>?_) (λb o _ _ hc e _=>k b o hc e) (λb o _ _ hc e _=>⟨o.slots,k b o hc e⟩)
  (λ_ _ _ _ n=>n) (λb o hc e=>⟨o,k b o hc e⟩) (λ_ _ e=>e) (λ_ _ _ e=>e) (λb ps e=>⟨#[],by rw[e];simp⟩) (λm hm=>?_) (λb u e=>?_) I.bare
 ·obtain⟨_,f1,_,f3,f4,f5⟩:=hf b hb;exact⟨f3,f1,f4,f5⟩
 ·obtain⟨ob,es,ep,ho,r⟩:=hm;exact⟨ob,es,ep,k _ ob (λz=>(hf _ z).2.1 rfl) ho,r⟩
 ·refine(I.hok b u e).stay (λc v hc q=>k c v ?_ q) (λc q=>q) λc xs q=>q
  rcases hc with z|z
  ·rw[z];exact trk b u e
  ·exact trk c _ z
end
noncomputable def Ite(K:Frag)(a:Up):It:=
 ⟨λi H=>∃xs x,SqL K H a xs/\xs[i]?=some x,
  λi H v H'=>∃p x,H p=none/\v=.ref p/\(∀xs,SqL K H a xs->xs[i]?=some x)/\H'=upd H p (.tup [.int i,x]),
  λi H=>∃xs,SqL K H a xs/\xs.length<=i⟩
theorem qQ{P:Uo}{w:World}{K:Frag}{elts:List Ur}{x1}{tp:Pos}(a e it:Up)(hne:e≠it) :
  Turn P w K (.Tuple elts x1 tp) (Ite K a) [e,it] e (λi h=>(∃old,IsEnum h e it i old)/\h.IsListIter it a i) where
 mem:=by simp
 obj:=λi h st b hb=>by
  obtain⟨⟨old,he⟩,o,ho,c,d⟩:=st;have hb':b=e∨b=it:=by simpa using hb
  rcases hb' with rfl|rfl
  ·exact⟨_,he,λv z=>by have z':Data.fields _=Data.cell v:=z;cases z'⟩
  ·exact⟨o,ho,λv z=>by rw[d]at z;cases z⟩
 keep:=λi h h' st k=>by obtain⟨⟨old,he⟩,hi⟩:=st;exact⟨⟨old,k e (by simp) _ he⟩,hi.at λo q=>k it (by simp) o q⟩
 item:=by
  intro X hP hw hK hc i pins s σ H E I hf st hg;subst hP hw hK;obtain⟨⟨old,he⟩,hi⟩:=st;obtain⟨xs,x,hq,hx⟩:=hg;obtain⟨its,rv,p,hz⟩:=I.list hq;obtain⟨u,hu,ru⟩:=rv.get hx;refine wpAny_pyNext_enum_item he hi p.isList (x:=u) (by simpa using hu) hne λh1 out hi1 ht hsz kk=>?_
  refine⟨_,rfl,wpAny_letOwnedTupleGo_enum out λh2 he2 hs2=>?_⟩;have hel:e<s.heap.objs.size:=Qi he;have hs2':Heap.SameBut e h1 h2:=hs2;have ht2:h2.get? s.heap.objs.size=some {cls:=.type "tuple", data:=.seq #[.int i s.toks,u]}:=(hs2'.2 _ (JR hel)).trans ht
  have kk2:∀b o,b∉[e,it]->s.heap.get? b=some o->h2.get? b=some o:=λb o hb q=>by
   have hbe:b≠e:=λz=>hb (by simp[z])
   have hbi:b≠it:=λz=>hb (by simp[z])
   exact(hs2'.2 b hbe).trans (kk b o hbe hbi q)
  have hn:H s.heap.objs.size=none:=I.hok.fresh (Qr _)
  have I2:Inv X pins σ (upd H s.heap.objs.size (.tup [.int i,x])) {s with heap:=h2,toks:=s.toks+1}:=
   I.turnedNew (fp:=[e,it]) hf kk2 (Qr _) ⟨by show 2<=Us;decide,[.int i s.toks,u],.cons ⟨_,rfl⟩ (.cons ru .nil),⟨_,ht2,rfl,_,rfl⟩⟩
  refine⟨.ref s.heap.objs.size,_,I2,rfl,⟨_,x,hn,rfl,λys hy=>by rw[I.list_inj hy hq];exact hx,rfl⟩,⟨⟨u,?_⟩,?_⟩,λb hb=>?_⟩
  ·have:=he2;simpa using this
  ·have hi2:h2.IsListIter it a (i+1):=hi1.at λo q=>(hs2'.2 it (Ne.symm hne)).trans q
   exact hi2
  ·have fr:=(hf b hb)
   have hlt:b<s.heap.objs.size:=by
    have hb':b=e∨b=it:=by simpa using hb
    rcases hb' with rfl|rfl
    ·exact hel
    ·obtain⟨o,ho,_⟩:=hi;exact Qi ho
   rw[KM (QN hlt)];exact fr.1
 done:=by intro X hP hw hK hc i pins s σ H E I hf st hg;subst hP hw hK;obtain⟨⟨old,he⟩,hi⟩:=st;obtain⟨xs,hq,hx⟩:=hg;obtain⟨its,rv,p,hz⟩:=I.list hq;have hl:=rv.length;exact wpAny_pyNext_enum_end (I.ok.hd hc) he hi p.isList (by simp;omega) λh' eb=>⟨rfl,I.turnedL (t':=s.toks) hf λb o hb q=>eb b o (λz=>hb (by simp[z])) q⟩
 self:=λ_ _ _ _ _ st h=>by obtain⟨⟨old,he⟩,_⟩:=st;exact wpAny_pyIter_enum he h
section
variable{X:Cx}
noncomputable def FI(K:Frag)(ta:TA):TI:=λσ H R=>ta σ H λvs H1=>∃a xs,vs=[.ref a]/\SqL K H1 a xs/\R (Ite K a) H1
theorem Cs{a:Ur}{ta:TA}{p pos:Pos}{elts:List Ur}{x1}{tp:Pos}(hg:Gl X "enumerate")(hm:X.mg "enumerate" = none)(ha:PA X [a] ta)
  (hs:Uu [a] X.env=[(false,eval a X.env)]:=by rfl):PI X (.Tuple elts x1 tp) (.Call (.Name "enumerate" p) [a] [] pos) (FI X.K ta):=by
 intro pins s σ H R I h;refine Call_ (Vp I hg hm boot_enumerate (Jz (thn (ha pos pins s σ H _ I h) λus s1 ⟨vs,H1,I1,r1,q1⟩=>?_) hs rfl));obtain⟨l,xs,e,hq,q⟩:=q1;subst e;cases r1 with
 |cons r rr=>
  cases rr;cases (show _=Value.ref l from r);obtain⟨its,rv,pl,hz⟩:=I1.list hq;refine call_enumerate_list pl.isList λh' he hi hsz kk=>?_;have I2:Inv X pins σ H1 {s1 with heap:=h'}:=I1.kept (t':=s1.toks) kk;refine wpAny_pyIter_enum he ?_
  refine⟨s1.heap.objs.size+1,[s1.heap.objs.size+1,s1.heap.objs.size],_,_,H1,rfl,I2,qQ l _ _ (Nat.succ_ne_self _),⟨⟨_,he⟩,hi⟩,λb hb=>?_,q⟩;have hb':b=s1.heap.objs.size+1∨b=s1.heap.objs.size:=by simpa using hb
  rcases hb' with rfl|rfl
  ·exact I1.fpOk (JZ _) (I1.hok.fresh (JZ _))
  ·exact I1.fpOk (Qr _) (I1.hok.fresh (Qr _))
end
section
variable{κ:Type}[DecidableEq κ]
noncomputable def ZM(kvs:List (κ×V))(k:κ):Option V:=(kvs.find? λkv=>decide (kv.1=k)).map (·.2)
noncomputable def ZG(kvs:List (κ×V))(k:κ)(v:V):List (κ×V):=
 if(kvs.any λkv=>decide (kv.1=k))=true then kvs.map (λkv=>if kv.1=k then(kv.1,v)else kv)else kvs++[(k,v)]
theorem OG{p:κ×V}{r:List (κ×V)}{k:κ}(e:p.1=k):ZM (p::r) k=some p.2:=by simp[ZM,List.find?_cons,e]
theorem Pn{p:κ×V}{r:List (κ×V)}{k:κ}(e:¬p.1=k):ZM (p::r) k=ZM r k:=by simp[ZM,List.find?_cons,e]
theorem OF(k:κ):∀kvs:List (κ×V),(kvs.any λkv=>decide (kv.1=k))=(ZM kvs k).isSome
 |[]=>rfl
 |p::r=>by
  rw[List.any_cons];by_cases e:p.1=k
  ·simp only[OG e,Q5 e,Bool.true_or,Option.isSome_some]
  ·rw[Pn e,QG e,Bool.false_or];exact OF k r
theorem Gc(kvs:List (κ×V))(k:κ)(v:V):(ZG kvs k v).length<=kvs.length+1:=by
 unfold ZG;split
 ·rw[Qb];omega
 ·rw[Qj,QJ,QC];omega
theorem BU{kvs:List (κ×V)}{k:κ}(v:V)(h:ZM kvs k=none):ZG kvs k v=kvs++[(k,v)]:=by unfold ZG;rw[OF,h];exact QB (by decide)
theorem RelO.isSome_eq{o:Option V}{u:Option Ul}(r:RelO o u):o.isSome=u.isSome:=by
 cases o with
 |none=>cases u with
  |none=>rfl
  |some _=>exact(show False from r).elim
 |some _=>cases u with
  |none=>exact(show False from r).elim
  |some _=>rfl
theorem KV.any{kvs:List (κ×V)}{vs:List (κ×Ul)}(r:KV kvs vs)(k:κ):(kvs.any λkv=>decide (kv.1=k))=vs.any λkv=>decide (kv.1=k):=by
 unfold KV at r;induction r with
 |nil=>rfl
 |cons h t ih=>rw[List.any_cons,List.any_cons,ih,h.1]
theorem KV.repl{kvs:List (κ×V)}{vs:List (κ×Ul)}(r:KV kvs vs)(k:κ){y:V}{u:Ul}(ry:RelV y u) :
  KV (kvs.map λkv=>if kv.1=k then(kv.1,y)else kv) (vs.map λkv=>if kv.1=k then(kv.1,u)else kv):=by
 unfold KV at r⊢;induction r with
 |nil=>exact .nil
 |@cons p q ps qs h t ih=>
  rw[Qy,Qy];refine .cons ?_ ih;obtain⟨h1,h2⟩:=h;by_cases e:p.1=k
  ·rw[Qp e,Qp (h1.symm.trans e)];exact⟨h1,ry⟩
  ·rw[QB e,QB (λz=>e (h1.trans z))];exact⟨h1,h2⟩
theorem KV.put{kvs:List (κ×V)}{vs:List (κ×Ul)}(r:KV kvs vs)(k:κ){y:V}{u:Ul}(ry:RelV y u):KV (ZG kvs k y) (stored vs k u):=by
 unfold ZG stored;rw[r.any k];by_cases e:(vs.any λkv=>decide (kv.1=k))=true
 ·rw[Qp e,Qp e];exact r.repl k ry
 ·rw[QB e,QB e];exact Paired.snoc r ⟨rfl,ry⟩
theorem KV.length{kvs:List (κ×V)}{vs:List (κ×Ul)}(r:KV kvs vs):kvs.length=vs.length:=Paired.length r
end
theorem Ny{P:Uo}{w:World}{k:Key}{u:Ul}(r:RelV (kV k) u):(YU P w).is k u=true:=by
 cases k with
 |inl i=>obtain⟨t,e⟩:=(show ∃t,u=Value.int i t from r);subst e;exact jr P w i t
 |inr x=>obtain⟨t,e⟩:=(show ∃t,u=Value.str x t from r);subst e;exact jq P w x t
theorem O1{P:Uo}{w:World}:∀{ks:List Key}{us:List Ul},Vals (ks.map kV) us->ItemsAre (YU P w) ks us
 |[],_,r=>by rw[Ug]at r;cases r;exact .nil
 |k::ks,_,r=>by
  rw[Qy]at r;cases r with
  |cons h t=>exact .cons (Ny h) (O1 t)
noncomputable abbrev KT(H:Hp):List (List Key×V)->List (List Key×Up×Ul)->Prop:=Paired λp q=>p.1=q.1/\H q.2.1=some (.tup (p.1.map kV))/\RelV p.2 q.2.2
theorem KT.val{H:Hp}{kvs:List (List Key×V)}{xs:List (List Key×Up×Ul)}(r:KT H kvs xs)(k:List Key):RelO (ZM kvs k) ((atKey xs k).map (·.2)):=by
 induction r with
 |nil=>exact True.intro
 |@cons p q ps qs h t ih=>
  obtain⟨h1,_,h2⟩:=h;by_cases e:p.1=k
  ·have e':q.1=k:=h1.symm.trans e;have b:atKey (q::qs) k=some q.2:=by simp[atKey,List.find?_cons,e']
   rw[OG e,b];exact h2
  ·have e':¬q.1=k:=λz=>e (h1.trans z)
   have b:atKey (q::qs) k=atKey qs k:=by simp[atKey,List.find?_cons,e']
   rw[Pn e,b];exact ih
theorem KT.repl{H:Hp}{kvs:List (List Key×V)}{xs:List (List Key×Up×Ul)}(r:KT H kvs xs)(k:List Key){y:V}{u:Ul}(ry:RelV y u) :
  KT H (kvs.map λkv=>if kv.1=k then(kv.1,y)else kv) (xs.map (putAt k u)):=by
 induction r with
 |nil=>exact .nil
 |@cons p q ps qs h t ih=>
  rw[Qy,Qy];refine .cons ?_ ih;obtain⟨h1,h2,h3⟩:=h;unfold putAt;by_cases e:p.1=k
  ·rw[Qp e,Qp (h1.symm.trans e)];exact⟨h1,h2,ry⟩
  ·rw[QB e,QB (λz=>e (h1.trans z))];exact⟨h1,h2,h3⟩
theorem KT.put{H:Hp}{kvs:List (List Key×V)}{xs:List (List Key×Up×Ul)}(r:KT H kvs xs)(k:List Key){b:Up}{y:V}{u:Ul}(hb:H b=some (.tup (k.map kV)))(ry:RelV y u) :
  KT H (ZG kvs k y) (storedH xs k b u):=by
 have e:(kvs.any λkv=>decide (kv.1=k))=(atKey xs k).isSome:=by rw[OF,(r.val k).isSome_eq,Option.isSome_map]
 unfold ZG storedH;rw[e];by_cases q:(atKey xs k).isSome=true
 ·rw[Qp q,Qp q];exact r.repl k ry
 ·rw[QB q,QB q];exact Paired.snoc r ⟨rfl,hb,ry⟩
theorem KT.keeps{H H':Hp}{kvs:List (List Key×V)}{xs:List (List Key×Up×Ul)}(r:KT H kvs xs)(ht:∀b ys,H b=some (.tup ys)->H' b=some (.tup ys)):KT H' kvs xs:=
 Paired.mapP r λ_ _ z=>⟨z.1,ht _ _ z.2.1,z.2.2⟩
section
variable{P:Uo}{w:World}{H:Hp}{h:Heap}{a:Up}
theorem Nx{u:HO}(ok:HOk P w H h)(e:Rd H a u):Zm P w H h a u:=e.ok ok
theorem FH{kvs:List (Key×V)}(ok:HOk P w H h)(e:Rd H a (.dK kvs)):kvs.length<=Us/\(a==sysModules)=false/\∃vs,KV kvs vs/\h.DictOf (YU P w) a vs:=
 show Zm P w H h a (.dK kvs)from Nx ok e
theorem FG{kvs:List (Key×V)}(ok:HOk P w H h)(e:H a=some (.dK kvs)):kvs.length<=Us/\(a==sysModules)=false/\∃vs,KV kvs vs/\h.DictOf (YU P w) a vs:=FH ok (.inl e)
theorem Mh{ks:List Key}(ok:HOk P w H h)(e:H a=some (.tup (ks.map kV))):(tupleKind (YU P w)).is h ks a:=by
 obtain⟨_,its,r,o,h1,h2,n,h3⟩:=(show Zm P w H h a (.tup (ks.map kV))from ok a _ e)
 exact⟨o,its.toArray,n,h1,h2,h3,by simpa using O1 r⟩
theorem Nw{kvs:List (List Key×V)}(ok:HOk P w H h)(e:Rd H a (.dT kvs)):kvs.length<=Us/\(a==sysModules)=false /\
  ∃xs,KT H kvs xs/\h.DictOfH (tupleKind (YU P w)) a xs:=by
 obtain⟨z,y,xs,r,o,es,ep,h1,h2,h3,h4,h5⟩:=(show Zm P w H h a (.dT kvs)from Nx ok e)
 refine⟨z,y,xs,r,o,es,ep,h1,h2,h3,h4,λx hx=>?_,h5⟩
 have all:∀{l:List (List Key×V)}{m:List (List Key×Up×Ul)},KT H l m->∀x∈m,(tupleKind (YU P w)).is h x.1 x.2.1:=by
  intro l m q;induction q with
  |nil=>intro x hx;exact nomatch hx
  |@cons p q ps qs hq t ih=>
   intro x hx;rcases QP.mp hx with e|hx
   ·subst e;exact Mh ok (by rw[←hq.1];exact hq.2.1)
   ·exact ih x hx
 exact all r x hx
theorem FF{kvs:List (List Key×V)}(ok:HOk P w H h)(e:H a=some (.dT kvs)):kvs.length<=Us/\(a==sysModules)=false /\
  ∃xs,KT H kvs xs/\h.DictOfH (tupleKind (YU P w)) a xs:=Nw ok (.inl e)
end
def DPut(H:Hp)(a:Up)(y v:V)(H':Hp):Prop:=
 (∃kvs k,H a=some (.dK kvs)/\y=kV k/\kvs.length<Us/\H'=upd H a (.dK (ZG kvs k v))) ∨
 ∃kvs k b,H a=some (.dT kvs)/\y=.ref b/\H b=some (.tup (k.map kV))/\kvs.length<Us/\H'=upd H a (.dT (ZG kvs k v))
theorem DPut.t{H:Hp}{a b:Up}{kvs:List (List Key×V)}{k:List Key}{v:V}(e:H a=some (.dT kvs))(eb:H b=some (.tup (k.map kV)))(hl:kvs.length<Us) :
  DPut H a (.ref b) v (upd H a (.dT (ZG kvs k v))):=.inr ⟨kvs,k,b,e,rfl,eb,hl,rfl⟩
section
variable{X:Cx}{pins:List (Up×Obj)}{σ:St}{H:Hp}{s:Um}{a:Up}{y v:V}{u r:Ul}{o:Option V}{A:Around}{E:Ul->Um->Prop}
theorem Inv.big(I:Inv X pins σ H s):sysModules<s.heap.objs.size:=by have h:mainGlobals<s.heap.objs.size:=(I.mod.glob.keeps I.bk).lt;exact Nat.lt_trans (by decide) h
theorem Oi{h':Heap}{t':Nat}{ob:HO}(I:Inv X pins σ H s)(mu:Mut (H a))(hs:Heap.SameBut a s.heap h')(he:∃q,h'.get? a=some q)(new:Zm X.prog X.w (upd H a ob) h' a ob) :
  Inv X pins σ (upd H a ob) {s with heap:=h',toks:=t'}:=
 I.write (x:=a) (e:=a) mu (.inl rfl) (λb q hb z=>(hs.2 b hb).trans z) he new
theorem Eh{P:Uo}{w:World}{H':Hp}{h':Heap}{kvs:List (Key×V)}{vs:List (Key×Ul)}(z:kvs.length<=Us)(hd:(a==sysModules)=false)(rel:KV kvs vs)(dd:h'.DictOf (YU P w) a vs) :
  Zm P w H' h' a (.dK kvs):=⟨z,hd,vs,rel,dd⟩
theorem qP{H':Hp}{Q:Unit->Um->Prop}(hu:A.units+1<cLine)(I:Inv X pins σ H s)(g:DPut H a y v H')(ry:RelV y u)(rv:RelV v r)(h:∀s',Inv X pins σ H' s'->Q () s') :
  Ut (model X.prog X.w) A (setItem (.ref a) u r) Q E s:=by
 rcases g with ⟨kvs,k,e,ey,l,eH⟩|⟨kvs,k,b,e,ey,eb,l,eH⟩
 ·subst ey eH;obtain⟨z,hd,vs,rel,dd⟩:=FG I.hok e;have hz:vs.length<=Us:=by rw[←rel.length];exact z
  have hl:(ZG kvs k v).length<=Us:=by have:=Gc kvs k v;omega
  refine wpAny_setItem_pairs (hsz:=hz) (Ny ry) dd λh' dd' hs=>h _ ?_;have he:∃q,h'.get? a=some q:=let ⟨q,_,_,hq,_⟩:=dd';⟨q,hq⟩
  exact Oi I (by rw[e];exact True.intro) hs he (Eh hl hd (rel.put k rv) dd')
 ·subst ey eH;cases (show u=Value.ref b from ry);obtain⟨z,hd,xs,rel,dd⟩:=FF I.hok e;have hz:xs.length<=Us:=by rw[←Paired.length rel];exact z
  have hl:(ZG kvs k v).length<=Us:=by have:=Gc kvs k v;omega
  refine wpAny_setItem_heap (hsz:=hz) (tupleKind_room_in1 hu) (Mh I.hok eb) dd λh' dd' hs=>h _ ?_
  obtain⟨q,es,ep,hq,h2,h3,h4,_,h5⟩:=dd';refine Oi I (by rw[e];exact True.intro) hs ⟨q,hq⟩ ⟨hl,hd,_,(rel.put k eb rv).keeps λc ys ec=>?_,q,es,ep,hq,h2,h3,h4,h5⟩;rw[KM (NI ec e (λz=>nomatch z))];exact ec
end
section
variable{X:Cx}{pins:List (Up×Obj)}{σ:St}{H:Hp}{s:Um}{a:Up}{kvs:List (Key×V)}{k:Key}{u:Ul}{A:Around}{E:Ul->Um->Prop}
end
def Sh(i:Ur):Prop:=∀ov iv,subscripted i false ov iv=operate [ov,iv] (getItem ov iv)
theorem Cr{prog:Uo}{w:World}{A:Around}{E:Ul->Um->Prop}{s:Um}{env:Env}{value slice:Ur}{pos:Pos}{T id:String}{Q:Ul->Um->Prop}
  (hl:typeLookup (.type T) "__getitem__" = pure (some (.builtin id))) (hs:Sh slice)
  (h:Ut (model prog w) A (eval value env) (λo s₁=>Ut (model prog w) A (eval slice env) (λi s₂=>s₂.TypeIs o T/\Ut (model prog w) A (getItem o i) Q E s₂) E s₁) E s) :
  Ut (model prog w) A (eval (.Subscript value slice pos) env) Q E s:=by
 refine Subscript_ (QH h (λo s₁ h₁=>QH h₁ (λi s₂ h₂=>?_) λ_ _ x=>x) λ_ _ x=>x);obtain⟨hT,h₂⟩:=h₂;unfold subscriptTail;refine Qd ?_;rw[getitemInPython_of_ne hT.not_modules];refine Qd (wpAny_specialOf hT hl ?_);have fin:Ut (model prog w) A (subscripted slice false o i) (λr s₃=>Ut (model prog w) A (letTemporaryGo value o r >>= λ_=>pure r) Q E s₃) E s₂:=by rw[hs o i];exact wpAny_operating (QH h₂ (λr s₃ h₃=>Qd (wpAny_letTemporaryGo (Qh h₃))) λ_ _ x=>x)
 first
  |exact Qh (Qd fin)
  |exact Qd (Qh (Qd fin))
  |exact Qd fin
noncomputable def FE(td ty tv:TE):TS:=λD σ H=>tv σ H λv H1=>td σ H1 λx H2=>ty σ H2 λy H3=>∃a H4,x=.ref a/\DPut H3 a y v H4/\D.nx σ H4
section
variable{X:Cx}{o i e value:Ur}{pos pos' tpos:Pos}{td ty tv:TE}
theorem Cq(hu:X.A.units+1<cLine)(ho:PE X o td)(hi:PE X i ty)(hv:PE X value tv)(hs:swapsWith value (some (.Subscript o i pos')) pos.line X.env=pure false) :
  PS X (.Assign [.Subscript o i pos'] value pos) (FE td ty tv):=by
 intro pins s σ H D I h;refine wpAny_Assign_Subscript (thn (hv pins s σ H _ I h) λr s1 ⟨v,H1,I1,rv,q1⟩=>thn (ho pins s1 σ H1 _ I1 q1) λu s2 ⟨x,H2,I2,rx,q2⟩=>thn (hi pins s2 σ H2 _ I2 q2) λiv s3 ⟨y,H3,I3,ry,a,H4,ex,g,q3⟩=>?_) hs;subst ex;obtain rfl:u=Value.ref a:=rx;exact qP hu I3 g ry rv λs4 I4=>⟨σ,H4,I4,q3⟩
end
theorem BS{P:Uo}{w:World}{H:Hp}(h:Heap)(hb:sysModules<h.objs.size):Zm P w H (h.push {cls:=.type "dict", data:=.dict #[]}) h.objs.size (.dT []):=
 ⟨JI _,beq_eq_false_iff_ne.mpr (Ne.symm (QN hb)),[],.nil,_,#[],0,Qz _ rfl,⟨rfl,rfl,rfl⟩,rfl,rfl,List.nodup_nil⟩
noncomputable def Eg:TE:=λ_ H Q=>∀p,H p=none->Q (.ref p) (upd H p (.dT []))
section
variable{X:Cx}{pos:Pos}
theorem BR:PE X (.Dict [] [] pos) Eg:=λpins s σ H Q I h=>
 wpAny_Dict_empty ⟨.ref s.heap.objs.size,_,I.laid (a:=s.heap.objs.size) (o:=.dT []) (t':=s.toks) (λ_ _ q=>Qk _ q) (Qr _) (BS s.heap I.big),rfl,h _ (I.hok.fresh (Qr _))⟩
end
end L2
namespace L2
open PySem PySem.Spec
def Y2(bmB bm:List Ul):Prop:=∀(X:String)(b:Bool),bmB.contains (.type X)=b->bm.contains (.type X)=b
section
variable{prog:Uo}{w:World}{A:Around}{E:Ul->Um->Prop}{h:Heap}{g:Array GenState}{d:Drawn}{t:Nat}{os:OsState}{R:Result->Um->Prop}
variable{nm q:Str}{C N:Up}{bs bm bmB:List Ul}{hdct:Bool}{sn:List Str}{sub:List Ul}{ab:Bool}{col:Option Bool}{dd:Option Up}{k0 k1 k2 k3 k5:Option Ul}{B newId initId:String}
end
def Z8(M:Model)(C:Up)(name:Str)(r:Option Ul)(h:Heap):Prop:=∀(A:Around)(E:Ul->Um->Prop)(Q:Option Ul->Um->Prop)(h':Heap)(g:Array GenState)(d:Drawn)(t:Nat)(os:OsState),
 (∀b o,h.get? b=some o->h'.get? b=some o)->Q r ⟨h',g,d,t,os⟩->Ut M A (typeLookup (.ref C) name) Q E ⟨h',g,d,t,os⟩
theorem Z8.keeps{M:Model}{C:Up}{name:Str}{r:Option Ul}{h h':Heap}(x:Z8 M C name r h)(k:∀b o,h.get? b=some o->h'.get? b=some o):Z8 M C name r h':=
 λA E Q h2 g d t os k2 q=>x A E Q h2 g d t os (λb o e=>k2 b o (k b o e)) q
theorem Z8.at{M:Model}{A:Around}{E:Ul->Um->Prop}{Q:Option Ul->Um->Prop}{C:Up}{name:Str}{r:Option Ul}{h:Heap}{g:Array GenState}{d:Drawn}{t:Nat}{os:OsState}(x:Z8 M C name r h)(q:Q r ⟨h,g,d,t,os⟩):Ut M A (typeLookup (.ref C) name) Q E ⟨h,g,d,t,os⟩:=
 x A E Q h g d t os (λ_ _ e=>e) q
section
variable{prog:Uo}{w:World}{A:Around}{E:Ul->Um->Prop}{h:Heap}{g:Array GenState}{d:Drawn}{t:Nat}{os:OsState}{R:Result->Um->Prop}
variable{nm q:Str}{C N x:Up}{bs bm bmB:List Ul}{hdct:Bool}{sn:List Str}{sub:List Ul}{ab:Bool}{col:Option Bool}{dd:Option Up}{k0 k1 k2 k3 k5:Option Ul}{B newId sa owner:String}{mN mA:Str->Option Ul}{name:Str}{v:Ul}
theorem qO{M:Model}{o:Obj}{nameV:Ul}{Q:Unit->Um->Prop}(T:Y2 bmB bm)(hb:bmB.contains (.type "BaseException")=true)(hC:h.get? C=some (excClassObj nm q C N bs bm hdct sn sub ab col dd k0 k1 k2 k3 k5 newId))
  (hx:h.get? x=some o) (hc:o.cls=.ref C) (hq:Q () ⟨h,g,d,t,os⟩):Ut M A (checkBuiltinCall "BaseException.__getattribute__" ⟨[.ref x,nameV],[]⟩) Q E ⟨h,g,d,t,os⟩:=by
 have hk:builtinKind "BaseException.__getattribute__" = some .slot:=by decide +kernel
 have hsplit:splitId "BaseException.__getattribute__" = some ("BaseException", "__getattribute__"):=by decide +kernel
 have hcB:(Value.ref C::bm).contains (.type "BaseException")=true:=by rw[List.contains_cons,T _ _ hb];rfl
 have ha:=PySem.F.args_bexc_ga (.ref x) nameV;simp only[checkBuiltinCall,hk,hsplit];refine Qd ?_
 ·unfold isInstance
  repeat (first|(with_reducible refine QL hx ?_;rw[hc])|(with_reducible refine Jq hC ?_;rw[hcB])|wp_step)
  exact hq
end
section
variable{M:Model}{A:Around}{E:Ul->Um->Prop}{s:Um}{base:Heap}{env:Env}{outer:List Env}{L e:Up}
end
end L2
namespace L2
open PySem PySem.Spec PyProof.Rows PySem.Calls PyProof.V
noncomputable def XO(fr:Bool)(e C:Up)(dd:Option Up):Heap->Prop:=λh=>∃vs sl,h.get? e=some {cls:=.ref C,dict:=dd,data:=.fields vs,slots:=sl}/\(fr=true->vs[1]?=some .none/\∃t0,vs[0]?=some (.ref t0))
section
variable{X:Cx}{pins:List (Up×Obj)}{σ:St}{H:Hp}{s:Um}{e C:Up}{dd:Option Up}{h':Heap}
end
noncomputable abbrev VB:List Ul:=[.type "ValueError", .type "Exception", .type "BaseException", .type "object"]
structure XCls(M:Model)(base:Heap)(C:Up)(bm:List Ul)(fI:Up):Prop where
 obj:∃nm q N bs sn sub ab col dd k0 k1 k2 k3 k5,base.get? C=some (excClassObj nm q C N bs bm true sn sub ab col dd k0 k1 k2 k3 k5 "ValueError.__new__")
 tail:Y2 VB bm
 init:Z8 M C "__init__" (some (.ref fI)) base
 fn:∃o,base.get? fI=some o/\o.cls=.type "function"
 sa:Z8 M C "__setattr__" (some (.builtin "object.__setattr__")) base
 ga:Z8 M C "__getattribute__" (some (.builtin "BaseException.__getattribute__")) base
 gh:Z8 M C "__getattr__" none base
 cl:Z8 M C "__class__" (some (.builtin "object.__class__")) base
 pass:∀v,refuseLoop v "__setattr__" bm=pure ()
section
variable{X:Cx}{k:Nat}{f C:Up}{fd:Uq}{ps:List Str}{sp:Sp}{x:Str}{p pos cpos:Pos}{e:Ur}{es:List Ur}{t:TA}{bm:List Ul}
end
section
variable{M:Model}{A:Around}{E:Ul->Um->Prop}{h:Heap}{g:Array GenState}{d:Drawn}{t:Nat}{os:OsState}
variable{nm q nm' q':Str}{C N D N' a:Up}{bs bm bs' bm':List Ul}{hdct hdct':Bool}{sn sn':List Str}{sub sub':List Ul}{ab ab':Bool}{col col':Option Bool}{dd dd':Option Up}{k0 k1 k2 k3 k5 j0 j1 j2 j3 j5:Option Ul}{newId newId':String}
end
section
variable{X:Cx}{k:Nat}{f:Up}{fd:Uq}{ps:List Str}{sp:Sp}{x n:Str}{p pos np hpos:Pos}{e:Ur}{es:List Ur}{t:TA}{KX:V->St->Hp->Prop}
end
section
variable{prog:Uo}{w:World}{A:Around}{E:Ul->Um->Prop}{h:Heap}{g:Array GenState}{d:Drawn}{t:Nat}{os:OsState}
variable{nm q:Str}{C N a:Up}{bs bm bmB:List Ul}{hdct:Bool}{sn:List Str}{sub:List Ul}{ab:Bool}{col:Option Bool}{dd:Option Up}{k0 k1 k2 k3 k5:Option Ul}{B newId initId nid:String}
end
section
variable{X:Cx}{k:Nat}{f D:Up}{fd:Uq}{ps:List Str}{sp:Sp}{x:Str}{p pos apos:Pos}{e:Ur}{es:List Ur}{t:TA}
end
section
variable{X:Cx}{k:Nat}{f D:Up}{fd:Uq}{ps:List Str}{sp:Sp}{x m:Str}{p pos apos:Pos}{e:Ur}{es:List Ur}{t:TA}
end
noncomputable def XD(dx:Up)(fs:List (Str×V)):Heap->Prop:=λh=>∃mA,h.Ns1 dx mA/\h.ExactDictFk dx/\(∀f,RelO (fs.lookup f) (mA f))/\PySem.Within mA (fs.map (·.1))
section
variable{X:Cx}{pins:List (Up×Obj)}{σ:St}{H:Hp}{s:Um}{a C dx:Up}{h':Heap}{t':Nat}
end
section
variable{X:Cx}{o value:Ur}{f:Str}{pos pos':Pos}{ta tv:TE}{KC:Up->List Ul->Prop}
end
section
variable{X:Cx}{value:Ur}{te:TE}{pos:Pos}
end
section
variable{X:Cx}{e:Ur}{f:Str}{pos:Pos}{ta:TE}{KC:Up->List Ul->Prop}
end
end L2
namespace L2
open PySem PySem.Spec
section
variable{prog:Uo}{w:World}{A:Around}{E:Ul->Um->Prop}{h:Heap}{g:Array GenState}{d:Drawn}{t:Nat}{os:OsState}{R:Result->Um->Prop}
variable{nm q:Str}{C N a:Up}{bs bm bmB:List Ul}{hdct:Bool}{sn:List Str}{sub:List Ul}{ab:Bool}{col:Option Bool}{dd:Option Up}{k0 k1 k2 k3 k5:Option Ul}{newId:String}{o:Obj}
theorem qX(T:Y2 bmB bm)(ho:bmB.contains (.type "object")=true)(hC:h.get? C=some (excClassObj nm q C N bs bm hdct sn sub ab col dd k0 k1 k2 k3 k5 newId))(hx:h.get? a=some o)(hc:o.cls=.ref C)(hq:R (.ok (.ret (.ref C))) ⟨h,g,d,t,os⟩) :
  codeAny (model prog w) A (.call (.builtin "getset_descriptor.__get__") ⟨[.builtin "object.__class__", .ref a,.ref C],[]⟩) R ⟨h,g,d,t,os⟩:=by
 have hT5:(⟨h,g,d,t,os⟩:Um).TypeIs (.builtin "object.__class__") "getset_descriptor" :=PySem.F.typeOf_object_class;have hcB:(Value.ref C::bm).contains (.type (".".intercalate ("object.__class__".cutAt '.').dropLast))=true:=by rw[PySem.F.owner_object_class,List.contains_cons,T _ _ ho];rfl
 refine codeAny_call_builtin PySem.F.slot_gs_get.plain PySem.F.entry_gs_get (PySem.F.slot_gs_get.check _ _ _ _ _ _ _ _ hT5 (PySem.F.args_gs_get _ _ _) ?_)
 repeat (any_goals (first|assumption|(with_reducible refine QL hx ?_;rw[hc])|(with_reducible refine Jq hC ?_;rw[hcB])|wp_step))
 refine⟨Code.quiet_builtin _ (by decide +kernel),codeAny_builtin PySem.F.entry_object_class ?_⟩;unfold Builtin.«object.__class__»
 repeat (any_goals (first|assumption|(with_reducible refine QL hx ?_;rw[hc])|wp_step))
theorem jL{tk:Tok}{Q:PySem.Fin->Um->Prop}(T:Y2 bmB bm)(ho:bmB.contains (.type "object")=true)(hC:h.get? C=some (excClassObj nm q C N bs bm hdct sn sub ab col dd k0 k1 k2 k3 k5 newId))(fc:Z8 (model prog w) C "__class__" (some (.builtin "object.__class__")) h)(hx:h.get? a=some o)(hc:o.cls=.ref C)(hq:Q (.done (.ret (.ref C))) ⟨h,g,d,t,os⟩) :
  Ut (model prog w) A (Builtin.«object.__getattribute__» ⟨[.ref a,.str "__class__" tk],[]⟩) Q E ⟨h,g,d,t,os⟩:=by
 have hT5:(⟨h,g,d,t,os⟩:Um).TypeIs (.builtin "object.__class__") "getset_descriptor" :=PySem.F.typeOf_object_class;have f5:=PySem.F.typeOf_object_class;have f6:=PySem.F.slot_gs_get.lookup;have f7:=PySem.F.slot_gs_set.lookup
 repeat (any_goals (first|assumption|(with_reducible refine QL hx ?_;rw[hc])|with_reducible refine fc.at ?_|wp_step))
 refine qX T ho hC hx hc ?_
 repeat (any_goals (first|assumption|wp_step))
theorem Ga{Q:Option Ul->Um->Prop}(FB:ExcAttrFacts "ValueError")(T:Y2 VB bm)(hC:h.get? C=some (excClassObj nm q C N bs bm hdct sn sub ab col dd k0 k1 k2 k3 k5 newId))(fc:Z8 (model prog w) C "__class__" (some (.builtin "object.__class__")) h)
  (fg:Z8 (model prog w) C "__getattribute__" (some (.builtin "BaseException.__getattribute__")) h) (fa:Z8 (model prog w) C "__getattr__" none h) (hx:h.get? a=some o) (hc:o.cls=.ref C) (hq:Q (some (.ref C)) ⟨h,g,d,t+1,os⟩) :
  Ut (model prog w) A (getAttr? (.ref a) "__class__") Q E ⟨h,g,d,t,os⟩:=by
 have f3:=FB.ga.bind (.ref a);have hx0:(false&&onTheHeap (Value.builtin "BaseException.__getattribute__"))=false:=rfl;have hx2:(Value.builtin "BaseException.__getattribute__" == Value.builtin "object.__getattribute__")=false:=by decide +kernel
 have hx1:(onTheHeap (Value.ref C)&&Value.builtin "BaseException.__getattribute__" == Value.builtin "object.__getattribute__")=false:=by rw[hx2];rfl
 unfold getAttr? getAttrBy?;refine Qd (wpAny_mkText (Qd (wpAny_attempt ?_)))
 repeat (any_goals (first|assumption|(with_reducible refine QL hx ?_;rw[hc])|with_reducible refine fg.at ?_|with_reducible refine fa.at ?_|wp_step))
 refine codeAny_call_builtin FB.ga.plain PySem.F.entry_bexc_ga (qO T rfl hC hx hc (jL T rfl hC fc hx hc ?_))
 repeat (any_goals (first|assumption|wp_step))
end
end L2
namespace L2
open PySem PySem.Spec PyProof.Rows
section
variable{prog:Uo}{w:World}{A:Around}{E:Ul->Um->Prop}{h:Heap}{g:Array GenState}{d:Drawn}{t:Nat}{os:OsState}
variable{nm q nm' q':Str}{C N D N' a:Up}{bs bm bs' bm':List Ul}{hdct hdct':Bool}{sn sn':List Str}{sub sub':List Ul}{ab ab':Bool}{col col':Option Bool}{dd dd':Option Up}{k0 k1 k2 k3 k5 j0 j1 j2 j3 j5:Option Ul}{newId newId':String}{o:Obj}{b:Bool}
theorem Cp{Q:Ul->Um->Prop}(T:Y2 VB bm)(hC:h.get? C=some (excClassObj nm q C N bs bm hdct sn sub ab col dd k0 k1 k2 k3 k5 newId))(hD:h.get? D=some (excClassObj nm' q' D N' bs' bm' hdct' sn' sub' ab' col' dd' j0 j1 j2 j3 j5 newId'))
  (fc:Z8 (model prog w) C "__class__" (some (.builtin "object.__class__")) h) (fg:Z8 (model prog w) C "__getattribute__" (some (.builtin "BaseException.__getattribute__")) h) (fa:Z8 (model prog w) C "__getattr__" none h)
  (hx:h.get? a=some o) (hc:o.cls=.ref C) (hb:(Value.ref C::bm).contains (.ref D)=b) (hq:∀tk,Q (.bool b) ⟨h,g,d,tk,os⟩):Ut (model prog w) A (call (.builtin "isinstance") [.ref a,.ref D]) Q E ⟨h,g,d,t,os⟩:=by
 have hT:(⟨h,g,d,t,os⟩:Um).TypeIs (.ref D) "type" :=⟨_,hD,rfl⟩
 have f2:=tc_sub;refine call_isinstance_of ?_ (λz=>nomatch z);unfold Builtin.«isinstance.nested»;refine Qd ?_;unfold typeOf;refine Qd (QL hx (Qh ?_));rw[hc];by_cases e:C=D
 ·subst e;have hb1:b=true:=by rw[←hb];simp
  subst hb1;rw[if_pos (by simp)];exact Qd (wpAny_rule (Qh (hq t)))
 ·rw[if_neg (by simp[e])];refine Qd (Qd (QL hD (Qh ?_)));rw[Qp (show(Value.type "type" == Value.type "type")=true by decide)]
  k_delta "plainIsInstance"
  unfold isType isInstance
  repeat (first|(with_reducible refine QL hx ?_;rw[hc])|with_reducible refine QL hD ?_|with_reducible refine QL hC ?_|(with_reducible refine Jq hC ?_;rw[hb])|wp_step)
  cases b with
  |true=>wp_walk;exact hq t
  |false=>
   rw[QB (by decide)];refine Qd (Ga PySem.F.excAttr_ValueError T hC fc fg fa hx hc ?_)
   repeat (first|with_reducible refine QL hC ?_|(with_reducible refine Jq hC ?_;rw[hb])|wp_step)
   exact hq _
theorem Ef{Q:Ul->Um->Prop}{X:String}(T:Y2 VB bm)(hC:h.get? C=some (excClassObj nm q C N bs bm hdct sn sub ab col dd k0 k1 k2 k3 k5 newId))(hX:typeOf (.type X)=pure (.type "type"))
  (fc:Z8 (model prog w) C "__class__" (some (.builtin "object.__class__")) h) (fg:Z8 (model prog w) C "__getattribute__" (some (.builtin "BaseException.__getattribute__")) h) (fa:Z8 (model prog w) C "__getattr__" none h)
  (hx:h.get? a=some o) (hc:o.cls=.ref C) (hb:(Value.ref C::bm).contains (.type X)=b) (hq:∀tk,Q (.bool b) ⟨h,g,d,tk,os⟩):Ut (model prog w) A (call (.builtin "isinstance") [.ref a,.type X]) Q E ⟨h,g,d,t,os⟩:=by
 refine call_isinstance_of ?_ (λz=>nomatch z);unfold Builtin.«isinstance.nested»;refine Qd ?_;have ty:∀{M:Model}{A:Around}{Q:Ul->Um->Prop}{E:Ul->Um->Prop},Q (.ref C) ⟨h,g,d,t,os⟩->Ut M A (typeOf (.ref a)) Q E ⟨h,g,d,t,os⟩:=λq=>by unfold typeOf;refine Qd (QL hx (Qh ?_));rw[hc];exact q
 refine ty ?_;rw[if_neg (by simp)];refine Qd (wpAny_of_eq hX ?_);rw[Qp (show(Value.type "type" == Value.type "type")=true by decide)]
 k_delta "plainIsInstance"
 unfold isType isInstance
 repeat (first|(with_reducible refine QL hx ?_;rw[hc])|with_reducible refine QL hC ?_|(with_reducible refine Jq hC ?_;rw[hb])|wp_step)
 cases b with
 |true=>wp_walk;exact hq t
 |false=>
  rw[QB (by decide)];refine Qd (Ga PySem.F.excAttr_ValueError T hC fc fg fa hx hc ?_)
  repeat (first|with_reducible refine QL hC ?_|(with_reducible refine Jq hC ?_;rw[hb])|wp_step)
  exact hq _
end
noncomputable def rIsX(KC:Up->List Ul->Prop):List V->Hp->VK->Prop:=λxs H Q=>∃a C dd bm fr c b,xs=[.ref a,c]/\KC C bm/\H a=some (.ext (XO fr a C dd)) /\
 ((∃D bm',c=.ref D/\KC D bm'/\(Value.ref C::bm).contains (.ref D)=b) ∨ ∃T,c=.ty T/\typeOf (.type T)=pure (.type "type")/\(Value.ref C::bm).contains (.type T)=b)/\Q (.bl b) H
theorem BQ{X:Cx}{KC:Up->List Ul->Prop}(hcls:∀C bm,KC C bm->∃fI,XCls (model X.prog X.w) X.base C bm fI):YB X (.builtin "isinstance") (rIsX KC):=by
 rintro pins s σ H xs us Q I r ⟨a,C,dd,bm,fr,c,b,rfl,kc,hx,hD,q⟩;cases r with
 |cons ra r=>
 cases r with
 |cons rc r=>
 cases r;have ra':_=Value.ref a:=ra;subst ra';obtain⟨fI,XC⟩:=hcls C bm kc;obtain⟨nm,qn,N,bs,sn,sub,ab,col,dd1,k0,k1,k2,k3,k5,hC⟩:=XC.obj;obtain⟨⟨vs,sl,ga,_⟩,_,_⟩:=I.hok a _ hx;obtain⟨hp,g,d,tk,os⟩:=s;rcases hD with ⟨D,bm',rfl,kd,hb⟩|⟨T,rfl,hT,hb⟩
 ·have rc':_=Value.ref D:=rc;subst rc';obtain⟨fI',XD'⟩:=hcls D bm' kd;obtain⟨nm',qn',N',bs',sn',sub',ab',col',dd2,j0,j1,j2,j3,j5,hD'⟩:=XD'.obj;exact Cp XC.tail (I.bk _ _ hC) (I.bk _ _ hD') (XC.cl.keeps I.bk) (XC.ga.keeps I.bk) (XC.gh.keeps I.bk) ga rfl hb λtk'=>⟨.bl b,H,I.tok tk',rfl,q⟩
 ·have rc':_=Value.type T:=rc;subst rc';exact Ef XC.tail (I.bk _ _ hC) hT (XC.cl.keeps I.bk) (XC.ga.keeps I.bk) (XC.gh.keeps I.bk) ga rfl hb λtk'=>⟨.bl b,H,I.tok tk',rfl,q⟩
noncomputable def FD(nm:Str):List Str:=if nm = "NoWishes" then ["part", "number"]else if nm = "NoAim" then ["part"]else if nm = "NoText" then ["row"]else []
noncomputable def Nv(K:Frag)(nm:Str):Option Up:=match PySem.W.nsIn K mainGlobals nm with|some (some (.ref C))=>some C|_=>none
def NmAt(K:Frag)(nm:Str)(C:Up):Prop:=∃o cd,K.lookup C=some o/\o.data=.cls cd/\cd.name=nm
structure ClsK(K:Frag)(nm:Str)(C:Up)(bm:List Ul):Prop where
 ad:Nv K nm=some C
 nmd:NmAt K nm C
 up:nm = "DealError" /\ bm=VB∨nm ≠ "DealError" /\ ∃D,Nv K "DealError" = some D/\bm=.ref D::VB/\NmAt K "DealError" D
 cls:∀(M:Model)(h:Heap),K.In h->∃fI,XCls M h C bm fI
 fld:∀(M:Model)(h:Heap),K.In h->∀f∈(["part", "number", "row"]:List Str),Z8 M C f none h
noncomputable def KC(K:Frag):Up->List Ul->Prop:=λC bm=>∃nm,ClsK K nm C bm
section
variable{K:Frag}{nm x:Str}{C D:Up}{bm bm':List Ul}
theorem ClsK.ty(c:ClsK K nm C bm)(T:String):(Value.ref C::bm).contains (.type T)=VB.contains (.type T):=by
 rcases c.up with ⟨_,rfl⟩|⟨_,D',g,rfl,n⟩
 ·rfl
 ·rfl
end
section
variable{X:Cx}{e:Ur}{st:Stmt}{sts:List Stmt}{t:TE}{ts:TS}
theorem FC(k:X.K.In X.base):∀C bm,KC X.K C bm->∃fI,XCls (model X.prog X.w) X.base C bm fI:=λ_ _ ⟨_,c⟩=>c.cls _ _ k
end
end L2
namespace DL
open PySem PySem.Spec L2
open PyProof.Rows hiding St
abbrev D:=PyData
abbrev XW:=V->St->Hp->Prop
noncomputable abbrev KX0:XW:=λ_ _ _=>False
def XFs(G:Hp)(dd:Option Up)(fs:List Str)(vs:List V):Prop:=match dd with
 |none=>fs=[]/\vs=[]
 |some dx=>fs.length=vs.length/\G dx=some (.ext (XD dx (fs.zip vs)))
theorem XFs.mono{G G1:Hp}{dd:Option Up}{fs:List Str}{vs:List V}(e:Same G G1)(h:XFs G dd fs vs):XFs G1 dd fs vs:=by
 cases dd with
 |none=>exact h
 |some dx=>exact⟨h.1,e _ _ h.2⟩
noncomputable def kD:Key->D
 |.inl i=>.int i
 |.inr x=>.str x
noncomputable def tkD(k:List Key):D:=.tuple (k.map kD)
noncomputable def pdD(ks:List (List Key))(ds:List D):List (D×D):=(.bool true,.none)::(ks.map tkD).zip ds
mutual
inductive Rep(K:Frag)(G:Hp):V->D->Prop where
 |non:Rep K G .non .none
 |bl (b:Bool):Rep K G (.bl b) (.bool b)
 |int (i:Int):Rep K G (.int i) (.int i)
 |str (x:Str):Rep K G (.str x) (.str x)
 |lst {a:Up} {vs:List V} {ds:List D} (h:SqL K G a vs) (r:Reps K G vs ds):Rep K G (.ref a) (.list ds)
 |tup {a:Up} {vs:List V} {ds:List D} (h:SqT K G a vs) (r:Reps K G vs ds):Rep K G (.ref a) (.tuple ds)
 |dic {a:Up} (h:G a=some (.dK [])):Rep K G (.ref a) (.dict [])
 |exc {a C:Up} {dd:Option Up} {bm:List Ul} {nm:Str} {vs:List V} {ds:List D} (c:ClsK K nm C bm) (h:G a=some (.ext (XO false a C dd))) (hd:XFs G dd (FD nm) vs) (r:Reps K G vs ds):Rep K G (.ref a) (.dict [(.none,.tuple [.str nm,.list ds])])
 |dct {a:Up} {ks:List Key} {vs:List V} {ds:List D} {kvs:List (D×D)} (e:kvs=(ks.map kD).zip ds) (hne:ks≠[]) (hl:ks.length=ds.length) (h:G a=some (.dK (ks.zip vs))) (r:Reps K G vs ds):Rep K G (.ref a) (.dict kvs)
 |dtt {a:Up} {o:Obj} {ks:List (List Key)} {vs:List V} {ds:List D} {kvs:List (D×D)} (e:kvs=pdD ks ds) (hl:ks.length=ds.length) (h:G a=some (.frz o (.dT (ks.zip vs)))) (r:Reps K G vs ds):Rep K G (.ref a) (.dict kvs)
inductive Reps(K:Frag)(G:Hp):List V->List D->Prop where
 |nil:Reps K G [] []
 |cons {v:V} {d:D} {vs:List V} {ds:List D} (h:Rep K G v d) (t:Reps K G vs ds):Reps K G (v::vs) (d::ds)
end
variable{K:Frag}{B G0 G G1 G2 H H1 H2:Hp}
theorem YQ{a:Up}{xs:List V}(e:Same G G1)(h:SqT K G a xs):SqT K G1 a xs:=by
 rcases h with (h|⟨o,h⟩)|h
 ·exact .inl (.inl (e _ _ h))
 ·exact .inl (.inr ⟨o,e _ _ h⟩)
 ·exact .inr h
mutual
theorem Rep.mono(e:Same G G1):∀{v:V}{d:D},Rep K G v d->Rep K G1 v d
 |_,_,.non=>.non
 |_,_,.bl b=>.bl b
 |_,_,.int i=>.int i
 |_,_,.str x=>.str x
 |_,_,.lst h r=>.lst (e.seq h) (Reps.mono e r)
 |_,_,.tup h r=>.tup (YQ e h) (Reps.mono e r)
 |_,_,.dic h=>.dic (e _ _ h)
 |_,_,.exc c h hd r=>.exc c (e _ _ h) (hd.mono e) (Reps.mono e r)
 |_,_,.dct z n l h r=>.dct z n l (e _ _ h) (Reps.mono e r)
 |_,_,.dtt z l h r=>.dtt z l (e _ _ h) (Reps.mono e r)
theorem Reps.mono(e:Same G G1):∀{vs:List V}{ds:List D},Reps K G vs ds->Reps K G1 vs ds
 |_,_,.nil=>.nil
 |_,_,.cons h t=>.cons (Rep.mono e h) (Reps.mono e t)
end
section
variable{v:V}{vs ws:List V}{ds es:List D}
theorem Rep.bl_inv{b:Bool}(h:Rep K G v (.bool b)):v=.bl b:=by cases h;rfl
theorem Rep.int_inv{i:Int}(h:Rep K G v (.int i)):v=.int i:=by cases h;rfl
theorem Rep.str_inv{x:Str}(h:Rep K G v (.str x)):v=.str x:=by cases h;rfl
theorem Rep.lst_inv(h:Rep K G v (.list ds)):∃a vs,v=.ref a/\SqL K G a vs/\Reps K G vs ds:=by
 cases h with
 |lst h r=>exact⟨_,_,rfl,h,r⟩
theorem Rep.tup_inv(h:Rep K G v (.tuple ds)):∃a vs,v=.ref a/\SqT K G a vs/\Reps K G vs ds:=by
 cases h with
 |tup h r=>exact⟨_,_,rfl,h,r⟩
theorem Reps.length:∀{vs:List V}{ds:List D},Reps K G vs ds->vs.length=ds.length
 |_,_,.nil=>rfl
 |_,_,.cons _ t=>by rw[QJ,QJ,Reps.length t]
theorem Reps.get:∀{vs:List V}{ds:List D}{i:Nat}{d:D},Reps K G vs ds->ds[i]?=some d->∃v,vs[i]?=some v/\Rep K G v d
 |_,_,_,_,.nil,e=>by simp at e
 |_,_,0,_,.cons h _,e=>by simp at e;subst e;exact⟨_,rfl,h⟩
 |_,_,i+1,d,.cons _ t,e=>by obtain⟨u,h1,h2⟩:=Reps.get (i:=i) (d:=d) t (by simpa using e);exact⟨u,by simpa using h1,h2⟩
theorem Reps.append:∀{vs ws:List V}{ds es:List D},Reps K G vs ds->Reps K G ws es->Reps K G (vs++ws) (ds++es)
 |_,_,_,_,.nil,s=>s
 |_,_,_,_,.cons r t,s=>.cons r (Reps.append t s)
theorem Reps.take:∀{vs:List V}{ds:List D}(n:Nat),Reps K G vs ds->Reps K G (vs.take n) (ds.take n)
 |_,_,0,_=>by rw[J9,J9];exact .nil
 |_,_,_+1,.nil=>.nil
 |_,_,n+1,.cons r t=>.cons r (Reps.take n t)
theorem Reps.drop:∀{vs:List V}{ds:List D}(n:Nat),Reps K G vs ds->Reps K G (vs.drop n) (ds.drop n)
 |_,_,0,r=>r
 |_,_,_+1,.nil=>.nil
 |_,_,n+1,.cons _ t=>Reps.drop n t
theorem Reps.reverse:∀{vs:List V}{ds:List D},Reps K G vs ds->Reps K G vs.reverse ds.reverse
 |_,_,.nil=>.nil
 |_,_,.cons r t=>by rw[List.reverse_cons,List.reverse_cons];exact Reps.append (Reps.reverse t) (.cons r .nil)
theorem Reps.set{v:V}{d:D}(r:Rep K G v d):∀{vs:List V}{ds:List D}(i:Nat),Reps K G vs ds->Reps K G (vs.set i v) (ds.set i d)
 |_,_,_,.nil=>.nil
 |_,_,0,.cons _ t=>.cons r t
 |_,_,i+1,.cons q t=>.cons q (Reps.set r i t)
theorem Reps.ints:∀(ns:List Int),Reps K G (ns.map V.int) (ns.map int)
 |[]=>.nil
 |n::ns=>.cons (.int n) (Reps.ints ns)
end
inductive MO where
 |l (vs:List V)|k (kvs:List (Key×V))|t (kvs:List (List Key×V))
noncomputable def MO.ho:MO->HO
 |.l vs=>.lst vs
 |.k kvs=>.dK kvs
 |.t kvs=>.dT kvs
structure Ext(G H G' H':Hp):Prop where
 h:Same H H'
 g:Same G G'
 gh:Same G' H'
 np:∀a(u:MO),H a=some u.ho->G a=none->G' a=none
theorem Ext.refl(e:Same G H):Ext G H G H:=⟨.refl _,.refl _,e,λ_ _ _ q=>q⟩
theorem Ext.trans{G' H' G'' H'':Hp}(a:Ext G H G' H')(b:Ext G' H' G'' H''):Ext G H G'' H'':=
 ⟨a.h.trans b.h,a.g.trans b.g,b.gh,λx o e q=>b.np x o (a.h x _ e) (a.np x o e q)⟩
theorem Zn{p:Up}{o:HO}(h:H p=none):Same H (upd H p o):=λb u e=>by rw[KM (Yc e h)];exact e
theorem Ext.new{p:Up}{o:HO}(e:Same G H)(h:H p=none):Ext G H (upd G p o) (upd H p o):=by
 have hg:G p=none:=e.free h;refine⟨Zn h,Zn hg,λb u q=>?_,λa u q n=>?_⟩
 ·by_cases z:b=p
  ·subst z;rw[Zc]at q⊢;exact q
  ·rw[KM z]at q⊢;exact e b u q
 ·rw[KM (Yc q h)];exact n
theorem Ext.hid{p:Up}{o:HO}(e:Same G H)(h:H p=none):Ext G H G (upd H p o):=
 ⟨Zn h,.refl _,e.trans (Zn h),λ_ _ _ n=>n⟩
inductive Pat where
 |leaf|lst (p:Pat)|tup (ps:List Pat)
mutual
inductive RepO(K:Frag)(G H:Hp):Pat->V->D->List Up->Prop where
 |leaf {v:V} {d:D} (r:Rep K G v d):RepO K G H .leaf v d []
 |lst {p:Pat} {a:Up} {vs:List V} {ds:List D} {fp:List Up} (h:H a=some (.lst vs)) (r:RepOl K G H p vs ds fp):RepO K G H (.lst p) (.ref a) (.list ds) (a::fp)
 |tup {ps:List Pat} {a:Up} {vs:List V} {ds:List D} {fp:List Up} (h:H a=some (.tup vs)) (r:RepOs K G H ps vs ds fp):RepO K G H (.tup ps) (.ref a) (.tuple ds) fp
inductive RepOl(K:Frag)(G H:Hp):Pat->List V->List D->List Up->Prop where
 |nil {p:Pat}:RepOl K G H p [] [] []
 |cons {p:Pat} {v:V} {d:D} {vs:List V} {ds:List D} {f1 f2:List Up} (h:RepO K G H p v d f1) (t:RepOl K G H p vs ds f2):RepOl K G H p (v::vs) (d::ds) (f1++f2)
inductive RepOs(K:Frag)(G H:Hp):List Pat->List V->List D->List Up->Prop where
 |nil:RepOs K G H [] [] [] []
 |cons {p:Pat} {ps:List Pat} {v:V} {d:D} {vs:List V} {ds:List D} {f1 f2:List Up} (h:RepO K G H p v d f1) (t:RepOs K G H ps vs ds f2):RepOs K G H (p::ps) (v::vs) (d::ds) (f1++f2)
end
mutual
theorem RepO.mono(sg:Same G G1)(sh:Same H H1):∀{p:Pat}{v:V}{d:D}{fp:List Up},RepO K G H p v d fp->RepO K G1 H1 p v d fp
 |_,_,_,_,.leaf r=>.leaf (r.mono sg)
 |_,_,_,_,.lst h r=>.lst (sh _ _ h) (RepOl.mono sg sh r)
 |_,_,_,_,.tup h r=>.tup (sh _ _ h) (RepOs.mono sg sh r)
theorem RepOl.mono(sg:Same G G1)(sh:Same H H1):∀{p:Pat}{v:List V}{d:List D}{fp:List Up},RepOl K G H p v d fp->RepOl K G1 H1 p v d fp
 |_,_,_,_,.nil=>.nil
 |_,_,_,_,.cons h t=>.cons (RepO.mono sg sh h) (RepOl.mono sg sh t)
theorem RepOs.mono(sg:Same G G1)(sh:Same H H1):∀{p:List Pat}{v:List V}{d:List D}{fp:List Up},RepOs K G H p v d fp->RepOs K G1 H1 p v d fp
 |_,_,_,_,.nil=>.nil
 |_,_,_,_,.cons h t=>.cons (RepO.mono sg sh h) (RepOs.mono sg sh t)
end
mutual
theorem RepO.upd{a:Up}{o:HO}(nt:∀vs,H a≠some (.tup vs)):∀{p:Pat}{v:V}{d:D}{fp:List Up},RepO K G H p v d fp->a∉fp->RepO K G (upd H a o) p v d fp
 |_,_,_,_,.leaf r,_=>.leaf r
 |_,_,_,_,.lst h r,n=>.lst (by rw[KM (λz=>n (by rw[z];exact Qm))];exact h) (RepOl.upd nt r λz=>n (Ql _ z))
 |_,_,_,_,.tup h r,n=>.tup (by rw[KM (λz=>by subst z;exact nt _ h)];exact h) (RepOs.upd nt r n)
theorem RepOl.upd{a:Up}{o:HO}(nt:∀vs,H a≠some (.tup vs)):∀{p:Pat}{v:List V}{d:List D}{fp:List Up},RepOl K G H p v d fp->a∉fp->RepOl K G (upd H a o) p v d fp
 |_,_,_,_,.nil,_=>.nil
 |_,_,_,_,.cons h t,n=>.cons (RepO.upd nt h λz=>n (Q8 _ z)) (RepOl.upd nt t λz=>n (QK _ z))
theorem RepOs.upd{a:Up}{o:HO}(nt:∀vs,H a≠some (.tup vs)):∀{p:List Pat}{v:List V}{d:List D}{fp:List Up},RepOs K G H p v d fp->a∉fp->RepOs K G (upd H a o) p v d fp
 |_,_,_,_,.nil,_=>.nil
 |_,_,_,_,.cons h t,n=>.cons (RepO.upd nt h λz=>n (Q8 _ z)) (RepOs.upd nt t λz=>n (QK _ z))
end
mutual
theorem RepO.rep(gh:Same G H):∀{p:Pat}{v:V}{d:D}{fp:List Up},RepO K G H p v d fp->Rep K H v d
 |_,_,_,_,.leaf r=>r.mono gh
 |_,_,_,_,.lst h r=>.lst (SqL.of h) (RepOl.rep gh r)
 |_,_,_,_,.tup h r=>.tup (SqT.of h) (RepOs.rep gh r)
theorem RepOl.rep(gh:Same G H):∀{p:Pat}{v:List V}{d:List D}{fp:List Up},RepOl K G H p v d fp->Reps K H v d
 |_,_,_,_,.nil=>.nil
 |_,_,_,_,.cons h t=>.cons (RepO.rep gh h) (RepOl.rep gh t)
theorem RepOs.rep(gh:Same G H):∀{p:List Pat}{v:List V}{d:List D}{fp:List Up},RepOs K G H p v d fp->Reps K H v d
 |_,_,_,_,.nil=>.nil
 |_,_,_,_,.cons h t=>.cons (RepO.rep gh h) (RepOs.rep gh t)
end
mutual
theorem RepO.isl:∀{p:Pat}{v:V}{d:D}{fp:List Up},RepO K G H p v d fp->∀a∈fp,∃vs,H a=some (.lst vs)
 |_,_,_,_,.leaf r,a,m=>by cases m
 |_,_,_,_,.lst h r,a,m=>by
  rcases QP.mp m with rfl|m
  ·exact⟨_,h⟩
  ·exact RepOl.isl r a m
 |_,_,_,_,.tup h r,a,m=>RepOs.isl r a m
theorem RepOl.isl:∀{p:Pat}{v:List V}{d:List D}{fp:List Up},RepOl K G H p v d fp->∀a∈fp,∃vs,H a=some (.lst vs)
 |_,_,_,_,.nil,a,m=>by cases m
 |_,_,_,_,.cons h t,a,m=>by
  rcases QR.mp m with m|m
  ·exact RepO.isl h a m
  ·exact RepOl.isl t a m
theorem RepOs.isl:∀{p:List Pat}{v:List V}{d:List D}{fp:List Up},RepOs K G H p v d fp->∀a∈fp,∃vs,H a=some (.lst vs)
 |_,_,_,_,.nil,a,m=>by cases m
 |_,_,_,_,.cons h t,a,m=>by
  rcases QR.mp m with m|m
  ·exact RepO.isl h a m
  ·exact RepOs.isl t a m
end
mutual
theorem RepO.uniq(sh:Same H H1):∀{p:Pat}{v:V}{d d':D}{fp fp':List Up},RepO K G H p v d fp->RepO K G1 H1 p v d' fp'->fp=fp'
 |_,_,_,_,_,_,.leaf _,.leaf _=>rfl
 |_,_,_,_,_,_,.lst h r,.lst h' r'=>by have e:=sh _ _ h;rw[h']at e;cases e;rw[RepOl.uniq sh r r']
 |_,_,_,_,_,_,.tup h r,.tup h' r'=>by have e:=sh _ _ h;rw[h']at e;cases e;exact RepOs.uniq sh r r'
theorem RepOl.uniq(sh:Same H H1):∀{p:Pat}{v:List V}{d d':List D}{fp fp':List Up},RepOl K G H p v d fp->RepOl K G1 H1 p v d' fp'->fp=fp'
 |_,_,_,_,_,_,.nil,.nil=>rfl
 |_,_,_,_,_,_,.cons h t,.cons h' t'=>by rw[RepO.uniq sh h h',RepOl.uniq sh t t']
theorem RepOs.uniq(sh:Same H H1):∀{p:List Pat}{v:List V}{d d':List D}{fp fp':List Up},RepOs K G H p v d fp->RepOs K G1 H1 p v d' fp'->fp=fp'
 |_,_,_,_,_,_,.nil,.nil=>rfl
 |_,_,_,_,_,_,.cons h t,.cons h' t'=>by rw[RepO.uniq sh h h',RepOs.uniq sh t t']
end
inductive Sl where
 |pub (d:D)|own (ds:List D)|deep (p:Pat) (d:D)
abbrev UH:=List (Option Sl)
def DpOk(K:Frag)(B G H:Hp)(σ:St)(Z:UH):Prop:=∃ω:Up->Nat,
 (∀(i:Nat) p d,Z[i]?=some (some (.deep p d))->∃v fp,σ[i]?=some (some v)/\RepO K G H p v d fp/\fp.Nodup/\∀a∈fp,B a=none/\G a=none/\ω a=i) /\
 (∀(i:Nat) ds a,Z[i]?=some (some (.own ds))->σ[i]?=some (some (.ref a))->ω a=i)
theorem DpOk.of{σ:St}{Z:UH}(h1:∀(i:Nat) p d,Z[i]?=some (some (.deep p d))->False)(h2:∀(i:Nat) ds,Z[i]?=some (some (.own ds))->False):DpOk K B G H σ Z:=
 ⟨λ_=>0,λi p d q=>(h1 i p d q).elim,λi ds a q=>(h2 i ds q).elim⟩
theorem DpOk.map{B1:Hp}{σ σ1:St}{Z Z1:UH}(k:DpOk K B G H σ Z)
  (h1:∀(i:Nat) p d,Z1[i]?=some (some (.deep p d))->Z[i]?=some (some (.deep p d))/\σ1[i]?=σ[i]?)
  (h2:∀(i:Nat) ds,Z1[i]?=some (some (.own ds))->∃es,Z[i]?=some (some (.own es))/\σ1[i]?=σ[i]?)
  (h3:∀(i:Nat) p d v fp,Z[i]?=some (some (.deep p d))->σ[i]?=some (some v)->RepO K G H p v d fp->(∀a∈fp,B a=none/\G a=none)->(∀(j:Nat) ds a,Z[j]?=some (some (.own ds))->σ[j]?=some (some (.ref a))->a∉fp)->RepO K G1 H1 p v d fp/\∀a∈fp,B1 a=none/\G1 a=none):DpOk K B1 G1 H1 σ1 Z1:=by
 obtain⟨ω,k1,k2⟩:=k;refine⟨ω,λi p d q=>?_,λi ds a q s=>?_⟩
 ·obtain⟨q1,e1⟩:=h1 i p d q;obtain⟨v,fp,s,r,n,w⟩:=k1 i p d q1;obtain⟨r1,w1⟩:=h3 i p d v fp q1 s r (λa m=>⟨(w a m).1,(w a m).2.1⟩) λj ds a qj sj m=>by have z1:=k2 j ds a qj sj;have z2:=(w a m).2.2;rw[z1]at z2;subst z2;rw[q1]at qj;cases qj
  exact⟨v,fp,by rw[e1];exact s,r1,n,λa m=>⟨(w1 a m).1,(w1 a m).2,(w a m).2.2⟩⟩
 ·obtain⟨es,q1,e1⟩:=h2 i ds q;rw[e1]at s;exact k2 i es a q1 s
structure EOk(K:Frag)(B G0 G H:Hp)(σ:St)(Z:UH):Prop where
 bh:Same B H
 gh:Same G H
 g0:Same G0 G
 np:∀a(u:MO),B a=some u.ho->G0 a=none->G a=none
 len:Z.length=σ.length
 pub:∀(i:Nat) d,Z[i]?=some (some (.pub d))->∃v,σ[i]?=some (some v)/\Rep K G v d
 own:∀(i:Nat) ds,Z[i]?=some (some (.own ds))->∃a vs,σ[i]?=some (some (.ref a))/\B a=none/\G a=none/\H a=some (.lst vs)/\Reps K G vs ds
 sep:∀(i j:Nat) a ds es,Z[i]?=some (some (.own ds))->Z[j]?=some (some (.own es))->σ[i]?=some (some (.ref a))->σ[j]?=some (some (.ref a))->i=j
 dp:DpOk K B G H σ Z
theorem EOk.ext{G' H':Hp}{σ:St}{Z:UH}(k:EOk K B G0 G H σ Z)(e:Ext G H G' H'):EOk K B G0 G' H' σ Z where
 bh:=k.bh.trans e.h
 gh:=e.gh
 g0:=k.g0.trans e.g
 np:=λa o q n=>e.np a o (k.bh a _ q) (k.np a o q n)
 len:=k.len
 pub:=λi d q=>let ⟨v,h1,h2⟩:=k.pub i d q;⟨v,h1,h2.mono e.g⟩
 own:=λi ds q=>let ⟨a,vs,h1,h2,h3,h4,h5⟩:=k.own i ds q;⟨a,vs,h1,h2,e.np a (.l _) h4 h3,e.h a _ h4,h5.mono e.g⟩
 sep:=k.sep
 dp:=k.dp.map (λ_ _ _ q=>⟨q,rfl⟩) (λ_ ds q=>⟨ds,q,rfl⟩) λi p d v fp q s r w n=>⟨r.mono e.g e.h,λa m=>let ⟨_,hl⟩:=r.isl a m;⟨(w a m).1,e.np a (.l _) hl (w a m).2⟩⟩
theorem EOk.publish{σ:St}{Z:UH}{i:Nat}{ds:List D}(k:EOk K B G0 G H σ Z)(h:Z[i]?=some (some (.own ds))) :
  ∃a G',σ[i]?=some (some (.ref a))/\Same G G'/\Rep K G' (.ref a) (.list ds)/\EOk K B G0 G' H σ (Z.set i (some (.pub (.list ds)))):=by
 obtain⟨a,vs,h1,h2,h3,h4,h5⟩:=k.own i ds h;have sg:Same G (upd G a (.lst vs)):=Zn h3;have hr:Rep K (upd G a (.lst vs)) (.ref a) (.list ds):=.lst (SqL.of Zc) (h5.mono sg);refine⟨a,upd G a (.lst vs),h1,sg,hr,⟨k.bh,λb u q=>?_,k.g0.trans sg,λb o q n=>?_,by rw[QX];exact k.len,λj d q=>?_,λj es q=>?_,λj l c es fs q1 q2 s1 s2=>?_,?_⟩⟩
 ·by_cases z:b=a
  ·subst z;rw[Zc]at q;cases q;exact h4
  ·rw[KM z]at q;exact k.gh b u q
 ·have z:b≠a:=λz=>by subst z;rw[h2]at q;cases q
  rw[KM z];exact k.np b o q n
 ·by_cases z:i=j
  ·subst z;have hl:i<Z.length:=(Qg.mp h).1;rw[QD hl]at q;cases q;exact⟨.ref a,h1,hr⟩
  ·rw[Qq z]at q;obtain⟨v,g1,g2⟩:=k.pub j d q;exact⟨v,g1,g2.mono sg⟩
 ·by_cases z:i=j
  ·subst z;have hl:i<Z.length:=(Qg.mp h).1;rw[QD hl]at q;cases q
  ·rw[Qq z]at q;obtain⟨b,ws,g1,g2,g3,g4,g5⟩:=k.own j es q;have zb:b≠a:=λe=>z (k.sep i j a ds es h q h1 (by rw[←e];exact g1))
   exact⟨b,ws,g1,g2,by rw[KM zb];exact g3,g4,g5.mono sg⟩
 ·have nz:∀{m:Nat}{ts:List D},(Z.set i (some (Sl.pub (.list ds))))[m]?=some (some (.own ts))->Z[m]?=some (some (.own ts)):=λ{m ts} q=>by
   by_cases z:i=m
   ·subst z;have hl:i<Z.length:=(Qg.mp h).1;rw[QD hl]at q;cases q
   ·rw[Qq z]at q;exact q
  exact k.sep j l c es fs (nz q1) (nz q2) s1 s2
 ·have hl:i<Z.length:=(Qg.mp h).1
  have nz:∀{m:Nat}{s:Sl},(Z.set i (some (Sl.pub (.list ds))))[m]?=some (some s)->(∃d,s=.pub d)∨Z[m]?=some (some s):=λ{m s} q=>by
   by_cases z:i=m
   ·subst z;rw[QD hl]at q;cases q;exact .inl ⟨_,rfl⟩
   ·rw[Qq z]at q;exact .inr q
  refine k.dp.map (λm p d q=>?_) (λm es q=>?_) λm p d v fp q s r w n=>⟨r.mono sg (.refl _),λb mb=>⟨(w b mb).1,?_⟩⟩
  ·rcases nz q with ⟨_,e⟩|q
   ·cases e
   ·exact⟨q,rfl⟩
  ·rcases nz q with ⟨_,e⟩|q
   ·cases e
   ·exact⟨es,q,rfl⟩
  ·rw[KM (λz=>by subst z;exact n i ds b h h1 mb)];exact(w b mb).2
inductive Res(α:Type) where
 |ok (a:α) (Z:UH)|bad
noncomputable abbrev M(α:Type):=UH->Res α
noncomputable def UO{α:Type}(a:α):M α:=λZ=>.ok a Z
noncomputable def U9{α:Type}(o:Option α):M α:=λZ=>match o with|some a=>.ok a Z|none=>.bad
noncomputable def Kb{α β:Type}(f:M α)(k:α->M β):M β:=λZ=>match f Z with | .ok a Z'=>k a Z' | .bad=>.bad
section
variable(K:Frag)(B G0:Hp)
def aft{α γ:Type}(R:Hp->γ->α->Prop)(r:Res α)(G:Hp)(σ:St)(Q:γ->Hp->Prop):Prop:=
 match r with
 |.ok d Z'=>∀v G' H',EOk K B G0 G' H' σ Z'->Same G G'->R G' v d->Q v H'
 |.bad=>False
noncomputable def tM{α γ:Type}(R:Hp->γ->α->Prop)(f:M α):St->Hp->(γ->Hp->Prop)->Prop:=λσ H Q=>
 ∃G Z,EOk K B G0 G H σ Z/\aft K B G0 R (f Z) G σ Q
noncomputable abbrev tD(f:M D):TE:=tM K B G0 (Rep K) f
noncomputable abbrev tDs(f:M (List D)):TA:=tM K B G0 (Reps K) f
noncomputable abbrev tBo(f:M Bool):TT:=tM K B G0 (λ_ b c=>b=c) f
noncomputable abbrev tOi(f:M (Option Int)):TO:=tM K B G0 (λ_ b c=>b=c) f
end
section
variable{K:Frag}{B G0:Hp}{α β γ δ ε:Type}{R:Hp->γ->α->Prop}{S:Hp->δ->β->Prop}{T:Hp->ε->α->Prop}{σ:St}{H:Hp}
theorem aft.mono{r:Res α}{G G':Hp}{Q:γ->Hp->Prop}(e:Same G G')(h:aft K B G0 R r G σ Q):aft K B G0 R r G' σ Q:=by
 cases r with
 |ok d Z=>exact λv G2 H2 k s q=>h v G2 H2 k (e.trans s) q
 |bad=>exact h
theorem aft.done{d:α}{Z:UH}{G G' H H':Hp}{v:γ}{Q:γ->Hp->Prop}(h:aft K B G0 R (.ok d Z) G σ Q)(k:EOk K B G0 G H σ Z)(e:Ext G H G' H')(r:R G' v d):Q v H':=
 h v G' H' (k.ext e) e.g r
theorem aft.now{d:α}{Z:UH}{G H:Hp}{v:γ}{Q:γ->Hp->Prop}(h:aft K B G0 R (.ok d Z) G σ Q)(k:EOk K B G0 G H σ Z)(r:R G v d):Q v H:=
 h v G H k (.refl _) r
theorem aft.opt{o:Option α}{Z:UH}{G:Hp}{Q:γ->Hp->Prop}(h:aft K B G0 R (U9 o Z) G σ Q):∃d,o=some d/\aft K B G0 R (.ok d Z) G σ Q:=by
 cases o with
 |none=>exact h.elim
 |some d=>exact⟨d,rfl,h⟩
theorem tM.bind{f:M α}{k:α->M β}{Q:δ->Hp->Prop}(h:tM K B G0 S (Kb f k) σ H Q) :
  tM K B G0 R f σ H (λv H1=>∃G Z d,EOk K B G0 G H1 σ Z/\R G v d/\aft K B G0 S (k d Z) G σ Q):=by
 obtain⟨G,Z,e,a⟩:=h;refine⟨G,Z,e,?_⟩;unfold Kb at a;cases q:f Z with
 |bad=>rw[q]at a;exact a.elim
 |ok d Z1=>rw[q]at a;exact λv G' H' e' s r=>⟨G',Z1,d,e',r,aft.mono s a⟩
theorem tM.bind2{α' γ':Type}{R':Hp->γ'->α'->Prop}{f:M α}{g:α->M α'}{k:α->α'->M β}{Q:δ->Hp->Prop}(mo:∀G G' v d,Same G G'->R G v d->R G' v d)
  (h:tM K B G0 S (Kb f λx=>Kb (g x) λy=>k x y) σ H Q) :
  tM K B G0 R f σ H (λv H1=>∃x,tM K B G0 R' (g x) σ H1 λu H2=>∃G Z y,EOk K B G0 G H2 σ Z/\R G v x/\R' G u y/\aft K B G0 S (k x y Z) G σ Q):=by
 obtain⟨G,Z,e,a⟩:=tM.bind (R:=R) h;refine⟨G,Z,e,?_⟩;cases q:f Z with
 |bad=>rw[q]at a;exact a.elim
 |ok d Z1=>
  rw[q]at a;intro v G' H' e' s r;obtain⟨G2,Z2,d2,e2,r2,a2⟩:=a v G' H' e' s r;refine⟨d2,G2,Z2,e2,?_⟩;unfold Kb at a2;cases q2:g d2 Z2 with
  |bad=>rw[q2]at a2;exact a2.elim
  |ok d3 Z3=>rw[q2]at a2;exact λu G3 H3 e3 s3 r3=>⟨G3,Z3,d3,e3,mo _ _ _ _ s3 r2,r3,aft.mono s3 a2⟩
end
theorem Li{K:Frag}(G G':Hp)(v:V)(d:D)(e:Same G G')(r:Rep K G v d):Rep K G' v d:=r.mono e
theorem tM.two{K:Frag}{B G0:Hp}{β δ:Type}{S:Hp->δ->β->Prop}{σ:St}{H:Hp}{f g:M D}{k:D->D->M β}{Q:δ->Hp->Prop}{P:V->V->Hp->Prop}
  (h:tM K B G0 S (Kb f λx=>Kb g λy=>k x y) σ H Q)
  (i:∀v u H2 G Z x y,EOk K B G0 G H2 σ Z->Rep K G v x->Rep K G u y->aft K B G0 S (k x y Z) G σ Q->P v u H2) :
  tD K B G0 f σ H (λv H1=>tD K B G0 g σ H1 λu H2=>P v u H2):=by
 obtain⟨G,Z,e,a⟩:=tM.bind2 (R:=Rep K) (R':=Rep K) Li h;refine⟨G,Z,e,?_⟩;cases q:f Z with
 |bad=>rw[q]at a;exact a.elim
 |ok d Z1=>
  rw[q]at a;intro v G' H' e' s r;obtain⟨x,G2,Z2,e2,a2⟩:=a v G' H' e' s r;refine⟨G2,Z2,e2,?_⟩;cases q2:g Z2 with
  |bad=>rw[q2]at a2;exact a2.elim
  |ok d3 Z3=>rw[q2]at a2;intro u G3 H3 e3 s3 r3;obtain⟨G4,Z4,y,e4,r4,r5,a5⟩:=a2 u G3 H3 e3 s3 r3;exact i v u H3 G4 Z4 x y e4 r4 r5 a5
theorem tM.one{K:Frag}{B G0:Hp}{α β γ δ:Type}{R:Hp->γ->α->Prop}{S:Hp->δ->β->Prop}{σ:St}{H:Hp}{f:M α}{k:α->M β}{Q:δ->Hp->Prop}{P:γ->Hp->Prop}
  (h:tM K B G0 S (Kb f k) σ H Q) (i:∀v H2 G Z x,EOk K B G0 G H2 σ Z->R G v x->aft K B G0 S (k x Z) G σ Q->P v H2):tM K B G0 R f σ H P:=by
 obtain⟨G,Z,e,a⟩:=tM.bind (R:=R) h;refine⟨G,Z,e,?_⟩;cases q:f Z with
 |bad=>rw[q]at a;exact a.elim
 |ok d Z1=>rw[q]at a;intro v G' H' e' s r;obtain⟨G2,Z2,d2,e2,r2,a2⟩:=a v G' H' e' s r;exact i v H' G2 Z2 d2 e2 r2 a2
section
variable{X:Cx}{B G0:Hp}{e a b:Ur}{pos:Pos}
theorem Ks{t t':TE}(h:PE X e t)(i:∀σ H Q,t' σ H Q->t σ H Q):PE X e t':=λpins s σ H Q I q=>h pins s σ H Q I (i σ H Q q)
theorem Yw{t t':TT}(h:PT X e t)(i:∀σ H Q,t' σ H Q->t σ H Q):PT X e t':=λpins s σ H Q I q=>h pins s σ H Q I (i σ H Q q)
theorem paof{es:List Ur}{t t':TA}(h:PA X es t)(i:∀σ H Q,t' σ H Q->t σ H Q):PA X es t':=λps pins s σ H Q I q=>h ps pins s σ H Q I (i σ H Q q)
theorem poof{eo:Option Ur}{t t':TO}(h:PO X eo t)(i:∀σ H Q,t' σ H Q->t σ H Q):PO X eo t':=λpins s σ H Q I q=>h pins s σ H Q I (i σ H Q q)
theorem Zv{st:Stmt}{t t':TS}(h:PS X st t)(i:∀D σ H,t' D σ H->t D σ H):PS X st t':=λpins s σ H D I q=>h pins s σ H D I (i D σ H q)
theorem PX{st:List Stmt}{t t':TS}(h:PSs X st t)(i:∀D σ H,t' D σ H->t D σ H):PSs X st t':=λpins s σ H D I q=>h pins s σ H D I (i D σ H q)
noncomputable def UB(i:Nat):M D:=λZ=>match Z[i]? with
 |some (some (.pub d))=>.ok d Z
 |some (some (.own ds))=>.ok (.list ds) (Z.set i (some (.pub (.list ds))))
 |_=>.bad
theorem Zy{i:Nat}(h:PE X e (Za i)):PE X e (tD X.K B G0 (UB i)):=Ks h λσ H Q ⟨G,Z,k,a⟩=>by
 unfold UB at a;cases q:Z[i]? with
 |none=>rw[q]at a;exact a.elim
 |some o=>
  cases o with
  |none=>rw[q]at a;exact a.elim
  |some sl=>
   cases sl with
   |deep _ _=>rw[q]at a;exact a.elim
   |pub d=>rw[q]at a;obtain⟨v,h1,h2⟩:=k.pub i d q;exact⟨v,h1,a.now k h2⟩
   |own ds=>rw[q]at a;obtain⟨ad,G',h1,h2,h3,h4⟩:=k.publish q;exact⟨.ref ad,h1,a (.ref ad) G' H h4 h2 h3⟩
theorem R9{v:V}{d:D}(h:PE X e (tC v))(r:∀G,Rep X.K G v d):PE X e (tD X.K B G0 (UO d)):=Ks h λσ H Q ⟨G,Z,k,a⟩=>a.now k (r G)
theorem Mg{i:Int}{j}:PE X (.Constant (.int i) j pos) (tD X.K B G0 (UO (.int i))):=R9 Ds λ_=>.int i
theorem Co{i:Bool}{j}:PE X (.Constant (.bool i) j pos) (tD X.K B G0 (UO (.bool i))):=R9 Fd λ_=>.bl i
theorem Cn{j}:PE X (.Constant .none j pos) (tD X.K B G0 (UO .none)):=R9 Dr λ_=>.non
theorem Ee{x:Str}{j}:PE X (.Constant (.str x) j pos) (tD X.K B G0 (UO (.str x))):=R9 Dq λ_=>.str x
noncomputable def UN{β:Type}(op:D->D->Option β)(f g:M D):M β:=Kb f λx=>Kb g λy=>U9 (op x y)
def OpD(X:Cx)(f:Ul->Ul->Sem Ul)(op:D->D->Option D):Prop:=
 ∃r:R2,OpR X f r/\∀v u G H x y d Q,Same G H->Rep X.K G v x->Rep X.K G u y->op x y=some d->(∀w G' H',Ext G H G' H'->Rep X.K G' w d->Q w H')->r v u H Q
theorem VI{op:Operator}{p:D->D->Option D}{f g:M D}(o:OpD X (binaryOp op) p)(ha:PE X a (tD X.K B G0 f))(hb:PE X b (tD X.K B G0 g)):PE X (.BinOp a op b pos) (tD X.K B G0 (UN p f g)):=by
 obtain⟨r,h,i⟩:=o;refine Ks (NJ h ha hb) λσ H Q q=>?_;refine tM.two q λv u H2 G Z x y k rx ry a=>?_
 obtain⟨d,e,a⟩:=a.opt;exact i v u G H2 x y d Q k.gh rx ry e λw G' H' ex rw=>a.done k ex rw
theorem OpD.or{f:Ul->Ul->Sem Ul}{p q:D->D->Option D}(h:OpD X f p)(h':OpD X f q):OpD X f (λx y=>(p x y).orElse λ_=>q x y):=by
 obtain⟨r,h1,i1⟩:=h;obtain⟨r',h2,i2⟩:=h';refine⟨_,h1.or h2,λv u G H x y d Q s rx ry e k=>?_⟩;dsimp only at e;cases z:p x y with
 |some d'=>rw[z]at e;have e':d'=d:=QQ e;subst e';exact .inl (i1 v u G H x y d' Q s rx ry z k)
 |none=>rw[z]at e;exact .inr (i2 v u G H x y d Q s rx ry e k)
noncomputable def oII(g:Int->Int->Option D):D->D->Option D
 |.int i,.int j=>g i j
 |_,_=>none
theorem Lh{g:Int->Int->Option D}{x y d:D}(e:oII g x y=some d):∃i j,x=.int i/\y=.int j/\g i j=some d:=by
 unfold oII at e;split at e
 ·exact⟨_,_,rfl,rfl,e⟩
 ·cases e
theorem OpD.int{f:Ul->Ul->Sem Ul}{C:Int->Int->Prop}{g:Int->Int->V}{p:Int->Int->Option D}(h:OpR X f (rI C g))(i:∀i j d,p i j=some d->C i j/\∀G,Rep X.K G (g i j) d):OpD X f (oII p):=by refine⟨_,h,λv u G H x y d Q s rx ry e k=>?_⟩;obtain⟨a,b,rfl,rfl,e⟩:=Lh e;obtain⟨c,r⟩:=i a b d e;exact⟨a,b,rx.int_inv,ry.int_inv,c,k _ G H (.refl s) (r G)⟩
theorem OpD.int0{f:Ul->Ul->Sem Ul}{g:Int->Int->V}{p:Int->Int->D}(h:OpR X f (rI0 g))(i:∀i j G,Rep X.K G (g i j) (p i j)):OpD X f (oII λi j=>some (p i j)):=by refine⟨_,h,λv u G H x y d Q s rx ry e k=>?_⟩;obtain⟨a,b,rfl,rfl,e⟩:=Lh e;cases e;exact⟨a,b,rx.int_inv,ry.int_inv,k _ G H (.refl s) (i a b G)⟩
end
section
variable{X:Cx}{B G0:Hp}{e a b c:Ur}{pos:Pos}
theorem Ed:OpD X (binaryOp .Add) (oII λi j=>some (.int (i+j))):=.int0 Et λ_ _ _=>.int _
theorem Ec:OpD X (binaryOp .Sub) (oII λi j=>some (.int (i-j))):=.int0 Es λ_ _ _=>.int _
noncomputable def Yi(i j:Int):Option D:=if(-(2 ^ 64)<i/\i<2 ^ 64)∨(-(2 ^ 64)<j/\j<2 ^ 64)then some (.int (i*j))else none
theorem Cm:OpD X (binaryOp .Mult) (oII Yi):=.int Er λi j d h=>by
 unfold Yi at h;split at h
 ·rename_i c;cases h;exact⟨c,λ_=>.int _⟩
 ·cases h
noncomputable def WB(i j:Int):Option D:=if 0<j then some (.int (i % j))else none
theorem Eb:OpD X (binaryOp .Mod) (oII WB):=.int Ep λi j d h=>by
 unfold WB at h;split at h
 ·rename_i c;cases h;exact⟨c,λ_=>.int _⟩
 ·cases h
theorem BP:OpR X (binaryOp .FloorDiv) (rI (λi j=>0<j/\j<2 ^ 64) λi j=>.int (i / j)):=opI λi j _ _ _ _ _ hc q=>by
 have h1:(0:Int)<j:=hc.1;have h2:j<2 ^ 64:=hc.2;refine floordiv_int (by omega) (by rw[Int.fdiv_eq_ediv_of_nonneg i (by omega)];exact q) (.inl (PyProof.noPylong_of_log2 ?_));have h0:j.natAbs≠0:=by omega
 have:j.natAbs.log2<64:=(Nat.log2_lt h0).mpr (by omega);omega
noncomputable def WC(i j:Int):Option D:=if 0<j/\j<2 ^ 64 then some (.int (i / j))else none
theorem Ea:OpD X (binaryOp .FloorDiv) (oII WC):=.int BP λi j d h=>by
 unfold WC at h;split at h
 ·rename_i c;cases h;exact⟨c,λ_=>.int _⟩
 ·cases h
noncomputable def WA(i j:Int):Option D:=if 0<=j/\j<=1000000/\i.natAbs<2 ^ 64 then some (.int (i ^ j.toNat))else none
theorem F9:OpD X (binaryOp .Pow) (oII WA):=.int Eo λi j d h=>by
 unfold WA at h;split at h
 ·rename_i c;cases h;exact⟨c,λ_=>.int _⟩
 ·cases h
theorem lim:(1000000:Nat)<=Us:=by decide
noncomputable def RX:D->D->Option D
 |.str x,.str y=>if x.length+y.length<=1000000 then some (.str (x++y))else none
 |_,_=>none
theorem Ck:OpD X (binaryOp .Add) RX:=by
 refine⟨_,qY,λv u G H x y d Q s rx ry e k=>?_⟩;unfold RX at e;split at e
 ·split at e
  ·rename_i c;cases e;exact⟨_,_,rx.str_inv,ry.str_inv,QT c lim,k _ G H (.refl s) (.str _)⟩
  ·cases e
 ·cases e
noncomputable def FA(K:Frag):R2:=λx y H Q=>∃l b xs zs,x=.ref l/\y=.ref b/\SqL K H l xs/\SqL K H b zs/\xs.length+zs.length<=Us/\∀p,H p=none->Q (.ref p) (upd H p (.lst (xs++zs)))
theorem Cj:OpR X (binaryOp .Add) (FA X.K):=by
 intro pins s σ H x y v u Q I rx ry h;obtain⟨l,b,xs,zs,rfl,rfl,hH,hB,hz,q⟩:=h;cases rx;cases ry;obtain⟨its,r,⟨⟨c1,d1,t1,s1⟩,n1,e1,ec1,ed1,et1⟩,z1⟩:=I.list hH;obtain⟨its2,r2,⟨⟨c2,d2,t2,s2⟩,n2,e2,ec2,ed2,et2⟩,z2⟩:=I.list hB;simp only at ec1 ed1 et1 ec2 ed2 et2;subst ec1 ed1 et1 ec2 ed2 et2;have hl:=r.length;have hl2:=r2.length;refine concat_meets ⟨_,e1,rfl⟩ ⟨_,e2,rfl⟩ noFill_list_add seq_list_add PySem.F.slot_list_add PySem.F.entry_list_add (PySem.F.args_list_add_2 _ _) (list_addW l b its.toArray its2.toArray n1 n2 none none s1 s2 (by rw[QI,QI];omega)) ⟨e1,e2,?_⟩;have ea:its.toArray++its2.toArray=(its++its2).toArray:=by simp
 rw[ea];exact⟨.ref _,_,I.lnew (t':=s.toks) (r.append r2) (by rw[Qj];omega),rfl,q _ I.fresh⟩
theorem Fz(a:Int)(t:Tok)(l:Up)(items:Array Ul)(n:Nat)(sl:Array (Option Ul)) :
  Meets (Builtin.«int.__rmul__» ⟨[.int a t,.ref l],[]⟩) (λ_ R s=>s.heap.get? l=some {cls:=.type "list", dict:=none,data:=.seq items n,slots:=sl}/\R (.ok (.ret Value.notImplemented)) s):=
 .of_wp λprog w A R s h=>by obtain⟨hp,g,d,tk,os⟩:=s;obtain⟨hl,h⟩:=h;wp_walk;exact⟨_,rfl,h⟩
theorem mulW(l:Up)(items:Array Ul)(n:Nat)(x:Int)(u:Tok)(sl:Array (Option Ul))(hc0:¬(!Builtin.List.listFitsIndex x)=true)(hc1:¬items.size*x.toNat > (2 ^ 63-1) / 8)(hc2:¬Builtin.List.listTooLong (items.size*x.toNat)=true) :
  Meets (Builtin.«list.__mul__» ⟨[.ref l,.int x u],[]⟩) (λ_ R s=>s.heap.get? l=some {cls:=.type "list", dict:=none,data:=.seq items n,slots:=sl}/\R (.ok (.ret (Value.ref s.heap.objs.size))) {s with heap:=s.heap.push {cls:=Value.type "list", data:=Data.seq (List.foldl (λx1 x2=>x1++x2) #[] (Ux (if items.isEmpty=true then 0 else x.toNat) items))},toks:=s.toks}):=
 .of_wp λprog w A R s h=>by
  obtain⟨hp,g,d,tk,os⟩:=s;obtain⟨hl,h⟩:=h;have hsz:=AutoListH.joined_fits hc2
  wp_walk;refine wpAny_ite_false (QG (Nat.not_lt.mpr hsz)) ?_;wp_walk;exact⟨_,rfl,h⟩
noncomputable def Fy(K:Frag):R2:=λx y H Q=>∃l k xs,x=.ref l/\y=.int k/\SqL K H l xs /\ -(2 ^ 63)<=k/\k<2 ^ 63/\xs.length*k.toNat<=Us /\
 ∀p,H p=none->Q (.ref p) (upd H p (.lst (Ux k.toNat xs).flatten))
theorem M4:OpR X (binaryOp .Mult) (Fy X.K):=by
 intro pins s σ H x y v u Q I rx ry h;obtain⟨l,k,xs,rfl,rfl,hH,h1,h2,hz,q⟩:=h;cases rx;obtain⟨t,rfl⟩:=ry;obtain⟨its,r,⟨⟨c1,d1,t1,sl⟩,n,e,ec1,ed1,et1⟩,z⟩:=I.list hH;simp only at ec1 ed1 et1;subst ec1 ed1 et1;have hl:=r.length;have hlen:its.toArray.size*k.toNat<=Us:=by rw[QI,←hl];exact hz
 have hcap:¬its.toArray.size*k.toNat > (2 ^ 63-1) / 8:=by
  have:(Us:Nat)<=(2 ^ 63-1) / 8:=by decide
  omega
 have hfit:¬(!Builtin.List.listFitsIndex k)=true:=by rw[fitsIndex_both h1 h2];exact Jl
 have hlong:¬Builtin.List.listTooLong (its.toArray.size*k.toNat)=true:=by rw[Lz hlen];exact Jl
 have hnew:List.foldl (λx1 x2=>x1++x2) #[] (Ux (if its.toArray.isEmpty=true then 0 else k.toNat) its.toArray)=(Ux k.toNat its).flatten.toArray:=by
  have f0:∀m:Nat,List.foldl (λx1 x2=>x1++x2) #[] (Ux m its.toArray)=(Ux m its).flatten.toArray:=λm=>by have:=Hc its m [];rw[Ji]at this;exact this
  rw[f0];cases its with
  |nil=>simp
  |cons a r'=>rw[if_neg (by simp)]
 refine wpAny_binaryOp_repeat_ref (T:= "list") (U:= "int") (by decide) ⟨_,e,rfl⟩ (λs'=>typeIs_int s' k t) noFill_list_mul F.fills_int_mul F.slot_int_rmul repeat_list F.slot_int_index.lookup
  (call_meets F.slot_int_rmul (typeIs_int s k t) F.entry_int_rmul (F.args_int_rmul_2 _ _) (Fz k t l its.toArray n sl)
   ⟨e,rfl,⟨_,e,rfl⟩,call_meets F.slot_list_mul ⟨_,e,rfl⟩ F.entry_list_mul (F.args_list_mul_2 _ _) (mulW l its.toArray n k t sl hfit hcap hlong) ⟨e,?_⟩⟩)
 rw[hnew];exact⟨.ref _,_,I.lnew (t':=s.toks) (r.rep k.toNat) (by rw[Ct,Nat.mul_comm];exact hz),rfl,q _ I.fresh⟩
noncomputable def RW:D->D->Option D
 |.list x,.list y=>if x.length+y.length<=1000000 then some (.list (x++y))else none
 |_,_=>none
theorem Ci:OpD X (binaryOp .Add) RW:=by
 refine⟨_,Cj,λv u G H x y d Q s rx ry e k=>?_⟩;unfold RW at e;split at e
 ·split at e
  ·rename_i c;cases e;obtain⟨l,vs,rfl,h1,r1⟩:=rx.lst_inv;obtain⟨b,ws,rfl,h2,r2⟩:=ry.lst_inv;refine⟨l,b,vs,ws,rfl,rfl,s.seq h1,s.seq h2,by rw[r1.length,r2.length];exact QT c lim,λp hp=>k _ _ _ (Ext.new s hp) ?_⟩;exact .lst (SqL.of Zc) ((r1.append r2).mono (Zn (s.free hp)))
  ·cases e
 ·cases e
theorem Reps.rep{K:Frag}{G:Hp}{vs:List V}{ds:List D}(r:Reps K G vs ds):∀n:Nat,Reps K G (Ux n vs).flatten (Ux n ds).flatten
 |0=>.nil
 |n+1=>by rw[QU,QU,QM,QM];exact r.append (r.rep n)
noncomputable def RV:D->D->Option D
 |.list x,.int k=>if -1000000<=k/\k<=1000000/\x.length*k.toNat<=1000000 then some (.list (Ux k.toNat x).flatten)else none
 |_,_=>none
theorem Ch:OpD X (binaryOp .Mult) RV:=by
 refine⟨_,M4,λv u G H x y d Q s rx ry e k=>?_⟩;unfold RV at e;split at e
 ·split at e
  ·rename_i c;cases e;obtain⟨l,vs,rfl,h1,r1⟩:=rx.lst_inv;refine⟨l,_,vs,rfl,ry.int_inv,s.seq h1,by omega,by omega,by rw[r1.length];exact QT c.2.2 lim,λp hp=>k _ _ _ (Ext.new s hp) ?_⟩;exact .lst (SqL.of Zc) ((r1.rep _).mono (Zn (s.free hp)))
  ·cases e
 ·cases e
noncomputable def U1:D->D->Option D
 |.int i,.int j=>some (.int (i+j))
 |.str x,.str y=>if x.length+y.length<=1000000 then some (.str (x++y))else none
 |.list x,.list y=>if x.length+y.length<=1000000 then some (.list (x++y))else none
 |_,_=>none
noncomputable def KP:D->D->Option D
 |.int i,.int j=>some (.int (i-j))
 |_,_=>none
noncomputable def Ki:D->D->Option D
 |.int i,.int j=>Yi i j
 |.list x,.int k=>if -1000000<=k/\k<=1000000/\x.length*k.toNat<=1000000 then some (.list (Ux k.toNat x).flatten)else none
 |_,_=>none
noncomputable def ZW:D->D->Option D
 |.int i,.int j=>WB i j
 |_,_=>none
noncomputable def XS:D->D->Option D
 |.int i,.int j=>WC i j
 |_,_=>none
noncomputable def XR:D->D->Option D
 |.int i,.int j=>WA i j
 |_,_=>none
theorem OpD.congr{f:Ul->Ul->Sem Ul}{p q:D->D->Option D}(h:OpD X f p)(e:∀x y,q x y=p x y):OpD X f q:=by
 have:q=p:=by funext x y;exact e x y
 rw[this];exact h
theorem Fx:OpD X (binaryOp .Add) U1:=(Ed.or (Ck.or Ci)).congr λx y=>by cases x<;>cases y<;>first|rfl|(simp only[U1,oII,RX,RW,Option.orElse];done)|(simp only[U1,oII,RX,RW,Option.orElse];split<;>rfl)
theorem NG:OpD X (binaryOp .Sub) KP:=Ec.congr λx y=>by cases x<;>cases y<;>rfl
theorem Fw:OpD X (binaryOp .Mult) Ki:=(Cm.or Ch).congr λx y=>by cases x<;>cases y<;>first|rfl|(simp only[Ki,oII,RV,Option.orElse];done)|(simp only[Ki,oII,RV,Option.orElse];split<;>first|rfl|assumption)
theorem F8:OpD X (binaryOp .Mod) ZW:=Eb.congr λx y=>by cases x<;>cases y<;>rfl
theorem F7:OpD X (binaryOp .FloorDiv) XS:=Ea.congr λx y=>by cases x<;>cases y<;>rfl
theorem F6:OpD X (binaryOp .Pow) XR:=F9.congr λx y=>by cases x<;>cases y<;>rfl
end
section
variable{X:Cx}{B G0:Hp}{e a b c:Ur}{pos:Pos}
def OpB(X:Cx)(f:Ul->Ul->Sem Ul)(op:D->D->Option Bool):Prop:=
 ∃r:R2,OpR X f r/\∀v u G H x y d Q,Same G H->Rep X.K G v x->Rep X.K G u y->op x y=some d->Q (.bl d) H->r v u H Q
theorem OpB.or{f:Ul->Ul->Sem Ul}{p q:D->D->Option Bool}(h:OpB X f p)(h':OpB X f q):OpB X f (λx y=>(p x y).orElse λ_=>q x y):=by
 obtain⟨r,h1,i1⟩:=h;obtain⟨r',h2,i2⟩:=h';refine⟨_,h1.or h2,λv u G H x y d Q s rx ry e k=>?_⟩;dsimp only at e;cases z:p x y with
 |some d'=>rw[z]at e;have e':d'=d:=QQ e;subst e';exact .inl (i1 v u G H x y d' Q s rx ry z k)
 |none=>rw[z]at e;exact .inr (i2 v u G H x y d Q s rx ry e k)
theorem OpB.congr{f:Ul->Ul->Sem Ul}{p q:D->D->Option Bool}(h:OpB X f p)(e:∀x y,q x y=p x y):OpB X f q:=by
 have:q=p:=by funext x y;exact e x y
 rw[this];exact h
theorem Oh{op:CmpOp}{p:D->D->Option Bool}{f g:M D}(o:OpB X (Uv op) p)(ha:PE X a (tD X.K B G0 f))(hb:PE X b (tD X.K B G0 g))(hm:behindInMarks op b=false) :
  PT X (.Compare a [op] [b] pos) (tBo X.K B G0 (UN p f g)):=by
 obtain⟨r,h,i⟩:=o;refine Yw (Om h ha hb hm) λσ H Q q=>?_;refine tM.two q λv u H2 G Z x y k rx ry a=>?_
 obtain⟨d,e,a⟩:=a.opt;exact i v u G H2 x y d _ k.gh rx ry e ⟨d,rfl,a.now k rfl⟩
noncomputable def UZ{α β:Type}(h:α->β)(f:M α):M β:=Kb f λx=>UO (h x)
theorem tM.map{K:Frag}{α β γ δ:Type}{R:Hp->γ->α->Prop}{S:Hp->δ->β->Prop}{σ:St}{H:Hp}{h:α->β}{f:M α}{Q:δ->Hp->Prop}(j:γ->δ)(q:tM K B G0 S (UZ h f) σ H Q)
  (i:∀G v x,R G v x->S G (j v) (h x)):tM K B G0 R f σ H (λv H'=>Q (j v) H'):=
 tM.one (R:=R) (f:=f) q λv H2 G Z x k r a=>aft.now (show aft K B G0 S (.ok (h x) Z) G σ Q from a) k (i G v x r)
theorem tBo.val{K:Frag}{σ:St}{H:Hp}{f:M Bool}{Q:VK}(q:tD K B G0 (UZ Uz f) σ H Q):tBo K B G0 f σ H (λb H'=>Q (.bl b) H'):=
 tM.map (R:=λ_ b c=>b=c) V.bl q λG v x e=>by rw[e];exact .bl x
theorem Cg{op:CmpOp}{p:D->D->Option Bool}{f g:M D}(o:OpB X (Uv op) p)(ha:PE X a (tD X.K B G0 f))(hb:PE X b (tD X.K B G0 g))(hm:behindInMarks op b=false) :
  PE X (.Compare a [op] [b] pos) (tD X.K B G0 (UZ Uz (UN p f g))):=by
 obtain⟨r,h,i⟩:=o;refine Ks (Ld h ha hb hm) λσ H Q q=>?_;refine tM.two (tBo.val q) λv u H2 G Z x y k rx ry a=>?_
 obtain⟨d,e,a⟩:=a.opt;exact i v u G H2 x y d _ k.gh rx ry e (a.now k rfl)
noncomputable def VP(p q:D->D->Option Bool)(f g h:M D):M Bool:=Kb f λx=>Kb g λy=>Kb (U9 (p x y)) λt=>if t=true then Kb h λz=>U9 (q y z)else UO false
theorem AF{op op':CmpOp}{p q:D->D->Option Bool}{f g h:M D}(o:OpB X (Uv op) p)(o':OpB X (Uv op') q)(ha:PE X a (tD X.K B G0 f))(hb:PE X b (tD X.K B G0 g))(hc:PE X c (tD X.K B G0 h))
  (hm:lastMarks [op,op'] [b,c]=false:=by with_unfolding_all rfl):PT X (.Compare a [op,op'] [b,c] pos) (tBo X.K B G0 (VP p q f g h)):=by
 obtain⟨r,h1,i⟩:=o;obtain⟨r',h2,i'⟩:=o';refine Yw (BZ h1 h2 ha hb hc hm) λσ H Q w=>?_;refine tM.two w λv u H2 G Z x y k rx ry a=>?_
 cases z:p x y with
 |none=>rw[z]at a;exact a.elim
 |some t=>
  rw[z]at a;refine i v u G H2 x y t _ k.gh rx ry z ⟨t,rfl,?_⟩;cases t with
  |false=>rw[QB Jl];exact⟨false,rfl,aft.now a k rfl⟩
  |true=>
   rw[Qp rfl];refine⟨G,Z,k,?_⟩;have a4:aft X.K B G0 (λ_ (b:Bool) c=>b=c) ((Kb h λz=>U9 (q y z)) Z) G σ Q:=a;unfold Kb at a4;cases z2:h Z with
   |bad=>rw[z2]at a4;exact a4.elim
   |ok d Z1=>rw[z2]at a4;intro w G5 H5 k5 s5 r5;obtain⟨t2,e2,a6⟩:=a4.opt;exact i' u w G5 H5 y d t2 _ k5.gh (ry.mono s5) r5 e2 ⟨t2,rfl,a6 t2 G5 H5 k5 s5 rfl⟩
theorem AE{op op':CmpOp}{p q:D->D->Option Bool}{f g h:M D}(o:OpB X (Uv op) p)(o':OpB X (Uv op') q)(ha:PE X a (tD X.K B G0 f))(hb:PE X b (tD X.K B G0 g))(hc:PE X c (tD X.K B G0 h))
  (hm:lastMarks [op,op'] [b,c]=false:=by with_unfolding_all rfl):PE X (.Compare a [op,op'] [b,c] pos) (tD X.K B G0 (UZ Uz (VP p q f g h))):=by
 obtain⟨r,h1,i⟩:=o;obtain⟨r',h2,i'⟩:=o';refine Ks (Bo h1 h2 ha hb hc hm) λσ H Q w=>?_;refine tM.two (tBo.val w) λv u H2 G Z x y k rx ry a=>?_
 cases z:p x y with
 |none=>rw[z]at a;exact a.elim
 |some t=>
  rw[z]at a;refine i v u G H2 x y t _ k.gh rx ry z ⟨t,rfl,?_⟩;cases t with
  |false=>rw[QB Jl];exact aft.now (v:=false) a k rfl
  |true=>
   rw[Qp rfl];refine⟨G,Z,k,?_⟩;have a4:aft X.K B G0 (λ_ (b:Bool) c=>b=c) ((Kb h λz=>U9 (q y z)) Z) G σ (λb H'=>Q (.bl b) H'):=a;unfold Kb at a4;cases z2:h Z with
   |bad=>rw[z2]at a4;exact a4.elim
   |ok d Z1=>rw[z2]at a4;intro w G5 H5 k5 s5 r5;obtain⟨t2,e2,a6⟩:=a4.opt;exact i' u w G5 H5 y d t2 _ k5.gh (ry.mono s5) r5 e2 (a6 t2 G5 H5 k5 s5 rfl)
noncomputable def oIB(g:Int->Int->Bool):D->D->Option Bool
 |.int i,.int j=>some (g i j)
 |_,_=>none
theorem OpB.int{f:Ul->Ul->Sem Ul}{g:Int->Int->Bool}(h:OpR X f (rI0 λi j=>.bl (g i j))):OpB X f (oIB g):=by
 refine⟨_,h,λv u G H x y d Q s rx ry e k=>?_⟩;unfold oIB at e;split at e
 ·cases e;exact⟨_,_,rx.int_inv,ry.int_inv,k⟩
 ·cases e
theorem B_lt:OpB X (Uv .Lt) (oIB λi j=>decide (i<j)):=.int FS
theorem B_le:OpB X (Uv .LtE) (oIB λi j=>decide (i<=j)):=.int FR
theorem B_gt:OpB X (Uv .Gt) (oIB λi j=>decide (j<i)):=.int FQ
theorem B_ge:OpB X (Uv .GtE) (oIB λi j=>decide (j<=i)):=.int FP
mutual
theorem YX{pins:List (Up×Obj)}{s:Um}{σ:St}{G H:Hp}(I:Inv X pins σ H s)(sg:Same G H):∀{v:V}{d:D}{u:Ul},Rep X.K G v d->RelV v u->d.canLay0=true->∃as,Reads s.heap u d as
 |_,_,_,.non,r,_=>by cases r;exact⟨_,.none⟩
 |_,_,_,.bl b,r,_=>by cases r;exact⟨_,.bool b⟩
 |_,_,_,.int i,r,_=>by obtain⟨t,rfl⟩:=r;exact⟨_,.int i t⟩
 |_,_,_,.str x,r,_=>by obtain⟨t,rfl⟩:=r;exact⟨_,.str x t⟩
 |_,_,_,.lst h q,r,c=>by cases r;obtain⟨its,rv,⟨o,n,e,hc,_,hd⟩,hz⟩:=I.list (sg.seq h);obtain⟨as,ra⟩:=readsAll_of I sg q rv (show UC _=true by simpa[PyData.canLay0]using c);exact⟨_,.list e hc hd (by simpa using ra)⟩
 |_,_,_,.tup h q,r,c=>by cases r;obtain⟨its,rv,p,hz⟩:=I.tuple (YQ sg h);obtain⟨o,e,hc,n,hd⟩:=p;obtain⟨as,ra⟩:=readsAll_of I sg q rv (show UC _=true by simpa[PyData.canLay0]using c);exact⟨_,.tuple e hc hd (by simpa using ra)⟩
 |_,_,_,.dic h,r,c=>by simp[PyData.canLay0]at c
 |_,_,_,.exc _ _ _ _,r,c=>by simp[PyData.canLay0]at c
 |_,_,_,.dct _ _ _ _ _,r,c=>by simp[PyData.canLay0]at c
 |_,_,_,.dtt _ _ _ _,r,c=>by simp[PyData.canLay0]at c
theorem readsAll_of{pins:List (Up×Obj)}{s:Um}{σ:St}{G H:Hp}(I:Inv X pins σ H s)(sg:Same G H):∀{vs:List V}{ds:List D}{us:List Ul},Reps X.K G vs ds->Vals vs us->UC ds=true->∃as,ReadsAll s.heap us ds as
 |_,_,_,.nil,r,_=>by cases r;exact⟨_,.nil⟩
 |_,_,_,.cons h t,r,c=>by
  cases r with
  |cons r1 r2=>have c':=c;rw[UC,Jp]at c';obtain⟨as,ra⟩:=YX I sg h r1 c'.1;obtain⟨bs,rb⟩:=readsAll_of I sg t r2 c'.2;exact⟨_,.cons ra rb⟩
end
noncomputable def oEq(x y:D):Option Bool:=if x.canLay0=true/\y.canLay0=true/\x.depth<=60 then some (UE x y)else none
noncomputable def oNe(x y:D):Option Bool:=if x.canLay0=true/\y.canLay0=true/\x.depth<=60 then some (!UE x y)else none
theorem Sm(hu:X.A.units+64<cLine):OpB X (Uv .Eq) oEq:=by
 refine⟨λv u H Q=>∃G x y d,Same G H/\Rep X.K G v x/\Rep X.K G u y/\oEq x y=some d/\Q (.bl d) H,?_,λv u G H x y d Q s rx ry e k=>⟨G,x,y,d,s,rx,ry,e,k⟩⟩;intro pins s σ H x y v u Q I rx ry ⟨G,dx,dy,d,sg,px,py,e,q⟩;unfold oEq at e;split at e
 ·rename_i c;cases e;obtain⟨as,ra⟩:=YX I sg px rx c.1;obtain⟨bs,rb⟩:=YX I sg py ry c.2.1;exact SeqAt.compareEq_reads ra rb c.1 c.2.1 (by have:=c.2.2;omega) ⟨.bl _,H,I,rfl,q⟩
 ·cases e
theorem B_ne(hu:X.A.units+64<cLine):OpB X (Uv .NotEq) oNe:=by
 refine⟨λv u H Q=>∃G x y d,Same G H/\Rep X.K G v x/\Rep X.K G u y/\oNe x y=some d/\Q (.bl d) H,?_,λv u G H x y d Q s rx ry e k=>⟨G,x,y,d,s,rx,ry,e,k⟩⟩;intro pins s σ H x y v u Q I rx ry ⟨G,dx,dy,d,sg,px,py,e,q⟩;unfold oNe at e;split at e
 ·rename_i c;cases e;obtain⟨as,ra⟩:=YX I sg px rx c.1;obtain⟨bs,rb⟩:=YX I sg py ry c.2.1;exact SeqAt.compareNe_reads ra rb c.1 c.2.1 (by have:=c.2.2;omega) ⟨.bl _,H,I,rfl,q⟩
 ·cases e
noncomputable def isNon:D->Bool
 |.none=>true
 |_=>false
theorem Rep.isNon{K:Frag}{G:Hp}{v:V}{d:D}(r:Rep K G v d):DL.isNon d=decide (v=.non):=by cases r<;>simp[DL.isNon]
end
section
variable{X:Cx}{B G0:Hp}{e a b c:Ur}{pos:Pos}{es rest:List Ur}
theorem tM.nx{K:Frag}{α β γ δ:Type}{R:Hp->γ->α->Prop}{S:Hp->δ->β->Prop}{σ:St}{G H:Hp}{Z:UH}{f:M α}{g:α->M β}{Q:δ->Hp->Prop}{P:γ->Hp->Prop}
  (k:EOk K B G0 G H σ Z) (a:aft K B G0 S (Kb f g Z) G σ Q) (i:∀v H' G' Z' x,EOk K B G0 G' H' σ Z'->Same G G'->R G' v x->aft K B G0 S (g x Z') G' σ Q->P v H'):tM K B G0 R f σ H P:=by
 refine⟨G,Z,k,?_⟩;unfold Kb at a;cases q:f Z with
 |bad=>rw[q]at a;exact a.elim
 |ok d Z1=>rw[q]at a;exact λv G' H' e s r=>i v H' G' Z1 d e s r (aft.mono s a)
noncomputable def KW(f g:M Bool):M Bool:=Kb f λt=>if t=true then g else UO false
noncomputable def mOr(f g:M Bool):M Bool:=Kb f λt=>if t=true then UO true else g
noncomputable def Kt(f:M Bool):M Bool:=UZ (λt=>!t) f
theorem Cf{K:Frag}{f g:M Bool}{σ:St}{H:Hp}{Q:Bool->Hp->Prop}(q:tBo K B G0 (KW f g) σ H Q):tAnd (tBo K B G0 f) (tBo K B G0 g) σ H Q:=
 tM.one (R:=λ_ b c=>b=c) q λv H2 G Z x k r a=>by
  have r:v=x:=r;subst r;cases v with
  |true=>exact⟨G,Z,k,a⟩
  |false=>exact aft.now (v:=false) a k rfl
theorem EO{K:Frag}{f g:M Bool}{σ:St}{H:Hp}{Q:Bool->Hp->Prop}(q:tBo K B G0 (mOr f g) σ H Q):tOr (tBo K B G0 f) (tBo K B G0 g) σ H Q:=
 tM.one (R:=λ_ b c=>b=c) q λv H2 G Z x k r a=>by
  have r:v=x:=r;subst r;cases v with
  |false=>exact⟨G,Z,k,a⟩
  |true=>exact aft.now (v:=true) a k rfl
theorem pwof{t t':TT}(h:PW X e t)(i:∀σ H Q,t' σ H Q->t σ H Q):PW X e t':=λwh pins s σ H Q I q=>h wh pins s σ H Q I (i σ H Q q)
theorem BO{f:M Bool}(ha:PT X a (tBo X.K B G0 f)):PW X (.BoolOp .And [a] pos) (tBo X.K B G0 f):=D3 ha
theorem Ce{f:M Bool}(ha:PT X a (tBo X.K B G0 f)):PW X (.BoolOp .Or [a] pos) (tBo X.K B G0 f):=DU ha
theorem Cd{f g:M Bool}(ha:PT X a (tBo X.K B G0 f))(hb:PW X (.BoolOp .And (b::rest) pos) (tBo X.K B G0 g)):PW X (.BoolOp .And (a::b::rest) pos) (tBo X.K B G0 (KW f g)):=pwof (DT ha hb) λ_ _ _ q=>Cf q
theorem EN{f g:M Bool}(ha:PT X a (tBo X.K B G0 f))(hb:PW X (.BoolOp .Or (b::rest) pos) (tBo X.K B G0 g)):PW X (.BoolOp .Or (a::b::rest) pos) (tBo X.K B G0 (mOr f g)):=pwof (Fb ha hb) λ_ _ _ q=>EO q
theorem Cc{f:M Bool}(ha:PT X a (tBo X.K B G0 f)):PT X (.UnaryOp .Not a pos) (tBo X.K B G0 (Kt f)):=Yw (DS ha) λσ H Q q=>tM.map (R:=λ_ b c=>b=c) (λt=>!t) q λ_ v x e=>by rw[e]
noncomputable def Zg(f:M D):M Bool:=Kb f λx=>match x with | .bool t=>UO t|_=>λ_=>.bad
theorem Cb{f:M D}(h:PE X e (tD X.K B G0 f))(he:∀whole,isTrue e X.env whole=(do let v ←whole;standAt e.pos;holding [v] (truthy v)):=by intro _;rfl):PT X e (tBo X.K B G0 (Zg f)):=
 Yw (Do h he) λσ H Q q=>tM.one (R:=Rep X.K) q λv H2 G Z x k r a=>by
  cases x with
  |bool t=>exact⟨t,r.bl_inv,aft.now (v:=t) a k rfl⟩
  |_=>exact a.elim
noncomputable def VH(f g:M D):M D:=Kb f λx=>match x with | .bool true=>g | .bool false=>UO (.bool false)|_=>λ_=>.bad
noncomputable def XT(f g:M D):M D:=Kb f λx=>match x with | .bool true=>UO (.bool true) | .bool false=>g|_=>λ_=>.bad
noncomputable def Rk(f:M D):M D:=Kb f λx=>match x with | .bool t=>UO (.bool (!t))|_=>λ_=>.bad
theorem Ca{f g:M D}(ha:PE X a (tD X.K B G0 f))(hb:PE X (.BoolOp .And (b::rest) pos) (tD X.K B G0 g)):PE X (.BoolOp .And (a::b::rest) pos) (tD X.K B G0 (VH f g)):=
 Ks (DQ ha hb) λσ H Q q=>tM.one (R:=Rep X.K) q λv H2 G Z x k r a=>by
  cases x with
  |bool t=>
   refine⟨t,r.bl_inv,?_⟩;cases t with
   |true=>exact⟨G,Z,k,a⟩
   |false=>exact aft.now a k (.bl false)
  |_=>exact a.elim
theorem EM{f g:M D}(ha:PE X a (tD X.K B G0 f))(hb:PE X (.BoolOp .Or (b::rest) pos) (tD X.K B G0 g)):PE X (.BoolOp .Or (a::b::rest) pos) (tD X.K B G0 (XT f g)):=
 Ks (GY ha hb) λσ H Q q=>tM.one (R:=Rep X.K) q λv H2 G Z x k r a=>by
  cases x with
  |bool t=>
   refine⟨t,r.bl_inv,?_⟩;cases t with
   |false=>exact⟨G,Z,k,a⟩
   |true=>exact aft.now a k (.bl true)
  |_=>exact a.elim
theorem D9{op}{f:M D}(h:PE X a (tD X.K B G0 f)):PE X (.BoolOp op [a] pos) (tD X.K B G0 f):=DR h
theorem D8{f:M D}(ha:PE X a (tD X.K B G0 f)):PE X (.UnaryOp .Not a pos) (tD X.K B G0 (Rk f)):=
 Ks (DP ha) λσ H Q q=>tM.one (R:=Rep X.K) q λv H2 G Z x k r a=>by
  cases x with
  |bool t=>exact⟨t,r.bl_inv,aft.now a k (.bl _)⟩
  |_=>exact a.elim
noncomputable def mIf{α:Type}(f:M Bool)(g h:M α):M α:=Kb f λt=>if t=true then g else h
theorem AD{f:M Bool}{g h:M D}(hc:PT X c (tBo X.K B G0 f))(ha:PE X a (tD X.K B G0 g))(hb:PE X b (tD X.K B G0 h)):PE X (.IfExp c a b pos) (tD X.K B G0 (mIf f g h)):=
 Ks (Bq hc ha hb) λσ H Q q=>tM.one (R:=λ_ b c=>b=c) q λv H2 G Z x k r a=>by
  have r:v=x:=r;subst r;cases v with
  |true=>exact⟨G,Z,k,a⟩
  |false=>exact⟨G,Z,k,a⟩
theorem CI{f:M D}{j p2}(ha:PE X a (tD X.K B G0 f)):PT X (.Compare a [.Is] [.Constant .none j p2] pos) (tBo X.K B G0 (UZ isNon f)):=
 Yw (N5 (N6 ha)) λσ H Q q=>tM.one (R:=Rep X.K) q λv H2 G Z x k r a=>⟨_,rfl,aft.now a k (by rw[r.isNon])⟩
theorem Ly{f:M D}{j p2}(ha:PE X a (tD X.K B G0 f)):PT X (.Compare a [.IsNot] [.Constant .none j p2] pos) (tBo X.K B G0 (UZ (λd=>!isNon d) f)):=
 Yw (N5 (D4 ha)) λσ H Q q=>tM.one (R:=Rep X.K) q λv H2 G Z x k r a=>⟨_,rfl,aft.now a k (by dsimp only;rw[r.isNon])⟩
theorem CH{f:M D}{j p2}(ha:PE X a (tD X.K B G0 f)):PE X (.Compare a [.Is] [.Constant .none j p2] pos) (tD X.K B G0 (UZ (λd=>.bool (isNon d)) f)):=
 Ks (Dp (N6 ha)) λσ H Q q=>tM.one (R:=Rep X.K) q λv H2 G Z x k r a=>aft.now a k (by dsimp only;rw[r.isNon];exact .bl _)
noncomputable def UI:M (List D):=UO []
noncomputable def UM(f:M D)(g:M (List D)):M (List D):=Kb f λx=>Kb g λxs=>UO (x::xs)
theorem VC:PA X [] (tDs X.K B G0 UI):=paof Vo λσ H Q ⟨G,Z,k,a⟩=>aft.now a k .nil
theorem tM.twoA{K:Frag}{σ:St}{H:Hp}{f:M D}{g:M (List D)}{β δ:Type}{S:Hp->δ->β->Prop}{k:D->List D->M β}{Q:δ->Hp->Prop}{P:V->List V->Hp->Prop}
  (h:tM K B G0 S (Kb f λx=>Kb g λy=>k x y) σ H Q)
  (i:∀v u H2 G Z x y,EOk K B G0 G H2 σ Z->Rep K G v x->Reps K G u y->aft K B G0 S (k x y Z) G σ Q->P v u H2) :
  tD K B G0 f σ H (λv H1=>tDs K B G0 g σ H1 λu H2=>P v u H2):=by
 obtain⟨G,Z,e,a⟩:=tM.bind2 (R:=Rep K) (R':=Reps K) Li h;refine⟨G,Z,e,?_⟩;cases q:f Z with
 |bad=>rw[q]at a;exact a.elim
 |ok d Z1=>
  rw[q]at a;intro v G' H' e' s r;obtain⟨x,G2,Z2,e2,a2⟩:=a v G' H' e' s r;refine⟨G2,Z2,e2,?_⟩;cases q2:g Z2 with
  |bad=>rw[q2]at a2;exact a2.elim
  |ok d3 Z3=>rw[q2]at a2;intro u G3 H3 e3 s3 r3;obtain⟨G4,Z4,y,e4,r4,r5,a5⟩:=a2 u G3 H3 e3 s3 r3;exact i v u H3 G4 Z4 x y e4 r4 r5 a5
theorem YD{f:M D}{g:M (List D)}(ha:PE X e (tD X.K B G0 f))(hr:PA X es (tDs X.K B G0 g))(hs:Uu (e::es) X.env=(false,eval e X.env)::Uu es X.env:=by rfl) :
  PA X (e::es) (tDs X.K B G0 (UM f g)):=paof (X6 ha hr hs) λσ H Q q=>tM.twoA q λv u H2 G Z x y k r1 r2 a=>aft.now a k (.cons r1 r2)
noncomputable def Kw(f:M (List D)):M D:=Kb f λxs=>if xs.length<=1000000 then UO (.tuple xs)else λ_=>.bad
noncomputable def KD(f:M (List D)):M D:=Kb f λxs=>if xs.length<=1000000 then UO (.list xs)else λ_=>.bad
theorem Og{x1}{f:M (List D)}(h:PA X es (tDs X.K B G0 f)):PE X (.Tuple es x1 pos) (tD X.K B G0 (Kw f)):=
 Ks (NX h) λσ H Q q=>tM.one (R:=Reps X.K) q λv H2 G Z x k r a=>by
  split at a
  ·rename_i c;refine⟨by rw[r.length];exact QT c lim,λp hp=>?_⟩;exact aft.done a k (Ext.new k.gh hp) (.tup (SqT.of Zc) (r.mono (Zn (k.gh.free hp))))
  ·exact a.elim
theorem M3{f:M (List D)}(h:PA X es (tDs X.K B G0 f)):PE X (.List es pos) (tD X.K B G0 (KD f)):=
 Ks (NW h) λσ H Q q=>tM.one (R:=Reps X.K) q λv H2 G Z x k r a=>by
  split at a
  ·rename_i c;refine⟨by rw[r.length];exact QT c lim,λp hp=>?_⟩;exact aft.done a k (Ext.new k.gh hp) (.lst (SqL.of Zc) (r.mono (Zn (k.gh.free hp))))
  ·exact a.elim
noncomputable def oIx:D->D->Option D
 |.list xs,.int i=>atI xs i
 |.tuple xs,.int i=>atI xs i
 |.str z,.int i=>if z.length<=1000000 then(atI z.cps.toList i).map λc=>.str ⟨#[c]⟩else none
 |_,_=>none
theorem Reps.atI{K:Frag}{G:Hp}{vs:List V}{ds:List D}{i:Int}{d:D}(r:Reps K G vs ds)(h:L2.atI ds i=some d):∃v,L2.atI vs i=some v/\Rep K G v d:=by
 unfold L2.atI at h⊢;rw[r.length];cases z:ixN ds.length i with
 |none=>rw[z]at h;cases h
 |some j=>rw[z]at h;exact r.get (i:=j) h
theorem Mf{K:Frag}{v u:V}{G H:Hp}{x y d:D}{Q:VK}(s:Same G H)(rx:Rep K G v x)(ry:Rep K G u y)(e:oIx x y=some d)(k:∀w,Rep K G w d->Q w H):rIx K v u H Q:=by
 unfold oIx at e;split at e
 ·obtain⟨l,vs,rfl,h1,r1⟩:=rx.lst_inv;obtain⟨w,e1,r2⟩:=r1.atI e;exact .inl ⟨l,vs,_,w,rfl,ry.int_inv,s.seq h1,e1,k w r2⟩
 ·obtain⟨l,vs,rfl,h1,r1⟩:=rx.tup_inv;obtain⟨w,e1,r2⟩:=r1.atI e;exact .inr (.inl ⟨l,vs,_,w,rfl,ry.int_inv,YQ s h1,e1,k w r2⟩)
 ·split at e
  ·rename_i z i hz;cases q:L2.atI z.cps.toList i with
   |none=>rw[q]at e;cases e
   |some ch=>rw[q]at e;cases e;exact .inr (.inr ⟨z,i,ch,rx.str_inv,ry.int_inv,QT hz lim,q,k _ (.str _)⟩)
  ·cases e
 ·cases e
theorem EL{f g:M D}(ha:PE X a (tD X.K B G0 f))(hb:PE X b (tD X.K B G0 g))(hs:Oj b):PE X (.Subscript a b pos) (tD X.K B G0 (UN oIx f g)):=
 Ks (Nz NV ha hb hs) λσ H Q q=>tM.two q λv u H2 G Z x y k rx ry a=>by obtain⟨d,e,a⟩:=a.opt;exact Mf k.gh rx ry e λw r=>a.now k r
noncomputable def UV(i:Nat)(g:M D):M D:=λZ=>match Z[i]? with
 |some (some (.pub d))=>(Kb g λy=>U9 (oIx d y)) Z
 |some (some (.own _))=>(Kb g λy=>λZ'=>match Z'[i]? with|some (some (.own ds))=>U9 (oIx (.list ds) y) Z'|_=>.bad) Z
 |_=>.bad
theorem SF{i:Nat}{g:M D}(ha:PE X a (Za i))(hb:PE X b (tD X.K B G0 g))(hs:Oj b):PE X (.Subscript a b pos) (tD X.K B G0 (UV i g)):=
 Ks (Nz NV ha hb hs) λσ H Q ⟨G,Z,k,a⟩=>by
  unfold UV at a;cases q:Z[i]? with
  |none=>rw[q]at a;exact a.elim
  |some o=>
   cases o with
   |none=>rw[q]at a;exact a.elim
   |some sl=>
    cases sl with
    |deep _ _=>rw[q]at a;exact a.elim
    |pub d=>
     rw[q]at a;obtain⟨v,h1,h2⟩:=k.pub i d q;refine⟨v,h1,G,Z,k,?_⟩;dsimp only[Kb]at a;cases z:g Z with
     |bad=>rw[z]at a;exact a.elim
     |ok y Z1=>rw[z]at a;intro u G' H' k' s' r';obtain⟨d',e',a'⟩:=aft.opt a;exact Mf k'.gh (h2.mono s') r' e' λw r=>a' w G' H' k' s' r
    |own ds=>
     rw[q]at a;obtain⟨ad,vs,h1,h2,h3,h4,h5⟩:=k.own i ds q;refine⟨.ref ad,h1,G,Z,k,?_⟩;dsimp only[Kb]at a;cases z:g Z with
     |bad=>rw[z]at a;exact a.elim
     |ok y Z1=>
      rw[z]at a;dsimp only at a;intro u G' H' k' s' r';cases z2:Z1[i]? with
      |none=>rw[z2]at a;exact a.elim
      |some o2=>
       cases o2 with
       |none=>rw[z2]at a;exact a.elim
       |some sl2=>
        cases sl2 with
        |deep _ _=>rw[z2]at a;exact a.elim
        |pub d2=>rw[z2]at a;exact a.elim
        |own es2=>
         rw[z2]at a;obtain⟨d',e',a'⟩:=aft.opt a;obtain⟨ad',vs',g1,g2,g3,g4,g5⟩:=k'.own i es2 z2;rw[h1]at g1;cases g1;unfold oIx at e';cases y with
         |int j=>obtain⟨w,e1,r2⟩:=g5.atI e';exact .inl ⟨ad,vs',j,w,rfl,r'.int_inv,SqL.of g4,e1,a' w G' H' k' s' r2⟩
         |_=>cases e'
noncomputable def cutD(xs:List D)(lo hi:Option Int):List D:=(xs.drop (HT.sIx xs.length 0 lo)).take (HT.sIx xs.length xs.length hi-HT.sIx xs.length 0 lo)
theorem Reps.cut{K:Frag}{G:Hp}{vs:List V}{ds:List D}(r:Reps K G vs ds)(lo hi:Option Int):Reps K G (Xm vs lo hi) (cutD ds lo hi):=by unfold Xm cutD;rw[r.length];exact(r.drop _).take _
noncomputable def Ys:D->Option (Option Int)
 |.int i=>some (some i)
 |_=>none
theorem BN:PO X none (tOi X.K B G0 (UO none)):=poof DX λσ H Q ⟨G,Z,k,a⟩=>aft.now a k rfl
theorem BM{f:M D}(h:PE X e (tD X.K B G0 f)):PO X (some e) (tOi X.K B G0 (Kb f λx=>U9 (Ys x))):=poof (DW h) λσ H Q q=>tM.one (R:=Rep X.K) q λv H2 G Z x k r a=>by
 cases x with
 |int i=>exact⟨i,r.int_inv,aft.now (v:=some i) a k rfl⟩
 |_=>exact a.elim
end
noncomputable def WD:List (D×D)->Bool
 |(.none,_)::_=>true
 |_=>false
noncomputable def Xi:D->String
 |.none=> "NoneType"
 |.bool _=> "bool"
 |.int _=> "int"
 |.str _=> "str"
 |.list _=> "list"
 |.tuple _=> "tuple"
 |.dict kvs=>if WD kvs=true then "" else "dict"
noncomputable def Ku(d:D)(c:String):Bool:=Xi d==c || (Xi d == "bool" && c == "int")
noncomputable def Rj:D->Bool
 |.dict kvs=>WD kvs
 |_=>false
theorem Me{ks:List Key}{ds:List D}:Xi (.dict ((ks.map kD).zip ds)) = "dict" /\ Rj (.dict ((ks.map kD).zip ds))=false:=by
 cases ks with
 |nil=>exact⟨rfl,rfl⟩
 |cons k ks=>
  cases ds with
  |nil=>exact⟨rfl,rfl⟩
  |cons d ds=>cases k<;>exact⟨rfl,rfl⟩
theorem CG(K:Frag)(d:D)(c:String)(nx:Rj d=false)(hc:c = "int" ∨ c = "bool" ∨ c = "str" ∨ c = "list" ∨ c = "tuple" ∨ c = "dict"):PySem.W.kitOne K (.type (Xi d)) (.type c)=some (Ku d c):=by
 cases d with
 |dict kvs=>
  have e:Xi (.dict kvs) = "dict" :=by
   have nx:WD kvs=false:=nx
   show(if WD kvs=true then "" else "dict")=_
   rw[nx];rfl
  unfold Ku;rw[e];rcases hc with rfl|rfl|rfl|rfl|rfl|rfl<;>rfl
 |_=>rcases hc with rfl|rfl|rfl|rfl|rfl|rfl<;>rfl
section
variable{X:Cx}{B G0:Hp}{e a b c:Ur}{pos:Pos}{es rest:List Ur}
def YG(X:Cx)(f:Ul)(p:List D->Option D):Prop:=
 ∃r,YB X f r/\∀vs G H ds d Q,Same G H->Reps X.K G vs ds->p ds=some d->(∀w G' H',Ext G H G' H'->Rep X.K G' w d->Q w H')->r vs H Q
noncomputable def K1(p:List D->Option D)(f:M (List D)):M D:=Kb f λxs=>U9 (p xs)
theorem VD{x:Str}{p2:Pos}{id:String}{p:List D->Option D}{f:M (List D)}(hc:YG X (.builtin id) p)(hg:Gl X x)(hm:X.mg x=none)(hv:bootBuiltins x=some (.builtin id))(ha:PA X (e::es) (tDs X.K B G0 f))(hn:x ≠ "__name__" :=by decide)(hdb:(x==("__debug__" : Str))=false:=by decide)
  (he:Uu (e::es) X.env=(false,eval e X.env)::Uu es X.env:=by rfl) (hpl:(backTo pos (Uu es X.env)).any (·.1)=false:=by rfl):PE X (.Call (.Name x p2) (e::es) [] pos) (tD X.K B G0 (K1 p f)):=by
 obtain⟨r,h,i⟩:=hc;refine Ks (Po h hg hm hv ha hn hdb he hpl) λσ H Q q=>tM.one (R:=Reps X.K) q λv H2 G Z x k rr a=>?_
 obtain⟨d,e,a⟩:=a.opt;exact i v G H2 x d Q k.gh rr e λw G' H' ex rw=>a.done k ex rw
theorem qW{x:Str}{p2:Pos}{T:String}{p:List D->Option D}{f:M (List D)}(hc:YG X (.type T) p)(hg:Gl X x)(hm:X.mg x=none)(hv:bootBuiltins x=some (.type T))(ha:PA X (e::es) (tDs X.K B G0 f))(hn:x ≠ "__name__" :=by decide)(hdb:(x==("__debug__" : Str))=false:=by decide)
  (he:Uu (e::es) X.env=(false,eval e X.env)::Uu es X.env:=by rfl) (hpl:(backTo pos (Uu es X.env)).any (·.1)=false:=by rfl):PE X (.Call (.Name x p2) (e::es) [] pos) (tD X.K B G0 (K1 p f)):=by
 obtain⟨r,h,i⟩:=hc;refine Ks (PJ h hg hm hv ha hn hdb he hpl) λσ H Q q=>tM.one (R:=Reps X.K) q λv H2 G Z x k rr a=>?_
 obtain⟨d,e,a⟩:=a.opt;exact i v G H2 x d Q k.gh rr e λw G' H' ex rw=>a.done k ex rw
theorem Reps.nil_inv{K:Frag}{G:Hp}{vs:List V}(r:Reps K G vs []):vs=[]:=by cases r;rfl
theorem Reps.one_inv{K:Frag}{G:Hp}{vs:List V}{d:D}(r:Reps K G vs [d]):∃v,vs=[v]/\Rep K G v d:=by
 cases r with
 |cons h t=>cases t;exact⟨_,rfl,h⟩
theorem Reps.two_inv{K:Frag}{G:Hp}{vs:List V}{d d':D}(r:Reps K G vs [d,d']):∃v v',vs=[v,v']/\Rep K G v d/\Rep K G v' d':=by
 cases r with
 |cons h t=>obtain⟨v',rfl,r'⟩:=t.one_inv;exact⟨_,v',rfl,h,r'⟩
noncomputable def U8:List D->Option D
 |[.list xs]=>some (.int xs.length)
 |[.tuple xs]=>some (.int xs.length)
 |[.str z]=>if z.length<=1000000 then some (.int z.length)else none
 |_=>none
theorem NF:YG X (.builtin "len") U8:=by
 refine⟨_,LB,λvs G H ds d Q s r e k=>?_⟩;unfold U8 at e;split at e
 ·cases e;obtain⟨v,rfl,q⟩:=r.one_inv;obtain⟨l,ws,rfl,h1,r1⟩:=q.lst_inv;exact⟨.ref l,ws.length,rfl,.inl ⟨ws,s.seq h1,rfl⟩,by rw[r1.length];exact k _ G H (.refl s) (.int _)⟩
 ·cases e;obtain⟨v,rfl,q⟩:=r.one_inv;obtain⟨l,ws,rfl,h1,r1⟩:=q.tup_inv;exact⟨.ref l,ws.length,rfl,.inr ⟨ws,YQ s h1,rfl⟩,by rw[r1.length];exact k _ G H (.refl s) (.int _)⟩
 ·split at e
  ·rename_i z hz;cases e;obtain⟨v,rfl,q⟩:=r.one_inv;exact⟨.str z,z.length,by rw[q.str_inv],⟨QT hz lim,rfl⟩,k _ G H (.refl s) (.int _)⟩
  ·cases e
 ·cases e
noncomputable def Ri:List D->Option D
 |[.int i,.int j]=>some (.int (if j > i then j else i))
 |_=>none
theorem EK(hc:X.calm=true):YG X (.builtin "max") Ri:=by
 refine⟨_,qw hc,λvs G H ds d Q s r e k=>?_⟩;unfold Ri at e;split at e
 ·cases e;obtain⟨v,v',rfl,r1,r2⟩:=r.two_inv;exact⟨_,_,by rw[r1.int_inv,r2.int_inv],k _ G H (.refl s) (.int _)⟩
 ·cases e
noncomputable def K7(i:Nat):M D:=λZ=>match Z[i]? with
 |some (some (.pub d))=>U9 (U8 [d]) Z
 |some (some (.own ds))=>.ok (.int ds.length) Z
 |_=>.bad
theorem Lx{i:Nat}{p2:Pos}(hg:Gl X "len")(hm:X.mg "len" = none)(ha:PE X e (Za i))(he:Uu [e] X.env=[(false,eval e X.env)]:=by rfl):PE X (.Call (.Name "len" p2) [e] [] pos) (tD X.K B G0 (K7 i)):=by
 refine Ks (Po LB hg hm PySem.boot_len (X6 ha Vo (by rw[he];rfl)) (by decide) (by decide) (by rw[he];rfl) rfl) λσ H Q ⟨G,Z,k,a⟩=>?_
 unfold K7 at a;cases q:Z[i]? with
 |none=>rw[q]at a;exact a.elim
 |some o=>
  cases o with
  |none=>rw[q]at a;exact a.elim
  |some sl=>
   cases sl with
   |deep _ _=>rw[q]at a;exact a.elim
   |pub d=>
    rw[q]at a;obtain⟨v,h1,h2⟩:=k.pub i d q;refine⟨v,h1,?_⟩;obtain⟨d',e',a'⟩:=aft.opt a;obtain⟨r,hr,ir⟩:=@NF X;show ∃x n,[v]=[x]/\LenV X.K x H n/\Q (.int n) H;unfold U8 at e';split at e'
    ·rename_i xs he';injection he' with he1 he2;subst he1;cases e'
     obtain⟨l,ws,rfl,g1,r1⟩:=h2.lst_inv;exact⟨.ref l,ws.length,rfl,.inl ⟨ws,k.gh.seq g1,rfl⟩,by rw[r1.length];exact a'.now k (.int _)⟩
    ·rename_i xs he';injection he' with he1 he2;subst he1;cases e'
     obtain⟨l,ws,rfl,g1,r1⟩:=h2.tup_inv;exact⟨.ref l,ws.length,rfl,.inr ⟨ws,YQ k.gh g1,rfl⟩,by rw[r1.length];exact a'.now k (.int _)⟩
    ·rename_i z he';injection he' with he1 he2;subst he1
     split at e'
     ·rename_i hz;cases e';exact⟨.str z,z.length,by rw[h2.str_inv],⟨QT hz lim,rfl⟩,a'.now k (.int _)⟩
     ·cases e'
    ·cases e'
   |own ds=>rw[q]at a;obtain⟨ad,vs,h1,g2,g3,h4,h5⟩:=k.own i ds q;exact⟨.ref ad,h1,.ref ad,vs.length,rfl,.inl ⟨vs,SqL.of h4,rfl⟩,by rw[h5.length];exact aft.now a k (.int _)⟩
theorem CF{pins:List (Up×Obj)}{s:Um}{σ:St}{G H:Hp}{v:V}{u:Ul}{d:D}{cv:Ul}{t:Bool}{A:Around}{E:Ul->Um->Prop}{Q:Ul->Um->Prop}(I:Inv X pins σ H s)(sg:Same G H)(r:Rep X.K G v d)(rv:RelV v u)(nx:Rj d=false)
  (ek:PySem.W.kitOne X.K (.type (Xi d)) cv=some t) (h:∀tk,Q (.bool t) {s with toks:=tk}):Ut (model X.prog X.w) A (call (.builtin "isinstance") [u,cv]) Q E s:=by
 cases r with
 |non=>cases rv;exact JC PySem.W.kitx_none I.kIn True.intro ek (λz=>nomatch z) h
 |bl y=>cases rv;exact JC PySem.W.kitx_bool I.kIn True.intro ek (λz=>nomatch z) h
 |int i=>obtain⟨t',rfl⟩:=rv;exact JC PySem.W.kitx_int I.kIn True.intro ek (λz=>nomatch z) h
 |str y=>obtain⟨t',rfl⟩:=rv;exact JC PySem.W.kitx_str I.kIn True.intro ek (λz=>nomatch z) h
 |lst hl _=>cases rv;obtain⟨its,r,⟨o,n,e,hc,_,hd⟩,hz⟩:=I.list (sg.seq hl);exact JC PySem.W.kitx_list I.kIn ⟨o,e,hc⟩ ek (λz=>nomatch z) h
 |tup hl _=>cases rv;obtain⟨its,r,p,hz⟩:=I.tuple (YQ sg hl);obtain⟨o,e,hc,_⟩:=p;exact JC PySem.W.kitx_tuple I.kIn ⟨o,e,hc⟩ ek (λz=>nomatch z) h
 |@dic ad hd=>
  cases rv;obtain⟨_,_,vs,_,p⟩:=(show Zm X.prog X.w H s.heap ad (.dK [])from I.hok ad _ (sg _ _ hd))
  obtain⟨o,es,ep,h1,h2,_⟩:=p;exact JC PySem.W.kitx_dict I.kIn ⟨o,h1,h2.1⟩ ek (λz=>nomatch z) h
 |exc _ _ _ _=>cases nx
 |@dct ad ks vs ds kvs e0 _ _ hd _=>
  cases rv;subst e0;rw[Me.1]at ek;obtain⟨_,_,vs,_,p⟩:=(show Zm X.prog X.w H s.heap ad (.dK (ks.zip _))from I.hok ad _ (sg _ _ hd))
  obtain⟨o,es,ep,h1,h2,_⟩:=p;exact JC PySem.W.kitx_dict I.kIn ⟨o,h1,h2.1⟩ ek (λz=>nomatch z) h
 |@dtt ad ob ks vs ds kvs e0 _ hd _=>
  cases rv;subst e0;obtain⟨_,_,_,xs,_,o,es,ep,h1,h2,_⟩:=(show Zm X.prog X.w H s.heap ad (.frz ob (.dT (ks.zip _)))from I.hok ad _ (sg _ _ hd))
  exact JC PySem.W.kitx_dict I.kIn ⟨o,h1,h2.1⟩ ek (λz=>nomatch z) h
theorem CD(c:String)(hc:c = "int" ∨ c = "bool" ∨ c = "str" ∨ c = "list" ∨ c = "tuple" ∨ c = "dict"):typeOf (.type c)=pure (.type "type"):=by rcases hc with rfl|rfl|rfl|rfl|rfl|rfl<;>kernel_rfl
theorem BL:YB X (.builtin "isinstance") (λxs H Q=>∃v c G d,xs=[v,.ty c]/\Same G H/\Rep X.K G v d/\(c = "int" ∨ c = "bool" ∨ c = "str" ∨ c = "list" ∨ c = "tuple" ∨ c = "dict")/\Q (.bl (Ku d c)) H):=by
 intro pins s σ H xs us Q I r h;obtain⟨v,c,G,d,rfl,sg,rp,hc,q⟩:=h;obtain⟨u,w',rfl,r1,r2⟩:=PU r;cases (show w'=Value.type c from r2);by_cases nx:Rj d=true
 ·cases rp with
  |@exc a C dd bm nm vs ds ck hx hd rr=>
   refine BQ (FC I.ok.mod.kin) pins s σ H [.ref a,.ty c] [u,.type c] Q I r ⟨a,C,dd,bm,false,.ty c,false,rfl,⟨nm,ck⟩,sg _ _ hx,.inr ⟨c,rfl,CD c hc,?_⟩,?_⟩
   ·rw[ck.ty];rcases hc with rfl|rfl|rfl|rfl|rfl|rfl<;>rfl
   ·have e:Ku (.dict [(.none,.tuple [.str nm,.list ds])]) c=false:=by rcases hc with rfl|rfl|rfl|rfl|rfl|rfl<;>rfl
    rw[e]at q;exact q
  |dct e _ _ _ _=>subst e;rw[Me.2]at nx;cases nx
  |dtt e _ _ _=>subst e;cases nx
  |_=>cases nx
 ·have nx:Rj d=false:=by simpa using nx
  exact CF I sg rp r1 nx (CG X.K d c nx hc) λtk=>⟨.bl _,H,I.tok tk,rfl,q⟩
theorem j8:bootBuiltins "isinstance" = some (.builtin "isinstance"):=by decide +kernel
theorem RL{f:M D}{p2 p3:Pos}{c:String}(hc:c = "int" ∨ c = "bool" ∨ c = "str" ∨ c = "list" ∨ c = "tuple" ∨ c = "dict")(hg:Gl X "isinstance")(hm:X.mg "isinstance" = none)(hg2:Gl X (UG c))(hm2:X.mg (UG c)=none)
  (hv2:bootBuiltins (UG c)=some (.type c)) (ha:PE X e (tD X.K B G0 f)) (hn2:(UG c) ≠ "__name__") (hd2:((UG c)==("__debug__" : Str))=false)
  (hs:Uu [e,.Name (UG c) p3] X.env=(false,eval e X.env)::Uu [.Name (UG c) p3] X.env:=by rfl)
  (hs2:Uu [.Name (UG c) p3] X.env=[(false,eval (.Name (UG c) p3) X.env)]:=by rfl) :
  PE X (.Call (.Name "isinstance" p2) [e,.Name (UG c) p3] [] pos) (tD X.K B G0 (UZ (λd=>.bool (Ku d c)) f)):=by
 refine Ks (Po BL hg hm j8 (X6 ha (X6 (D5 (v:=.ty c) hg2 hm2 hv2 rfl hn2 hd2) Vo (by rw[hs2];rfl)) hs) (by decide) (by decide) hs (by rw[hs2];rfl)) λσ H Q q=>?_
 refine tM.one (R:=Rep X.K) q λv H2 G Z x k r a=>?_
 exact⟨v,c,G,x,rfl,k.gh,r,hc,aft.now a k (.bl _)⟩
end
noncomputable def spD(K:Frag)(n:Nat)(F:List D->Option D):Sp:=λvs H Q _=>∃G ds d,vs.length=n/\Same G H/\Reps K G vs ds/\F ds=some d/\∀v G' H',Ext G H G' H'->Rep K G' v d->Q v H'
section
variable{K:Frag}{B G0 G H:Hp}{σ:St}{Z:UH}
theorem EOk.exit(k:EOk K B G0 G H σ Z):Ext G0 B G H:=⟨k.bh,k.g0,k.gh,k.np⟩
theorem XM{α:Type}{l:List α}{i:Nat}{x y:α}(h:(l.set i x)[i]?=some y):y=x:=by
 by_cases hl:i<l.length
 ·rw[QD hl]at h;cases h;rfl
 ·rw[Ja (by rw[QX];omega)]at h;cases h
theorem DpOk.setOther{i:Nat}{x:Option V}{y:Option Sl}(k:DpOk K B G H σ Z)(hy:∀s,y=some s->∃d,s=.pub d):DpOk K B G H (σ.set i x) (Z.set i y):=by
 have nz:∀{m:Nat}{s:Sl},(Z.set i y)[m]?=some (some s)->(∃d,s=.pub d)∨(Z[m]?=some (some s)/\(σ.set i x)[m]?=σ[m]?):=λ{m s} q=>by
  by_cases z:i=m
  ·subst z;exact .inl (hy s (XM q).symm)
  ·rw[Qq z]at q⊢;exact .inr ⟨q,rfl⟩
 refine k.map (λm p d q=>?_) (λm es q=>?_) λm p d v fp q s r w n=>⟨r,w⟩
 ·rcases nz q with ⟨_,e⟩|q
  ·cases e
  ·exact q
 ·rcases nz q with ⟨_,e⟩|q
  ·cases e
  ·exact⟨es,q⟩
theorem EOk.setPub{i:Nat}{v:V}{d:D}(k:EOk K B G0 G H σ Z)(r:Rep K G v d)(hi:i<Z.length):EOk K B G0 G H (σ.set i (some v)) (Z.set i (some (.pub d))) where
 bh:=k.bh
 gh:=k.gh
 g0:=k.g0
 np:=k.np
 len:=by rw[QX,QX];exact k.len
 pub:=λj d' q=>by
  by_cases z:i=j
  ·subst z;have:=XM q;cases this;exact⟨v,QD (by rw[←k.len];exact hi),r⟩
  ·rw[Qq z]at q⊢;exact k.pub j d' q
 own:=λj ds q=>by
  by_cases z:i=j
  ·subst z;have:=XM q;cases this
  ·rw[Qq z]at q⊢;exact k.own j ds q
 sep:=λj l c es fs q1 q2 s1 s2=>by
  have z1:i≠j:=λz=>by subst z;have:=XM q1;cases this
  have z2:i≠l:=λz=>by subst z;have:=XM q2;cases this
  rw[Qq z1]at q1 s1;rw[Qq z2]at q2 s2;exact k.sep j l c es fs q1 q2 s1 s2
 dp:=k.dp.setOther (λs e=>by cases e;exact⟨_,rfl⟩)
structure NewL(K:Frag)(B G H:Hp)(σ:St)(Z:UH)(a:Up)(vs:List V)(ds:List D):Prop where
 b:B a=none
 g:G a=none
 h:H a=some (.lst vs)
 r:Reps K G vs ds
 f:∀(j:Nat) es,Z[j]?=some (some (.own es))->σ[j]?≠some (some (.ref a))
 dp:∀(j:Nat) p d v fp,Z[j]?=some (some (.deep p d))->σ[j]?=some (some v)->RepO K G H p v d fp->a∉fp
theorem EOk.freshD{H':Hp}{a:Up}(k:EOk K B G0 G H σ Z)(e:Same H H')(ha:H a=none){G':Hp}{j:Nat}{p:Pat}{d:D}{v:V}{fp:List Up}(q:Z[j]?=some (some (.deep p d)))(s:σ[j]?=some (some v))(r:RepO K G' H' p v d fp):a∉fp:=λm=>by obtain⟨ω,k1,k2⟩:=k.dp;obtain⟨v',fp',s',r',n,w⟩:=k1 j p d q;rw[s]at s';cases s';have u:=r'.uniq e r;subst u;obtain⟨ws,hl⟩:=r'.isl a m;rw[ha]at hl;cases hl
theorem EOk.setOwn{i:Nat}{a:Up}{vs:List V}{ds:List D}(k:EOk K B G0 G H σ Z)(n:NewL K B G H σ Z a vs ds)(hi:i<Z.length):EOk K B G0 G H (σ.set i (some (.ref a))) (Z.set i (some (.own ds))) where
 bh:=k.bh
 gh:=k.gh
 g0:=k.g0
 np:=k.np
 len:=by rw[QX,QX];exact k.len
 pub:=λj d' q=>by
  by_cases z:i=j
  ·subst z;have:=XM q;cases this
  ·rw[Qq z]at q⊢;exact k.pub j d' q
 own:=λj es q=>by
  by_cases z:i=j
  ·subst z;have:=XM q;cases this;exact⟨a,vs,QD (by rw[←k.len];exact hi),n.b,n.g,n.h,n.r⟩
  ·rw[Qq z]at q⊢;exact k.own j es q
 sep:=λj l c es fs q1 q2 s1 s2=>by
  have hs:i<σ.length:=by rw[←k.len];exact hi
  by_cases z1:i=j
  ·subst z1;rw[QD hs]at s1;cases s1;by_cases z2:i=l
   ·exact z2
   ·rw[Qq z2]at q2 s2;exact absurd s2 (n.f l fs q2)
  ·by_cases z2:i=l
   ·subst z2;rw[QD hs]at s2;cases s2;rw[Qq z1]at q1 s1;exact absurd s1 (n.f j es q1)
   ·rw[Qq z1]at q1 s1;rw[Qq z2]at q2 s2;exact k.sep j l c es fs q1 q2 s1 s2
 dp:=by
  obtain⟨ω,k1,k2⟩:=k.dp;have hs:i<σ.length:=by rw[←k.len];exact hi
  refine⟨λb=>if b=a then i else ω b,λj p d q=>?_,λj es b q s=>?_⟩
  ·by_cases z:i=j
   ·subst z;have:=XM q;cases this
   ·rw[Qq z]at q⊢;obtain⟨v,fp,s,r,nn,w⟩:=k1 j p d q;refine⟨v,fp,s,r,nn,λb m=>⟨(w b m).1,(w b m).2.1,?_⟩⟩;dsimp only;rw[QB (λz=>n.dp j p d v fp q s r (by rw[←z];exact m))];exact(w b m).2.2
  ·by_cases z:i=j
   ·subst z;rw[QD hs]at s;cases s;dsimp only;rw[Qp rfl]
   ·rw[Qq z]at q s;dsimp only;rw[QB (λe=>n.f j es q (by rw[←e];exact s))];exact k2 j es b q s
theorem EOk.change{i:Nat}{a:Up}{vs:List V}{ds es:List D}(k:EOk K B G0 G H σ Z)(q:Z[i]?=some (some (.own ds)))(ha:σ[i]?=some (some (.ref a)))(r:Reps K G vs es) :
  EOk K B G0 G (upd H a (.lst vs)) σ (Z.set i (some (.own es))):=by
 obtain⟨a',ws,h1,h2,h3,h4,h5⟩:=k.own i ds q;rw[ha]at h1;cases h1;have hi:i<Z.length:=(Qg.mp q).1;refine⟨λb o e=>?_,λb o e=>?_,k.g0,k.np,by rw[QX];exact k.len,λj d' e=>?_,λj fs e=>?_,λj l c fs gs q1 q2 s1 s2=>?_,?_⟩
 ·rw[KM (Yc e h2)];exact k.bh b o e
 ·rw[KM (Yc e h3)];exact k.gh b o e
 ·by_cases z:i=j
  ·subst z;have:=XM e;cases this
  ·rw[Qq z]at e;exact k.pub j d' e
 ·by_cases z:i=j
  ·subst z;have:=XM e;cases this;exact⟨a,vs,ha,h2,h3,Zc,r⟩
  ·rw[Qq z]at e;obtain⟨c,us,g1,g2,g3,g4,g5⟩:=k.own j fs e;have zc:c≠a:=λw=>z (k.sep i j a ds fs q e ha (by rw[←w];exact g1))
   exact⟨c,us,g1,g2,g3,by rw[KM zc];exact g4,g5⟩
 ·have f:∀{m:Nat}{ts:List D},(Z.set i (some (Sl.own es)))[m]?=some (some (.own ts))->∃ts',Z[m]?=some (some (.own ts')):=λ{m ts} e=>by
   by_cases z:i=m
   ·subst z;exact⟨ds,q⟩
   ·rw[Qq z]at e;exact⟨ts,e⟩
  obtain⟨f1,w1⟩:=f q1;obtain⟨f2,w2⟩:=f q2;exact k.sep j l c f1 f2 w1 w2 s1 s2
 ·refine k.dp.map (λj p d e=>?_) (λj fs e=>?_) λj p d v fp qj s rj w n=>⟨rj.upd (λ_ z=>by rw[h4]at z;cases z) (n i ds a q ha),w⟩
  ·by_cases z:i=j
   ·subst z;have:=XM e;cases this
   ·rw[Qq z]at e;exact⟨e,rfl⟩
  ·by_cases z:i=j
   ·subst z;exact⟨ds,q,rfl⟩
   ·rw[Qq z]at e;exact⟨fs,e,rfl⟩
end
inductive Out where
 |nx (Z:UH)|rt (d:D)|bk (Z:UH)|ct (Z:UH)|ex (Z:UH) (d:D)|bad
abbrev SM:=UH->Out
section
variable(K:Frag)(B G0:Hp)(KX:XW)
def aftS(o:Out)(G1:Hp)(Dn:Ends):Prop:=
 match o with
 |.nx Z=>∀σ G H,EOk K B G0 G H σ Z->Same G1 G->Dn.nx σ H
 |.bk Z=>∀σ G H,EOk K B G0 G H σ Z->Same G1 G->Dn.bk σ H
 |.ct Z=>∀σ G H,EOk K B G0 G H σ Z->Same G1 G->Dn.ct σ H
 |.rt d=>∀v G H,Ext G0 B G H->Rep K G v d->Dn.rt v H
 |.ex Z d=>∀v σ G H,EOk K B G0 G H σ Z->Same G1 G->Rep K G v d->KX v σ H
 |.bad=>False
noncomputable def tS(g:SM):TS:=λDn σ H=>∃G Z,EOk K B G0 G H σ Z/\aftS K B G0 KX (g Z) G Dn
noncomputable def sB{α:Type}(f:M α)(g:α->SM):SM:=λZ=>match f Z with | .ok a Z'=>g a Z' | .bad=>.bad
end
section
variable{X:Cx}{B G0:Hp}{KX:XW}{e a b c:Ur}{pos:Pos}{es rest:List Ur}{st:Stmt}{sts sts2:List Stmt}
theorem aftS.mono{K:Frag}{o:Out}{G G':Hp}{Dn:Ends}(e:Same G G')(h:aftS K B G0 KX o G Dn):aftS K B G0 KX o G' Dn:=by
 cases o with
 |nx Z=>exact λσ G2 H2 k s=>h σ G2 H2 k (e.trans s)
 |bk Z=>exact λσ G2 H2 k s=>h σ G2 H2 k (e.trans s)
 |ct Z=>exact λσ G2 H2 k s=>h σ G2 H2 k (e.trans s)
 |rt d=>exact h
 |ex Z d=>exact λv σ G2 H2 k s r=>h v σ G2 H2 k (e.trans s) r
 |bad=>exact h
theorem tS.bnd{K:Frag}{α γ:Type}{R:Hp->γ->α->Prop}{f:M α}{g:α->SM}{Dn:Ends}{σ:St}{H:Hp}{P:γ->Hp->Prop}(q:tS K B G0 KX (sB f g) Dn σ H)
  (i:∀v H' G' Z' x,EOk K B G0 G' H' σ Z'->R G' v x->aftS K B G0 KX (g x Z') G' Dn->P v H'):tM K B G0 R f σ H P:=by
 obtain⟨G,Z,k,a⟩:=q;refine⟨G,Z,k,?_⟩;unfold sB at a;cases z:f Z with
 |bad=>rw[z]at a;exact a.elim
 |ok d Z1=>rw[z]at a;exact λv G' H' e s r=>i v H' G' Z1 d e r (aftS.mono s a)
noncomputable def sNx:SM:=λZ=>.nx Z
noncomputable def UQ(g h:SM):SM:=λZ=>match g Z with | .nx Z'=>h Z'|o=>o
theorem P6:PSs X [] (tS X.K B G0 KX sNx):=PX D2 λD σ H ⟨G,Z,k,a⟩=>a σ G H k (.refl _)
theorem RA{g h:SM}(h1:PS X st (tS X.K B G0 KX g))(h2:PSs X sts (tS X.K B G0 KX h)):PSs X (st::sts) (tS X.K B G0 KX (UQ g h)):=PX (OI h1 h2) λD σ H ⟨G,Z,k,a⟩=>by
 refine⟨G,Z,k,?_⟩;unfold UQ at a;cases z:g Z with
 |nx Z1=>rw[z]at a;exact λσ' G' H' k' s'=>⟨G',Z1,k',aftS.mono s' a⟩
 |rt d=>rw[z]at a;exact a
 |bk Z1=>rw[z]at a;exact a
 |ct Z1=>rw[z]at a;exact a
 |ex Z1 d=>rw[z]at a;exact a
 |bad=>rw[z]at a;exact a.elim
theorem SE{g:SM}(h1:PS X st (tS X.K B G0 KX g)):PSs X [st] (tS X.K B G0 KX g):=Oo h1
noncomputable def X7:SM:=λ_=>.bad
theorem BK:PS X st (tS X.K B G0 KX X7):=λ_ _ _ _ _ _ ⟨_,_,_,a⟩=>a.elim
noncomputable def UY(f:M D):SM:=sB f λd _=>.rt d
theorem Md{f:M D}(h:PE X e (tD X.K B G0 f)):PS X (.Return (some e) pos) (tS X.K B G0 KX (UY f)):=Zv (N4 h) λD σ H q=>tS.bnd (R:=Rep X.K) q λv H' G' Z' x k r a=>a v G' H' k.exit r
noncomputable def XB(f:M D):SM:=sB f λ_ Z=>.nx Z
theorem CC{f:M D}(h:PE X e (tD X.K B G0 f))(hs:swapsWith e none pos.line X.env=pure false:=by rfl):PS X (.Expr e pos) (tS X.K B G0 KX (XB f)):=Zv (On h hs) λD σ H q=>tS.bnd (R:=Rep X.K) q λv H' G' Z' x k r a=>a σ G' H' k (.refl _)
noncomputable def sIf(f:M Bool)(g h:SM):SM:=sB f λt=>if t=true then g else h
theorem PY{f:M Bool}{g h:SM}(hc:PT X c (tBo X.K B G0 f))(ha:PSs X sts (tS X.K B G0 KX g))(hb:PSs X sts2 (tS X.K B G0 KX h)):PS X (.If c sts sts2 pos) (tS X.K B G0 KX (sIf f g h)):=
 Zv (FY hc ha hb) λD σ H q=>tS.bnd (R:=λ_ b c=>b=c) q λv H' G' Z' x k r a=>by
  have r:v=x:=r;subst r;cases v with
  |true=>exact⟨G',Z',k,a⟩
  |false=>exact⟨G',Z',k,a⟩
noncomputable def tG(K:Frag)(B G0:Hp)(s:D->UH->Option UH):TG:=λv σ H Q=>∃G Z d Z',EOk K B G0 G H σ Z/\Rep K G v d/\s d Z=some Z'/\∀σ' G' H',EOk K B G0 G' H' σ' Z'->Same G G'->Q σ' H'
noncomputable def tGs(K:Frag)(B G0:Hp)(s:List D->UH->Option UH):TGs:=λv σ H Q=>∃G Z d Z',EOk K B G0 G H σ Z/\Reps K G v d/\s d Z=some Z'/\∀σ' G' H',EOk K B G0 G' H' σ' Z'->Same G G'->Q σ' H'
theorem pgof{t t':TG}(h:PG X e t)(i:∀v σ H Q,t' v σ H Q->t v σ H Q):PG X e t':=λpins s σ H v u Q I r q=>h pins s σ H v u Q I r (i v σ H Q q)
theorem NE{t t':TGs}(h:PGs X es t)(i:∀v σ H Q,t' v σ H Q->t v σ H Q):PGs X es t':=λpins s σ H v u Q I r q=>h pins s σ H v u Q I r (i v σ H Q q)
noncomputable def gN(i:Nat):D->UH->Option UH:=λd Z=>if i<Z.length then some (Z.set i (some (.pub d)))else none
theorem X5{i:Nat}(h:PG X e (PV i)):PG X e (tG X.K B G0 (gN i)):=pgof h λv σ H Q ⟨G,Z,d,Z',k,r,e,q⟩=>by
 unfold gN at e;split at e
 ·rename_i hi;cases e;exact q _ G H (k.setPub r hi) (.refl _)
 ·cases e
noncomputable def gN0:List D->UH->Option UH:=λd Z=>match d with | []=>some Z|_=>none
noncomputable def gNC(s:D->UH->Option UH)(t:List D->UH->Option UH):List D->UH->Option UH:=λds Z=>match ds with|d::r=>(s d Z).bind (t r) | []=>none
theorem R8:PGs X [] (tGs X.K B G0 gN0):=NE Le λv σ H Q ⟨G,Z,d,Z',k,r,e,q⟩=>by
 cases r with
 |nil=>cases e;exact⟨rfl,q σ G H k (.refl _)⟩
 |cons _ _=>cases e
theorem Wo{s:D->UH->Option UH}{t:List D->UH->Option UH}(h1:PG X e (tG X.K B G0 s))(h2:PGs X es (tGs X.K B G0 t))
  (hs:(UJ (e::es) X.env).map (·.2)=assign e X.env::(UJ es X.env).map (·.2):=by rfl):PGs X (e::es) (tGs X.K B G0 (gNC s t)):=NE (OH h1 h2 hs) λv σ H Q ⟨G,Z,d,Z',k,r,e,q⟩=>by
 cases r with
 |nil=>cases e
 |@cons w dw ws dws rw rt=>
  unfold gNC at e;dsimp only at e;cases z:s dw Z with
  |none=>rw[z]at e;cases e
  |some Z1=>rw[z]at e;refine⟨w,ws,rfl,G,Z,dw,Z1,k,rw,z,λσ' G' H' k' s'=>?_⟩;exact⟨G',Z1,dws,Z',k',rt.mono s',e,λσ2 G2 H2 k2 s2=>q σ2 G2 H2 k2 (s'.trans s2)⟩
noncomputable def gT(n:Nat)(t:List D->UH->Option UH):D->UH->Option UH:=λd Z=>match d with | .tuple ds=>if ds.length=n then t ds Z else none|_=>none
theorem R7{k1:Nat}{t:List D->UH->Option UH}{n:Nat}(hc:X.calm=true)(h:PGs X es (tGs X.K B G0 t))
  (hn:(UJ es X.env).length=n:=by rfl) (hst:(UJ es X.env).findIdx? (·.1)=none:=by rfl):PG X (.Tuple es k1 pos) (tG X.K B G0 (gT n t)):=pgof (N3 hc h hn hst) λv σ H Q ⟨G,Z,d,Z',k,r,e,q⟩=>by
 unfold gT at e;split at e
 ·split at e
  ·rename_i hl;obtain⟨ad,vs,rfl,h1,r1⟩:=r.tup_inv;exact⟨ad,vs,rfl,YQ k.gh h1,by rw[r1.length];exact hl,G,Z,_,Z',k,r1,e,q⟩
  ·cases e
 ·cases e
noncomputable def ZD(f:M D)(s:D->UH->Option UH):SM:=sB f λd Z=>match s d Z with|some Z'=>.nx Z'|none=>.bad
theorem EJ{tg:Ur}{f:M D}{s:D->UH->Option UH}(he:PE X e (tD X.K B G0 f))(hg:PG X tg (tG X.K B G0 s))(hs:swapsWithSole [tg] e pos.line X.env=pure false:=by rfl)(hw:swappedStores [tg] e X.env=pure none:=by rfl)
  (h1:(UJ [tg] X.env).map (·.2)=[assign tg X.env]:=by rfl):PS X (.Assign [tg] e pos) (tS X.K B G0 KX (ZD f s)):=
 Zv (DO he hg hs hw h1) λD σ H q=>tS.bnd (R:=Rep X.K) q λv H' G' Z' x k r a=>by
  cases z:s x Z' with
  |none=>rw[z]at a;exact a.elim
  |some Z2=>rw[z]at a;exact⟨G',Z',x,Z2,k,r,z,λσ2 G2 H2 k2 s2=>a σ2 G2 H2 k2 s2⟩
noncomputable def U3(i:Nat)(f:M D):SM:=ZD f (gN i)
theorem EI{i:Nat}{x:Str}{f:M D}{p2:Pos}(hN:X.N.Nodup)(hi:X.N[i]?=some x)(hx:Loc X.env.scope x)(he:PE X e (tD X.K B G0 f))(hs:swapsWith e (some (.Name x p2)) pos.line X.env=pure false:=by rfl)
  (hf:X.fn x=true∨X.env.scope.names.lookup x=some .local:=by first|exact .inl rfl|exact .inr rfl|assumption):PS X (.Assign [.Name x p2] e pos) (tS X.K B G0 KX (U3 i f)):=
 Zv (P9 hN hi hx he hs hf) λD σ H q=>tS.bnd (R:=Rep X.K) q λv H' G' Z' x k r a=>by
  unfold gN at a;split at a
  ·rename_i Z2 hz;split at hz
   ·rename_i hi2;cases hz;exact a _ G' H' (k.setPub r hi2) (.refl _)
   ·cases hz
  ·exact a.elim
noncomputable def tL(K:Frag)(B G0:Hp)(f:M (List D)):TE:=λσ H Q=>∃G Z,EOk K B G0 G H σ Z/\match f Z with
 |.ok ds Z'=>∀a vs G' H',EOk K B G0 G' H' σ Z'->Same G G'->NewL K B G' H' σ Z' a vs ds->Q (.ref a) H'
 |.bad=>False
noncomputable def K8(i:Nat)(f:M (List D)):SM:=sB f λds Z=>if i<Z.length then .nx (Z.set i (some (.own ds)))else .bad
theorem M2{i:Nat}{x:Str}{f:M (List D)}{p2:Pos}(hN:X.N.Nodup)(hi:X.N[i]?=some x)(hx:Loc X.env.scope x)(he:PE X e (tL X.K B G0 f))(hs:swapsWith e (some (.Name x p2)) pos.line X.env=pure false:=by rfl)
  (hf:X.fn x=true∨X.env.scope.names.lookup x=some .local:=by first|exact .inl rfl|exact .inr rfl|assumption):PS X (.Assign [.Name x p2] e pos) (tS X.K B G0 KX (K8 i f)):=
 Zv (P9 hN hi hx he hs hf) λD σ H ⟨G,Z,k,a⟩=>by
  refine⟨G,Z,k,?_⟩;unfold K8 sB at a;cases z:f Z with
  |bad=>rw[z]at a;exact a.elim
  |ok ds Z1=>
   rw[z]at a;intro ad vs G' H' k' s' n;dsimp only at a;split at a
   ·rename_i hl;exact a _ G' H' (k'.setOwn n hl) s'
   ·exact a.elim
theorem NewL.of{K:Frag}{G H:Hp}{σ:St}{Z:UH}{p:Up}{vs:List V}{ds:List D}(k:EOk K B G0 G H σ Z)(hp:H p=none)(r:Reps K G vs ds):NewL K B G (upd H p (.lst vs)) σ Z p vs ds where
 b:=k.bh.free hp
 g:=k.gh.free hp
 h:=Zc
 r:=r
 f:=λj es q z=>by obtain⟨a,ws,h1,h2,h3,h4,h5⟩:=k.own j es q;rw[z]at h1;cases h1;rw[hp]at h4;cases h4
 dp:=λj pt d v fp q s rr=>k.freshD (Zn hp) hp q s rr
theorem CB{f:M (List D)}(h:PA X es (tDs X.K B G0 f)):PE X (.List es pos) (tL X.K B G0 (Kb f λxs=>if xs.length<=1000000 then UO xs else λ_=>.bad)):=
 Ks (NW h) λσ H Q ⟨G,Z,k,a⟩=>by
  refine⟨G,Z,k,?_⟩;unfold Kb at a;cases z:f Z with
  |bad=>rw[z]at a;exact a.elim
  |ok ds Z1=>
   rw[z]at a;dsimp only at a;intro v G' H' k' s' r;by_cases c:ds.length<=1000000
   ·rw[Qp c]at a;refine⟨by rw[r.length];exact QT c lim,λp hp=>?_⟩;exact a p v G' _ (k'.ext (Ext.hid k'.gh hp)) s' (NewL.of k' hp r)
   ·rw[QB c]at a;exact a.elim
noncomputable def ZE(i:Nat)(f:M D):SM:=λZ0=>match Z0[i]? with
 |some (some (.own _))=>sB f (λd Z=>match Z[i]? with
  |some (some (.own ds))=>if ds.length<1000000 then .nx (Z.set i (some (.own (ds++[d]))))else .bad
  |_=>.bad) Z0
 |_=>.bad
theorem Mc{i:Nat}{f:M D}{o:Ur}{apos cpos:Pos}(ho:PE X o (Za i))(he:PE X e (tD X.K B G0 f))
  (hbase:attributeBase o "append" X.env (eval o X.env)=eval o X.env:=by rfl)
  (hfew:((backTo cpos (Uu [e] X.env)).all (λx=>!x.1)&&(backToKw cpos (keywordEach [] X.env)).all (λx=>x.1.isSome)
   && decide ([e].length+([]:List Keyword).length+(if([]:List Keyword).isEmpty then 0 else 1)<30))=true:=by rfl)
  (hline:(apos.endLine==cpos.line)=true:=by rfl) (hs:Uu [e] X.env=[(false,eval e X.env)]:=by rfl)
  (hsw:swapsWith (.Call (.Attribute o "append" apos) [e] [] cpos) none pos.line X.env=pure false:=by rfl) :
  PS X (.Expr (.Call (.Attribute o "append" apos) [e] [] cpos) pos) (tS X.K B G0 KX (ZE i f)):=
 Zv (On (RY PySem.F.plainAttrs_list PySem.F.slot_list_append PySem.F.type_list_append Hb ho (X6 he Vo (by rw[hs];rfl)) hbase hfew hline (by rw[hs];rfl) rfl) hsw) λD σ H ⟨G,Z,k,a⟩=>by
  unfold ZE at a;cases q0:Z[i]? with
  |none=>rw[q0]at a;exact a.elim
  |some o0=>
   cases o0 with
   |none=>rw[q0]at a;exact a.elim
   |some sl0=>
    cases sl0 with
    |deep _ _=>rw[q0]at a;exact a.elim
    |pub d=>rw[q0]at a;exact a.elim
    |own ds0=>
     rw[q0]at a;obtain⟨ad,vs0,h1,h2,h3,h4,h5⟩:=k.own i ds0 q0;refine⟨.ref ad,h1,.inl ⟨rfl,_,SqL.of h4⟩,G,Z,k,?_⟩;unfold sB at a;cases z:f Z with
     |bad=>rw[z]at a;exact a.elim
     |ok d Z1=>
      rw[z]at a;dsimp only at a;intro v G' H' k' s' r';cases q:Z1[i]? with
      |none=>rw[q]at a;exact a.elim
      |some o=>
       cases o with
       |none=>rw[q]at a;exact a.elim
       |some sl=>
        cases sl with
        |deep _ _=>rw[q]at a;exact a.elim
        |pub d=>rw[q]at a;exact a.elim
        |own ds=>
         rw[q]at a;dsimp only at a;split at a
         ·rename_i hl;obtain⟨ad',vs,g1,g2,g3,g4,g5⟩:=k'.own i ds q;rw[h1]at g1;cases g1;refine⟨ad,vs,v,rfl,rfl,g4,by rw[g5.length];exact QF hl lim,?_⟩;exact a σ G' _ (k'.change q h1 (g5.append (.cons r' .nil))) s'
         ·exact a.elim
end
structure Xf(K:Frag)(J:It)(ds:List D)(G1:Hp):Prop where
 go:∀i G H,Same G1 G->Same G H->i<ds.length->J.go i H
 stop:∀i G H,Same G1 G->Same G H->ds.length<=i->J.stop i H
 yld:∀i G H x H' d,Same G1 G->Same G H->ds[i]?=some d->J.yld i H x H'->∃G',Ext G H G' H'/\Rep K G' x d
noncomputable def iD(K:Frag)(B G0:Hp)(f:M (List D)):TI:=λσ H R=>∃G Z,EOk K B G0 G H σ Z/\match f Z with
 |.ok ds Z'=>∀J G' H',EOk K B G0 G' H' σ Z'->Same G G'->Xf K J ds G'->R J H'
 |.bad=>False
section
variable{X:Cx}{B G0:Hp}{KX:XW}{e a b c tg:Ur}{pos:Pos}{es rest:List Ur}{st:Stmt}{sts sts2:List Stmt}
theorem YY{t t':TI}(h:PI X tg e t)(i:∀σ H R,t' σ H R->t σ H R):PI X tg e t':=λpins s σ H R I q=>h pins s σ H R I (i σ H R q)
theorem tM.toI{K:Frag}{α γ:Type}{R0:Hp->γ->α->Prop}{f:M α}{g:α->M (List D)}{σ:St}{H:Hp}{R:It->Hp->Prop}{P:γ->Hp->Prop}(q:iD K B G0 (Kb f g) σ H R)
  (i:∀v H' G' Z' x,EOk K B G0 G' H' σ Z'->R0 G' v x->(match g x Z' with
   |.ok ds Z2=>∀J G2 H2,EOk K B G0 G2 H2 σ Z2->Same G' G2->Xf K J ds G2->R J H2
   |.bad=>False)->P v H'):tM K B G0 R0 f σ H P:=by
 obtain⟨G,Z,k,a⟩:=q;refine⟨G,Z,k,?_⟩;unfold Kb at a;cases z:f Z with
 |bad=>rw[z]at a;exact a.elim
 |ok d Z1=>
  rw[z]at a;intro v G' H' e s r;refine i v H' G' Z1 d e r ?_;dsimp only at a;cases z2:g d Z1 with
  |bad=>rw[z2]at a;exact a.elim
  |ok ds Z2=>rw[z2]at a;exact λJ G2 H2 k2 s2 it=>a J G2 H2 k2 (s.trans s2) it
theorem qV{K:Frag}{G1:Hp}{ad:Up}{vs:List V}{ds:List D}(h:SqL K G1 ad vs)(r:Reps K G1 vs ds):Xf K (Itl K ad) ds G1 where
 go:=λi G H s1 s2 hi=>by
  have hi':i<vs.length:=by rw[r.length];exact hi
  exact⟨vs,vs[i],(s1.trans s2).seq h,Qf hi'⟩
 stop:=λi G H s1 s2 hi=>⟨vs,(s1.trans s2).seq h,by rw[r.length];exact hi⟩
 yld:=λi G H x H' d s1 s2 e y=>by obtain⟨rfl,y⟩:=y;obtain⟨v,e1,r1⟩:=r.get e;have:=y vs ((s1.trans s2).seq h);rw[e1]at this;cases this;exact⟨G,.refl s2,r1.mono s1⟩
noncomputable def ZP(lo hi:Int):List D:=(Uw (hi-lo).toNat).map λ(k:Nat)=>.int (lo+k)
theorem YW(lo hi:Int):(ZP lo hi).length=(hi-lo).toNat:=by unfold ZP;rw[Qb,Qu]
theorem HZ{K:Frag}{G1:Hp}(lo hi:Int):Xf K (Itr lo (hi-lo).toNat) (ZP lo hi) G1 where
 go:=λi G H s1 s2 h=>by rw[YW]at h;exact h
 stop:=λi G H s1 s2 h=>by rw[YW]at h;exact h
 yld:=λi G H x H' d s1 s2 e y=>by
  obtain⟨rfl,rfl⟩:=y;unfold ZP at e;rw[Qe]at e;have hi:i<(Uw (hi-lo).toNat).length:=by refine Nat.lt_of_not_le λz=>?_;rw[Ja z]at e;cases e
  rw[Qf hi,List.getElem_range]at e;cases e;exact⟨G,.refl s2,.int _⟩
noncomputable def Sw:List D->Option (List D)
 |[.int j]=>if j<=1000000 /\ -1000000<=j then some (ZP 0 j)else none
 |_=>none
noncomputable def Sv:List D->Option (List D)
 |[.int i,.int j]=>if j<=1000000 /\ -1000000<=j/\i<=1000000 /\ -1000000<=i then some (ZP i j)else none
 |_=>none
noncomputable def YT(f:M (List D)):M (List D):=Kb f λx=>U9 (Sw x)
noncomputable def RU(f:M (List D)):M (List D):=Kb f λx=>U9 (Sv x)
theorem AC{f:M (List D)}{p2:Pos}(hg:Gl X "range")(hm:X.mg "range" = none)(ha:PA X [a] (tDs X.K B G0 f))(hs:Uu [a] X.env=[(false,eval a X.env)]:=by rfl) :
  PI X tg (.Call (.Name "range" p2) [a] [] pos) (iD X.K B G0 (YT f)):=YY (qA hg hm ha hs) λσ H R q=>tM.toI (R0:=Reps X.K) q λv H' G' Z' x k r a=>by
 cases z:Sw x with
 |none=>rw[z]at a;exact a.elim
 |some ds=>
  rw[z]at a;unfold Sw at z;split at z
  ·split at z
   ·rename_i j c;cases z;obtain⟨w,rfl,r'⟩:=r.one_inv;refine⟨j,by rw[r'.int_inv],by omega,by omega,?_⟩;have it:=HZ (K:=X.K) (G1:=G') 0 j;rw[Int.sub_zero]at it;exact a _ G' H' k (.refl _) it
   ·cases z
  ·cases z
theorem AB{f:M (List D)}{p2:Pos}(hg:Gl X "range")(hm:X.mg "range" = none)(ha:PA X [a,b] (tDs X.K B G0 f))(hs:Uu [a,b] X.env=[(false,eval a X.env),(false,eval b X.env)]:=by rfl)(hs2:Uu [b] X.env=[(false,eval b X.env)]:=by rfl) :
  PI X tg (.Call (.Name "range" p2) [a,b] [] pos) (iD X.K B G0 (RU f)):=YY (qz hg hm ha hs hs2) λσ H R q=>tM.toI (R0:=Reps X.K) q λv H' G' Z' x k r a=>by
 cases z:Sv x with
 |none=>rw[z]at a;exact a.elim
 |some ds=>
  rw[z]at a;unfold Sv at z;split at z
  ·split at z
   ·rename_i i j c;cases z;obtain⟨w,w',rfl,r1,r2⟩:=r.two_inv;refine⟨i,j,by rw[r1.int_inv,r2.int_inv],⟨by omega,by omega,by omega,by omega⟩,?_⟩;exact a _ G' H' k (.refl _) (HZ i j)
   ·cases z
  ·cases z
noncomputable def Z7(n:Nat):List D->List D
 |[]=>[]
 |d::r=>.tuple [.int n,d]::Z7 (n+1) r
theorem YC:∀(n:Nat)(ds:List D),(Z7 n ds).length=ds.length
 |_,[]=>rfl
 |n,d::r=>by rw[Z7,QJ,QJ,YC]
theorem O0:∀(n:Nat)(ds:List D)(i:Nat),(Z7 n ds)[i]?=ds[i]?.map λd=>.tuple [.int ((n+i:Nat):Int),d]
 |_,[],i=>by simp[Z7]
 |n,d::r,0=>by simp[Z7]
 |n,d::r,i+1=>by
  rw[Z7,Jk,Jk,O0 (n+1) r i];have:n+1+i=n+(i+1):=by omega
  rw[this]
theorem jh{K:Frag}{G1:Hp}{ad:Up}{vs:List V}{ds:List D}(h:SqL K G1 ad vs)(r:Reps K G1 vs ds):Xf K (Ite K ad) (Z7 0 ds) G1 where
 go:=λi G H s1 s2 hi=>by
  rw[YC]at hi;have hi':i<vs.length:=by rw[r.length];exact hi
  exact⟨vs,vs[i],(s1.trans s2).seq h,Qf hi'⟩
 stop:=λi G H s1 s2 hi=>by rw[YC]at hi;exact⟨vs,(s1.trans s2).seq h,by rw[r.length];exact hi⟩
 yld:=λi G H x H' d s1 s2 e y=>by
  obtain⟨p,v,hp,rfl,y,rfl⟩:=y;rw[O0]at e;cases z:ds[i]? with
  |none=>rw[z]at e;cases e
  |some d0=>rw[z]at e;cases e;obtain⟨w,e1,r1⟩:=r.get z;have:=y vs ((s1.trans s2).seq h);rw[e1]at this;cases this;refine⟨upd G p (.tup [.int i,v]),Ext.new s2 hp,.tup (SqT.of Zc) (.cons ?_ (.cons ((r1.mono s1).mono (Zn (s2.free hp))) .nil))⟩;rw[QY];exact .int _
noncomputable def Rh:List D->Option (List D)
 |[.list ds]=>some (Z7 0 ds)
 |_=>none
noncomputable def YO(f:M (List D)):M (List D):=Kb f λx=>U9 (Rh x)
theorem M1{f:M (List D)}{p2:Pos}{elts:List Ur}{x1}{tp:Pos}(hg:Gl X "enumerate")(hm:X.mg "enumerate" = none)(ha:PA X [a] (tDs X.K B G0 f))(hs:Uu [a] X.env=[(false,eval a X.env)]:=by rfl) :
  PI X (.Tuple elts x1 tp) (.Call (.Name "enumerate" p2) [a] [] pos) (iD X.K B G0 (YO f)):=YY (Cs hg hm ha hs) λσ H R q=>tM.toI (R0:=Reps X.K) q λv H' G' Z' x k r a=>by
 cases z:Rh x with
 |none=>rw[z]at a;exact a.elim
 |some ds=>
  rw[z]at a;unfold Rh at z;split at z
  ·cases z;obtain⟨w,rfl,r'⟩:=r.one_inv;obtain⟨ad,vs,rfl,h1,r1⟩:=r'.lst_inv;exact⟨ad,vs,rfl,k.gh.seq h1,a _ G' H' k (.refl _) (jh h1 r1)⟩
  ·cases z
noncomputable def Vk(s:D->UH->Option UH)(g:SM):List D->SM
 |[],Z=>.nx Z
 |d::r,Z=>match s d Z with
  |none=>.bad
  |some Z1=>match g Z1 with
   |.nx Z2=>Vk s g r Z2
   |.ct Z2=>Vk s g r Z2
   |.bk Z2=>.nx Z2
   |.rt d=>.rt d
   |.ex Z2 d=>.ex Z2 d
   |.bad=>.bad
noncomputable def Kq(f:M (List D))(s:D->UH->Option UH)(g:SM):SM:=sB f λds=>Vk s g ds
theorem P5{iter:Ur}{body:List Stmt}{f:M (List D)}{s:D->UH->Option UH}{g:SM}(hp:PassesOwn (model X.prog X.w) X.A X.env X.xe)(hc:X.calm=true)(hi:PI X tg iter (iD X.K B G0 f))(hg:PG X tg (tG X.K B G0 s))(hb:PSs X body (tS X.K B G0 KX g))
  (hs:∀x,UK iter X.env x=pure x:=by intro _;rfl):PS X (.For tg iter body [] pos) (tS X.K B G0 KX (Kq f s g)):=
 Zv (N0 hp hc hi hg hb hs) λDn σ H ⟨G,Z,k,a⟩=>by
  refine⟨G,Z,k,?_⟩;unfold Kq sB at a;cases z:f Z with
  |bad=>rw[z]at a;exact a.elim
  |ok ds Z1=>
   rw[z]at a;dsimp only at a⊢;intro J G1 H1 k1 s1 it;refine⟨λi m σ' H'=>m=ds.length-i/\∃G' Z',EOk X.K B G0 G' H' σ' Z'/\Same G1 G'/\aftS X.K B G0 KX (Vk s g (ds.drop i) Z') G' Dn,⟨ds.length,by omega,G1,Z1,k1,.refl _,by rw[Uh];exact aftS.mono s1 a⟩,?_⟩;rintro i m σ' H' ⟨rfl,G',Z',k',s',a'⟩;by_cases hi:i<ds.length
   ·right;refine⟨it.go i G' H' s' k'.gh hi,λσ2 H2=>∃G2 Z2,EOk X.K B G0 G2 H2 σ2 Z2/\Same G1 G2/\aftS X.K B G0 KX (Vk s g (ds.drop (i+1)) Z2) G2 Dn,λσ2 H2 h2=>⟨ds.length-(i+1),by omega,rfl,h2⟩,λx H2 y=>?_⟩
    obtain⟨G2,ex,rx⟩:=it.yld i G' H' x H2 ds[i] s' k'.gh (Qf hi) y;rw[Jb hi,Vk]at a';cases z2:s ds[i] Z' with
    |none=>rw[z2]at a';exact a'.elim
    |some Z2=>
     rw[z2]at a';dsimp only at a';refine⟨G2,Z',ds[i],Z2,k'.ext ex,rx,z2,λσ3 G3 H3 k3 s3=>⟨G3,Z2,k3,?_⟩⟩;have s13:Same G1 G3:=(s'.trans ex.g).trans s3;cases z3:g Z2 with
     |nx Z3=>rw[z3]at a';exact λσ4 G4 H4 k4 s4=>⟨G4,Z3,k4,s13.trans s4,aftS.mono ((ex.g.trans s3).trans s4) a'⟩
     |ct Z3=>rw[z3]at a';exact λσ4 G4 H4 k4 s4=>⟨G4,Z3,k4,s13.trans s4,aftS.mono ((ex.g.trans s3).trans s4) a'⟩
     |bk Z3=>rw[z3]at a';exact λσ4 G4 H4 k4 s4=>a' σ4 G4 H4 k4 ((ex.g.trans s3).trans s4)
     |rt d=>rw[z3]at a';exact a'
     |ex Z3 d=>rw[z3]at a';exact λv σ4 G4 H4 k4 s4 r4=>a' v σ4 G4 H4 k4 ((ex.g.trans s3).trans s4) r4
     |bad=>rw[z3]at a';exact a'.elim
   ·left;rw[List.drop_eq_nil_of_le (by omega)]at a'
    exact⟨it.stop i G' H' s' k'.gh (by omega),a' σ' G' H' k' (.refl _)⟩
theorem BJ{k:Nat}{f:Up}{fd:Uq}{ps:List Str}{F:List D->Option D}{g:M (List D)}{x:Str}{p2:Pos}{n:Nat}(FK:FnOk X.prog X.w X.K X.mg X.base CX0 k f fd ps (spD X.K n F))(hr:Room k X.A)(hg:Gl X x)(hm:X.mg x=some (.ref f))(hk:PySem.W.keepIn X.K (.ref f)=true)
  (hb:Vn X.K fd ps []) (ha:PA X (e::es) (tDs X.K B G0 g)) (hn:(e::es).length=n) (hdb:(x==("__debug__" : Str))=false:=by decide) (he:Uu (e::es) X.env=(false,eval e X.env)::Uu es X.env:=by rfl) (hpl:(backTo pos (Uu es X.env)).any (·.1)=false:=by rfl) :
  PE X (.Call (.Name x p2) (e::es) [] pos) (tD X.K B G0 (Kb g λxs=>if xs.length=n then U9 (F xs)else λ_=>.bad)):=
 Ks (D0 FK hr hg hm hk hb .nil FJ ha hdb he hpl) λσ H Q q=>tM.one (R:=Reps X.K) q λv H2 G Z ds k r a=>by
  split at a
  ·rename_i hl;obtain⟨d,e,a⟩:=a.opt;exact⟨G,ds,d,by rw[Jc,r.length];exact hl,k.gh,by rw[Jc];exact r,e,λw G' H' ex rw=>a.done k ex rw⟩
  ·exact a.elim
end
noncomputable def Xh(N:List Str)(ds:List D):UH:=(ds.map λd=>some (Sl.pub d))++Ux (N.length-ds.length) none
theorem BI{K:Frag}{N:List Str}{G H:Hp}{vs:List V}{ds:List D}(s:Same G H)(r:Reps K G vs ds):EOk K H G G H (L2.XE N vs) (Xh N ds) where
 bh:=.refl _
 gh:=s
 g0:=.refl _
 np:=λ_ _ _ n=>n
 len:=by unfold L2.XE Xh;rw[Qj,Qj,Qb,Qb,QA,QA,r.length]
 pub:=λi d q=>by
  unfold Xh at q;unfold L2.XE;by_cases hi:i<ds.length
  ·rw[Qw (by rw[Qb];exact hi),Qe]at q;cases z:ds[i]? with
   |none=>rw[z]at q;cases q
   |some d'=>rw[z]at q;cases q;obtain⟨v,e1,r1⟩:=r.get z;refine⟨v,?_,r1⟩;rw[Qw (by rw[Qb,r.length];exact hi),Qe,e1];rfl
  ·rw[Qx (by rw[Qb];omega),Qv]at q;split at q<;>cases q
 own:=λi es q=>by
  unfold Xh at q;by_cases hi:i<ds.length
  ·rw[Qw (by rw[Qb];exact hi),Qe]at q;cases z:ds[i]? with
   |none=>rw[z]at q;cases q
   |some d'=>rw[z]at q;cases q
  ·rw[Qx (by rw[Qb];omega),Qv]at q;split at q<;>cases q
 sep:=λi j a es fs q _ _ _=>by
  unfold Xh at q;by_cases hi:i<ds.length
  ·rw[Qw (by rw[Qb];exact hi),Qe]at q;cases z:ds[i]? with
   |none=>rw[z]at q;cases q
   |some d'=>rw[z]at q;cases q
  ·rw[Qx (by rw[Qb];omega),Qv]at q;split at q<;>cases q
 dp:=by
  have key:∀{i:Nat}{s:Sl},(Xh N ds)[i]?=some (some s)->∃d,s=.pub d:=λ{i s} q=>by
   unfold Xh at q;by_cases hi:i<ds.length
   ·rw[Qw (by rw[Qb];exact hi),Qe]at q;cases z:ds[i]? with
    |none=>rw[z]at q;cases q
    |some d'=>rw[z]at q;cases q;exact⟨_,rfl⟩
   ·rw[Qx (by rw[Qb];omega),Qv]at q;split at q<;>cases q
  exact .of (λi p d q=>by obtain⟨_,e⟩:=key q;cases e) λi ds q=>by obtain⟨_,e⟩:=key q;cases e
noncomputable def U6(N:List Str)(g:SM)(ds:List D):Option D:=match g (Xh N ds)with
 |.rt d=>some d
 |.nx _=>some .none
 |_=>none
theorem okD{P:Uo}{w:World}{K:Frag}{mg:Str->Option Ul}{base:Heap}{x qual:Str}{st:Stmt}{f:Up}{fd:Uq}{N ps:List Str}{k n:Nat}{g:SM}(F:Fun K x qual st f fd)(S:RB N ps (ZL st))(hn:ps.length=n)
  (der:∀(cdv:Ul)(A:Around)(outer:List Env)(s:Um)(H:Hp)(E:XK)(B G0:Hp),Room k (A.deeper (envOfC qual (ZL st) s.heap.objs.size f cdv)) ->
   PSs (Y0 CX0 P w K mg base N qual (ZL st) f cdv A outer s H E).nox (Vv st) (tS K B G0 KX0 g)):FnOk P w K mg base CX0 (k+1) f fd ps (spD K n (U6 N g)):=by
 refine F.ok S (λvs H Q E h=>?_) (λcdv A outer s H vs Q E hr h=>?_)
 ·obtain⟨_,_,_,hl,_⟩:=h;rw[hl,hn]
 ·obtain⟨G,ds,d,hl,sg,r,hF,q⟩:=h;refine⟨_,der cdv A outer s H E H G hr,G,Xh N ds,BI sg r,?_⟩;unfold U6 at hF;cases z:g (Xh N ds)with
  |rt d'=>rw[z]at hF;cases hF;exact λv G' H' ex rr=>q v G' H' ex rr
  |nx Z=>rw[z]at hF;cases hF;exact λσ' G' H' k' _=>q .non G' H' k'.exit .non
  |bk Z=>rw[z]at hF;cases hF
  |ct Z=>rw[z]at hF;cases hF
  |ex Z d=>rw[z]at hF;cases hF
  |bad=>rw[z]at hF;cases hF
section
variable{X:Cx}{B G0:Hp}{e a b c tg:Ur}{pos:Pos}{es rest:List Ur}
noncomputable def oNeg:D->Option D
 |.int i=>some (.int (-i))
 |_=>none
noncomputable def ZX(f:M D):M D:=Kb f λx=>U9 (oNeg x)
theorem M0{f:M D}(h:PE X a (tD X.K B G0 f)):PE X (.UnaryOp .USub a pos) (tD X.K B G0 (ZX f)):=
 Ks (FT En h) λσ H Q q=>tM.one (R:=Rep X.K) q λv H2 G Z x k r a=>by
  cases x with
  |int i=>exact⟨i,r.int_inv,aft.now a k (.int _)⟩
  |_=>exact a.elim
end
def Def(P:Uo)(w:World)(K:Frag)(mg:Str->Option Ul)(base:Heap)(x:Str)(k n:Nat)(F:List D->Option D):Prop:=
 ∃(f:Up)(fd:Uq)(ps:List Str),mg x=some (.ref f)/\PySem.W.keepIn K (.ref f)=true/\Vn K fd ps []/\FnOk P w K mg base CX0 k f fd ps (spD K n F)
noncomputable def UW(n:Nat)(F:List D->Option D)(g:M (List D)):M D:=Kb g λxs=>if xs.length=n then U9 (F xs)else λ_=>.bad
section
variable{X:Cx}{B G0:Hp}{e:Ur}{pos:Pos}{es:List Ur}
theorem CA{k n:Nat}{F:List D->Option D}{g:M (List D)}{x:Str}{p2:Pos}(d:Def X.prog X.w X.K X.mg X.base x k n F)(hr:Room k X.A)(hg:Gl X x)(ha:PA X (e::es) (tDs X.K B G0 g))(hn:(e::es).length=n:=by rfl)
  (hdb:(x==("__debug__" : Str))=false:=by decide) (he:Uu (e::es) X.env=(false,eval e X.env)::Uu es X.env:=by rfl) (hpl:(backTo pos (Uu es X.env)).any (·.1)=false:=by rfl) :
  PE X (.Call (.Name x p2) (e::es) [] pos) (tD X.K B G0 (UW n F g)):=by
 obtain⟨f,fd,ps,h1,h2,h3,h4⟩:=d;exact BJ h4 hr hg h1 h2 h3 ha hn hdb he hpl
end
theorem Def.mk{P:Uo}{w:World}{K:Frag}{mg:Str->Option Ul}{base:Heap}{x:Str}{k n:Nat}{F:List D->Option D}{st:Stmt}{f:Up}{fd:Uq}{ps:List Str}(hm:mg x=some (.ref f))(FU:Fun K x x st f fd)(hb:Vn K fd ps [])(ok:FnOk P w K mg base CX0 k f fd ps (spD K n F)) :
  Def P w K mg base x k n F:=⟨f,fd,ps,hm,FU.kp,hb,ok⟩
theorem EH{K:Frag}{H:Hp}{a:Up}{ns:List Int}{F:List D->Option D}{E:XK}(hS:SqL K H a (ns.map V.int))(h:F [.list (ns.map int)]=some (.bool true)):spD K 1 F [.ref a] H (λv _=>v=.bl true) E:=
 ⟨H,[.list (ns.map int)],.bool true,rfl,.refl _,.cons (.lst hS (Reps.ints ns)) .nil,h,λ_ _ _ _ r=>r.bl_inv⟩
end DL
namespace L2
open PySem PySem.Spec PyProof.Rows
theorem mem_of_lookup{x:Str}{k:NameKind}:∀{l:List (Str×NameKind)},l.lookup x=some k->(x,k)∈l
 |[],h=>by cases h
 |(y,j)::r,h=>by
  rw[Q0]at h;split at h
  ·rename_i e;cases h;have:x=y:=by simpa using e
   rw[this];exact Qm
  ·exact Ql _ (mem_of_lookup h)
theorem Np{env:Env}:∀(l:List (Str×NameKind))(acc:List (Str×Up)),(∀y∈l,y.2=.free->∃c,env.cells.lookup y.1=some c) ->
  ∃cl,(forIn l acc (λx r=>if(x.2==NameKind.free)=true then(do let a ←cellOf env x.1;pure (ForInStep.yield ((x.1,a)::r)))else pure (ForInStep.yield r)):Sem (List (Str×Up)))=pure cl /\
   (∀x c,cl.lookup x=some c->acc.lookup x=some c∨env.cells.lookup x=some c)/\(∀y∈l,y.2=.free->∃c,cl.lookup y.1=some c)/\(∀x c,acc.lookup x=some c->∃c',cl.lookup x=some c')
 |[],acc,_=>⟨acc,rfl,λ_ _ h=>.inl h,λ_ h=>absurd h (by simp),λx c h=>⟨c,h⟩⟩
 |(n,k)::r,acc,h=>by
  by_cases hk:k=.free
  ·subst hk;obtain⟨c,hc⟩:=h (n,.free) Qm rfl;obtain⟨cl,e,p1,p2,p3⟩:=Np r ((n,c)::acc) λy hy=>h y (Ql _ hy)
   have hco:cellOf env n=pure c:=by unfold cellOf;rw[hc]
   have key:∀x c',((n,c)::acc).lookup x=some c'->acc.lookup x=some c'∨env.cells.lookup x=some c':=λx c' q=>by
    rw[Q0]at q;split at q
    ·rename_i e1;cases q;have:x=n:=by simpa using e1
     subst this;exact .inr hc
    ·exact .inl q
   have own:((n,c)::acc).lookup n=some c:=by rw[List.lookup_cons];simp
   refine⟨cl,?_,λx c' q=>?_,λy hy hf=>?_,λx c' q=>?_⟩
   ·rw[List.forIn_cons];have:(if(((n,NameKind.free):Str×NameKind).2==NameKind.free)=true then(do let a ←cellOf env n;pure (ForInStep.yield ((n,a)::acc)))else pure (ForInStep.yield acc):Sem _)=pure (ForInStep.yield ((n,c)::acc)):=by rw[Qp (show((n,NameKind.free).snd==NameKind.free)=true from rfl),hco];rfl
    refine Eq.trans ?_ e;dsimp only at this⊢;rw[this];rfl
   ·rcases p1 x c' q with z|z
    ·exact key x c' z
    ·exact .inr z
   ·rcases QP.mp hy with z|z
    ·subst z;exact p3 n c own
    ·exact p2 y z hf
   ·by_cases hx:x=n
    ·subst hx;exact p3 x c own
    ·refine p3 x c' ?_;have hb:(x==n)=false:=by simpa using hx
     rw[Q0,hb];exact q
  ·obtain⟨cl,e,p1,p2,p3⟩:=Np r acc λy hy=>h y (Ql _ hy)
   refine⟨cl,?_,p1,λy hy hf=>?_,p3⟩
   ·rw[List.forIn_cons];have hb:(k==NameKind.free)=false:=by cases k<;>first|rfl|exact absurd rfl hk
    refine Eq.trans ?_ e;dsimp only;rw[hb,QB (by decide)];rfl
   ·rcases QP.mp hy with z|z
    ·subst z;exact absurd hf hk
    ·exact p2 y z hf
theorem jg{scope:Scope}{env:Env}(h:∀y∈scope.names,y.2=.free->∃c,env.cells.lookup y.1=some c) :
  ∃cl,closureFor scope env=pure cl/\(∀x c,cl.lookup x=some c->env.cells.lookup x=some c)/\∀y∈scope.names,y.2=.free->∃c,cl.lookup y.1=some c:=by
 obtain⟨cl,e,p1,p2,_⟩:=Np scope.names [] h;refine⟨cl,?_,λx c q=>(p1 x c q).elim (λz=>by cases z) id,p2⟩;have e2:((forIn scope.names [] (λx r=>if(x.2==NameKind.free)=true then(do let a ←cellOf env x.1;pure (ForInStep.yield ((x.1,a)::r)))else pure (ForInStep.yield r)):Sem (List (Str×Up))) >>= λs=>pure s)=pure cl:=by rw[e];rfl
 exact e2
theorem HY{env:Env}{x:Str}{k:NameKind}:∀{names:List (Str×NameKind)},(names.map λ(n,k)=>if(k==NameKind.free&&env.scope.kind==.function&&env.kindOf n==some .cell)then(n,NameKind.cell)else(n,k)).lookup x=some k ->
  names.lookup x=some k∨(names.lookup x=some .free/\k=.cell)
 |[],h=>by cases h
 |(n,j)::r,h=>by
  have ih:=@HY env x k r;have h:List.lookup x ((if(j==NameKind.free&&env.scope.kind==.function&&env.kindOf n==some .cell)=true then(n,NameKind.cell)else(n,j))::_)=some k:=h;cases hx:x==n with
  |true=>
   by_cases hc:(j==NameKind.free&&env.scope.kind==.function&&env.kindOf n==some .cell)=true
   ·rw[Qp hc]at h;simp only[Q0,hx]at h⊢;cases h;simp only[Jp]at hc;have:j=.free:=by have:=hc.1.1;cases j<;>first|rfl|cases this
    subst this;exact .inr ⟨rfl,rfl⟩
   ·rw[QB hc]at h;simp only[Q0,hx]at h⊢;exact .inl h
  |false=>
   by_cases hc:(j==NameKind.free&&env.scope.kind==.function&&env.kindOf n==some .cell)=true
   ·rw[Qp hc]at h;simp only[Q0,hx]at h⊢;exact ih h
   ·rw[QB hc]at h;simp only[Q0,hx]at h⊢;exact ih h
theorem Gr{env:Env}{x:Str}:∀{names:List (Str×NameKind)},names.lookup x=some .free ->
  (names.map λ(n,k)=>if(k==NameKind.free&&env.scope.kind==.function&&env.kindOf n==some .cell)then(n,NameKind.cell)else(n,k)).lookup x=some .free ∨
  (names.map λ(n,k)=>if(k==NameKind.free&&env.scope.kind==.function&&env.kindOf n==some .cell)then(n,NameKind.cell)else(n,k)).lookup x=some .cell
 |[],h=>by cases h
 |(n,j)::r,h=>by
  have ih:=@Gr env x r;show List.lookup x ((if(j==NameKind.free&&env.scope.kind==.function&&env.kindOf n==some .cell)=true then(n,NameKind.cell)else(n,j))::_)=_∨List.lookup x ((if(j==NameKind.free&&env.scope.kind==.function&&env.kindOf n==some .cell)=true then(n,NameKind.cell)else(n,j))::_)=_;cases hx:x==n with
  |true=>
   simp only[Q0,hx]at h;cases h;by_cases hc:(NameKind.free==NameKind.free&&env.scope.kind==.function&&env.kindOf n==some .cell)=true
   ·rw[if_pos hc];simp[List.lookup_cons,hx]
   ·rw[if_neg hc];simp[List.lookup_cons,hx]
  |false=>
   simp only[Q0,hx]at h;by_cases hc:(j==NameKind.free&&env.scope.kind==.function&&env.kindOf n==some .cell)=true
   ·rw[Qp hc];simp only[Q0,hx];exact ih h
   ·rw[QB hc];simp only[Q0,hx];exact ih h
theorem Gk{env:Env}{x:Str}:∀{names:List (Str×NameKind)},names.lookup x=some .globalImplicit ->
  (names.map λ(n,k)=>if(k==NameKind.free&&env.scope.kind==.function&&env.kindOf n==some .cell)then(n,NameKind.cell)else(n,k)).lookup x=some .globalImplicit
 |[],h=>by cases h
 |(n,j)::r,h=>by
  have ih:=@Gk env x r;show List.lookup x ((if(j==NameKind.free&&env.scope.kind==.function&&env.kindOf n==some .cell)=true then(n,NameKind.cell)else(n,j))::_)=_;cases hx:x==n with
  |true=>simp only[Q0,hx]at h;cases h;rw[if_neg (by simp)];simp[List.lookup_cons,hx]
  |false=>
   simp only[Q0,hx]at h;by_cases hc:(j==NameKind.free&&env.scope.kind==.function&&env.kindOf n==some .cell)=true
   ·rw[Qp hc];simp only[Q0,hx];exact ih h
   ·rw[QB hc];simp only[Q0,hx];exact ih h
noncomputable def Cx.blk(X:Cx)(N':List Str)(scope:Scope)(cl:List (Str×Up))(C:Up)(s₀:Um)(H₀:Hp)(ex:List Up):Cx:=
 {X with N:=N',s₀:=s₀,H₀:=H₀,env:=compEnvC scope cl C X.env,outer:=X.stack,ex:=ex,fn:=λ_=>false,xe:=λ_ _=>False}
section
variable{X:Cx}{N':List Str}{scope:Scope}{cl:List (Str×Up)}{C:Up}{s₀:Um}{H₀:Hp}{ex:List Up}{x:Str}
theorem Cz(h:scope.names.lookup x=some .local∨scope.names.lookup x=some .free):Vis (X.blk N' scope cl C s₀ H₀ ex).env.scope x:=by
 rcases h with h|h
 ·exact .inl (lookup_relabel_local h)
 ·rcases Gr (env:=X.env) h with z|z
  ·exact .inr (.inr z)
  ·exact .inr (.inl z)
theorem Of(h:scope.names.lookup x=some .local):Loc (X.blk N' scope cl C s₀ H₀ ex).env.scope x:=.inl (lookup_relabel_local h)
theorem P4(h:scope.names.lookup x=some .local):(X.blk N' scope cl C s₀ H₀ ex).env.scope.names.lookup x=some .local:=lookup_relabel_local h
theorem EG(h:scope.names.lookup x=some .globalImplicit):Gl (X.blk N' scope cl C s₀ H₀ ex) x:=Gk h
end
noncomputable def RP(names:List (Str×NameKind))(N N2:List Str)(k:Nat):Bool:=
 N2.length==N.length+k&&(Uw N2.length).all λi=>match N2[i]? with
  |none=>true
  |some x=>match names.lookup x with
   |some .free=>N[i]?==some x
   |some .local=>decide (N.length<=i)&&decide (i<N.length+k)
   |some .cell=>false
   |_=>true
theorem jK{names:List (Str×NameKind)}{N N2:List Str}{k:Nat}(h:RP names N N2 k=true) :
  N2.length=N.length+k/\∀(i:Nat) x,N2[i]?=some x->(names.lookup x=some .free->N[i]?=some x)/\(names.lookup x=some .local->N.length<=i/\i<N.length+k):=by
 unfold RP at h;simp only[Jp,beq_iff_eq,Q2,Q7]at h;refine⟨h.1,λi x e=>?_⟩;have hi:=(Qg.mp e).1;have:=h.2 i hi;rw[e]at this;refine⟨λq=>?_,λq=>?_⟩
 ·simp only[q]at this;simpa using this
 ·simp only[q]at this;simpa using this
theorem Inv.enter{X:Cx}{pins:List (Up×Obj)}{σ:St}{H:Hp}{s3:Um}(I:Inv X pins σ H s3){scope:Scope}{cl:List (Str×Up)}{N2:List Str}{k:Nat}{h':Heap}{fp:List Up}{t':Nat}{m0:Str->Option Ul}
  (hb:RP scope.names X.N N2 k=true) (hkind:scope.kind=.function) (hcell:∀y∈scope.names,y.2≠.cell)
  (hfree:∀y∈scope.names,y.2=.free->X.env.scope.names.lookup y.1=some .cell∨X.env.scope.names.lookup y.1=some .free)
  (cl1:∀x c,cl.lookup x=some c->X.env.cells.lookup x=some c) (cl2:∀y∈scope.names,y.2=.free->∃c,cl.lookup y.1=some c)
  (hn:h'.Ns s3.heap.objs.size m0) (hk:∀b o,s3.heap.get? b=some o->h'.get? b=some o) (hf:∀b∈fp,Zw X pins H b) (hfo:∀b∈fp,∃o,s3.heap.get? b=some o) :
  Inv (X.blk N2 scope cl s3.heap.objs.size s3 H fp) pins (σ++Ux k none) H {s3 with heap:=h',toks:=t'}:=by
 obtain⟨hl,hN⟩:=jK hb;have lt:∀b o,s3.heap.get? b=some o->b≠s3.heap.objs.size:=λb o e=>QN (Qi e);have ofl:∀x,scope.names.lookup x=some .free->(x,NameKind.free)∈scope.names:=λx h=>mem_of_lookup h;have kinv:∀x kk,(X.blk N2 scope cl s3.heap.objs.size s3 H fp).env.scope.names.lookup x=some kk->scope.names.lookup x=some kk∨(scope.names.lookup x=some .free/\kk=.cell):=λx kk h=>HY (env:=X.env) h
 have isfree:∀x,(X.blk N2 scope cl s3.heap.objs.size s3 H fp).env.scope.names.lookup x=some .cell∨(X.blk N2 scope cl s3.heap.objs.size s3 H fp).env.scope.names.lookup x=some .free->scope.names.lookup x=some .free:=λx h=>by
  rcases h with h|h
  ·rcases kinv x _ h with z|z
   ·exact absurd rfl (hcell _ (mem_of_lookup z))
   ·exact z.1
  ·rcases kinv x _ h with z|z
   ·exact z
   ·exact z.1
 have ok:(X.blk N2 scope cl s3.heap.objs.size s3 H fp).Ok:=
  {
   mod:=I.ok.mod
   kind:=hkind
   glob:=I.ok.glob
   blt:=I.ok.blt
   above:=Qr _
   inj:=λx y c a b=>I.ok.inj x y c (cl1 x c a) (cl1 y c b)
   has:=λx h=>cl2 (x,.free) (ofl x (isfree x h)) rfl
   cab:=λx c h=>by cases h
   hd:=I.ok.hd
   frames:=I.ok.frames
   stk:=.inl rfl
   exf:=λb hb=>⟨let ⟨o,e⟩:=hfo b hb;lt b o e,λx c e=>(hf b hb).2.2.2.2.1 x c (cl1 x c e)⟩
   bs:=I.bs
   bsz:=QT I.ok.bsz I.sz
   noex:=λb o e hb=>by
    rcases(hf b hb).2.2.2.1 with z|z
    ·exact I.ok.noex b o e z
    ·exact absurd (QF (Qi e) (QT I.ok.bsz z)) (Jo _)
   exfs:=λb hb hx=>by
    rcases QP.mp (I.stkSub b hx)with z|z
    ·exact(hf b hb).2.1 z
    ·exact(hf b hb).2.2.1 z
   funs:=I.stack
   frf:=I.stkFree}
 refine⟨ok,rfl,I.bare,Un.kept hk,⟨m0,hn,λi x v e1 e2 e3=>?_⟩,λx c e=>?_,I.hok.fresh (Qr _),λx c e=>I.freeC x c (cl1 x c e),λp hp=>?_,I.hok.kept hk,?_⟩
 ·have nl:scope.names.lookup x≠some .local:=λz=>by
   obtain⟨g1,g2⟩:=(hN i x e1).2 z;rw[←I.len]at g1 g2;rw[Qx g1,Qv]at e2;split at e2<;>cases e2
  have fr:scope.names.lookup x=some .free:=by
   rcases e3 with z|z|z
   ·rcases kinv x _ z with q|q
    ·exact absurd q nl
    ·cases q.2
   ·exact isfree x (.inl z)
   ·exact isfree x (.inr z)
  have eN:=(hN i x e1).1 fr;have hi:i<σ.length:=by rw[I.len];exact(Qg.mp eN).1
  rw[Qw hi]at e2;obtain⟨m,hm,hlk⟩:=I.loc;have hkd:=hfree _ (ofl x fr) rfl;obtain⟨u,r,l⟩:=hlk i x v eN e2 (.inr hkd);refine⟨u,r,.inr ⟨?_,?_⟩⟩
  ·rcases e3 with z|z|z
   ·rcases kinv x _ z with q|q
    ·exact absurd q nl
    ·cases q.2
   ·exact .inl z
   ·exact .inr z
  ·rcases l with l|⟨_,c,ec,z⟩
   ·have:X.env.scope.names.lookup x=some .local:=l.1;rcases hkd with q|q<;>(dsimp only at q;rw[this]at q;cases q)
   ·obtain⟨c',ec'⟩:=cl2 _ (ofl x fr) rfl;have:=cl1 _ _ ec';dsimp only at this ec';rw[ec]at this;cases this;obtain⟨o,ho,hd⟩:=z;exact⟨c,ec',o,hk c o ho,hd⟩
 ·obtain⟨v,o,ho,hd⟩:=I.cell x c (cl1 x c e);exact⟨v,o,hk c o ho,hd⟩
 ·obtain⟨e,n,ne,nf,d⟩:=I.pin p hp;refine⟨hk _ _ e,n,lt _ _ e,λz=>?_,d⟩;rcases QP.mp (I.stkSub _ z)with q|q
  ·exact ne q
  ·exact nf q
 ·rw[Qj,QA,I.len];exact hl.symm
section
variable{prog:Uo}{w:World}{A:Around}{R:Result->Um->Prop}{s:Um}
end
noncomputable abbrev nox:Ul->Um->Prop:=λ_ _=>False
def RO(prog:Uo)(w:World)(A:Around)(tg:Ur)(ifs:List Ur)(env:Env)(it:Ul)(code:Code)(W:(Um->Prop)->Um->Prop):Prop:=
 ∀(R:Result->Um->Prop)(I:Nat->Um->Prop)(n:Nat)(s:Um),I n s ->
  (∀n s,I n s->Ut (model prog w) A (pyNext it) (λr s₁=>match r with
   |none=>R (.ok .next) s₁
   |some v=>Ut (model prog w) A (letOwnedTupleGo tg it v) (λ_ s₁'=>Ut (model prog w) A (assign tg env v) (λ_ s₂=>
     Ut (model prog w) A (forIn ifs true λc r=>if r=true then do let ok ←isTrue c env (eval c env);pure (ForInStep.yield ok)else pure (ForInStep.yield r)) (λok s₃=>
      if ok=true then W (λs₅=>∃m,m<n/\I m s₅) s₃ else ∃m,m<n/\I m s₃) nox s₂) nox s₁') nox s₁) nox s)->codeAny (model prog w) A code R s
section
variable{prog:Uo}{w:World}{A:Around}{elt tg i:Ur}{ifs:List Ur}{gens:List Comprehension}{scope:Scope}{pos:Pos}{it acc:Ul}{env:Env}{j:Nat}
theorem AA(hg:gens[j]?=some ⟨tg,i,ifs,0⟩)(hn:gens[j+1]?=none):RO prog w A tg ifs env it (.compLoop (.ListComp elt gens scope pos) j it acc env)
  (λQ s=>Ut (model prog w) A (eval elt env) (λx s₄=>Ut (model prog w) A (call (.builtin "list.append") [acc,x]) (λ_ s₅=>Q s₅) nox s₄) nox s):=by
 intro R I n s h turn;refine codeAny_loop rfl I (λn s hI=>?_) n h;show Ut _ A ((compTurn (.ListComp elt gens scope pos) j it acc env).onRaise (λx=>do noteFrame x env;theTreesLotGoes x)) _ _ s;refine wpAny_noted ?_;unfold compTurn;dsimp only;simp only[hg,hn];refine Qd (Js (Qd (QH (turn n s hI) (λr s₁ h₁=>?_) λ_ _ h'=>h'.elim)));cases r with
 |none=>exact Qh h₁
 |some v=>
  refine Qd (QH h₁ (λ_ s₁' h₁'=>?_) λ_ _ h'=>h'.elim);refine Qd (QH h₁' (λ_ s₂ h₂=>Qd (QH h₂ (λok s₃ h₃=>?_) λ_ _ h'=>h'.elim)) λ_ _ h'=>h'.elim);cases ok with
  |false=>exact Qh ⟨rfl,h₃⟩
  |true=>exact Qd (Qd (QH h₃ (λx s₄ h₄=>Qd (QH h₄ (λ_ s₅ h₅=>Qh (Qh ⟨rfl,h₅⟩)) λ_ _ h'=>h'.elim)) λ_ _ h'=>h'.elim))
theorem Az{tg1 i1:Ur}{ifs1:List Ur}(hg:gens[j]?=some ⟨tg,i,ifs,0⟩)(hn:gens[j+1]?=some ⟨tg1,i1,ifs1,0⟩)(hs:∀x,UK i1 env x=pure x):RO prog w A tg ifs env it (.compLoop (.ListComp elt gens scope pos) j it acc env)
  (λQ s=>Ut (model prog w) A (eval i1 env) (λx s₄=>Ut (model prog w) A (pyIter x) (λit1 s₅=>codeAny (model prog w) A (.compStart (.ListComp elt gens scope pos) (j+1) it1 acc env)
   (λr s₆=>match r with | .ok _=>Q s₆ | .error _=>False) s₅) nox s₄) nox s):=by
 intro R I n s h turn;refine codeAny_loop rfl I (λn s hI=>?_) n h;show Ut _ A ((compTurn (.ListComp elt gens scope pos) j it acc env).onRaise (λx=>do noteFrame x env;theTreesLotGoes x)) _ _ s;refine wpAny_noted ?_;unfold compTurn;dsimp only;simp only[hg,hn];refine Qd (Js (Qd (QH (turn n s hI) (λr s₁ h₁=>?_) λ_ _ h'=>h'.elim)));cases r with
 |none=>exact Qh h₁
 |some v=>
  refine Qd (QH h₁ (λ_ s₁' h₁'=>?_) λ_ _ h'=>h'.elim);refine Qd (QH h₁' (λ_ s₂ h₂=>Qd (QH h₂ (λok s₃ h₃=>?_) λ_ _ h'=>h'.elim)) λ_ _ h'=>h'.elim);cases ok with
  |false=>exact Qh ⟨rfl,h₃⟩
  |true=>
   refine Qd (QH h₃ (λx s₄ h₄=>Qd (Js (Qd (wpAny_of_eq (hs x) (Qd (JB (QH h₄ (λit1 s₅ h₅=>?_) λ_ _ h'=>h'.elim))))))) λ_ _ h'=>h'.elim);refine Qd (wpAny_runOwn (codeAny_mono h₅ λr s₆ h₆=>?_));cases r with
   |ok f=>exact Qh ⟨rfl,h₆⟩
   |error x=>exact h₆.elim
theorem jJ{R:Result->Um->Prop}{s:Um}(hg:gens[j]?=some ⟨tg,i,ifs,0⟩)
  (h0:codeAny (model prog w) A (.compLoop (.ListComp elt gens scope pos) j it acc env) R s)
  (h:Ut (model prog w) A (pyIter it) (λit' s'=>codeAny (model prog w) A (.compLoop (.ListComp elt gens scope pos) j it' acc env) R s') nox s) :
  codeAny (model prog w) A (.compStart (.ListComp elt gens scope pos) j it acc env) R s:=by
 refine codeAny_of_tree ?_;show Ut _ _ ((compStart (.ListComp elt gens scope pos) j it acc env).onRaise (λx=>do noteFrame x env;standAt theWindowsPlace)) _ _ s;refine wpAny_notedAt ?_;unfold compStart;have hc:(clausesOf (.ListComp elt gens scope pos))[j]?=some ⟨tg,i,ifs,0⟩:=hg;simp only[hc];show Ut _ _ (ask >>= _) _ _ s;refine Qd (wpAny_askSetting (wpAny_ite ?_));split
 ·first
   |exact Qd (Qh (Qh (And.intro rfl h0)))
   |exact Qh (And.intro rfl h0)
 ·first
   |exact Qd (wpAny_rule (Qd (Js (Qd (QH h (λit' s' h'=>Qh (And.intro rfl h')) λ_ _ x=>x.elim)))))
   |(refine Qd (wpAny_rule ?_);show Ut _ _ (standAt _ >>= _) _ _ s;exact Qd (Js (Qd (QH h (λit' s' h'=>Qh (And.intro rfl h')) λ_ _ x=>x.elim))))
end
end L2
namespace DL
open PySem PySem.Spec L2
open PyProof.Rows hiding St
noncomputable def Xe:Option Sl->Option Sl
 |some (.own _)=>none
 |some (.deep _ _)=>none
 |x=>x
noncomputable def Kl(Z:UH):UH:=Z.map Xe
theorem Ay{Z:UH}{i:Nat}{d:D}(h:(Kl Z)[i]?=some (some (.pub d))):Z[i]?=some (some (.pub d)):=by
 unfold Kl at h;rw[Qe]at h;cases e:Z[i]? with
 |none=>rw[e]at h;cases h
 |some o=>
  rw[e]at h;cases o with
  |none=>cases h
  |some sl=>cases sl with
   |pub d'=>cases h;rfl
   |own ds=>cases h
   |deep p d'=>cases h
theorem Wt{Z:UH}{i:Nat}{ds:List D}(h:(Kl Z)[i]?=some (some (.own ds))):False:=by
 unfold Kl at h;rw[Qe]at h;cases e:Z[i]? with
 |none=>rw[e]at h;cases h
 |some o=>
  rw[e]at h;cases o with
  |none=>cases h
  |some sl=>cases sl with
   |pub d'=>cases h
   |own ds=>cases h
   |deep p d'=>cases h
theorem No{Z:UH}{i:Nat}{p:Pat}{d:D}(h:(Kl Z)[i]?=some (some (.deep p d))):False:=by
 unfold Kl at h;rw[Qe]at h;cases e:Z[i]? with
 |none=>rw[e]at h;cases h
 |some o=>
  rw[e]at h;cases o with
  |none=>cases h
  |some sl=>cases sl<;>cases h
noncomputable def KY(s:D->UH->Option UH)(t:M Bool)(g:M D):List D->UH->List D->Option (List D)
 |[],_,es=>some es
 |d::r,Z,es=>match s d Z with
  |none=>none
  |some Z1=>match t Z1 with
   |.bad=>none
   |.ok b Z2=>if b=true then(match g Z2 with
     |.bad=>none
     |.ok e Z3=>if es.length<1000000 then KY s t g r (Kl Z3) (es++[e])else none)
    else KY s t g r (Kl Z2) es
noncomputable def Zt(f:M (List D))(k:Nat)(s:D->UH->Option UH)(t:M Bool)(g:M D):M (List D):=λZ=>match f Z with
 |.bad=>.bad
 |.ok ds Z1=>match KY s t g ds (Kl Z1++Ux k none) []with
  |none=>.bad
  |some es=>.ok es Z1
def Y3(X:Cx)(ifs:List Ur)(t:TT):Prop:=
 ∀(pins:List (Up×Obj))(s:Um)(σ:St)(H:Hp)(Q:Bool->Hp->Prop),Inv X pins σ H s->t σ H Q ->
  Ut (model X.prog X.w) X.A (forIn ifs true λc r=>if r=true then do let ok ←isTrue c X.env (eval c X.env);pure (ForInStep.yield ok)else pure (ForInStep.yield r)) (TP X pins σ Q) X.xe s
section
variable{X:Cx}{B G0:Hp}
theorem Dm:Y3 X [] (tBo X.K B G0 (UO true)):=λpins s σ H Q I ⟨G,Z,k,a⟩=>wpAny_tests_nil ⟨H,I,a true G H k (.refl _) rfl⟩
theorem MZ{c:Ur}{t:M Bool}(h:PT X c (tBo X.K B G0 t)):Y3 X [c] (tBo X.K B G0 t):=λpins s σ H Q I q=>wpAny_tests_one (h pins s σ H Q I q)
theorem EOk.rebase{K:Frag}{G H:Hp}{σ:St}{Z:UH}(k:EOk K B G0 G H σ Z):EOk K H G G H σ (Kl Z) where
 bh:=.refl _
 gh:=k.gh
 g0:=.refl _
 np:=λ_ _ _ n=>n
 len:=by unfold Kl;rw[Qb];exact k.len
 pub:=λi d q=>k.pub i d (Ay q)
 own:=λi ds q=>(Wt q).elim
 sep:=λi j a ds es q=>(Wt q).elim
 dp:=.of (λ_ _ _ q=>No q) λ_ _ q=>Wt q
theorem EOk.more{K:Frag}{G H:Hp}{σ:St}{Z:UH}(k:EOk K H G G H σ (Kl Z))(n:Nat):EOk K H G G H (σ++Ux n none) (Kl Z++Ux n none) where
 bh:=.refl _
 gh:=k.gh
 g0:=.refl _
 np:=λ_ _ _ n=>n
 len:=by rw[Qj,Qj,k.len,QA,QA]
 pub:=λi d q=>by
  by_cases hi:i<(Kl Z).length
  ·rw[Qw hi]at q;rw[Qw (by rw[←k.len];exact hi)];exact k.pub i d q
  ·rw[Qx (Jd hi),Qv]at q;split at q<;>cases q
 own:=λi ds q=>by
  by_cases hi:i<(Kl Z).length
  ·rw[Qw hi]at q;exact(Wt q).elim
  ·rw[Qx (Jd hi),Qv]at q;split at q<;>cases q
 sep:=λi j a ds es q=>by
  by_cases hi:i<(Kl Z).length
  ·rw[Qw hi]at q;exact(Wt q).elim
  ·rw[Qx (Jd hi),Qv]at q;split at q<;>cases q
 dp:=by
  refine .of (λi p d q=>?_) λi ds q=>?_
  ·by_cases hi:i<(Kl Z).length
   ·rw[Qw hi]at q;exact No q
   ·rw[Qx (Jd hi),Qv]at q;split at q<;>cases q
  ·by_cases hi:i<(Kl Z).length
   ·rw[Qw hi]at q;exact Wt q
   ·rw[Qx (Jd hi),Qv]at q;split at q<;>cases q
theorem EOk.beside{K:Frag}{G H:Hp}{σ:St}{Z:UH}{a:Up}{o:HO}(k:EOk K B G0 G H σ Z)(hg:G a=none):EOk K (upd H a o) G G (upd H a o) σ (Kl Z) where
 bh:=.refl _
 gh:=λb u e=>by rw[KM (λz=>by subst z;rw[hg]at e;cases e)];exact k.gh b u e
 g0:=.refl _
 np:=λ_ _ _ n=>n
 len:=k.rebase.len
 pub:=k.rebase.pub
 own:=λi ds q=>(Wt q).elim
 sep:=λi j a ds es q=>(Wt q).elim
 dp:=.of (λ_ _ _ q=>No q) λ_ _ q=>Wt q
theorem lim1:1000000<=Us:=lim
noncomputable def PN:Option Sl->Option Sl
 |some (.own ds)=>some (.pub (.list ds))
 |some (.deep _ d)=>some (.pub d)
 |x=>x
noncomputable def ZA(Z:UH):UH:=Z.map PN
theorem Ha{Z:UH}{i:Nat}{d:D}(h:(ZA Z)[i]?=some (some (.pub d))):Z[i]?=some (some (.pub d))∨(∃ds,d=.list ds/\Z[i]?=some (some (.own ds))) ∨ ∃p,Z[i]?=some (some (.deep p d)):=by
 unfold ZA at h;rw[Qe]at h;cases e:Z[i]? with
 |none=>rw[e]at h;cases h
 |some o=>
  rw[e]at h;cases o with
  |none=>cases h
  |some sl=>cases sl with
   |pub d'=>cases h;exact .inl rfl
   |own ds=>cases h;exact .inr (.inl ⟨ds,rfl,rfl⟩)
   |deep p d'=>cases h;exact .inr (.inr ⟨p,rfl⟩)
theorem SR{Z:UH}{i:Nat}{ds:List D}(h:(ZA Z)[i]?=some (some (.own ds))):False:=by
 unfold ZA at h;rw[Qe]at h;cases e:Z[i]? with
 |none=>rw[e]at h;cases h
 |some o=>
  rw[e]at h;cases o with
  |none=>cases h
  |some sl=>cases sl with
   |pub d'=>cases h
   |own ds=>cases h
   |deep p d'=>cases h
theorem Gj{Z:UH}{i:Nat}{p:Pat}{d:D}(h:(ZA Z)[i]?=some (some (.deep p d))):False:=by
 unfold ZA at h;rw[Qe]at h;cases e:Z[i]? with
 |none=>rw[e]at h;cases h
 |some o=>
  rw[e]at h;cases o with
  |none=>cases h
  |some sl=>cases sl<;>cases h
noncomputable def flat:D->Bool
 |.none=>true | .bool _=>true | .int _=>true | .str _=>true|_=>false
theorem Rep.flat{K:Frag}{G G':Hp}{v:V}{d:D}(r:Rep K G v d)(h:DL.flat d=true):Rep K G' v d:=by
 cases r with
 |non=>exact .non
 |bl b=>exact .bl b
 |int i=>exact .int i
 |str x=>exact .str x
 |lst _ _=>cases h
 |tup _ _=>cases h
 |dic _=>cases h
 |exc _ _ _ _=>cases h
 |dct _ _ _ _ _=>cases h
 |dtt _ _ _ _=>cases h
theorem Reps.flat{K:Frag}{G G':Hp}:∀{vs:List V}{ds:List D},Reps K G vs ds->ds.all DL.flat=true->Reps K G' vs ds
 |_,_,.nil,_=>.nil
 |_,_,.cons r t,h=>by rw[List.all_cons,Jp]at h;exact .cons (r.flat h.1) (Reps.flat t h.2)
theorem EOk.lend{K:Frag}{B G0 G H:Hp}{σ:St}{Z:UH}{D:Up}{o:HO}(k:EOk K B G0 G H σ Z)(hD:H D=none)(n:Nat):EOk K (upd H D o) H H (upd H D o) (σ++Ux n none) (ZA Z++Ux n none) where
 bh:=.refl _
 gh:=Zn hD
 g0:=.refl _
 np:=λ_ _ _ n=>n
 len:=by unfold ZA;rw[Qj,Qj,Qb,k.len,QA,QA]
 pub:=λi d q=>by
  have hl:(ZA Z).length=Z.length:=by unfold ZA;rw[Qb]
  by_cases hi:i<(ZA Z).length
  ·rw[Qw hi]at q;rw[Qw (by rw[←k.len,←hl];exact hi)];rcases Ha q with e|⟨ds,rfl,e⟩|⟨p,e⟩
   ·obtain⟨v,h1,h2⟩:=k.pub i d e;exact⟨v,h1,h2.mono k.gh⟩
   ·obtain⟨a,vs,h1,h2,h3,h4,h5⟩:=k.own i ds e;exact⟨.ref a,h1,.lst (SqL.of h4) (h5.mono k.gh)⟩
   ·obtain⟨ω,k1,k2⟩:=k.dp;obtain⟨v,fp,s,r,_⟩:=k1 i p d e;exact⟨v,s,r.rep k.gh⟩
  ·rw[Qx (Jd hi),Qv]at q;split at q<;>cases q
 own:=λi ds q=>by
  by_cases hi:i<(ZA Z).length
  ·rw[Qw hi]at q;exact(SR q).elim
  ·rw[Qx (Jd hi),Qv]at q;split at q<;>cases q
 sep:=λi j a ds es q=>by
  by_cases hi:i<(ZA Z).length
  ·rw[Qw hi]at q;exact(SR q).elim
  ·rw[Qx (Jd hi),Qv]at q;split at q<;>cases q
 dp:=by
  refine .of (λi p d q=>?_) λi ds q=>?_
  ·by_cases hi:i<(ZA Z).length
   ·rw[Qw hi]at q;exact Gj q
   ·rw[Qx (Jd hi),Qv]at q;split at q<;>cases q
  ·by_cases hi:i<(ZA Z).length
   ·rw[Qw hi]at q;exact SR q
   ·rw[Qx (Jd hi),Qv]at q;split at q<;>cases q
noncomputable def Rt(f:M (List D))(k:Nat)(s:D->UH->Option UH)(t:M Bool)(g:M D):M (List D):=λZ=>match f Z with
 |.bad=>.bad
 |.ok ds Z1=>match KY s t g ds (ZA Z1++Ux k none) []with
  |none=>.bad
  |some es=>if es.all flat=true then .ok es Z1 else .bad
end
noncomputable def YJ(s:D->UH->Option UH)(t:M Bool)(g:M D):List D->UH->List D->Option (List D×UH)
 |[],Z,es=>some (es,Z)
 |d::r,Z,es=>match s d Z with
  |none=>none
  |some Z1=>match t Z1 with
   |.bad=>none
   |.ok b Z2=>if b=true then(match g Z2 with
     |.bad=>none
     |.ok e Z3=>if es.length<1000000 then YJ s t g r (Kl Z3) (es++[e])else none)
    else YJ s t g r (Kl Z2) es
noncomputable def XH(s0:D->UH->Option UH)(t0:M Bool)(f1:M (List D))(s1:D->UH->Option UH)(t1:M Bool)(g:M D):List D->UH->List D->Option (List D)
 |[],_,es=>some es
 |d::r,Z,es=>match s0 d Z with
  |none=>none
  |some Z1=>match t0 Z1 with
   |.bad=>none
   |.ok b Z2=>if b=true then(match f1 Z2 with
     |.bad=>none
     |.ok ds Z3=>match YJ s1 t1 g ds (Kl Z3) es with
      |none=>none
      |some (es',Z4)=>XH s0 t0 f1 s1 t1 g r Z4 es')
    else XH s0 t0 f1 s1 t1 g r (Kl Z2) es
noncomputable def Rs(f:M (List D))(k:Nat)(s:D->UH->Option UH)(t:M Bool)(f1:M (List D))(s1':D->UH->Option UH)(t1':M Bool)(g:M D):M (List D):=λZ=>match f Z with
 |.bad=>.bad
 |.ok ds Z1=>match XH s t f1 s1' t1' g ds (Kl Z1++Ux k none) []with
  |none=>.bad
  |some es=>.ok es Z1
noncomputable def Xa(s0:D->UH->Option UH)(t0:M Bool)(f1:M (List D))(Rd:List D->UH->List D->Option (List D×UH)):List D->UH->List D->Option (List D×UH)
 |[],Z,es=>some (es,Z)
 |d::r,Z,es=>match s0 d Z with
  |none=>none
  |some Z1=>match t0 Z1 with
   |.bad=>none
   |.ok b Z2=>if b=true then(match f1 Z2 with
     |.bad=>none
     |.ok ds Z3=>match Rd ds (Kl Z3) es with
      |none=>none
      |some (es',Z4)=>Xa s0 t0 f1 Rd r Z4 es')
    else Xa s0 t0 f1 Rd r (Kl Z2) es
noncomputable def V5(Rd:List D->UH->List D->Option (List D×UH))(ds:List D)(Z:UH)(es:List D):Option (List D):=(Rd ds Z es).map (·.1)
noncomputable def Rr(f:M (List D))(k:Nat)(s:D->UH->Option UH)(t:M Bool)(f1:M (List D))(s1':D->UH->Option UH)(t1':M Bool)(fx2:M (List D))(s2':D->UH->Option UH)(t2':M Bool)(g:M D):M (List D):=λZ=>match f Z with
 |.bad=>.bad
 |.ok ds Z1=>match V5 (Xa s t f1 (Xa s1' t1' fx2 (YJ s2' t2' g))) ds (Kl Z1++Ux k none) []with
  |none=>.bad
  |some es=>.ok es Z1
abbrev RdB:=UH->List D->Option (List D×UH)
noncomputable def rL(g:M D):RdB:=λZ es=>match g Z with
 |.bad=>none
 |.ok e Z3=>if es.length<1000000 then some (es++[e],Kl Z3)else none
noncomputable def cT(s:D->UH->Option UH)(t:M Bool)(rd:RdB):List D->UH->List D->Option (List D×UH)
 |[],Z,es=>some (es,Z)
 |d::r,Z,es=>match s d Z with
  |none=>none
  |some Z1=>match t Z1 with
   |.bad=>none
   |.ok b Z2=>if b=true then(match rd Z2 es with
     |none=>none
     |some (es',Z')=>cT s t rd r Z' es')
    else cT s t rd r (Kl Z2) es
noncomputable def rN(f:M (List D))(s:D->UH->Option UH)(t:M Bool)(rd:RdB):RdB:=λZ es=>match f Z with
 |.bad=>none
 |.ok ds Z3=>cT s t rd ds (Kl Z3) es
structure Left(Y:Cx)(D':Up)(pins:List (Up×Obj))(H G:Hp)(es':List D)(Z':UH)(σ':St)(H' G':Hp)(vs':List V)(s':Um):Prop where
 inv:Inv Y pins σ' H' s'
 eok:EOk Y.K H' G' G' H' σ' Z'
 hh:∀a o,a≠D'->H a=some o->H' a=some o
 gg:Same G G'
 np:∀a(u:MO),a≠D'->H a=some u.ho->G a=none->G' a=none
 hd:H' D'=some (.lst vs')
 gd:G' D'=none
 rp:Reps Y.K G' vs' es'
def Rg(Y:Cx)(D':Up)(W:(Um->Prop)->Um->Prop)(rd:RdB):Prop:=
 ∀(pins:List (Up×Obj))(sh:Um)(σ:St)(B1 G1 H G:Hp)(Z Z':UH)(vs:List V)(es es':List D)(Q:Um->Prop),
  Inv Y pins σ H sh->EOk Y.K B1 G1 G H σ Z->B1 D'=some (.lst vs)->G1 D'=none->Reps Y.K G1 vs es->rd Z es=some (es',Z') ->
  (∀σ' H' G' vs' s',Left Y D' pins B1 G1 es' Z' σ' H' G' vs' s'->Q s')->W Q sh
section
variable{Y:Cx}{D':Up}
theorem Ax{elt:Ur}{g:M D}(hx:Y.xe=nox)(he:∀B1 G1,PE Y elt (tD Y.K B1 G1 g)) :
  Rg Y D' (λQ s=>Ut (model Y.prog Y.w) Y.A (eval elt Y.env) (λx s₄=>Ut (model Y.prog Y.w) Y.A (call (.builtin "list.append") [.ref D',x]) (λ_ s₅=>Q s₅) nox s₄) nox s) (rL g):=by
 intro pins sh σ B1 G1 H G Z Z' vs es es' Q I k hD gD r z fin;unfold rL at z;cases zg:g Z with
 |bad=>rw[zg]at z;cases z
 |ok e Z4=>
 rw[zg]at z;dsimp only at z;split at z
 ·rename_i hle;cases z;have h:=he B1 G1 pins sh σ H (λv H8=>∃G8,EOk Y.K B1 G1 G8 H8 σ Z4/\Rep Y.K G8 v e) I ⟨G,Z,k,by unfold aft;rw[zg];exact λv G8 H8 k8 _ q=>⟨G8,k8,q⟩⟩;rw[hx]at h;refine thn h λev s8 ⟨v,H8,I8,rv,G8,k8,r8⟩=>?_;have h2:=Hb pins s8 σ H8 (.ref D') [v] (.ref D') [ev] (λ_ H9=>H9=upd H8 D' (.lst (vs++[v]))) I8 rfl (.cons rv .nil) ⟨D',vs,v,rfl,rfl,k8.bh _ _ hD,by have:=lim1;rw[r.length];omega,rfl⟩
  rw[hx]at h2;refine thn h2 λ_ s9 ⟨_,H9,I9,_,e9⟩=>?_;subst e9;have g8:=k8.np _ (.l _) hD gD;exact fin σ _ G8 _ s9 ⟨I9,k8.beside g8,λa o z q=>by rw[KM z];exact k8.bh a o q,k8.g0,λa o _ q w=>k8.np a o q w,Zc,g8,(r.mono k8.g0).append (.cons r8 .nil)⟩
 ·cases z
theorem Lw{tg:Ur}{ifs:List Ur}{code:Code}{W:(Um->Prop)->Um->Prop}{s:D->UH->Option UH}{t:M Bool}{rd:RdB}{it:Up}(hx:Y.xe=nox)(hc:Y.calm=true)(rule:RO Y.prog Y.w Y.A tg ifs Y.env (.ref it) code W)
  (hg:∀B1 G1,PG Y tg (tG Y.K B1 G1 s)) (ht:∀B1 G1,Y3 Y ifs (tBo Y.K B1 G1 t)) (hb:Rg Y D' W rd)
  {pins:List (Up×Obj)} {sh:Um} {σ:St} {H G:Hp} {Z ZF:UH} {fp:List Up} {tn:Nat->Heap->Prop} {J:It} {ds es esF:List D} {vs:List V} {R:Result->Um->Prop}
  (I:Inv Y pins σ H sh) (T:Turn Y.prog Y.w Y.K tg J fp it tn) (st:tn 0 sh.heap) (hf:∀b∈fp,Zw Y pins H b)
  (k:EOk Y.K H G G H σ Z) (its:Xf Y.K J ds G) (hD:H D'=some (.lst vs)) (gD:G D'=none) (r:Reps Y.K G vs es) (zl:cT s t rd ds Z es=some (esF,ZF))
  (hfin:∀σ' H' G' vs' s',Left Y D' pins H G esF ZF σ' H' G' vs' s'->R (.ok .next) s'):codeAny (model Y.prog Y.w) Y.A code R sh:=by
 have stat:∀{H':Hp},(∀b∈fp,H' b=none)->∀b∈fp,Zw Y pins H' b:=λhn b hb=>⟨hn b hb,(hf b hb).2⟩
 refine rule R (λn s'=>∃i σ' H' G' Z' vs' es',n=ds.length-i/\tn i s'.heap/\(∀b∈fp,H' b=none)/\Left Y D' pins H G es' Z' σ' H' G' vs' s'/\cT s t rd (ds.drop i) Z' es'=some (esF,ZF)) ds.length sh
  ⟨0,σ,H,G,Z,vs,es,rfl,st,λb hb=>(hf b hb).1,⟨I,k,λ_ _ _ q=>q,.refl _,λ_ _ _ _ n=>n,hD,gD,r⟩,by rw[Uh];exact zl⟩ ?_
 rintro n s' ⟨i,σ',H',G',Z',vs',es',rfl,tn',fr',⟨I',k',sh',sg',np',hD',gD',r'⟩,zc⟩;by_cases hlt:i<ds.length
 ·rw[Jb hlt,cT]at zc;cases zs:s ds[i] Z' with
  |none=>rw[zs]at zc;cases zc
  |some Z2=>
  rw[zs]at zc;dsimp only at zc;cases zt:t Z2 with
  |bad=>rw[zt]at zc;cases zc
  |ok b Z3=>
  rw[zt]at zc;dsimp only at zc;refine thn (T.item Y rfl rfl rfl hc i pins s' σ' H' nox I' (stat fr') tn' (its.go i G' H' sg' k'.gh hlt)) λrr s4 ⟨u,hr,h4⟩=>?_;subst hr;refine thn h4 λ_ s5 ⟨x,H5,I5,r5,y5,st5,fr5⟩=>?_
  obtain⟨G5,e5,rx⟩:=its.yld i G' H' x H5 ds[i] sg' k'.gh (Qf hlt) y5;have h6:=hg H' G' _ s5 σ' H5 x u (λσ6 H6=>∃G6,EOk Y.K H' G' G6 H6 σ6 Z2) (I5.pinned (stat fr5) (T.obj _ _ st5)) r5 ⟨G5,Z',ds[i],Z2,k'.ext e5,rx,zs,λσ6 G6 H6 k6 _=>⟨G6,k6⟩⟩;rw[hx]at h6;refine thn h6 λ_ s6 ⟨σ6,H6,I6,G6,k6⟩=>?_;have h7:=ht H' G' _ s6 σ6 H6 (λc H7=>c=b/\∃G7,EOk Y.K H' G' G7 H7 σ6 Z3) I6 ⟨G6,Z2,k6,by unfold aft;rw[zt];exact λc G7 H7 k7 _ q=>⟨q,G7,k7⟩⟩
  rw[hx]at h7;refine thn h7 λok s7 ⟨H7,I7,hb7,G7,k7⟩=>?_;subst hb7
  have again:∀{H9:Hp}{σ9:St}{s9:Um},Inv Y (pins++Rz fp s5.heap) σ9 H9 s9->Inv Y pins σ9 H9 s9/\tn (i+1) s9.heap/\∀b∈fp,H9 b=none:=λ{H9 σ9 s9} I9=>by refine⟨I9.unpinned,T.keep _ _ _ st5 λb hb o e=>(I9.pin (b,o) (QK _ (QK _ (PF hb e)))).1,λb hb=>?_⟩;obtain⟨o,e,d⟩:=T.obj _ _ st5 b hb;exact(I9.pin (b,o) (QK _ (QK _ (PF hb e)))).2.1
  have lt:ds.length-(i+1)<ds.length-i:=Nat.sub_lt_sub_left hlt (Ua i);cases ok with
  |false=>rw[QB (by decide)]at zc⊢;obtain⟨J1,J2,J3⟩:=again I7;exact⟨_,lt,i+1,σ6,H7,G7,Kl Z3,vs',es',rfl,J2,J3,⟨J1,k7.rebase,λa o z q=>k7.bh a o (sh' a o z q),sg'.trans k7.g0,λa o z q w=>k7.np a o (sh' a _ z q) (np' a o z q w),k7.bh _ _ hD',k7.np _ (.l _) hD' gD',r'.mono k7.g0⟩,zc⟩
  |true=>
   rw[Qp rfl]at zc⊢;cases ze:rd Z3 es' with
   |none=>rw[ze]at zc;cases zc
   |some pr=>
   obtain⟨es1,Z5⟩:=pr;rw[ze]at zc;refine hb _ s7 σ6 H' G' H7 G7 Z3 Z5 vs' es' es1 _ I7 k7 hD' gD' r' ze λσ9 H9 G9 vs9 s9 L=>?_
   obtain⟨J1,J2,J3⟩:=again L.inv;exact⟨_,lt,i+1,σ9,H9,G9,Z5,vs9,es1,rfl,J2,J3,⟨J1,L.eok,λa o z q=>L.hh a o z (sh' a o z q),sg'.trans L.gg,λa o z q w=>L.np a o z (sh' a _ z q) (np' a o z q w),L.hd,L.gd,L.rp⟩,zc⟩
 ·rw[List.drop_eq_nil_of_le (Jd hlt),cT]at zc;cases zc;refine thn (T.done Y rfl rfl rfl hc i pins s' σ' H' nox I' (stat fr') tn' (its.stop i G' H' sg' k'.gh (Jd hlt))) λrr s4 ⟨hr,I6⟩=>?_
  subst hr;exact hfin σ' H' G' vs' s4 ⟨I6,k',sh',sg',np',hD',gD',r'⟩
theorem Aw{elt tg1 i1:Ur}{ifs1:List Ur}{gens:List Comprehension}{scope:Scope}{pos:Pos}{j:Nat}{W:Ul->(Um->Prop)->Um->Prop}{f:M (List D)}{s:D->UH->Option UH}{t:M Bool}{rd:RdB}(hx:Y.xe=nox)(hc:Y.calm=true)
  (hn:gens[j+1]?=some ⟨tg1,i1,ifs1,0⟩) (rule:∀it1,RO Y.prog Y.w Y.A tg1 ifs1 Y.env it1 (.compLoop (.ListComp elt gens scope pos) (j+1) it1 (.ref D') Y.env) (W it1))
  (hi:∀B1 G1,PI Y tg1 i1 (iD Y.K B1 G1 f)) (hg:∀B1 G1,PG Y tg1 (tG Y.K B1 G1 s)) (ht:∀B1 G1,Y3 Y ifs1 (tBo Y.K B1 G1 t)) (hb:∀it1,Rg Y D' (W it1) rd) :
  Rg Y D' (λQ s=>Ut (model Y.prog Y.w) Y.A (eval i1 Y.env) (λx s₄=>Ut (model Y.prog Y.w) Y.A (pyIter x) (λit1 s₅=>codeAny (model Y.prog Y.w) Y.A (.compStart (.ListComp elt gens scope pos) (j+1) it1 (.ref D') Y.env)
   (λr s₆=>match r with | .ok _=>Q s₆ | .error _=>False) s₅) nox s₄) nox s) (rN f s t rd):=by
 intro pins sh σ B1 G1 H G Z Z' vs es es' Q I k hD gD r z fin;unfold rN at z;cases zf:f Z with
 |bad=>rw[zf]at z;cases z
 |ok ds Z3=>
 rw[zf]at z;have h:=hi B1 G1 pins sh σ H (λJ1 H8=>∃G8,EOk Y.K B1 G1 G8 H8 σ Z3/\Xf Y.K J1 ds G8) I ⟨G,Z,k,by rw[zf];exact λJ1 G8 H8 k8 _ q=>⟨G8,k8,q⟩⟩;rw[hx]at h;refine thn h λxv s8 h8=>thn h8 λitv s9 h9=>?_
 obtain⟨it1,fp1,tn1,J1,H9,rfl,I9,T1,st9,f9,G9,k9,its9⟩:=h9
 have loop:codeAny (model Y.prog Y.w) Y.A (.compLoop (.ListComp elt gens scope pos) (j+1) (.ref it1) (.ref D') Y.env) (λr s₆=>match r with | .ok _=>Q s₆ | .error _=>False) s9:=
  Lw hx hc (rule (.ref it1)) hg ht (hb _) I9 T1 st9 f9 k9.rebase its9 (k9.bh _ _ hD) (k9.np _ (.l _) hD gD) (r.mono k9.g0) z λσ' H' G' vs' s' L=>
   fin σ' H' G' vs' s' ⟨L.inv,L.eok,λa o z q=>L.hh a o z (k9.bh a o q),k9.g0.trans L.gg,λa o z q w=>L.np a o z (k9.bh a _ q) (k9.np a o q w),L.hd,L.gd,L.rp⟩
 exact jJ hn loop (T1.self Y.A 0 _ _ _ st9 loop)
end
def Rf(Y:Cx)(e:Ur)(j:Nat)(tg:Ur)(ifs:List Ur)(rd:RdB):Prop:=
 ∀(D':Up)(it:Ul),∃W,RO Y.prog Y.w Y.A tg ifs Y.env it (.compLoop e j it (.ref D') Y.env) W/\Rg Y D' W rd
section
variable{Y:Cx}{elt tg i:Ur}{ifs:List Ur}{gens:List Comprehension}{scope:Scope}{pos:Pos}{j:Nat}
theorem L9{g:M D}(hx:Y.xe=nox)(hg:gens[j]?=some ⟨tg,i,ifs,0⟩)(hn:gens[j+1]?=none)(he:∀B1 G1,PE Y elt (tD Y.K B1 G1 g)):Rf Y (.ListComp elt gens scope pos) j tg ifs (rL g):=
 λ_ _=>⟨_,AA hg hn,Ax hx he⟩
theorem Av{tg1 i1:Ur}{ifs1:List Ur}{f:M (List D)}{s:D->UH->Option UH}{t:M Bool}{rd:RdB}(hx:Y.xe=nox)(hc:Y.calm=true)(hg:gens[j]?=some ⟨tg,i,ifs,0⟩)(hn:gens[j+1]?=some ⟨tg1,i1,ifs1,0⟩)(hs:∀x,UK i1 Y.env x=pure x)
  (hi:∀B1 G1,PI Y tg1 i1 (iD Y.K B1 G1 f)) (hgt:∀B1 G1,PG Y tg1 (tG Y.K B1 G1 s)) (ht:∀B1 G1,Y3 Y ifs1 (tBo Y.K B1 G1 t)) (hb:Rf Y (.ListComp elt gens scope pos) (j+1) tg1 ifs1 rd):Rf Y (.ListComp elt gens scope pos) j tg ifs (rN f s t rd):=
 λD' _=>⟨_,Az hg hn hs,Aw hx hc hn (λit1=>(Classical.choose_spec (hb D' it1)).1) hi hgt ht (λit1=>(Classical.choose_spec (hb D' it1)).2)⟩
end
noncomputable def Yy(l:Bool)(Z:UH):UH:=match l with|true=>ZA Z|false=>Kl Z
theorem F5{K:Frag}{B G0 G1 H2:Hp}{σ:St}{Z1:UH}{D:Up}(l:Bool)(k1:EOk K B G0 G1 H2 σ Z1)(hfr:H2 D=none)(n:Nat) :
  ∃Gb,EOk K (upd H2 D (.lst [])) Gb Gb (upd H2 D (.lst [])) (σ++Ux n none) (Yy l Z1++Ux n none)/\Same G1 Gb/\Gb D=none /\
   ∀(G' H':Hp) vs es,(l=true->es.all flat=true)->Same Gb G'->Same H2 H'->Same G' H'->(∀a(u:MO),H2 a=some u.ho->Gb a=none->G' a=none)->G' D=none->Reps K G' vs es->∃Gf,Ext G1 H2 Gf H'/\Gf D=none/\Reps K Gf vs es:=by
 have gD:G1 D=none:=k1.gh.free hfr;cases l with
 |false=>exact⟨G1,(k1.beside gD).more n,.refl _,gD,λG' H' vs es _ g h gh np d r=>⟨G',⟨h,g,gh,np⟩,d,r⟩⟩
 |true=>exact⟨H2,k1.lend hfr n,k1.gh,hfr,λG' H' vs es fl _ h _ _ _ r=>⟨G1,⟨h,.refl _,k1.gh.trans h,λ_ _ _ n=>n⟩,gD,r.flat (fl rfl)⟩⟩
noncomputable def dCG(l:Bool)(f:M (List D))(k:Nat)(s:D->UH->Option UH)(t:M Bool)(rd:RdB):M (List D):=λZ=>match f Z with
 |.bad=>.bad
 |.ok ds Z1=>match cT s t rd ds (Yy l Z1++Ux k none) []with
  |none=>.bad
  |some (es,_)=>if l=true->es.all flat=true then .ok es Z1 else .bad
theorem Oe{l:Bool}{f:M (List D)}{k:Nat}{s:D->UH->Option UH}{t:M Bool}{rd:RdB}{Z Z':UH}{es:List D}(h:dCG l f k s t rd Z=.ok es Z'):∃ds ZF,f Z=.ok ds Z'/\cT s t rd ds (Yy l Z'++Ux k none) []=some (es,ZF)/\(l=true->es.all flat=true):=by
 unfold dCG at h;cases zf:f Z with
 |bad=>rw[zf]at h;cases h
 |ok ds Z1=>
 rw[zf]at h;dsimp only at h;cases zl:cT s t rd ds (Yy l Z1++Ux k none) []with
 |none=>rw[zl]at h;cases h
 |some pr=>
 obtain⟨esF,ZF⟩:=pr;rw[zl]at h;dsimp only at h;split at h
 ·rename_i hf;cases h;exact⟨ds,ZF,rfl,zl,hf⟩
 ·cases h
section
variable{X:Cx}{B G0:Hp}{KX:XW}
def Yk(X:Cx)(N2:List Str)(scope:Scope)(e tg:Ur)(ifs:List Ur)(s:D->UH->Option UH)(t:M Bool)(rd:RdB):Prop:=
 ∀(cl:List (Str×Up))(C:Up)(s₀:Um)(H₀:Hp)(ex:List Up),(∀B' G',PG (X.blk N2 scope cl C s₀ H₀ ex) tg (tG X.K B' G' s))/\(∀B' G',Y3 (X.blk N2 scope cl C s₀ H₀ ex) ifs (tBo X.K B' G' t))/\Rf (X.blk N2 scope cl C s₀ H₀ ex) e 0 tg ifs rd
structure Sz(SC scope:Scope)(N1 N2:List Str)(k:Nat):Prop where
 b:RP scope.names N1 N2 k=true
 kind:scope.kind=.function
 cell:∀y∈scope.names,y.2≠.cell
 names:∀y∈scope.names,y.2=.local->scope.names.lookup y.1=some .local
 free:∀y∈scope.names,y.2=.free->SC.names.lookup y.1=some .cell∨SC.names.lookup y.1=some .free
theorem OE{l:Bool}{tg elt iter:Ur}{ifs:List Ur}{gs:List Comprehension}{scope:Scope}{pos pos':Pos}{N2:List Str}{k:Nat}{f:M (List D)}{s:D->UH->Option UH}{t:M Bool}{rd:RdB}{use:Option (Ul->Sem Unit)}{Qc:Ul->Um->Prop}(hc:X.calm=true)
  (hi:PI X tg iter (iD X.K B G0 f)) (hblk:Yk X N2 scope (.ListComp elt (⟨tg,iter,ifs,0⟩::gs) scope pos) tg ifs s t rd) (hb:Sz X.env.scope scope X.N N2 k) (hs:∀x,UK iter X.env x=pure x)
  {pins:List (Up×Obj)} {s0:Um} {σ:St} {G H:Hp} {Z Z1 ZF:UH} {ds esF:List D} (I:Inv X pins σ H s0) (k0:EOk X.K B G0 G H σ Z) (zf:f Z=.ok ds Z1) (zl:cT s t rd ds (Yy l Z1++Ux k none) []=some (esF,ZF)) (hfl:l=true->esF.all flat=true)
  (hfin:∀(C D:Up)(vs:List V)(G' H':Hp)(s4:Um)(m:Str->Option Ul),Inv X pins σ H' s4->s4.heap.Ns C m->H' C=none->C≠X.env.locals->X.s₀.heap.objs.size<=C->(∀x c,X.env.cells.lookup x=some c->c≠C)->(∀p∈X.pn++pins,p.1≠C) ->
   EOk X.K B G0 G' H' σ Z1->Same G G'->NewL X.K B G' H' σ Z1 D vs esF->compPost (model X.prog X.w) X.A X.xe use Qc (.ref D) C (.ok .next) s4) :
  Ut (model X.prog X.w) X.A (comprehension (.ListComp elt (⟨tg,iter,ifs,0⟩::gs) scope pos) scope X.env pos' (newList []) false (eval iter X.env) use) Qc X.xe s0:=by
 obtain⟨cl,hcl,cl1,cl2⟩:=jg (scope:=scope) (env:=X.env) λy hy hf=>I.ok.has y.1 (hb.free y hy hf)
 refine wpAny_comprehension_free (use:=use) rfl hs hcl hb.kind hb.names (thn (hi pins s0 σ H (λJ H1=>∃G1,EOk X.K B G0 G1 H1 σ Z1/\Same G G1/\Xf X.K J ds G1) I ⟨G,Z,k0,by rw[zf];exact λJ G1 H1 k1 s1 it=>⟨G1,k1,s1,it⟩⟩) λv s1 h1=>thn h1 λitv s2 h2=>?_);obtain⟨it,fp,tn,J,H2,rfl,I2,T,st2,f2,G1,k1,sg1,its⟩:=h2;refine wpAny_newObj_type (wpAny_newFunctionEnv hb.cell (by intro y hy;simp at hy) (λh₁ hns₁ hsb₁=>?_) hb.kind);dsimp only at hns₁ hsb₁⊢;have hfr:H2 s2.heap.objs.size=none:=I2.hok.fresh (Qr _)
 have I3:Inv X pins σ (upd H2 s2.heap.objs.size (.lst [])) {s2 with heap:=s2.heap.push {cls:=.type "list", dict:=none,data:=.seq ([]:List Ul).toArray}}:=
  I2.laid (t':=s2.toks) (λb u e=>Qk _ e) (Qr _) ⟨JI _,[],0,.nil,Qz _ rfl⟩
 generalize hP:s2.heap.push {cls:=.type "list", dict:=none,data:=.seq ([]:List Ul).toArray}=P at I3 hns₁ hsb₁⊢;have old:∀b o,s2.heap.get? b=some o->P.get? b=some o:=λb o e=>hP ▸ Qk _ e;have kept:∀b o,P.get? b=some o->h₁.get? b=some o:=λb o e=>hsb₁.extBut b o (QN (Qi e)) (Qk _ e);have fpo:∀b∈fp,∃o,s2.heap.get? b=some o:=λb hb=>let ⟨o,e,_⟩:=T.obj _ _ st2 b hb;⟨o,e⟩
 have fpD:∀b∈fp,b≠s2.heap.objs.size:=λb hb=>let ⟨o,e⟩:=fpo b hb;QN (Qi e)
 have f3:∀b∈fp,Zw X pins (upd H2 s2.heap.objs.size (.lst [])) b:=λb hb=>⟨by rw[KM (fpD b hb)];exact(f2 b hb).1,(f2 b hb).2⟩
 have I4:=I3.enter (scope:=scope) (cl:=cl) (N2:=N2) (k:=k) (fp:=fp) (t':=s2.toks+([]:List (Str×Ul)).length) hb.b hb.kind hb.cell hb.free cl1 cl2 hns₁ kept f3 (λb hb=>let ⟨o,e⟩:=fpo b hb;⟨o,old b o e⟩);dsimp only at I4;obtain⟨Gb,kb,sgb,gbD,ex⟩:=F5 l k1 hfr k;have sH:Same H2 (upd H2 s2.heap.objs.size (.lst [])):=Zn hfr;have hD3:upd H2 s2.heap.objs.size (.lst []) s2.heap.objs.size=some (.lst []):=Zc;generalize upd H2 s2.heap.objs.size (.lst [])=H3 at I3 I4 f3 kb sH hD3;generalize s2.heap.objs.size=D at *;have tn0:tn 0 h₁:=T.keep 0 _ _ st2 λb hb o e=>kept b o (old b o e)
 have stat:∀b∈fp,Zw (X.blk N2 scope cl P.objs.size {s2 with heap:=P} H3 fp) pins H3 b:=λb hb=>by
  obtain⟨z0,z1,z2,z3,z4,z5⟩:=f3 b hb;obtain⟨o,e⟩:=fpo b hb;refine⟨z0,QN (Qi (old b o e)),λz=>?_,.inl hb,λx c q=>z4 x c (cl1 x c q),z5⟩;rcases QP.mp (I3.stkSub b z)with q|q
  ·exact z1 q
  ·exact z2 q
 have neD:∀a o,H2 a=some o->a≠D:=λa o q z=>by subst z;rw[hfr]at q;cases q
 obtain⟨hg,ht,hcl'⟩:=hblk cl P.objs.size {s2 with heap:=P} H3 fp;obtain⟨W,rule,body⟩:=hcl' D (.ref it)
 have loop:=Lw (Y:=X.blk N2 scope cl P.objs.size {s2 with heap:=P} H3 fp) (D':=D) (R:=compPost (model X.prog X.w) X.A X.xe use Qc (.ref D) P.objs.size) rfl hc rule hg ht body I4 T tn0 stat kb
  ⟨λi G H s1 s2 hi=>its.go i G H (sgb.trans s1) s2 hi,λi G H s1 s2 hi=>its.stop i G H (sgb.trans s1) s2 hi,λi G H x H' d s1 s2 e y=>its.yld i G H x H' d (sgb.trans s1) s2 e y⟩ hD3 gbD .nil zl λσ' H' G' vs' s4 L=>by
   obtain⟨m,hm,_⟩:=id L.inv.loc;have I7:Inv X pins σ H' s4:=I3.call' (ch:=fp) L.inv.os L.inv.base L.inv.hok L.inv.bare λb hb=>⟨(f3 b hb).2.2.2.1,(f3 b hb).2.1,(f3 b hb).2.2.2.2.1,(f3 b hb).2.2.2.2.2⟩
   obtain⟨Gf,eF,dF,rF⟩:=ex G' H' vs' esF hfl L.gg (λa o q=>L.hh a o (neD a o q) (sH a o q)) L.eok.gh (λa o q z=>L.np a o (neD a _ q) (sH a _ q) z) L.gd L.rp
   refine hfin P.objs.size D vs' Gf H' s4 m I7 hm L.inv.free (JR I3.lt) I3.sz (λx c e z=>by obtain⟨_,q⟩:=I3.cell x c e;exact absurd q.lt (by rw[z];exact Jo _)) (λp hp z=>by have:=Qi (I3.pin p hp).1;exact absurd this (by rw[z];exact Jo _))
    (k1.ext eF) (sg1.trans eF.g) ⟨k1.bh.free hfr,dF,L.hd,rF,λj es' q z=>?_,λj pt d v fp q s r=>k1.freshD eF.h hfr q s r⟩
   obtain⟨a',ws,h1',h2',h3',h4',h5'⟩:=k1.own j es' q;rw[z]at h1';cases h1';rw[hfr]at h4';cases h4'
 exact codeAny_compStart_list loop (T.self X.A 0 _ _ _ tn0 loop)
theorem F4{l:Bool}{tg elt iter:Ur}{ifs:List Ur}{gs:List Comprehension}{scope:Scope}{pos:Pos}{N2:List Str}{k:Nat}{f:M (List D)}{s:D->UH->Option UH}{t:M Bool}{rd:RdB}(hc:X.calm=true)
  (hi:PI X tg iter (iD X.K B G0 f)) (hblk:Yk X N2 scope (.ListComp elt (⟨tg,iter,ifs,0⟩::gs) scope pos) tg ifs s t rd) (hb:Sz X.env.scope scope X.N N2 k) (hs:∀x,UK iter X.env x=pure x:=by intro _;rfl) :
  PE X (.ListComp elt (⟨tg,iter,ifs,0⟩::gs) scope pos) (tL X.K B G0 (dCG l f k s t rd)):=by
 intro pins s0 σ H Q I ⟨G,Z,k0,a⟩;cases z:dCG l f k s t rd Z with
 |bad=>rw[z]at a;exact a.elim
 |ok es Z1=>
 rw[z]at a;obtain⟨ds,ZF,zf,zl,hfl⟩:=Oe z;rw[eval_ListComp];refine OE hc hi hblk hb hs I k0 zf zl hfl λC D vs G' H' s4 m I7 hm hC hL hz hcl hp k' s' n=>?_
 exact⟨m,hm,λh' sb=>⟨.ref D,H',I7.turned (t':=s4.toks) (it:=C) (λb o hb e=>(sb.2 b hb).trans e) hC hL (.inr hz) hcl hp,rfl,a D vs G' H' k' s' n⟩⟩
theorem sD_g{l:Bool}{y:Str}{j:Nat}{py:Pos}{spos:Pos}{tg elt iter:Ur}{ifs:List Ur}{gs:List Comprehension}{scope:Scope}{pos:Pos}{N2:List Str}{k:Nat}{f:M (List D)}{s:D->UH->Option UH}{t:M Bool}{rd:RdB}(hN:X.N.Nodup)(hj:X.N[j]?=some y)(hy:X.env.scope.names.lookup y=some .local)(hc:X.calm=true)
  (hi:PI X tg iter (iD X.K B G0 f)) (hblk:Yk X N2 scope (.ListComp elt (⟨tg,iter,ifs,0⟩::gs) scope pos) tg ifs s t rd) (hb:Sz X.env.scope scope X.N N2 k) (hs:∀x,UK iter X.env x=pure x:=by intro _;rfl)
  (hsw:swapsWith (.ListComp elt (⟨tg,iter,ifs,0⟩::gs) scope pos) (some (.Name y py)) spos.line X.env=pure true:=by rfl) :
  PS X (.Assign [.Name y py] (.ListComp elt (⟨tg,iter,ifs,0⟩::gs) scope pos) spos) (tS X.K B G0 KX (K8 j (dCG l f k s t rd))):=by
 intro pins s0 σ H Dn I ⟨G,Z,k0,a⟩;unfold K8 sB at a;cases z:dCG l f k s t rd Z with
 |bad=>rw[z]at a;exact a.elim
 |ok es Z1=>
 rw[z]at a;dsimp only at a;by_cases hl:j<Z1.length
 ·rw[Qp hl]at a;obtain⟨ds,ZF,zf,zl,hfl⟩:=Oe z;rw[exec_Assign_Name_used _ _ _ _ hsw];refine Qd (Js (Qd ?_));show Ut _ X.A (do let _ ←comprehension (.ListComp elt (⟨tg,iter,ifs,0⟩::gs) scope pos) scope X.env _ (newList []) false (eval iter X.env) (some (assign (.Name y py) X.env))) _ _ s0;refine Qd (QH (OE (use:=some (assign (.Name y py) X.env)) (Qc:=λ_ s'=>SP X pins Dn .next s') hc hi hblk hb hs I k0 zf zl hfl λC D vs G' H' s4 m I7 hm hC hL hz hcl hp k' s' n=>?_) (λ_ s' hq=>Qh (Qh hq)) λ_ _ e=>e);show Ut _ X.A (assign (.Name y py) X.env (.ref D)) _ _ s4;refine wpAny_assign_Name (O2 I7 hN hj (.inl hy) (v:=.ref D) rfl (λs5 I8 ⟨ad,sb,hx⟩=>?_) (.inr hy))
  have hCa:C≠ad:=by
   rcases hx with e|e
   ·rw[e];exact hL
   ·exact Ne.symm (hcl y ad e)
  refine⟨m,hm.sameBut sb hCa,λh' sb'=>⟨_,H',I8.turned (t':=s5.toks) (it:=C) (λb o hb e=>(sb'.2 b hb).trans e) hC hL (.inr hz) hcl hp,?_⟩⟩;exact a _ G' H' (k'.setOwn n hl) s'
 ·rw[QB hl]at a;exact a.elim
theorem F3{K:Frag}{f f':M (List D)}(h:∀Z es Z',f Z=.ok es Z'->f' Z=.ok es Z'){σ:St}{H:Hp}{Q:VK}(q:tL K B G0 f σ H Q):tL K B G0 f' σ H Q:=by
 obtain⟨G,Z,k,a⟩:=q;refine⟨G,Z,k,?_⟩;cases z:f Z with
 |bad=>rw[z]at a;exact a.elim
 |ok es Z'=>rw[z]at a;rw[h Z es Z' z];exact a
theorem Mb{K:Frag}{f f':M (List D)}{j:Nat}(h:∀Z es Z',f Z=.ok es Z'->f' Z=.ok es Z'){Dn:_}{σ:St}{H:Hp}(q:tS K B G0 KX (K8 j f) Dn σ H):tS K B G0 KX (K8 j f') Dn σ H:=by
 obtain⟨G,Z,k,a⟩:=q;refine⟨G,Z,k,?_⟩;unfold K8 sB at a⊢;cases z:f Z with
 |bad=>rw[z]at a;exact a.elim
 |ok es Z'=>rw[z]at a;rw[h Z es Z' z];exact a
end
theorem Pm{s:D->UH->Option UH}{t:M Bool}{g:M D}:∀{ds:List D}{Z:UH}{es esF:List D},KY s t g ds Z es=some esF->∃ZF,cT s t (rL g) ds Z es=some (esF,ZF)
 |[],Z,es,esF,h=>by rw[KY]at h;cases h;exact⟨Z,rfl⟩
 |d::r,Z,es,esF,h=>by
  rw[KY]at h;rw[cT];cases zs:s d Z with
  |none=>rw[zs]at h;cases h
  |some Z1=>
  rw[zs]at h;dsimp only at h⊢;cases zt:t Z1 with
  |bad=>rw[zt]at h;cases h
  |ok b Z2=>
  rw[zt]at h;dsimp only at h⊢;cases b with
  |false=>exact Pm (ds:=r) h
  |true=>
   rw[Qp rfl]at h⊢;unfold rL;cases zg:g Z2 with
   |bad=>rw[zg]at h;cases h
   |ok e Z3=>
   rw[zg]at h;dsimp only at h⊢;split at h
   ·rename_i hl;rw[Qp hl];exact Pm (ds:=r) h
   ·cases h
theorem PH{s:D->UH->Option UH}{t:M Bool}{g:M D}:∀{ds:List D}{Z:UH}{es:List D},YJ s t g ds Z es=cT s t (rL g) ds Z es
 |[],Z,es=>rfl
 |d::r,Z,es=>by
  rw[YJ,cT];cases s d Z with
  |none=>rfl
  |some Z1=>
  dsimp only;cases t Z1 with
  |bad=>rfl
  |ok b Z2=>
  dsimp only;cases b with
  |false=>exact PH (ds:=r)
  |true=>
   rw[Qp rfl,Qp rfl];unfold rL;cases g Z2 with
   |bad=>rfl
   |ok e Z3=>
   dsimp only;split
   ·exact PH (ds:=r)
   ·rfl
theorem Pz{s s1:D->UH->Option UH}{t t1:M Bool}{f:M (List D)}{Rd:List D->UH->List D->Option (List D×UH)}{rd:RdB}(hR:∀ds Z es,Rd ds Z es=cT s1 t1 rd ds Z es) :
  ∀{ds:List D}{Z:UH}{es:List D},Xa s t f Rd ds Z es=cT s t (rN f s1 t1 rd) ds Z es
 |[],Z,es=>rfl
 |d::r,Z,es=>by
  rw[Xa,cT];cases s d Z with
  |none=>rfl
  |some Z1=>
  dsimp only;cases t Z1 with
  |bad=>rfl
  |ok b Z2=>
  dsimp only;cases b with
  |false=>exact Pz hR (ds:=r)
  |true=>
   rw[Qp rfl,Qp rfl];unfold rN;cases f Z2 with
   |bad=>rfl
   |ok ds Z3=>
   dsimp only;rw[hR];cases cT s1 t1 rd ds (Kl Z3) es with
   |none=>rfl
   |some pr=>exact Pz hR (ds:=r)
theorem OZ{s s1:D->UH->Option UH}{t t1:M Bool}{f:M (List D)}{g:M D}:∀{ds:List D}{Z:UH}{es esF:List D},XH s t f s1 t1 g ds Z es=some esF->∃ZF,cT s t (rN f s1 t1 (rL g)) ds Z es=some (esF,ZF)
 |[],Z,es,esF,h=>by rw[XH]at h;cases h;exact⟨Z,rfl⟩
 |d::r,Z,es,esF,h=>by
  rw[XH]at h;rw[cT];cases zs:s d Z with
  |none=>rw[zs]at h;cases h
  |some Z1=>
  rw[zs]at h;dsimp only at h⊢;cases zt:t Z1 with
  |bad=>rw[zt]at h;cases h
  |ok b Z2=>
  rw[zt]at h;dsimp only at h⊢;cases b with
  |false=>exact OZ (ds:=r) h
  |true=>
   rw[Qp rfl]at h⊢;unfold rN;cases zg:f Z2 with
   |bad=>rw[zg]at h;cases h
   |ok ds Z3=>
   rw[zg]at h;dsimp only at h⊢;rw[←PH];cases zl:YJ s1 t1 g ds (Kl Z3) es with
   |none=>rw[zl]at h;cases h
   |some pr=>rw[zl]at h;exact OZ (ds:=r) h
theorem Lv{f:M (List D)}{k:Nat}{s:D->UH->Option UH}{t:M Bool}{g:M D}(Z:UH)(es:List D)(Z':UH)(h:Zt f k s t g Z=.ok es Z'):dCG false f k s t (rL g) Z=.ok es Z':=by
 unfold Zt at h;unfold dCG;cases zf:f Z with
 |bad=>rw[zf]at h;cases h
 |ok ds Z1=>
 rw[zf]at h;dsimp only[Yy]at h⊢;cases zl:KY s t g ds (Kl Z1++Ux k none) []with
 |none=>rw[zl]at h;cases h
 |some esF=>
 rw[zl]at h;cases h;obtain⟨ZF,e⟩:=Pm zl;rw[e];exact Qp λz=>by cases z
theorem AZ{f:M (List D)}{k:Nat}{s:D->UH->Option UH}{t:M Bool}{g:M D}(Z:UH)(es:List D)(Z':UH)(h:Rt f k s t g Z=.ok es Z'):dCG true f k s t (rL g) Z=.ok es Z':=by
 unfold Rt at h;unfold dCG;cases zf:f Z with
 |bad=>rw[zf]at h;cases h
 |ok ds Z1=>
 rw[zf]at h;dsimp only[Yy]at h⊢;cases zl:KY s t g ds (ZA Z1++Ux k none) []with
 |none=>rw[zl]at h;cases h
 |some esF=>
 rw[zl]at h;dsimp only at h;split at h
 ·rename_i hf;cases h;obtain⟨ZF,e⟩:=Pm zl;rw[e];exact Qp λ_=>hf
 ·cases h
theorem AY{f f1:M (List D)}{k:Nat}{s s1:D->UH->Option UH}{t t1:M Bool}{g:M D}(Z:UH)(es:List D)(Z':UH)(h:Rs f k s t f1 s1 t1 g Z=.ok es Z'):dCG false f k s t (rN f1 s1 t1 (rL g)) Z=.ok es Z':=by
 unfold Rs at h;unfold dCG;cases zf:f Z with
 |bad=>rw[zf]at h;cases h
 |ok ds Z1=>
 rw[zf]at h;dsimp only[Yy]at h⊢;cases zl:XH s t f1 s1 t1 g ds (Kl Z1++Ux k none) []with
 |none=>rw[zl]at h;cases h
 |some esF=>
 rw[zl]at h;cases h;obtain⟨ZF,e⟩:=OZ zl;rw[e];exact Qp λz=>by cases z
theorem AX{f f1 f2:M (List D)}{k:Nat}{s s1 s2:D->UH->Option UH}{t t1 t2:M Bool}{g:M D}(Z:UH)(es:List D)(Z':UH)(h:Rr f k s t f1 s1 t1 f2 s2 t2 g Z=.ok es Z'):dCG false f k s t (rN f1 s1 t1 (rN f2 s2 t2 (rL g))) Z=.ok es Z':=by
 unfold Rr at h;unfold dCG;cases zf:f Z with
 |bad=>rw[zf]at h;cases h
 |ok ds Z1=>
 rw[zf]at h;dsimp only[Yy,V5]at h⊢;rw[Pz λ_ _ _=>Pz λ_ _ _=>PH]at h;cases zl:cT s t (rN f1 s1 t1 (rN f2 s2 t2 (rL g))) ds (Kl Z1++Ux k none) []with
 |none=>rw[zl]at h;cases h
 |some pr=>
 rw[zl]at h;cases h;exact Qp λz=>by cases z
noncomputable def Vu(q:Option NameKind->Bool)(SC scope:Scope)(N1 N2:List Str)(k:Nat):Bool:=
 RP scope.names N1 N2 k&&decide (scope.kind=.function)&&scope.names.all λy=>match y.2 with
  |.cell=>false
  |.local=>decide (scope.names.lookup y.1=some .local)
  |.free=>q (SC.names.lookup y.1)
  |_=>true
noncomputable def Sy:Option NameKind->Bool
 |some .cell=>true|some .free=>true|_=>false
theorem jf{q:Option NameKind->Bool}{SC SC' scope:Scope}{N1 N2:List Str}{k:Nat}(h:Vu q SC scope N1 N2 k=true)(f:∀x,q (SC.names.lookup x)=true->SC'.names.lookup x=some .cell∨SC'.names.lookup x=some .free):Sz SC' scope N1 N2 k:=by
 unfold Vu at h;rw[Jp,Jp,Q2]at h;obtain⟨⟨h1,h2⟩,h3⟩:=h;refine⟨h1,Qa h2,λy hy e=>?_,λy hy e=>?_,λy hy e=>?_⟩
 ·have:=h3 y hy;rw[e]at this;cases this
 ·have:=h3 y hy;rw[e]at this;exact Qa this
 ·have:=h3 y hy;rw[e]at this;exact f _ this
theorem Od{SC scope:Scope}{N1 N2:List Str}{k:Nat}(h:Vu Sy SC scope N1 N2 k=true):Sz SC scope N1 N2 k:=jf h λx e=>by
 cases z:SC.names.lookup x with
 |none=>rw[z]at e;cases e
 |some y=>rw[z]at e;cases y<;>first|exact .inl rfl|exact .inr rfl|cases e
section
variable{X:Cx}{B G0:Hp}{KX:XW}
theorem F2{l:Bool}{tg elt iter:Ur}{ifs:List Ur}{gs:List Comprehension}{scope:Scope}{pos:Pos}{f:M (List D)}{s:D->UH->Option UH}{t:M Bool}{rd:RdB}{F:M (List D)}(SC:Scope)(N1 N2:List Str)(k:Nat)(le:∀Z es Z',F Z=.ok es Z'->dCG l f k s t rd Z=.ok es Z')(hc:X.calm=true)
  (hi:PI X tg iter (iD X.K B G0 f)) (hblk:Yk X N2 scope (.ListComp elt (⟨tg,iter,ifs,0⟩::gs) scope pos) tg ifs s t rd) (h1:X.env.scope=SC) (h2:X.N=N1) (hb:Vu Sy SC scope N1 N2 k=true) (hs:∀x,UK iter X.env x=pure x:=by intro _;rfl) :
  PE X (.ListComp elt (⟨tg,iter,ifs,0⟩::gs) scope pos) (tL X.K B G0 F):=
 Ks (F4 hc hi hblk (by rw[h1,h2];exact Od hb) hs) λ_ _ _ q=>F3 le q
theorem sD_1{l:Bool}{y:Str}{j:Nat}{py:Pos}{spos:Pos}{tg elt iter:Ur}{ifs:List Ur}{gs:List Comprehension}{scope:Scope}{pos:Pos}{f:M (List D)}{s:D->UH->Option UH}{t:M Bool}{rd:RdB}{F:M (List D)}(SC:Scope)(N1 N2:List Str)(k:Nat)(le:∀Z es Z',F Z=.ok es Z'->dCG l f k s t rd Z=.ok es Z')(hN:X.N.Nodup)(hj:X.N[j]?=some y)(hy:X.env.scope.names.lookup y=some .local)(hc:X.calm=true)
  (hi:PI X tg iter (iD X.K B G0 f)) (hblk:Yk X N2 scope (.ListComp elt (⟨tg,iter,ifs,0⟩::gs) scope pos) tg ifs s t rd) (h1:X.env.scope=SC) (h2:X.N=N1) (hb:Vu Sy SC scope N1 N2 k=true) (hs:∀x,UK iter X.env x=pure x:=by intro _;rfl)
  (hsw:swapsWith (.ListComp elt (⟨tg,iter,ifs,0⟩::gs) scope pos) (some (.Name y py)) spos.line X.env=pure true:=by rfl) :
  PS X (.Assign [.Name y py] (.ListComp elt (⟨tg,iter,ifs,0⟩::gs) scope pos) spos) (tS X.K B G0 KX (K8 j F)):=
 Zv (sD_g hN hj hy hc hi hblk (by rw[h1,h2];exact Od hb) hs hsw) λ_ _ _ q=>Mb le q
end
theorem BH{f:M (List D)}{k:Nat}{s s1' s2':D->UH->Option UH}{t t1' t2':M Bool}{f1 f2:M (List D)}{g:M D}{Z Z1 Z2:UH}{ds es:List D}(h1:f Z=.ok ds Z1)(h2:Xa s t f1 (Xa s1' t1' f2 (YJ s2' t2' g)) ds (Kl Z1++Ux k none) []=some (es,Z2)) :
  Rr f k s t f1 s1' t1' f2 s2' t2' g Z=.ok es Z1:=by
 unfold Rr;rw[h1];dsimp only[V5];rw[h2];rfl
section
variable{X:Cx}{B G0:Hp}{e a b c tg:Ur}{pos:Pos}{es rest:List Ur}
theorem EOk.given{K:Frag}{G H:Hp}{σ:St}{Z:UH}{a:Up}{vs:List V}{ds:List D}(k:EOk K B G0 G H σ Z)(n:NewL K B G H σ Z a vs ds):EOk K B G0 (upd G a (.lst vs)) H σ Z where
 bh:=k.bh
 gh:=λb u q=>by
  by_cases z:b=a
  ·subst z;rw[Zc]at q;cases q;exact n.h
  ·rw[KM z]at q;exact k.gh b u q
 g0:=k.g0.trans (Zn n.g)
 np:=λb o q z=>by
  have zb:b≠a:=λz=>by subst z;rw[n.b]at q;cases q
  rw[KM zb];exact k.np b o q z
 len:=k.len
 pub:=λi d q=>let ⟨v,h1,h2⟩:=k.pub i d q;⟨v,h1,h2.mono (Zn n.g)⟩
 own:=λi ds q=>by
  obtain⟨b,ws,h1,h2,h3,h4,h5⟩:=k.own i ds q;have zb:b≠a:=λz=>by subst z;exact n.f i ds q h1
  exact⟨b,ws,h1,h2,by rw[KM zb];exact h3,h4,h5.mono (Zn n.g)⟩
 sep:=k.sep
 dp:=k.dp.map (λ_ _ _ q=>⟨q,rfl⟩) (λ_ ds q=>⟨ds,q,rfl⟩) λi p d v fp q s r w nn=>⟨r.mono (Zn n.g) (.refl _),λb m=>⟨(w b m).1,by rw[KM (λz=>n.dp i p d v fp q s r (by rw[←z];exact m))];exact(w b m).2⟩⟩
theorem Dl{f:M (List D)}(h:PE X e (tL X.K B G0 f)):PE X e (tD X.K B G0 (UZ Uy f)):=
 Ks h λσ H Q ⟨G,Z,k,a⟩=>by
  refine⟨G,Z,k,?_⟩;unfold UZ Kb at a;cases z:f Z with
  |bad=>rw[z]at a;exact a.elim
  |ok ds Z1=>rw[z]at a;intro ad vs G' H' k' s' n;exact a (.ref ad) _ H' (k'.given n) (s'.trans (Zn n.g)) (.lst (SqL.of Zc) (n.r.mono (Zn n.g)))
theorem BG(hc:X.calm=true):YB X (.builtin "all") (λxs H Q=>∃l,∃bs:List Bool,xs=[.ref l]/\SqL X.K H l (bs.map V.bl)/\Q (.bl (bs.all id)) H):=by
 intro pins s σ H xs us Q I rx h;obtain⟨l,bs,rfl,hq,q⟩:=h;obtain⟨u,rfl,ru⟩:=rx.one;cases ru;obtain⟨its,rv,p,hz⟩:=I.list hq;have hl:=p.isList;have hlt:l<s.heap.objs.size:=by obtain⟨_,e,_⟩:=id hl;exact Qi e
 have key:∀(i:Nat) v,its.toArray[i]?=some v->∃t,bs[i]?=some t/\v=.bool t:=λi v e=>by
  have e:its[i]?=some v:=by simpa using e
  have hi:i<bs.length:=by have:=(Qg.mp e).1;have h2:=rv.length;rw[Qb]at h2;omega
  obtain⟨u,e2,r2⟩:=rv.get (i:=i) (x:=.bl bs[i]) (by rw[Qe,Qf hi];rfl);rw[e]at e2;cases e2;exact⟨bs[i],Qf hi,r2⟩
 refine call_all_walk (JG hl ?_)
 refine⟨s.heap.objs.size,[s.heap.objs.size,l],[s.heap.objs.size],its.toArray.size,_,_,λi=>(bs[i]?).getD true,rfl,Walks.list (A:=X.A.in1) (I.ok.hd hc) _ l (QN hlt) its.toArray,
  ⟨⟨_,Qz _ rfl,rfl,rfl⟩,hl.push _⟩,λi v s' Q' E' hP hQ=>?_,λh' tk hk=>?_⟩
 ·obtain⟨b,e,rfl⟩:=key i v hP;simp only[e,JW]at hQ;exact Q3 hQ
 ·have hn:its.toArray.size=bs.length:=by have:=rv.length;rw[List.length_map]at this;simp;omega
  have e:((Uw its.toArray.size).all λi=>(bs[i]?).getD true)=bs.all id:=by
   rw[hn,Bool.eq_iff_iff,Q2,Q2];constructor
   ·intro h b hb;obtain⟨i,hi,e⟩:=List.getElem_of_mem hb;have:=h i (Q7.mpr hi);simp only[Qf hi,JW,e]at this;exact this
   ·intro h i hi;have hi':=Q7.mp hi;simp only[Qf hi',JW];exact h _ (JX hi')
  rw[e];exact⟨.bl (bs.all id),H,I.kept (t':=tk) λb x e=>hk b x (λhm=>by rw[QZ.mp hm]at e;exact Jo _ (Qi e)) (Qk _ e),rfl,q⟩
noncomputable def VA:List D->Option (List Bool)
 |[]=>some []
 |.bool b::r=>(VA r).map (b :: ·)
 |_=>none
theorem Gz{K:Frag}{G:Hp}:∀{vs:List V}{ds:List D}{bs:List Bool},Reps K G vs ds->VA ds=some bs->vs=bs.map V.bl
 |_,_,bs,.nil,e=>by cases e;rfl
 |_,_,bs,.cons (d:=d) r t,e=>by
  cases d with
  |bool b=>
   unfold VA at e;cases z:VA _ with
   |none=>rw[z]at e;cases e
   |some cs=>rw[z]at e;cases e;rw[r.bl_inv,Gz t z];rfl
  |_=>cases e
noncomputable def Yh:List D->Option D
 |[.list ds]=>(VA ds).map λbs=>.bool (bs.all id)
 |_=>none
theorem F1(hc:X.calm=true):YG X (.builtin "all") Yh:=by
 refine⟨_,BG hc,λvs G H ds d Q s r e k=>?_⟩;unfold Yh at e;split at e
 ·rename_i ds;cases z:VA ds with
  |none=>rw[z]at e;cases e
  |some bs=>rw[z]at e;cases e;obtain⟨v,rfl,q⟩:=r.one_inv;obtain⟨l,ws,rfl,h1,r1⟩:=q.lst_inv;have hw:=Gz r1 z;subst hw;exact⟨l,bs,rfl,s.seq h1,k _ G H (.refl s) (.bl _)⟩
 ·cases e
noncomputable def Its(x:Str):It:=⟨λi _=>i<x.cps.size,λi H v H'=>H'=H/\∃c,x.cps[i]?=some c/\v=.str ⟨#[c]⟩,λi _=>x.cps.size<=i⟩
theorem BF{P:Uo}{w:World}{K:Frag}{tg:Ur}(x:Str)(t:Tok)(it:Up):Turn P w K tg (Its x) [it] it (λi h=>h.IsStrIter it (strIterType x) x t i) where
 mem:=by simp
 obj:=λi h st b hb=>by
  have e:b=it:=by simpa using hb
  subst e;obtain⟨o,e,c,d⟩:=st;exact⟨o,e,λv z=>by rw[d]at z;cases z⟩
 keep:=λi h h' st k=>by obtain⟨o,e,c,d⟩:=st;exact⟨o,k it (by simp) o e,c,d⟩
 item:=by
  intro X hP hw hK hc i pins s σ H E I hf st hg;subst hP hw hK;obtain⟨f0,f1,f2,f3,f4,f5⟩:=hf it (by simp);have hx:x.cps[i]?=some x.cps[i]:=Jr hg
  have fin:∀h' tk(T:String),strIterType x=T->h'.IsStrIter it T x t (i+1)->Heap.SameBut it s.heap h'->["enumerate", "zip", "dict_itemiterator", "dict_reverseitemiterator", "odict_iterator", "itertools.zip_longest", "itertools.pairwise"].contains T=false ->
    ∃u,some (Value.str ⟨#[x.cps[i]]⟩ s.toks)=some u/\Ut (model X.prog X.w) X.A (letOwnedTupleGo tg (.ref it) u) (λ_ s2=>∃v H',Inv X pins σ H' s2/\RelV v u/\(Its x).yld i H v H'/\s2.heap.IsStrIter it (strIterType x) x t (i+1)/\∀b∈[it],H' b=none) E {s with heap:=h',toks:=tk}:=by
   intro h' tk T eT st' sb hn;have I1:Inv X pins σ H {s with heap:=h',toks:=tk}:=I.turned (t':=tk) (λb o hb e=>(sb.2 b hb).trans e) f0 f1 f3 f4 f5;obtain⟨o,e,c,d⟩:=id st';refine⟨_,rfl,Rm (s:={s with heap:=h',toks:=tk}) e c d hn ⟨.str ⟨#[x.cps[i]]⟩,H,I1,⟨_,rfl⟩,⟨rfl,_,hx,rfl⟩,by rw[eT];exact st',λb hb=>(hf b hb).1⟩⟩
  cases ha:x.cps.all (· < 128)with
  |true=>
   have eT:strIterType x = "str_ascii_iterator" :=by simp[strIterType,ha]
   rw[eT]at st;exact wpAny_pyNext_ascii_item st hx λh' st' sb=>fin h' _ _ eT st' sb (by decide)
  |false=>
   have eT:strIterType x = "str_iterator" :=by simp[strIterType,ha]
   rw[eT]at st;exact wpAny_pyNext_wide_item st hx λh' st' sb=>fin h' _ _ eT st' sb (by decide)
 done:=by
  intro X hP hw hK hc i pins s σ H E I hf st hg;subst hP hw hK;obtain⟨f0,f1,f2,f3,f4,f5⟩:=hf it (by simp);have hx:x.cps[i]?=none:=Array.getElem?_eq_none hg;cases ha:x.cps.all (· < 128)with
  |true=>
   have eT:strIterType x = "str_ascii_iterator" :=by simp[strIterType,ha]
   rw[eT]at st;exact wpAny_pyNext_ascii_end (I.ok.hd hc) st hx λh' eb=>⟨rfl,I.turned (t':=s.toks) (λb o hb e=>eb b o hb e) f0 f1 f3 f4 f5⟩
  |false=>
   have eT:strIterType x = "str_iterator" :=by simp[strIterType,ha]
   rw[eT]at st;exact wpAny_pyNext_wide_end (I.ok.hd hc) st hx λh' eb=>⟨rfl,I.turned (t':=s.toks) (λb o hb e=>eb b o hb e) f0 f1 f3 f4 f5⟩
 self:=λA i s Q E st h=>by
  cases ha:x.cps.all (· < 128)with
  |true=>
   have eT:strIterType x = "str_ascii_iterator" :=by simp[strIterType,ha]
   rw[eT]at st;exact wpAny_pyIter_striter_ascii st h
  |false=>
   have eT:strIterType x = "str_iterator" :=by simp[strIterType,ha]
   rw[eT]at st;exact wpAny_pyIter_striter_wide st h
noncomputable def iAny(K:Frag)(tl:TE):TI:=λσ H R=>tl σ H λx H1=>(∃a,x=.ref a/\(∃xs,SqL K H1 a xs)/\R (Itl K a) H1)∨(∃a,x=.ref a/\(∃xs,SqT K H1 a xs)/\R (Itt K a) H1) ∨ ∃z,x=.str z/\R (Its z) H1
theorem EF{l:Ur}{tl:TE}(hl:PE X l tl):PI X tg l (iAny X.K tl):=by
 intro pins s σ H R I h;refine thn (hl pins s σ H _ I h) λv s1 ⟨x,H1,I1,r1,q1⟩=>?_
 have fpOk:∀b∈[s1.heap.objs.size],Zw X pins H1 b:=λb hb=>by
  have e:b=s1.heap.objs.size:=by simpa using hb
  subst e;exact I1.fpOk (Qr _) (I1.hok.fresh (Qr _))
 rcases q1 with ⟨a,e,⟨xs,hq⟩,q⟩|⟨a,e,⟨xs,hq⟩,q⟩|⟨z,e,q⟩
 ·subst e;cases r1;obtain⟨its,rv,p,hz⟩:=I1.list hq;refine JG p.isList ?_;exact⟨s1.heap.objs.size,[s1.heap.objs.size],_,_,H1,rfl,I1.kept (t':=s1.toks) λb o e=>Qk _ e,qB a _,⟨_,Qz _ rfl,rfl,rfl⟩,fpOk,q⟩
 ·subst e;cases r1;obtain⟨its,rv,p,hz⟩:=I1.tuple hq;refine wpAny_pyIter_tuple p ?_;exact⟨s1.heap.objs.size,[s1.heap.objs.size],_,_,H1,rfl,I1.kept (t':=s1.toks) λb o e=>Qk _ e,q9 a _,⟨_,Qz _ rfl,rfl,rfl⟩,fpOk,q⟩
 ·subst e;obtain⟨t,rfl⟩:=r1;refine wpAny_pyIter_strU ?_;exact⟨s1.heap.objs.size,[s1.heap.objs.size],_,_,H1,rfl,I1.kept (t':=s1.toks) λb o e=>Qk _ e,BF z t _,⟨_,Qz _ rfl,rfl,rfl⟩,fpOk,q⟩
noncomputable def Rq(z:Str):List D:=z.cps.toList.map λc=>.str ⟨#[c]⟩
noncomputable def Oc:D->Option (List D)
 |.list ds=>some ds
 |.tuple ds=>some ds
 |.str z=>some (Rq z)
 |_=>none
theorem jo{K:Frag}{G1:Hp}{ad:Up}{vs:List V}{ds:List D}(h:SqT K G1 ad vs)(r:Reps K G1 vs ds):Xf K (Itt K ad) ds G1 where
 go:=λi G H s1 s2 hi=>by
  have hi':i<vs.length:=by rw[r.length];exact hi
  exact⟨vs,vs[i],YQ (s1.trans s2) h,Qf hi'⟩
 stop:=λi G H s1 s2 hi=>⟨vs,YQ (s1.trans s2) h,by rw[r.length];exact hi⟩
 yld:=λi G H x H' d s1 s2 e y=>by obtain⟨rfl,y⟩:=y;obtain⟨v,e1,r1⟩:=r.get e;have:=y vs (YQ (s1.trans s2) h);rw[e1]at this;cases this;exact⟨G,.refl s2,r1.mono s1⟩
theorem AW{K:Frag}{G1:Hp}{z:Str}:Xf K (Its z) (Rq z) G1 where
 go:=λi G H s1 s2 hi=>by unfold Rq at hi;simpa[Its]using hi
 stop:=λi G H s1 s2 hi=>by unfold Rq at hi;simpa[Its]using hi
 yld:=λi G H x H' d s1 s2 e y=>by
  obtain⟨rfl,c,hc,rfl⟩:=y;unfold Rq at e;rw[Qe]at e;have:z.cps.toList[i]?=some c:=by simpa using hc
  rw[this]at e;cases e;exact⟨G,.refl s2,.str _⟩
noncomputable def KQ(f:M D):M (List D):=Kb f λx=>U9 (Oc x)
theorem R6{f:M D}(h:PE X e (tD X.K B G0 f)):PI X tg e (iD X.K B G0 (KQ f)):=YY (EF h) λσ H R q=>tM.toI (R0:=Rep X.K) q λv H' G' Z' x k r a=>by
 cases x with
 |list ds=>obtain⟨ad,vs,rfl,h1,r1⟩:=r.lst_inv;exact .inl ⟨ad,rfl,⟨vs,k.gh.seq h1⟩,a _ G' H' k (.refl _) (qV h1 r1)⟩
 |tuple ds=>obtain⟨ad,vs,rfl,h1,r1⟩:=r.tup_inv;exact .inr (.inl ⟨ad,rfl,⟨vs,YQ k.gh h1⟩,a _ G' H' k (.refl _) (jo h1 r1)⟩)
 |str z=>have:=r.str_inv;subst this;exact .inr (.inr ⟨z,rfl,a _ G' H' k (.refl _) AW⟩)
 |_=>exact a.elim
noncomputable def inS(i j:Str):Bool:=!(Builtin.Str.occurrences j i 0 j.length 1).isEmpty
noncomputable def oInS:D->D->Option Bool
 |.str i,.str j=>some (inS i j)
 |_,_=>none
noncomputable def NC:D->D->Option Bool
 |.str i,.str j=>some (!inS i j)
 |_,_=>none
theorem F0:OpB X (Uv .In) oInS:=⟨_,qx,λv u G H x y d Q s rx ry e k=>by
 unfold oInS at e;split at e
 ·cases e;have:=rx.str_inv;subst this;have:=ry.str_inv;subst this;exact⟨_,_,rfl,rfl,k⟩
 ·cases e⟩
theorem EE:OpB X (Uv .NotIn) NC:=⟨_,j6,λv u G H x y d Q s rx ry e k=>by
 unfold NC at e;split at e
 ·cases e;have:=rx.str_inv;subst this;have:=ry.str_inv;subst this;exact⟨_,_,rfl,rfl,k⟩
 ·cases e⟩
theorem FZ{x:Str}{i:Int}(hg:Gl X x)(hm:∃t,X.mg x=some (.int i t))(hd:(x==("__debug__" : Str))=false:=by decide):PE X (.Name x pos) (tD X.K B G0 (UO (.int i))):=by obtain⟨t,hm⟩:=hm;exact Ks (Lf (v:=.int i) hg hm ⟨t,rfl⟩ hd) λσ H Q ⟨G,Z,k,a⟩=>aft.now a k (.int _)
end
section
variable{X:Cx}{B G0:Hp}{KX:XW}{e o a b c tg i:Ur}{pos p2:Pos}{es rest:List Ur}{te to ti:TE}
noncomputable def ED(te to ti:TE):TS:=λD σ H=>te σ H λv H1=>to σ H1 λx H2=>ti σ H2 λk H3=>∃l xs n,x=.ref l/\H3 l=some (.lst xs)/\k=.int n/\0<=n/\n<xs.length/\D.nx σ (upd H3 l (.lst (xs.set n.toNat v)))
theorem Aa(he:PE X e te)(ho:PE X o to)(hi:PE X i ti)(hs:swapsWith e (some (.Subscript o i p2)) pos.line X.env=pure false:=by rfl):PS X (.Assign [.Subscript o i p2] e pos) (ED te to ti):=by
 intro pins s σ H D I h;refine wpAny_Assign_Subscript (thn (he pins s σ H _ I h) λv s1 ⟨x,H1,I1,r1,q1⟩=>thn (ho pins s1 σ H1 _ I1 q1) λov s2 ⟨y,H2,I2,r2,q2⟩=>thn (hi pins s2 σ H2 _ I2 q2) λiv s3 ⟨k,H3,I3,r3,q3⟩=>?_) hs;obtain⟨l,xs,n,rfl,hl,rfl,h0,h1,q⟩:=q3;cases r2;obtain⟨t,rfl⟩:=r3;obtain⟨z,its,m,r,hlen,ee⟩:=I3.lstM hl
 refine PySem.W.ki_setAt (items:=its.toArray) (n:=m) ee h0 (by
                                  have:Us<2 ^ 63:=by decide
                                  omega) (by simp;omega) ?_
 refine⟨σ,_,I3.lset (t':=s3.toks) (its:=its) (its':=its.set n.toNat v) (f:=(·.setIfInBounds n.toNat v)) hl ee (by simp) (r.set r1 n.toNat) (by rw[List.length_set];exact z),q⟩
noncomputable def Wf(j:Nat)(g f:M D):SM:=sB f λd Z1=>match Z1[j]? with
 |some (some (.own _))=>sB g (λy Z2=>match y with
  |.int k=>(match Z2[j]? with
   |some (some (.own ds))=>if 0<=k/\k<ds.length then .nx (Z2.set j (some (.own (ds.set k.toNat d))))else .bad
   |_=>.bad)
  |_=>.bad) Z1
 |_=>.bad
theorem M9{j:Nat}{f g:M D}(he:PE X e (tD X.K B G0 f))(ho:PE X o (Za j))(hi:PE X i (tD X.K B G0 g))(hs:swapsWith e (some (.Subscript o i p2)) pos.line X.env=pure false:=by rfl) :
  PS X (.Assign [.Subscript o i p2] e pos) (tS X.K B G0 KX (Wf j g f)):=
 Zv (Aa he ho hi hs) λD σ H q=>tS.bnd (R:=Rep X.K) q λv H1 G1 Z1 d k r a=>by
  cases q0:Z1[j]? with
  |none=>rw[q0]at a;exact a.elim
  |some o0=>
   cases o0 with
   |none=>rw[q0]at a;exact a.elim
   |some sl0=>
    cases sl0 with
    |deep _ _=>rw[q0]at a;exact a.elim
    |pub d=>rw[q0]at a;exact a.elim
    |own ds0=>
     rw[q0]at a;obtain⟨ad,vs0,h1,h2,h3,h4,h5⟩:=k.own j ds0 q0;refine⟨.ref ad,h1,G1,Z1,k,?_⟩;dsimp only at a;unfold sB at a;cases z:g Z1 with
     |bad=>rw[z]at a;exact a.elim
     |ok y Z2=>
      rw[z]at a;dsimp only at a;intro kv G' H' k' s' r';cases y with
      |int n=>
       dsimp only at a;cases q:Z2[j]? with
       |none=>rw[q]at a;exact a.elim
       |some oo=>
        cases oo with
        |none=>rw[q]at a;exact a.elim
        |some sl=>
         cases sl with
         |deep _ _=>rw[q]at a;exact a.elim
         |pub d=>rw[q]at a;exact a.elim
         |own ds=>
          rw[q]at a;dsimp only at a;split at a
          ·rename_i hn;obtain⟨ad',vs,g1,g2,g3,g4,g5⟩:=k'.own j ds q;rw[h1]at g1;cases g1;refine⟨ad,vs,n,rfl,g4,r'.int_inv,hn.1,by rw[g5.length];exact hn.2,?_⟩;exact a σ G' _ (k'.change q h1 (g5.set (r.mono s') n.toNat)) s'
          ·exact a.elim
      |_=>exact a.elim
noncomputable def Xn(z:Str)(lo hi:Option Int):Str:=if(Builtin.Str.strSliceIndices lo hi 1 z.length).length=z.length then z else⟨((Builtin.Str.strSliceIndices lo hi 1 z.length).filterMap (z.cps[·]?)).toArray⟩
theorem EC:SlR X (λx lo hi H Q=>∃z,x=.str z/\(Xn z lo hi).length<=Us/\Q (.str (Xn z lo hi)) H):=by
 intro pins s σ H x v vl vu lo hi sl Q I rx hs pl pu h;obtain⟨z,rfl,hz,q⟩:=h;obtain⟨t,rfl⟩:=rx;refine⟨"str", _,F.slot_str_getitem.lookup,typeIs_str s z t,?_⟩
 obtain⟨l,el,e1⟩:∃l:Option (Int×Tok),vl=partValue l/\l.map (·.1)=lo:=by
  cases pl with
  |none=>exact⟨none,rfl,rfl⟩
  |int k t'=>exact⟨some (k,t'),rfl,rfl⟩
 obtain⟨u,eu,e2⟩:∃u:Option (Int×Tok),vu=partValue u/\u.map (·.1)=hi:=by
  cases pu with
  |none=>exact⟨none,rfl,rfl⟩
  |int k t'=>exact⟨some (k,t'),rfl,rfl⟩
 subst el eu;refine wpAny_getItem_str_slice (l:=l) (u:=u) (st:=none) hs rfl ?_;unfold sliceMade slicePicked;rw[e1,e2];unfold Xn at hz q;by_cases hw:(Builtin.Str.strSliceIndices lo hi 1 z.length).length=z.length
 ·rw[Qp hw]at hz q;rw[if_pos (by simp[hw])];exact⟨.str z,H,I,⟨t,rfl⟩,q⟩
 ·rw[QB hw]at hz q;rw[if_neg (by simp[hw])];exact⟨hz,.str _,H,I.tok _,⟨_,rfl⟩,q⟩
end
section
variable{X:Cx}{B G0:Hp}{KX:XW}{e o a b c tg i:Ur}{pos p2:Pos}{es rest:List Ur}{te to ti:TE}
theorem pvb(i:Nat){x:Str}{pos:Pos}{N':List Str}{scope:Scope}{cl:List (Str×Up)}{C:Up}{s₀:Um}{H₀:Hp}{ex:List Up}(hN:N'[i]?=some x:=by rfl)
  (h:scope.names.lookup x=some .local∨scope.names.lookup x=some .free:=by first|exact .inl rfl|exact .inr rfl) (hd:(x==("__debug__" : Str))=false:=by decide) (hcd:(x==("__classdict__" : Str))=false:=by decide) :
  PE (X.blk N' scope cl C s₀ H₀ ex) (.Name x pos) (Za i):=N7 hN (Cz h) hd hcd
noncomputable def YK:D->Option Int->Option Int->Option D
 |.list xs,lo,hi=>some (.list (DL.cutD xs lo hi))
 |.str z,lo,hi=>if(Xn z lo hi).length<=1000000 then some (.str (Xn z lo hi))else none
 |_,_,_=>none
noncomputable def ZH(f:M D)(lo hi:M (Option Int)):M D:=Kb f λx=>Kb lo λl=>Kb hi λh=>U9 (YK x l h)
theorem je{lo hi:Option Ur}{f:M D}{l h:M (Option Int)}(he:PE X e (tD X.K B G0 f))(hl:PO X lo (tOi X.K B G0 l))(hu:PO X hi (tOi X.K B G0 h)) :
  PE X (.Subscript e (.Slice lo hi none p2) pos) (tD X.K B G0 (ZH f l h)):=
 Ks (BW (Cw.or EC) he hl hu) λσ H Q q=>by
  refine tM.one (R:=Rep X.K) q λv H2 G Z x k r a=>?_;refine tM.nx (R:=λ_ b c=>b=c) k a λl' H3 G3 Z3 xl k3 s3 r3 a3=>?_;refine tM.nx (R:=λ_ b c=>b=c) k3 a3 λh' H4 G4 Z4 xh k4 s4 r4 a4=>?_;have r3:l'=xl:=r3;have r4:h'=xh:=r4;subst r3 r4;unfold U9 YK at a4
  cases x with
  |list xs=>obtain⟨ad,vs,rfl,h1,r1⟩:=((r.mono s3).mono s4).lst_inv;exact .inl ⟨ad,vs,rfl,k4.gh.seq h1,λp hp=>aft.done a4 k4 (Ext.new k4.gh hp) (.lst (SqL.of Zc) ((r1.cut l' h').mono (Zn (k4.gh.free hp))))⟩
  |str z=>
   dsimp only at a4;have:=r.str_inv;subst this;by_cases hc:(Xn z l' h').length<=1000000
   ·rw[Qp hc]at a4;exact .inr ⟨z,rfl,QT hc lim,aft.now a4 k4 (.str _)⟩
   ·rw[QB hc]at a4;exact a4.elim
  |_=>exact a4.elim
end
section
variable{X:Cx}{B G0:Hp}{e o a b c tg:Ur}{pos p2:Pos}{es rest:List Ur}{te to ti:TE}
noncomputable def K6{β:Type}(p:D->D->Option β)(i:Nat)(g:M D):M β:=λZ=>match Z[i]? with
 |some (some (.pub d))=>(Kb g λy=>U9 (p d y)) Z
 |some (some (.own _))=>(Kb g λy=>λZ'=>match Z'[i]? with|some (some (.own ds))=>U9 (p (.list ds) y) Z'|_=>.bad) Z
 |_=>.bad
theorem NB{K:Frag}{σ:St}{H:Hp}{p:D->D->Option Bool}{r:R2}{i:Nat}{g:M D}{Q:Bool->Hp->Prop}{QV:VK}(hq:∀t H3,Q t H3->QV (.bl t) H3)(hr:∀v u G H x y d Q,Same G H->Rep K G v x->Rep K G u y->p x y=some d->Q (.bl d) H->r v u H Q)
  (q:tBo K B G0 (K6 p i g) σ H Q):Za i σ H λx H1=>tD K B G0 g σ H1 λy H2=>r x y H2 QV:=by
 obtain⟨G,Z,k,a⟩:=q;unfold K6 at a;cases q:Z[i]? with
 |none=>rw[q]at a;exact a.elim
 |some o=>
  cases o with
  |none=>rw[q]at a;exact a.elim
  |some sl=>
   cases sl with
   |deep _ _=>rw[q]at a;exact a.elim
   |pub d=>
    rw[q]at a;obtain⟨v,h1,h2⟩:=k.pub i d q;refine⟨v,h1,G,Z,k,?_⟩;dsimp only[Kb]at a;cases z:g Z with
    |bad=>rw[z]at a;exact a.elim
    |ok y Z1=>rw[z]at a;intro u G' H' k' s' r';obtain⟨d',e',a'⟩:=aft.opt a;exact hr v u G' H' d y d' _ k'.gh (h2.mono s') r' e' (hq _ _ (a' d' G' H' k' s' rfl))
   |own ds=>
    rw[q]at a;obtain⟨ad,vs,h1,h2,h3,h4,h5⟩:=k.own i ds q;refine⟨.ref ad,h1,G,Z,k,?_⟩;dsimp only[Kb]at a;cases z:g Z with
    |bad=>rw[z]at a;exact a.elim
    |ok y Z1=>
     rw[z]at a;dsimp only at a;intro u G' H' k' s' r';cases q1:Z1[i]? with
     |none=>rw[q1]at a;exact a.elim
     |some oo=>
      cases oo with
      |none=>rw[q1]at a;exact a.elim
      |some sl1=>
       cases sl1 with
       |deep _ _=>rw[q1]at a;exact a.elim
       |pub d1=>rw[q1]at a;exact a.elim
       |own ds1=>
        rw[q1]at a;dsimp only at a;obtain⟨ad',ws,g1,g2,g3,g4,g5⟩:=k'.own i ds1 q1;rw[h1]at g1;cases g1;obtain⟨d',e',a'⟩:=aft.opt a;have sg:Same G' (upd G' ad (.lst ws)):=Zn g3
        have sh:Same (upd G' ad (.lst ws)) H':=λb o q=>by
         by_cases z:b=ad
         ·subst z;rw[Zc]at q;cases q;exact g4
         ·rw[KM z]at q;exact k'.gh b o q
        exact hr (.ref ad) u _ H' (.list ds1) y d' _ sh (.lst (SqL.of Zc) (g5.mono sg)) (r'.mono sg) e' (hq _ _ (a' d' G' H' k' s' rfl))
theorem Dk{op:CmpOp}{p:D->D->Option Bool}{i:Nat}{g:M D}(o:OpB X (Uv op) p)(ha:PE X a (Za i))(hb:PE X b (tD X.K B G0 g))(hm:behindInMarks op b=false) :
  PT X (.Compare a [op] [b] pos) (tBo X.K B G0 (K6 p i g)):=by
 obtain⟨r,h,j⟩:=o;exact Yw (Om h ha hb hm) λσ H Q q=>NB (λt H3 z=>⟨t,rfl,z⟩) j q
theorem Dj{op:CmpOp}{p:D->D->Option Bool}{i:Nat}{g:M D}(o:OpB X (Uv op) p)(ha:PE X a (Za i))(hb:PE X b (tD X.K B G0 g))(hm:behindInMarks op b=false) :
  PE X (.Compare a [op] [b] pos) (tD X.K B G0 (UZ Uz (K6 p i g))):=by
 obtain⟨r,h,j⟩:=o;exact Ks (Ld h ha hb hm) λσ H Q q=>NB (λt H3 z=>z) j (tBo.val q)
end
end DL
namespace L2
open PySem PySem.Spec PyProof.Rows
noncomputable def Itz(K:Frag)(a b:Up):It:=
 ⟨λi H=>∃xs x ys y,SqL K H a xs/\xs[i]?=some x/\SqL K H b ys/\ys[i]?=some y,
  λi H v H'=>∃p x y,H p=none/\v=.ref p/\(∀xs,SqL K H a xs->xs[i]?=some x)/\(∀ys,SqL K H b ys->ys[i]?=some y)/\H'=upd H p (.tup [x,y]),
  λi H=>∃xs ys,SqL K H a xs/\SqL K H b ys/\(xs.length<=i∨ys.length<=i)⟩
theorem B9{P:Uo}{w:World}{K:Frag}{elts:List Ur}{x1}{tp:Pos}(a b z TI TO i1 i2:Up)(Dz:ZipApart z TI TO i1 i2 a b) :
  Turn P w K (.Tuple elts x1 tp) (Itz K a b) [z,TI,TO,i1,i2] z (λi h=>IsZip h z TI TO .none/\IsPair h TI (.ref i1) (.ref i2)/\(∃c d,IsPair h TO c d)/\h.IsListIter i1 a i/\h.IsListIter i2 b i) where
 mem:=by simp
 obj:=λi h st c hc=>by
  obtain⟨h1,h2,⟨c0,d0,h3⟩,⟨o4,h4,_,d4⟩,⟨o5,h5,_,d5⟩⟩:=st;have hc':c=z∨c=TI∨c=TO∨c=i1∨c=i2:=by simpa using hc
  rcases hc' with rfl|rfl|rfl|rfl|rfl
  ·exact⟨_,h1,λv q=>by have q':Data.fields _=Data.cell v:=q;cases q'⟩
  ·exact⟨_,h2,λv q=>by have q':Data.seq _ _=Data.cell v:=q;cases q'⟩
  ·exact⟨_,h3,λv q=>by have q':Data.seq _ _=Data.cell v:=q;cases q'⟩
  ·exact⟨o4,h4,λv q=>by rw[d4]at q;cases q⟩
  ·exact⟨o5,h5,λv q=>by rw[d5]at q;cases q⟩
 keep:=λi h h' st k=>by obtain⟨h1,h2,⟨c0,d0,h3⟩,h4,h5⟩:=st;exact⟨k z (by simp) _ h1,k TI (by simp) _ h2,⟨c0,d0,k TO (by simp) _ h3⟩,h4.at λo q=>k i1 (by simp) o q,h5.at λo q=>k i2 (by simp) o q⟩
 item:=by
  intro X hP hw hK hc i pins s σ H E I hf st hg;subst hP hw hK;obtain⟨h1,h2,⟨c0,d0,h3⟩,h4,h5⟩:=st;obtain⟨xs,x,ys,y,hq,hx,hq',hy⟩:=hg;obtain⟨its,rv,p,hz⟩:=I.list hq;obtain⟨its',rv',p',hz'⟩:=I.list hq';obtain⟨u,hu,ru⟩:=rv.get hx;obtain⟨u',hu',ru'⟩:=rv'.get hy;refine wpAny_pyNext_zip_item Dz h1 h2 h3 h4 h5 p.isList p'.isList (x:=u) (y:=u') (by simpa using hu) (by simpa using hu') λh' g1 g3 g4 g5 gp gs gk=>?_
  refine⟨_,rfl,wpAny_letOwnedTupleGo_zip g1 λh2' gz sb=>?_⟩;have hzl:z<s.heap.objs.size:=Qi h1;have sb':Heap.SameBut z h' h2':=sb;have gp2:h2'.get? s.heap.objs.size=some {cls:=.type "tuple", data:=.seq #[u,u']}:=(sb'.2 _ (JR hzl)).trans gp
  have kk:∀c o,c∉[z,TI,TO,i1,i2]->s.heap.get? c=some o->h2'.get? c=some o:=λc o hc q=>by
   have n1:c≠z:=λe=>hc (by simp[e])
   have n3:c≠TO:=λe=>hc (by simp[e])
   have n4:c≠i1:=λe=>hc (by simp[e])
   have n5:c≠i2:=λe=>hc (by simp[e])
   exact(sb'.2 c n1).trans (gk c o n1 n3 n4 n5 q)
  have hn:H s.heap.objs.size=none:=I.hok.fresh (Qr _)
  have I2:Inv X pins σ (upd H s.heap.objs.size (.tup [x,y])) {s with heap:=h2'}:=
   I.turnedNew (t':=s.toks) (fp:=[z,TI,TO,i1,i2]) hf kk (Qr _) ⟨by show 2<=Us;decide,[u,u'],.cons ru (.cons ru' .nil),⟨_,gp2,rfl,_,rfl⟩⟩
  have gTI:IsPair h' TI (.ref i1) (.ref i2):=gk TI _ Dz.TIz Dz.TITO Dz.TIi1 Dz.TIi2 h2
  refine⟨.ref s.heap.objs.size,_,I2,rfl,⟨_,x,y,hn,rfl,λws hw=>by rw[I.list_inj hw hq];exact hx,λws hw=>by rw[I.list_inj hw hq'];exact hy,rfl⟩,
   ⟨gz,(sb'.2 _ Dz.TIz).trans gTI,⟨u,u',(sb'.2 _ Dz.TOz).trans g3⟩,g4.at λo q=>(sb'.2 _ Dz.i1z).trans q,g5.at λo q=>(sb'.2 _ Dz.i2z).trans q⟩,λc hc=>?_⟩
  have hlt:c<s.heap.objs.size:=by
   have hc':c=z∨c=TI∨c=TO∨c=i1∨c=i2:=by simpa using hc
   rcases hc' with rfl|rfl|rfl|rfl|rfl
   ·exact hzl
   ·exact Qi h2
   ·exact Qi h3
   ·obtain⟨o,ho,_⟩:=h4;exact Qi ho
   ·obtain⟨o,ho,_⟩:=h5;exact Qi ho
  rw[KM (QN hlt)];exact(hf c hc).1
 done:=by
  intro X hP hw hK hc i pins s σ H E I hf st hg;subst hP hw hK;obtain⟨h1,h2,⟨c0,d0,h3⟩,h4,h5⟩:=st;obtain⟨xs,ys,hq,hq',hx⟩:=hg;obtain⟨its,rv,p,hz⟩:=I.list hq;obtain⟨its',rv',p',hz'⟩:=I.list hq';have hl:=rv.length;have hl':=rv'.length;refine wpAny_pyNext_zip_end (I.ok.hd hc) Dz h1 h2 h3 h4 h5 p.isList p'.isList ?_ λh' eb=>⟨rfl,I.turnedL (t':=s.toks) hf λc o hb q=>eb c o (λe=>hb (by simp[e])) (λe=>hb (by simp[e])) (λe=>hb (by simp[e])) (λe=>hb (by simp[e])) q⟩
  rcases hx with hx|hx
  ·exact .inl (by simp;omega)
  ·exact .inr (by simp;omega)
 self:=λ_ _ _ _ _ st h=>wpAny_pyIter_zip st.1 h
section
variable{X:Cx}
noncomputable def iZip(K:Frag)(ta:TA):TI:=λσ H R=>ta σ H λvs H1=>∃a b xs ys,vs=[.ref a,.ref b]/\SqL K H1 a xs/\SqL K H1 b ys/\R (Itz K a b) H1
theorem EB{a b:Ur}{ta:TA}{p pos:Pos}{elts:List Ur}{x1}{tp:Pos}(hg:Gl X "zip")(hm:X.mg "zip" = none)(ha:PA X [a,b] ta)
  (hs:Uu [a,b] X.env=[(false,eval a X.env),(false,eval b X.env)]:=by rfl) (hs2:Uu [b] X.env=[(false,eval b X.env)]:=by rfl):PI X (.Tuple elts x1 tp) (.Call (.Name "zip" p) [a,b] [] pos) (iZip X.K ta):=by
 intro pins s σ H R I h;refine Call_ (Vp I hg hm boot_zip (Jz (thn (ha pos pins s σ H _ I h) λus s1 ⟨vs,H1,I1,r1,q1⟩=>?_) (by rw[hs,hs2]) (by rw[hs2];rfl)));obtain⟨l1,l2,xs,ys,e,hq,hq',q⟩:=q1;subst e;cases r1 with
 |cons r rr=>
  cases rr with
  |cons r' rr=>
   cases rr;cases (show _=Value.ref l1 from r);cases (show _=Value.ref l2 from r');obtain⟨its,rv,pl,hz⟩:=I1.list hq;obtain⟨its',rv',pl',hz'⟩:=I1.list hq';have n1:l1<s1.heap.objs.size:=by obtain⟨_,e,_⟩:=id pl.isList;exact Qi e
   have n2:l2<s1.heap.objs.size:=by obtain⟨_,e,_⟩:=id pl'.isList;exact Qi e
   have ne:∀i j:Nat,i≠j->s1.heap.objs.size+i≠s1.heap.objs.size+j:=λi j h e=>h (Nat.add_left_cancel e);have m1:∀m:Nat,l1≠s1.heap.objs.size+m:=λm=>QN (QF n1 (Nat.le_add_right _ _));have m2:∀m:Nat,l2≠s1.heap.objs.size+m:=λm=>QN (QF n2 (Nat.le_add_right _ _));refine call_zip_2 pl.isList pl'.isList λh' g1 g2 g3 g4 g5 gs kk=>?_;have I2:Inv X pins σ H1 {s1 with heap:=h'}:=I1.kept (t':=s1.toks) kk;refine wpAny_pyIter_zip g1 ?_
   refine⟨s1.heap.objs.size+4,[s1.heap.objs.size+4,s1.heap.objs.size+2,s1.heap.objs.size+3,s1.heap.objs.size,s1.heap.objs.size+1],_,_,H1,rfl,I2,
    B9 l1 l2 (s1.heap.objs.size+4) (s1.heap.objs.size+2) (s1.heap.objs.size+3) s1.heap.objs.size (s1.heap.objs.size+1) ⟨ne 2 4 (by decide),ne 3 4 (by decide),ne 0 4 (by decide),ne 1 4 (by decide),ne 2 3 (by decide),ne 2 0 (by decide),ne 2 1 (by decide),ne 3 0 (by decide),ne 3 1 (by decide),ne 0 1 (by decide),m1 4,m1 3,m1 0,m1 1,m2 4,m2 3,m2 0,m2 1⟩,⟨g1,g2,⟨_,_,g3⟩,g4,g5⟩,λc hc=>?_,q⟩
   have hc':s1.heap.objs.size<=c:=by
    have hc':c=s1.heap.objs.size+4∨c=s1.heap.objs.size+2∨c=s1.heap.objs.size+3∨c=s1.heap.objs.size∨c=s1.heap.objs.size+1:=by simpa using hc
    rcases hc' with rfl|rfl|rfl|rfl|rfl<;>first|exact Nat.le_add_right _ _|exact Qr _
   exact I1.fpOk hc' (I1.hok.fresh hc')
end
end L2
namespace DL
open PySem PySem.Spec L2
open PyProof.Rows hiding St
section
variable{X:Cx}{B G0:Hp}{e a b c tg:Ur}{pos:Pos}{es rest:List Ur}
noncomputable def Yq(xs ys:List D):List D:=(xs.zip ys).map λp=>.tuple [p.1,p.2]
theorem AV{K:Frag}{G1:Hp}{a b:Up}{vs ws:List V}{ds es:List D}(h:SqL K G1 a vs)(h':SqL K G1 b ws)(r:Reps K G1 vs ds)(r':Reps K G1 ws es):Xf K (Itz K a b) (Yq ds es) G1 where
 go:=λi G H s1 s2 hi=>by
  unfold Yq at hi;rw[Qb,JN]at hi;have hi1:i<vs.length:=by rw[r.length];omega
  have hi2:i<ws.length:=by rw[r'.length];omega
  exact⟨vs,vs[i],ws,ws[i],(s1.trans s2).seq h,Qf hi1,(s1.trans s2).seq h',Qf hi2⟩
 stop:=λi G H s1 s2 hi=>by unfold Yq at hi;rw[Qb,JN]at hi;refine⟨vs,ws,(s1.trans s2).seq h,(s1.trans s2).seq h',?_⟩;rw[r.length,r'.length];omega
 yld:=λi G H x H' d s1 s2 e y=>by
  obtain⟨p,u,v,hp,rfl,y1,y2,rfl⟩:=y;have z1:=y1 vs ((s1.trans s2).seq h);have z2:=y2 ws ((s1.trans s2).seq h');unfold Yq at e;rw[Qe]at e;cases q:(ds.zip es)[i]? with
  |none=>rw[q]at e;cases e
  |some pr=>rw[q]at e;cases e;rw[List.getElem?_zip_eq_some]at q;obtain⟨u',e1,r1⟩:=r.get q.1;obtain⟨v',e2,r2⟩:=r'.get q.2;rw[z1]at e1;rw[z2]at e2;cases e1;cases e2;exact⟨upd G p (.tup [u,v]),Ext.new s2 hp,.tup (SqT.of Zc) (.cons ((r1.mono s1).mono (Zn (s2.free hp))) (.cons ((r2.mono s1).mono (Zn (s2.free hp))) .nil))⟩
noncomputable def XQ:List D->Option (List D)
 |[.list xs,.list ys]=>some (Yq xs ys)
 |_=>none
theorem B8{x l:List D}(h:XQ x=some l):∃xs ys,x=[.list xs,.list ys]/\l=Yq xs ys:=by
 unfold XQ at h;split at h
 ·cases h;exact⟨_,_,rfl,rfl⟩
 ·cases h
noncomputable def WE(f:M (List D)):M (List D):=Kb f λx=>U9 (XQ x)
theorem EA{f:M (List D)}{p2:Pos}{elts:List Ur}{x1}{tp:Pos}(hg:Gl X "zip")(hm:X.mg "zip" = none)(ha:PA X [a,b] (tDs X.K B G0 f))(hs:Uu [a,b] X.env=[(false,eval a X.env),(false,eval b X.env)]:=by rfl)(hs2:Uu [b] X.env=[(false,eval b X.env)]:=by rfl) :
  PI X (.Tuple elts x1 tp) (.Call (.Name "zip" p2) [a,b] [] pos) (iD X.K B G0 (WE f)):=YY (EB hg hm ha hs hs2) λσ H R q=>tM.toI (R0:=Reps X.K) q λv H' G' Z' x k r a=>by
 cases z:XQ x with
 |none=>rw[z]at a;exact a.elim
 |some l=>
  rw[z]at a;obtain⟨xs,ys,rfl,rfl⟩:=B8 z;cases r with
  |cons r1 rr=>
   cases rr with
   |cons r2 rr=>cases rr;obtain⟨l1,vs,rfl,h1,q1⟩:=r1.lst_inv;obtain⟨l2,ws,rfl,h2,q2⟩:=r2.lst_inv;exact⟨l1,l2,vs,ws,rfl,k.gh.seq h1,k.gh.seq h2,a _ G' H' k (.refl _) (AV h1 h2 q1 q2)⟩
end
section
variable{X:Cx}{B G0:Hp}{e o a b c tg:Ur}{pos p2 p3:Pos}{es rest:List Ur}{te to ti:TE}
noncomputable def oIn:D->D->Option Bool
 |.str i,.str j=>some (inS i j)
 |x,.list xs=>if x.canLay0=true/\UC xs=true/\x.depth<=60 then some (xs.any λy=>UE y x)else none
 |x,.tuple xs=>if x.canLay0=true/\UC xs=true/\x.depth<=60 then some (xs.any λy=>UE y x)else none
 |_,_=>none
noncomputable def Yg(x y:D):Option Bool:=(oIn x y).map λt=>!t
noncomputable def Xk(x y:D):Option Bool:=match y with
 |.list xs=>if x.canLay0=true/\UC xs=true/\x.depth<=60 then some (xs.any λy=>UE y x)else none
 |.tuple xs=>if x.canLay0=true/\UC xs=true/\x.depth<=60 then some (xs.any λy=>UE y x)else none
 |_=>none
theorem GV(hu:X.A.units+64<cLine):OpB X (Uv .In) Xk:=by
 refine⟨λv u H Q=>∃G x y d,Same G H/\Rep X.K G v x/\Rep X.K G u y/\Xk x y=some d/\Q (.bl d) H,?_,λv u G H x y d Q s rx ry e k=>⟨G,x,y,d,s,rx,ry,e,k⟩⟩;intro pins s σ H x y v u Q I rx ry ⟨G,dx,dy,d,sg,px,py,e,q⟩;unfold Xk at e;split at e
 ·split at e
  ·rename_i c;cases e;obtain⟨as,ra⟩:=YX I sg px rx c.1;obtain⟨bs,rb⟩:=YX I sg py ry (show UC _=true from c.2.1);exact SeqAt.in_list_reads rb ra c.2.1 c.1 (by have:=c.2.2;omega) ⟨.bl _,H,I,rfl,q⟩
  ·cases e
 ·split at e
  ·rename_i c;cases e;obtain⟨as,ra⟩:=YX I sg px rx c.1;obtain⟨bs,rb⟩:=YX I sg py ry (show UC _=true from c.2.1);exact SeqAt.in_tuple_reads rb ra c.2.1 c.1 (by have:=c.2.2;omega) ⟨.bl _,H,I,rfl,q⟩
  ·cases e
 ·cases e
theorem Ez(hu:X.A.units+64<cLine):OpB X (Uv .NotIn) (λx y=>(Xk x y).map λt=>!t):=by
 refine⟨λv u H Q=>∃G x y d,Same G H/\Rep X.K G v x/\Rep X.K G u y/\(Xk x y).map (λt=>!t)=some d/\Q (.bl d) H,?_,λv u G H x y d Q s rx ry e k=>⟨G,x,y,d,s,rx,ry,e,k⟩⟩;intro pins s σ H x y v u Q I rx ry ⟨G,dx,dy,d,sg,px,py,e,q⟩;unfold Xk at e;split at e
 ·split at e
  ·rename_i c;cases e;obtain⟨as,ra⟩:=YX I sg px rx c.1;obtain⟨bs,rb⟩:=YX I sg py ry (show UC _=true from c.2.1);exact SeqAt.notIn_list_reads rb ra c.2.1 c.1 (by have:=c.2.2;omega) ⟨.bl _,H,I,rfl,q⟩
  ·cases e
 ·split at e
  ·rename_i c;cases e;obtain⟨as,ra⟩:=YX I sg px rx c.1;obtain⟨bs,rb⟩:=YX I sg py ry (show UC _=true from c.2.1);exact SeqAt.notIn_tuple_reads rb ra c.2.1 c.1 (by have:=c.2.2;omega) ⟨.bl _,H,I,rfl,q⟩
  ·cases e
 ·cases e
theorem B_in(hu:X.A.units+64<cLine):OpB X (Uv .In) oIn:=(F0.or (GV hu)).congr λx y=>by cases x<;>cases y<;>rfl
theorem GU(hu:X.A.units+64<cLine):OpB X (Uv .NotIn) Yg:=(EE.or (Ez hu)).congr λx y=>by cases x<;>cases y<;>rfl
theorem AU{tl th ts:TO}{lo hi:Option Ur}{st:Ur}(he:PE X e te)(hl:PO X lo tl)(hu:PO X hi th)(hst:PO X (some st) ts):PE X (.Subscript e (.Slice lo hi (some st) p2) pos)
  (λσ H Q=>te σ H λx H1=>tl σ H1 λl H2=>th σ H2 λu H3=>ts σ H3 λt H4=>∃a xs,x=.ref a/\SqL X.K H4 a xs/\l=none/\u=none/\t=some (-1)/\∀p,H4 p=none->Q (.ref p) (upd H4 p (.lst xs.reverse))):=by
 intro pins s σ H Q I h;refine Subscript_ (thn (he pins s σ H _ I h) λv s1 ⟨x,H1,I1,r1,q1⟩=>?_);refine wpAny_Slice (thn (hl pins s1 σ H1 _ I1 q1) λvl s2 ⟨l,H2,I2,pl,q2⟩=>thn (hu pins s2 σ H2 _ I2 q2) λvu s3 ⟨u,H3,I3,pu,q3⟩=>thn (hst pins s3 σ H3 _ I3 q3) λvt s4 ⟨t,H4,I4,pt,q4⟩=>?_);obtain⟨a,xs,rfl,hx,rfl,rfl,rfl,q⟩:=q4;cases r1;have I5:Inv X pins σ H4 {s4 with heap:=s4.heap.push {cls:=.type "slice", data:=.fields #[vl,vu,vt]}}:=I4.kept (t':=s4.toks) λb ob q=>Qk _ q
 obtain⟨its,r,ht,hz⟩:=I5.list hx;have hlen:=r.length;have hg:Ut (model X.prog X.w) X.A (getItem (.ref a) (.ref s4.heap.objs.size)) (EP X pins σ Q) X.xe {s4 with heap:=s4.heap.push {cls:=.type "slice", data:=.fields #[vl,vu,vt]}}:=by refine wpAny_getItem_list_slice ht.isList (Heap.IsSliceOf.new ..) pl pu pt (by simp) ?_ (by rw[List.size_toArray]<;>omega);rw[PySem.W.krv_pick];refine⟨.ref _,_,I5.laid (t':=s4.toks) (o:=.lst xs.reverse) (λb ob q=>Qk _ q) (Qr _) ?_,rfl,q _ (I5.hok.fresh (Qr _))⟩;exact⟨by rw[List.length_reverse];exact hz,its.reverse,0,r.reverse,Qz _ rfl⟩
 show Ut (model X.prog X.w) X.A (subscriptTail e (.Slice lo hi (some st) p2) (.ref a) (.ref s4.heap.objs.size)) (EP X pins σ Q) X.xe {s4 with heap:=s4.heap.push {cls:=.type "slice", data:=.fields #[vl,vu,vt]}};exact tail_any (ops:=[.ref a,.ref s4.heap.objs.size]) ht.isList.typeIs slot_list_getitem.lookup hg (by with_unfolding_all rfl)
noncomputable def Wx:D->Option Int->Option Int->Option Int->Option D
 |.list xs,none,none,some i=>if i = -1 then some (.list xs.reverse)else none
 |_,_,_,_=>none
noncomputable def WF(f:M D)(lo hi st:M (Option Int)):M D:=Kb f λx=>Kb lo λl=>Kb hi λh=>Kb st λt=>U9 (Wx x l h t)
theorem Di{lo hi:Option Ur}{st:Ur}{f:M D}{l h t:M (Option Int)}(he:PE X e (tD X.K B G0 f))(hl:PO X lo (tOi X.K B G0 l))(hu:PO X hi (tOi X.K B G0 h))(hst:PO X (some st) (tOi X.K B G0 t)) :
  PE X (.Subscript e (.Slice lo hi (some st) p2) pos) (tD X.K B G0 (WF f l h t)):=
 Ks (AU he hl hu hst) λσ H Q q=>by
  refine tM.one (R:=Rep X.K) q λv H2 G Z x k r a=>?_;refine tM.nx (R:=λ_ b c=>b=c) k a λl' H3 G3 Z3 xl k3 s3 r3 a3=>?_;refine tM.nx (R:=λ_ b c=>b=c) k3 a3 λh' H4 G4 Z4 xh k4 s4 r4 a4=>?_;refine tM.nx (R:=λ_ b c=>b=c) k4 a4 λt' H5 G5 Z5 xt k5 s5 r5 a5=>?_;have r3:l'=xl:=r3;have r4:h'=xh:=r4;have r5:t'=xt:=r5;subst r3 r4 r5
  cases x with
  |list xs=>
   cases l' with
   |some _=>exact a5.elim
   |none=>
   cases h' with
   |some _=>exact a5.elim
   |none=>
   cases t' with
   |none=>exact a5.elim
   |some i=>
   obtain⟨ad,vs,rfl,h1,r1⟩:=(((r.mono s3).mono s4).mono s5).lst_inv;by_cases hi:i = -1
   ·subst hi;exact⟨ad,vs,rfl,k5.gh.seq h1,rfl,rfl,rfl,λp hp=>aft.done a5 k5 (Ext.new k5.gh hp) (.lst (SqL.of Zc) (r1.reverse.mono (Zn (k5.gh.free hp))))⟩
   ·unfold U9 Wx at a5;dsimp only at a5;rw[QB hi]at a5;exact a5.elim
  |_=>unfold U9 Wx at a5;exact a5.elim
noncomputable def Xd:List D->Option (List D)
 |[.list xs]=>some xs
 |[.tuple xs]=>some xs
 |_=>none
theorem L8{x l:List D}(h:Xd x=some l):x=[.list l]∨x=[.tuple l]:=by
 unfold Xd at h;split at h
 ·cases h;exact .inl rfl
 ·cases h;exact .inr rfl
 ·cases h
theorem Gi:bootBuiltins "list" = some (.type "list"):=by decide +kernel
theorem B7{f:M (List D)}(hg:Gl X "list")(hm:X.mg "list" = none)(ha:PA X [a] (tDs X.K B G0 f))(he:Uu [a] X.env=(false,eval a X.env)::Uu [] X.env:=by rfl) :
  PE X (.Call (.Name "list" p2) [a] [] pos) (tL X.K B G0 (Kb f λxs=>U9 (Xd xs))):=
 Ks (PJ Gs hg hm Gi ha (by decide) (by decide) he rfl) λσ H Q ⟨G,Z,k,q⟩=>by
  refine⟨G,Z,k,?_⟩;unfold Kb at q;cases z:f Z with
  |bad=>rw[z]at q;exact q.elim
  |ok xs Z1=>
   rw[z]at q;dsimp only[U9]at q;intro vs G' H' k' s' r;cases z2:Xd xs with
   |none=>rw[z2]at q;exact q.elim
   |some l=>
    rw[z2]at q;rcases L8 z2 with rfl|rfl
    ·obtain⟨v,rfl,q1⟩:=r.one_inv;obtain⟨p,ws,rfl,h1,r1⟩:=q1.lst_inv;exact⟨p,ws,rfl,.inl (k'.gh.seq h1),λad hp=>q ad ws G' _ (k'.ext (Ext.hid k'.gh hp)) s' (NewL.of k' hp r1)⟩
    ·obtain⟨v,rfl,q1⟩:=r.one_inv;obtain⟨p,ws,rfl,h1,r1⟩:=q1.tup_inv;exact⟨p,ws,rfl,.inr (YQ k'.gh h1),λad hp=>q ad ws G' _ (k'.ext (Ext.hid k'.gh hp)) s' (NewL.of k' hp r1)⟩
noncomputable def Vt(i:Nat):M (List D):=λZ=>match Z[i]? with
 |some (some (.pub d))=>U9 (Xd [d]) Z
 |some (some (.own ds))=>.ok ds Z
 |_=>.bad
theorem AT{i:Nat}(hg:Gl X "list")(hm:X.mg "list" = none)(ho:PE X a (Za i))(he:Uu [a] X.env=(false,eval a X.env)::Uu [] X.env:=by rfl) :
  PE X (.Call (.Name "list" p2) [a] [] pos) (tL X.K B G0 (Vt i)):=
 Ks (PJ Gs hg hm Gi (X6 ho Vo he) (by decide) (by decide) he rfl) λσ H Q ⟨G,Z,k,q⟩=>by
  unfold Vt at q;cases z:Z[i]? with
  |none=>rw[z]at q;exact q.elim
  |some oo=>
   cases oo with
   |none=>rw[z]at q;exact q.elim
   |some sl=>
    cases sl with
    |deep _ _=>rw[z]at q;exact q.elim
    |own ds=>rw[z]at q;dsimp only at q;obtain⟨ad,vs,h1,h2,h3,h4,h5⟩:=k.own i ds z;exact⟨.ref ad,h1,ad,vs,rfl,.inl (SqL.of h4),λl hp=>q l vs G _ (k.ext (Ext.hid k.gh hp)) (.refl _) (NewL.of k hp h5)⟩
    |pub d=>
     rw[z]at q;dsimp only[U9]at q;obtain⟨v,h1,h2⟩:=k.pub i d z;cases z2:Xd [d]with
     |none=>rw[z2]at q;exact q.elim
     |some l=>
      rw[z2]at q;dsimp only at q;rcases L8 z2 with e|e
      ·cases e;obtain⟨p,ws,rfl,g1,r1⟩:=h2.lst_inv;exact⟨_,h1,p,ws,rfl,.inl (k.gh.seq g1),λad hp=>q ad ws G _ (k.ext (Ext.hid k.gh hp)) (.refl _) (NewL.of k hp r1)⟩
      ·cases e;obtain⟨p,ws,rfl,g1,r1⟩:=h2.tup_inv;exact⟨_,h1,p,ws,rfl,.inr (YQ k.gh g1),λad hp=>q ad ws G _ (k.ext (Ext.hid k.gh hp)) (.refl _) (NewL.of k hp r1)⟩
noncomputable def Rl:List D->Option D
 |[.int i]=>some (.int i)
 |[.bool b]=>some (.int (if b then 1 else 0))
 |_=>none
theorem Ey:YG X (.type "int") Rl:=by
 refine⟨_,qv,λvs G H ds d Q s r e k=>?_⟩;unfold Rl at e;split at e
 ·cases e;obtain⟨v,rfl,q⟩:=r.one_inv;rw[q.int_inv];exact .inl ⟨_,rfl,k _ G H (.refl s) (.int _)⟩
 ·cases e;obtain⟨v,rfl,q⟩:=r.one_inv;rw[q.bl_inv];exact .inr ⟨_,rfl,k _ G H (.refl s) (.int _)⟩
 ·cases e
theorem GT{x:Str}{zs:List Str}(hg:Gl X x)(hm:∃ad o its n,X.mg x=some (.ref ad)/\X.K.lookup ad=some o/\o.cls=.type "tuple" /\ o.data=.seq its n/\its.size<=Us/\Vals (zs.map V.str) its.toList)(hd:(x==("__debug__" : Str))=false:=by decide) :
  PE X (.Name x pos) (tD X.K B G0 (UO (.tuple (zs.map UA)))):=by
 obtain⟨ad,o,its,n,hm,h1,h2,h3,h4,h5⟩:=hm;refine Ks (Lf (v:=.ref ad) hg hm rfl hd) λσ H Q ⟨G,Z,k,a⟩=>aft.now a k (.tup (.inr ⟨o,its,n,h1,h2,h3,h4,h5⟩) ?_)
 have:∀zs:List Str,Reps X.K G (zs.map V.str) (zs.map UA):=λzs=>by
  induction zs with
  |nil=>exact .nil
  |cons z r ih=>exact .cons (.str _) ih
 exact this zs
end
section
variable{X:Cx}{B G0:Hp}{e o a b c tg:Ur}{pos p2 p3 p4:Pos}{es rest:List Ur}{te to ti:TE}
theorem Wb:∀{ns:List Int}{us:List Ul},Vals (ns.map V.int) us->PyProof.Rows.IntsAre us ns
 |[],_,.nil=>.nil
 |n::ns,_,.cons h t=>by obtain⟨tk,rfl⟩:=h;exact .cons n tk (Wb t)
noncomputable def VO(ns:List Int):Nat:=(PyProof.Rows.firstMet (λi=>ns.getD i 0) ns.length).length
theorem AS(hc:X.calm=true):YB X (.type "set") (λxs H Q=>∃l,∃ns:List Int,xs=[.ref l]/\SqL X.K H l (ns.map V.int)/\ns.length+1<4096/\∀S p,H p=none->Q (.ref p) (upd H p (.set S (VO ns)))):=by
 intro pins s σ H xs us Q I rx h;obtain⟨l,ns,rfl,hq,hb,q⟩:=h;obtain⟨u,rfl,ru⟩:=rx.one;cases ru;obtain⟨its,rv,p,hz⟩:=I.list hq;have hi:=Wb rv;have hn:its.toArray.size=ns.length:=by have:=rv.length;rw[List.length_map]at this;simp;omega
 refine call_set_list (I.ok.hd hc) p.isList (ns:=ns) (by simpa using hi) (by rw[hn];exact hb) λh' tk hS hk=>?_
 rw[hn]at hS;refine⟨.ref s.heap.objs.size,_,I.laid (t':=tk) (λb o e=>hk b o (Qi e) e) (Qr _) (show Zm X.prog X.w _ h' _ (.set _ (VO ns))from hS),rfl,q _ _ (I.hok.fresh (Qr _))⟩
theorem AR:YB X (.builtin "len") (λxs H Q=>∃p S n,xs=[.ref p]/\H p=some (.set S n)/\Q (.int n) H):=by
 intro pins s σ H xs us Q I rx h;obtain⟨p,S,n,rfl,hp,q⟩:=h;obtain⟨u,rfl,ru⟩:=rx.one;cases ru;obtain⟨o,es,ep,t,h1,h2,h3,h4,h5,h6,h7,h8⟩:=(show s.heap.SetOf (intKind X.prog X.w) p S n from I.hok p _ hp)
 have hsb:scanBound=4096:=rfl;refine call_len_set h1 h2 h3 h7 (by omega) ?_;rw[h8];exact⟨.int n,H,I.tok _,⟨_,rfl⟩,q⟩
noncomputable def ZO:List D->Option (List Int)
 |[]=>some []
 |.int i::r=>(ZO r).map (i :: ·)
 |_=>none
theorem VU{K:Frag}{G:Hp}:∀{vs:List V}{ds:List D}{ns:List Int},Reps K G vs ds->ZO ds=some ns->vs=ns.map V.int
 |_,_,ns,.nil,e=>by cases e;rfl
 |_,_,ns,.cons (d:=d) r t,e=>by
  cases d with
  |int b=>
   unfold ZO at e;cases z:ZO _ with
   |none=>rw[z]at e;cases e
   |some cs=>rw[z]at e;cases e;rw[r.int_inv,VU t z];rfl
  |_=>cases e
theorem VW(ns:List Int):ZO (ns.map int)=some ns:=by
 induction ns with
 |nil=>rfl
 |cons b r ih=>rw[Qy,ZO,ih];rfl
noncomputable def Wn:List D->Option D
 |[.list ds]=>(match ZO ds with
  |some ns=>if ns.length+1<4096 then some (.int (VO ns))else none
  |none=>none)
 |_=>none
theorem jn{xs:List D}{d:D}(h:Wn xs=some d):∃ds ns,xs=[.list ds]/\ZO ds=some ns/\ns.length+1<4096/\d=.int (VO ns):=by
 unfold Wn at h;split at h
 ·rename_i ds;cases z:ZO ds with
  |none=>rw[z]at h;cases h
  |some ns=>
   rw[z]at h;dsimp only at h;split at h
   ·rename_i c;cases h;exact⟨ds,ns,rfl,z,c,rfl⟩
   ·cases h
 ·cases h
theorem AQ:bootBuiltins "set" = some (.type "set"):=by decide +kernel
theorem jd{f:M (List D)}(hc:X.calm=true)(hg:Gl X "len")(hm:X.mg "len" = none)(hg2:Gl X "set")(hm2:X.mg "set" = none)(ha:PA X [a] (tDs X.K B G0 f))(he:Uu [a] X.env=(false,eval a X.env)::Uu [] X.env:=by rfl)
  (he2:Uu [.Call (.Name "set" p2) [a] [] p3] X.env=(false,eval (.Call (.Name "set" p2) [a] [] p3) X.env)::Uu [] X.env:=by rfl) :
  PE X (.Call (.Name "len" p4) [.Call (.Name "set" p2) [a] [] p3] [] pos) (tD X.K B G0 (K1 Wn f)):=
 Ks (Po AR hg hm boot_len (X6 (PJ (AS hc) hg2 hm2 AQ ha (by decide) (by decide) he rfl) Vo he2) (by decide) (by decide) he2 rfl) λσ H Q q=>tM.one (R:=Reps X.K) q λvs H2 G Z x k r a=>by obtain⟨d,e,a⟩:=a.opt;obtain⟨ds,ns,rfl,z,c,rfl⟩:=jn e;obtain⟨v,rfl,q1⟩:=r.one_inv;obtain⟨l,ws,rfl,h1,r1⟩:=q1.lst_inv;have:=VU r1 z;subst this;refine⟨l,ns,rfl,k.gh.seq h1,c,λS p hp=>⟨p,S,VO ns,rfl,Zc,?_⟩⟩;exact aft.done a k (Ext.hid k.gh hp) (.int _)
end
end DL
namespace L2
open PySem PySem.Spec PyProof.Rows
section
variable{X:Cx}{tg:Ur}
end
end L2
namespace DL
open PySem PySem.Spec L2
open PyProof.Rows hiding St
section
variable{X:Cx}{B G0:Hp}{e a b c tg:Ur}{pos:Pos}{es rest:List Ur}
end
end DL
namespace L2
open PySem PySem.Spec PyProof.Rows
section
variable{prog:Uo}{w:World}{A:Around}{E:Ul->Um->Prop}{s:Um}{M:Model}{env:Env}
theorem Dh{pos:Pos}{T:String}{args:List (Bool×Sem Ul)}{kws:List (Option Str×Sem Ul)}{Q:Ul->Um->Prop}(hp:args.any (·.1)=false)(hk:kws.any (·.1.isNone)=false)
  (h:Ut M A (evalArgs (.type T) true args kws) (λa s1=>Ut M A (call (.type T) a.pos a.kw) Q E s1) E s):Ut M A (callWith pos (.type T) [] args kws) Q E s:=by
 unfold callWith;refine Qd (JB (QH h (λa s1 h1=>Qd (Js ?_)) λ_ _ z=>z));simp only[hp,hk,Bool.false_or];refine Qd (Qh ?_);exact Qd (QH h1 (λr s2 hr=>Qd (JB (wpAny_point (Qh hr)))) λ_ _ z=>z)
theorem B6(l:Up)(t:Tok)(items:Array Ul)(n:Nat)(dct:Option Up)(sl:Array (Option Ul)) :
  Meets (Builtin.«enumerate.__new__» ⟨[.type "enumerate", .ref l],[("start", .int 1 t)]⟩) (λ_ R s=>s.heap.get? l=some ⟨.type "list", dct,.seq items n,sl⟩ /\
   R (.ok (.ret (.ref (s.heap.push {cls:=.type "list_iterator", data:=.fields #[.ref l,.int 0 0]}).objs.size))) {s with heap:=(s.heap.push {cls:=.type "list_iterator", data:=.fields #[.ref l,.int 0 0]}).push {cls:=.type "enumerate", data:=.fields #[.none,.bool false,.ref s.heap.objs.size,rawInt 1,.none,.none]}}):=
 .of_wp λprog w A R s h=>by
  obtain⟨hp,g,d,tk,os⟩:=s;obtain⟨hl,h⟩:=h;have hsub:=sub_enumerate;have hL:Heap.IsList (Shared.heap ⟨hp,g,d,tk,os⟩) l items:=⟨_,hl,rfl,n,rfl⟩
  wp_walk using AutoSeq1.wpAny_loadPart' hl
  refine wpAny_stack_any λst=>(Qh ?_);split
  ·rename_i c _ _ _ _ _;cases (c==Value.type "enumerate")<;>(wp_walk using(AutoSeq1.wpAny_loadPart' hl),(JG hL))<;>exact⟨_,rfl,h⟩
  ·(wp_walk using(AutoSeq1.wpAny_loadPart' hl),(JG hL));exact⟨_,rfl,h⟩
theorem jV{T newId initId:String}{Bn Bi:Builtin}{args:List Ul}{kw:List (Str×Ul)}{S:PySem.Spec}{Q Q1:Ul->Um->Prop}(ft:TypeCalled T newId initId)
  (hct:checkTypeCall T ⟨args,kw⟩=pure ()) (hcn:checkBuiltinCall newId ⟨.type T::args,kw⟩=pure ()) (eN:entryFor table newId=some Bn) (eI:entryFor table initId=some Bi)
  (g:Meets (Bn ⟨.type T::args,kw⟩) S) (h:S A.in1 (wants Q1 E) s)
  (hnext:∀obj s1,Q1 obj s1->s1.TypeIs obj T/\argsOk initId ⟨obj::args,kw⟩/\∃Si,Meets (Bi ⟨obj::args,kw⟩) Si/\Si A.in1 (wants (λr s2=>r=.none/\Q obj s2) E) s1) :
  Ut (model prog w) A (call (.type T) args kw) Q E s:=by
 obtain⟨c,tl,hmro⟩:=ft.mro;have hmade:=ft.made;have hsub:=ft.sub;refine wpAny_call (codeAny_of_tree ?_);show Ut _ _ (callAny (.type T) _) _ _ _;refine Qh ⟨Code.quiet_builtin _ (by decide +kernel),(codeAny_builtin F.entry_type_call ?_)⟩;rw[Around.under_plain (weight_type_call_type T args kw) (units_type_call_type T args kw)];have h1:=ft.notType;have h2:=ft.canCreate
 repeat' (any_goals (first|wp_step|assumption))
 refine codeAny_mono (codeAny_call_builtin ft.plain eN (wpAny_of_eq hcn (g prog w A.in1 _ s h))) λr s1 hr=>?_
 match r,hr with
 |.error e,hr=>exact hr
 |.ok (.ret obj),hr=>
  obtain⟨hT,hok,Si,gi,hsi⟩:=hnext _ _ hr;have hli:=ft.init.lookup;have hbi:=ft.init.bind obj
  repeat' (any_goals (first|wp_step|assumption))
  refine codeAny_mono (codeAny_call_builtin ft.init.plain eI (ft.init.check _ _ _ _ _ _ _ _ hT hok (gi prog w A.in1 _ s1 hsi))) λr2 s2 hr2=>?_
  match r2,hr2 with
  |.error e,hr2=>exact hr2
  |.ok (.ret r),hr2=>
   obtain⟨rfl,hq⟩:=hr2
   repeat' (any_goals (first|wp_step|assumption))
  |.ok .next,hr2=>exact hr2.elim
  |.ok .brk,hr2=>exact hr2.elim
  |.ok .cont,hr2=>exact hr2.elim
 |.ok .next,hr=>exact hr.elim
 |.ok .brk,hr=>exact hr.elim
 |.ok .cont,hr=>exact hr.elim
theorem jm{T newId:String}{self:Ul}{rest:List Ul}{kw:List (Str×Ul)}(hl:typeLookup (.type T) "__init__" = pure (some (.builtin "object.__init__")))
  (hm:Bind.madeBy (.type T)=pure (some newId)) (hne:(some newId != some "object.__new__")=true) :
  Meets (Builtin.«object.__init__» ⟨self::rest,kw⟩) (λ_ R s=>s.TypeIs self T/\R (.ok (.ret .none)) s):=by
 refine .of_wp λprog w A R s hs=>?_
 obtain⟨hT,hq⟩:=hs;cases rest with
 |nil=>
  cases kw with
  |nil=>exact Qh ⟨_,rfl,hq⟩
  |cons k kw=>(repeat' (any_goals (first|wp_step|assumption)));exact⟨_,rfl,hq⟩
 |cons a rest=>(repeat' (any_goals (first|wp_step|assumption)));exact⟨_,rfl,hq⟩
theorem jk(a:Ul)(t:Tok):checkTypeCall "enumerate" ⟨[a],[("start", .int 1 t)]⟩=pure ():=by kernel_rfl
theorem jc(a:Ul)(t:Tok):checkBuiltinCall "enumerate.__new__" ⟨[.type "enumerate", a],[("start", .int 1 t)]⟩=pure ():=by kernel_rfl
theorem jj(o a:Ul)(t:Tok):argsOk "object.__init__" ⟨[o,a],[("start", .int 1 t)]⟩:=by unfold argsOk;kernel_rfl
theorem jb{l:Up}{items:Array Ul}{t:Tok}{Q:Ul->Um->Prop}(hL:s.heap.IsList l items)
  (h:∀h',IsEnum h' (s.heap.objs.size+1) s.heap.objs.size 1 .none->h'.IsListIter s.heap.objs.size l 0->(∀b o,s.heap.get? b=some o->h'.get? b=some o)->Q (.ref (s.heap.objs.size+1)) {s with heap:=h'}) :
  Ut (model prog w) A (call (.type "enumerate") [.ref l] [("start", .int 1 t)]) Q E s:=by
 obtain⟨⟨c,dct,dt,sl⟩,hl,hc,n,hd⟩:=hL;replace hc:c=.type "list" :=hc;replace hd:dt=.seq items n:=hd;subst hc hd;have hz:(s.heap.push {cls:=.type "list_iterator", data:=.fields #[.ref l,.int 0 0]}).objs.size=s.heap.objs.size+1:=Heap.size_push ..;have he:IsEnum ((s.heap.push {cls:=.type "list_iterator", data:=.fields #[.ref l,.int 0 0]}).push {cls:=.type "enumerate", data:=.fields #[.none,.bool false,.ref s.heap.objs.size,rawInt 1,.none,.none]}) (s.heap.objs.size+1) s.heap.objs.size 1 .none:=by rw[←hz];exact Qz _ rfl
 refine jV F.called_enumerate (jk _ t) (jc _ t) F.entry_enumerate_new F.entry_object_init (B6 l t items n dct sl) (Q1:=λobj s1=>s1.TypeIs obj "enumerate" /\ Q obj s1) ⟨hl,?_⟩ λobj s1 hq=>
  ⟨hq.1,jj obj _ t,_,jm F.called_enumerate.init.lookup F.called_enumerate.made (by decide),hq.1,rfl,hq.2⟩
 show _/\_;rw[hz];exact⟨⟨_,he,rfl⟩,h _ he ⟨_,Qk _ (Qz _ rfl),rfl,rfl⟩ λb o x=>Qk _ (Qk _ x)⟩
end
section
variable{prog:Uo}{w:World}{A:Around}{E:Ul->Um->Prop}{s:Um}
theorem AO{en it l:Up}{i:Nat}{j:Int}{items:Array Ul}{x old:Ul}{Q:Option Ul->Um->Prop}(st:IsEnum s.heap en it j old)(li:s.heap.IsListIter it l i)(ls:s.heap.IsList l items)
  (at_:items[i]?=some x) (ne:en≠it)
  (k:∀h',IsEnumOut h' en it (j+1) x s.heap.objs.size->h'.IsListIter it l (i+1)->h'.get? s.heap.objs.size=some {cls:=.type "tuple", data:=.seq #[.int j s.toks,x]}->(∀b o,b≠en->b≠it->s.heap.get? b=some o->h'.get? b=some o) ->
   Q (some (.ref s.heap.objs.size)) {s with heap:=h',toks:=s.toks+1}):Ut (model prog w) A (pyNext (.ref en)) Q E s:=by
 have ty:s.TypeIs (.ref en) "enumerate" :=⟨_,st,rfl⟩
 have lt:en<s.heap.objs.size:=Qi st;unfold pyNext;refine Qd (wpAny_attempt (wpAny_callSpecial?_slot (name:=UG "__next__") ty F.slot_enumerate_next (JA F.slot_enumerate_next ty F.entry_enumerate_next ?_ (F.args_enumerate_next_1 _))));show Ut _ _ (field (.ref en) 2 >>= _) _ _ s;refine Qd (wpAny_field st rfl (x:=.ref it) rfl ?_);refine Qd (wpAny_nextOf_list_item li ls at_ λm1 li1 c1=>?_);have c1:Heap.SameBut it s.heap m1:=c1;have st1:IsEnum m1 en it j old:=(c1.2 en ne).trans st;show Ut _ _ (field (.ref en) 3 >>= _) _ _ {s with heap:=m1};refine Qd (wpAny_field st1 rfl (x:=rawInt j) rfl ?_);show Ut _ _ (field (.ref en) 4 >>= _) _ _ {s with heap:=m1};refine Qd (wpAny_field st1 rfl (x:=.none) rfl ?_);show Ut _ _ (mkInt j >>= _) _ _ {s with heap:=m1};refine Qd (wpAny_mkInt ?_);show Ut _ _ (setField (.ref en) 3 (rawInt (j+1)) >>= _) _ _ {s with heap:=m1,toks:=s.toks+1};refine wpAny_bind (wpAny_setField_rec st1 (by simp) λm2 st2 c2=>?_);have c2:Heap.SameBut en m1 m2:=c2;have st2:IsEnum m2 en it (j+1) old:=st2;show Ut _ _ (setField (.ref en) 4 .none >>= _) _ _ {s with heap:=m2,toks:=s.toks+1};refine wpAny_bind (wpAny_setField_rec st2 (by simp) λm3 st3 c3=>?_);have c3:Heap.SameBut en m2 m3:=c3;have st3:IsEnum m3 en it (j+1) old:=st3;show Ut _ _ (newTuple [.int j s.toks,x] >>= _) _ _ {s with heap:=m3,toks:=s.toks+1};refine Qd (wpAny_newTuple ?_);have z3:m3.objs.size=s.heap.objs.size:=c3.1.trans (c2.1.trans c1.1);have st4:IsEnum (m3.push {cls:=.type "tuple", data:=.seq #[.int j s.toks,x]}) en it (j+1) old:=Qk _ (show IsEnum m3 en it (j+1) old from st3);have tp4:(m3.push {cls:=.type "tuple", data:=.seq #[.int j s.toks,x]}).get? s.heap.objs.size=some {cls:=.type "tuple", data:=.seq #[.int j s.toks,x]}:=by rw[←z3];exact Qz _ rfl
 have kp4:∀b o,b≠en->b≠it->s.heap.get? b=some o->(m3.push {cls:=.type "tuple", data:=.seq #[.int j s.toks,x]}).get? b=some o:=λb o n1 n2 q=>Qk _ ((c3.2 b n1).trans ((c2.2 b n1).trans ((c1.2 b n2).trans q)))
 have li4:(m3.push {cls:=.type "tuple", data:=.seq #[.int j s.toks,x]}).IsListIter it l (i+1):=by obtain⟨o,q,r⟩:=li1;exact⟨o,Qk _ ((c3.2 it (Ne.symm ne)).trans ((c2.2 it (Ne.symm ne)).trans q)),r⟩
 generalize m3.push {cls:=.type "tuple", data:=.seq #[.int j s.toks,x]}=m4 at st4 tp4 kp4 li4;show Ut _ _ (Builtin.SmallTypes.ownedTupleIsFree (.ref en) >>= _) _ _ {s with heap:=m4,toks:=s.toks+1};rw[z3];refine Qd ?_;unfold Builtin.SmallTypes.ownedTupleIsFree Builtin.SmallTypes.ownedTupleHandOut;refine Qd (wpAny_field st4 rfl (x:=.none) rfl (Qh ?_));simp only[if_true];refine wpAny_bind (wpAny_rule (wpAny_bind (wpAny_field st4 rfl (x:=old) rfl (wpAny_bind (wpAny_setField_rec st4 (by simp) λm5 st5 c5=>?_)))));have c5:Heap.SameBut en m4 m5:=c5;have st5:IsEnum m5 en it (j+1) x:=st5;refine wpAny_bind (wpAny_bind (wpAny_setField_rec st5 (by simp) λm6 st6 c6=>?_));have c6:Heap.SameBut en m5 m6:=c6;have st6:IsEnumOut m6 en it (j+1) x s.heap.objs.size:=st6;refine wpAny_setField_rec st6 (by simp) λm7 st7 c7=>?_
 have c7:Heap.SameBut en m6 m7:=c7;have st7:IsEnumOut m7 en it (j+1) x s.heap.objs.size:=st7;have up:∀b,b≠en->m7.get? b=m4.get? b:=λb n=>(c7.2 b n).trans ((c6.2 b n).trans (c5.2 b n));refine Qd (wpAny_letGo (Qh ⟨_,rfl,Qh (k m7 st7 ?_ ((up _ (JR lt)).trans tp4) λb o n1 n2 q=>(up b n1).trans (kp4 b o n1 n2 q))⟩))
 obtain⟨o,q,r⟩:=li4;exact⟨o,(up it (Ne.symm ne)).trans q,r⟩
theorem AN{en it l:Up}{i:Nat}{j:Int}{items:Array Ul}{old:Ul}{Q:Option Ul->Um->Prop}(hh:A.handled=none)(st:IsEnum s.heap en it j old)(li:s.heap.IsListIter it l i)(ls:s.heap.IsList l items)
  (at_:items[i]?=none) (k:∀h',Heap.ExtBut it s.heap h'->Q none {s with heap:=h'}):Ut (model prog w) A (pyNext (.ref en)) Q E s:=by
 have ty:s.TypeIs (.ref en) "enumerate" :=⟨_,st,rfl⟩
 unfold pyNext;refine Qd (wpAny_attempt (wpAny_callSpecial?_slot (name:=UG "__next__") ty F.slot_enumerate_next (JA F.slot_enumerate_next ty F.entry_enumerate_next ?_ (F.args_enumerate_next_1 _))));show Ut _ _ (field (.ref en) 2 >>= _) _ _ s;refine Qd (wpAny_field st rfl (x:=.ref it) rfl (Qd (m:=Builtin.SmallTypes.nextOf (.ref it)) (wpAny_nextOf_list_end hh li ls at_ λh' z c y=>?_)));obtain⟨o,q,t⟩:=y;exact Qd (wpAny_isInstance (T:= "StopIteration") (b:=true) ⟨o,q,t⟩ isSubtype_stop (Qh (k _ c)))
end
noncomputable def Sk(K:Frag)(a:Up):It:=
 ⟨λi H=>∃xs x,SqL K H a xs/\xs[i]?=some x,
  λi H v H'=>∃p x,H p=none/\v=.ref p/\(∀xs,SqL K H a xs->xs[i]?=some x)/\H'=upd H p (.tup [.int (1+(i:Int)),x]),
  λi H=>∃xs,SqL K H a xs/\xs.length<=i⟩
theorem ja{P:Uo}{w:World}{K:Frag}{elts:List Ur}{x1}{tp:Pos}(a e it:Up)(hne:e≠it) :
  Turn P w K (.Tuple elts x1 tp) (Sk K a) [e,it] e (λi h=>(∃old,IsEnum h e it (1+(i:Int)) old)/\h.IsListIter it a i) where
 mem:=by simp
 obj:=λi h st b hb=>by
  obtain⟨⟨old,he⟩,o,ho,c,d⟩:=st;have hb':b=e∨b=it:=by simpa using hb
  rcases hb' with rfl|rfl
  ·exact⟨_,he,λv z=>by have z':Data.fields _=Data.cell v:=z;cases z'⟩
  ·exact⟨o,ho,λv z=>by rw[d]at z;cases z⟩
 keep:=λi h h' st k=>by obtain⟨⟨old,he⟩,hi⟩:=st;exact⟨⟨old,k e (by simp) _ he⟩,hi.at λo q=>k it (by simp) o q⟩
 item:=by
  intro X hP hw hK hc i pins s σ H E I hf st hg;subst hP hw hK;obtain⟨⟨old,he⟩,hi⟩:=st;obtain⟨xs,x,hq,hx⟩:=hg;obtain⟨its,rv,p,hz⟩:=I.list hq;obtain⟨u,hu,ru⟩:=rv.get hx;refine AO he hi p.isList (x:=u) (by simpa using hu) hne λh1 out hi1 ht kk=>?_
  refine⟨_,rfl,wpAny_letOwnedTupleGo_enum out λh2 he2 hs2=>?_⟩;have hel:e<s.heap.objs.size:=Qi he;have hs2':Heap.SameBut e h1 h2:=hs2;have ht2:h2.get? s.heap.objs.size=some {cls:=.type "tuple", data:=.seq #[.int (1+(i:Int)) s.toks,u]}:=(hs2'.2 _ (JR hel)).trans ht
  have kk2:∀b o,b∉[e,it]->s.heap.get? b=some o->h2.get? b=some o:=λb o hb q=>by
   have hbe:b≠e:=λz=>hb (by simp[z])
   have hbi:b≠it:=λz=>hb (by simp[z])
   exact(hs2'.2 b hbe).trans (kk b o hbe hbi q)
  have hn:H s.heap.objs.size=none:=I.hok.fresh (Qr _)
  have I2:Inv X pins σ (upd H s.heap.objs.size (.tup [.int (1+(i:Int)),x])) {s with heap:=h2,toks:=s.toks+1}:=
   I.turnedNew (fp:=[e,it]) hf kk2 (Qr _) ⟨by show 2<=Us;decide,[.int (1+(i:Int)) s.toks,u],.cons ⟨_,rfl⟩ (.cons ru .nil),⟨_,ht2,rfl,_,rfl⟩⟩
  refine⟨.ref s.heap.objs.size,_,I2,rfl,⟨_,x,hn,rfl,λys hy=>by rw[I.list_inj hy hq];exact hx,rfl⟩,⟨⟨u,?_⟩,?_⟩,λb hb=>?_⟩
  ·have e2:(1+((i+1:Nat):Int))=1+(i:Int)+1:=by omega
   rw[e2];exact he2
  ·exact hi1.at λo q=>(hs2'.2 it (Ne.symm hne)).trans q
  ·have hlt:b<s.heap.objs.size:=by
    have hb':b=e∨b=it:=by simpa using hb
    rcases hb' with rfl|rfl
    ·exact hel
    ·obtain⟨o,ho,_⟩:=hi;exact Qi ho
   rw[KM (QN hlt)];exact(hf b hb).1
 done:=by intro X hP hw hK hc i pins s σ H E I hf st hg;subst hP hw hK;obtain⟨⟨old,he⟩,hi⟩:=st;obtain⟨xs,hq,hx⟩:=hg;obtain⟨its,rv,p,hz⟩:=I.list hq;have hl:=rv.length;exact AN (I.ok.hd hc) he hi p.isList (by simp;omega) λh' eb=>⟨rfl,I.turnedL (t':=s.toks) hf λb o hb q=>eb b o (λz=>hb (by simp[z])) q⟩
 self:=λ_ _ _ _ _ st h=>by obtain⟨⟨old,he⟩,_⟩:=st;exact wpAny_pyIter_enum he h
section
variable{X:Cx}
theorem B5{a:Ur}{ta:TA}{p pos k1 k2:Pos}{j}{elts:List Ur}{x1}{tp:Pos}(hg:Gl X "enumerate")(hm:X.mg "enumerate" = none)(ha:PA X [a] ta)
  (hs:backTo pos (Uu [a] X.env)=(false,eval a X.env)::backTo pos (Uu [] X.env):=by rfl) (hpl:(backTo pos (Uu [a] X.env)).any (·.1)=false:=by rfl) :
  PI X (.Tuple elts x1 tp) (.Call (.Name "enumerate" p) [a] [⟨some "start", .Constant (.int 1) j k1,k2⟩] pos) (λσ H R=>ta σ H λvs H1=>∃a xs,vs=[.ref a]/\SqL X.K H1 a xs/\R (Sk X.K a) H1):=by
 intro pins s σ H R I h;refine wpAny_Call_Name_kw (Vp I hg hm boot_enumerate (Dh hpl rfl ?_));rw[hs];refine evalArgs_kwB rfl ?_;rw[←hs];refine thn (ha pos pins s σ H _ I h) λus s1 ⟨vs,H1,I1,r1,q1⟩=>?_;refine kws_cons (wpAny_Constant_int (kws_nil ?_))
 obtain⟨l,xs,e,hq,q⟩:=q1;subst e;cases r1 with
 |cons r rr=>
  cases rr;cases (show _=Value.ref l from r);have I1':=I1.tok (s1.toks+1);obtain⟨its,rv,pl,hz⟩:=I1'.list hq;refine jb pl.isList λh' he hi kk=>?_;have I2:Inv X pins σ H1 {s1 with heap:=h',toks:=s1.toks+1}:=I1'.kept (t':=s1.toks+1) kk;refine wpAny_pyIter_enum he ?_
  refine⟨s1.heap.objs.size+1,[s1.heap.objs.size+1,s1.heap.objs.size],_,_,H1,rfl,I2,ja l _ _ (Nat.succ_ne_self _),⟨⟨_,he⟩,hi⟩,λb hb=>?_,q⟩;have hb':b=s1.heap.objs.size+1∨b=s1.heap.objs.size:=by simpa using hb
  rcases hb' with rfl|rfl
  ·exact I1.fpOk (JZ _) (I1.hok.fresh (JZ _))
  ·exact I1.fpOk (Qr _) (I1.hok.fresh (Qr _))
end
end L2
namespace DL
open PySem PySem.Spec L2
open PyProof.Rows hiding St
section
variable{X:Cx}{B G0:Hp}{e a b c tg:Ur}{pos:Pos}{es rest:List Ur}
theorem ji{K:Frag}{G1:Hp}{ad:Up}{vs:List V}{ds:List D}(h:SqL K G1 ad vs)(r:Reps K G1 vs ds):Xf K (Sk K ad) (Z7 1 ds) G1 where
 go:=λi G H s1 s2 hi=>by
  rw[YC]at hi;have hi':i<vs.length:=by rw[r.length];exact hi
  exact⟨vs,vs[i],(s1.trans s2).seq h,Qf hi'⟩
 stop:=λi G H s1 s2 hi=>by rw[YC]at hi;exact⟨vs,(s1.trans s2).seq h,by rw[r.length];exact hi⟩
 yld:=λi G H x H' d s1 s2 e y=>by
  obtain⟨p,v,hp,rfl,y1,rfl⟩:=y;have z1:=y1 vs ((s1.trans s2).seq h);rw[O0]at e;cases q:ds[i]? with
  |none=>rw[q]at e;cases e
  |some dd=>
   rw[q]at e;cases e;obtain⟨v',e1,r1⟩:=r.get q;rw[z1]at e1;cases e1;refine⟨upd G p (.tup [.int (1+(i:Int)),v]),Ext.new s2 hp,.tup (SqT.of Zc) (.cons ?_ (.cons ((r1.mono s1).mono (Zn (s2.free hp))) .nil))⟩;have:((1+i:Nat):Int)=1+(i:Int):=by omega
   rw[this];exact .int _
noncomputable def SD:List D->Option (List D)
 |[.list ds]=>some (Z7 1 ds)
 |_=>none
noncomputable def R5(f:M (List D)):M (List D):=Kb f λx=>U9 (SD x)
theorem qu{x l:List D}(h:SD x=some l):∃ds,x=[.list ds]/\l=Z7 1 ds:=by
 unfold SD at h;split at h
 ·cases h;exact⟨_,rfl,rfl⟩
 ·cases h
theorem B4{f:M (List D)}{p2 k1 k2:Pos}{j}{elts:List Ur}{x1}{tp:Pos}(hg:Gl X "enumerate")(hm:X.mg "enumerate" = none)(ha:PA X [a] (tDs X.K B G0 f))
  (hs:backTo pos (Uu [a] X.env)=(false,eval a X.env)::backTo pos (Uu [] X.env):=by rfl) (hpl:(backTo pos (Uu [a] X.env)).any (·.1)=false:=by rfl) :
  PI X (.Tuple elts x1 tp) (.Call (.Name "enumerate" p2) [a] [⟨some "start", .Constant (.int 1) j k1,k2⟩] pos) (iD X.K B G0 (R5 f)):=YY (B5 hg hm ha hs hpl) λσ H R q=>tM.toI (R0:=Reps X.K) q λv H' G' Z' x k r a=>by
 cases z:SD x with
 |none=>rw[z]at a;exact a.elim
 |some l=>rw[z]at a;obtain⟨ds,rfl,rfl⟩:=qu z;obtain⟨v,rfl,q⟩:=r.one_inv;obtain⟨l,ws,rfl,h1,r1⟩:=q.lst_inv;exact⟨l,ws,rfl,k.gh.seq h1,a _ G' H' k (.refl _) (ji h1 r1)⟩
end
section
variable{X:Cx}
noncomputable def most:List Int->Int
 |[]=>0
 |[n]=>n
 |n::r=>if most r > n then most r else n
theorem RI:∀{ns:List Int},0<ns.length->most ns∈ns
 |[n],_=>QZ.2 rfl
 |n::m::r,_=>by
  have ih:=RI (ns:=m::r) (Ui _);unfold most;split
  ·exact Ql _ ih
  ·exact Qm ..
theorem Ob:∀{ns:List Int}{a:Int},a∈ns->a<=most ns
 |[n],a,h=>by rw[QZ.1 h];exact QW _
 |n::m::r,a,h=>by
  have ih:∀b,b∈m::r->b<=most (m::r):=λb hb=>Ob hb;unfold most;rcases QP.1 h with e|h
  ·subst e;split<;>omega
  ·have:=ih a h;split<;>omega
theorem Dg{ns:List Int}{M:Int}(h1:M∈ns)(h2:∀a,a∈ns->a<=M):most ns=M:=
 JO (h2 _ (RI (J0 h1))) (Ob h1)
theorem AM(hc:X.calm=true):YB X (.builtin "max") (λxs H Q=>∃l,∃ns:List Int,xs=[.ref l]/\SqL X.K H l (ns.map V.int)/\0<ns.length/\Q (.int (most ns)) H):=by
 intro pins s σ H xs us Q I rx h;obtain⟨l,ns,rfl,hq,hb,q⟩:=h;obtain⟨u,rfl,ru⟩:=rx.one;cases ru;obtain⟨its,rv,p,hz⟩:=I.list hq;have hi:=Wb rv;obtain⟨ys,e⟩:=hi.allInts.items;have hns:ns=ys.toList.map (·.1):=by rw[←hi.numsOf,←nums_intItems,←e]
 have hsz:0<ys.size:=by rw[hns,Qb,Jh]at hb;exact hb
 have hl:=p.isList;rw[e]at hl;refine max_intList (I.ok.hd hc) hl hsz λv h' tk hv hk=>?_
 obtain⟨t,rfl⟩:=intItems_at hv;obtain⟨h1,h2⟩:=argBest_gt (numAt ys) (ys.size-1);refine⟨.int (most ns),H,I.kept hk,⟨t,?_⟩,q⟩;rw[Dg (M:=_) ?_ ?_]
 ·rw[hns,numAt_eq];exact getD_mem (by rw[Qb,Jh];omega)
 ·intro a ha;rw[hns]at ha;obtain⟨j,hj,rfl⟩:=mem_getD ha;rw[Qb,Jh]at hj;rw[←numAt_eq];exact h2 j (by omega)
noncomputable def VG:List D->Option D
 |[.list ds]=>(match ZO ds with
  |some ns=>if 0<ns.length then some (.int (most ns))else none
  |none=>none)
 |_=>none
theorem AL{xs:List D}{d:D}(h:VG xs=some d):∃ds ns,xs=[.list ds]/\ZO ds=some ns/\0<ns.length/\d=.int (most ns):=by
 unfold VG at h;split at h
 ·rename_i ds;cases z:ZO ds with
  |none=>rw[z]at h;cases h
  |some ns=>
   rw[z]at h;dsimp only at h;split at h
   ·rename_i c;cases h;exact⟨ds,ns,rfl,z,c,rfl⟩
   ·cases h
 ·cases h
theorem Ex(hc:X.calm=true):YG X (.builtin "max") VG:=by refine⟨_,AM hc,λvs G H ds d Q s r e k=>?_⟩;obtain⟨ds,ns,rfl,z,c,rfl⟩:=AL e;obtain⟨v,rfl,q1⟩:=r.one_inv;obtain⟨l,ws,rfl,h1,r1⟩:=q1.lst_inv;have:=VU r1 z;subst this;exact⟨l,ns,rfl,s.seq h1,c,k _ G H (.refl s) (.int _)⟩
theorem OW{ns:List Int}(h:0<ns.length):VG [.list (ns.map .int)]=some (.int (most ns)):=by unfold VG;simp only[VW,Qp h]
end
section
variable{X:Cx}{B G0:Hp}{e o:Ur}{es:List Ur}
theorem jD{h:Heap}{vs:List Ul}{xs:List D}{as:List Up}{d:D}(rs:ReadsAll h vs xs as)(hxs:UC xs=true) :
  vs.countP (λy=>UE (SeqAt.readOf h y) d)=xs.countP (λy=>UE y d):=by
 have key:xs=vs.map (SeqAt.readOf h):=(SeqAt.readsAll_map xs vs as hxs rs).symm;rw[key,List.countP_map];rfl
noncomputable def Vz(y x:D):Option D:=match y with
 |.list ds=>if x.canLay0=true/\UC ds=true/\x.depth<=60 then some (.int (ds.countP λy=>UE y x))else none
 |_=>none
theorem B3(hu:X.A.units+64<cLine):MtR X "list.count" (λv vs H Q=>∃G u y x d,vs=[u]/\Same G H/\Rep X.K G v y/\Rep X.K G u x/\Vz y x=some (.int d)/\Q (.int d) H):=by
 intro pins s σ H x xs v us Q I rx rs h;obtain⟨G,u,dy,dx,d,rfl,sg,py,px,e,q⟩:=h;obtain⟨w,rfl,rw'⟩:=rs.one;unfold Vz at e;split at e
 ·rename_i ds;split at e
  ·rename_i c;obtain⟨bs,rb⟩:=YX I sg py rx (show UC _=true from c.2.1);obtain⟨as,ra⟩:=YX I sg px rw' c.1;cases rb with
   |list h1 h2 h3 h4=>rename_i l ob its cs n;obtain⟨cls,dd,data,sl⟩:=ob;simp only at h2 h3;subst h2 h3;refine call_meets F.slot_list_count ⟨_,h1,rfl⟩ F.entry_list_count (F.args_list_count_2 _ _) (SeqAt.list_countAt _ _ _ dd sl _ (λy=>UE (SeqAt.readOf s.heap y) dx)) ⟨h1,SeqAt.items_eqAt h4 ra c.2.1 c.1 (by have:=c.2.2;omega),?_⟩;rw[jD h4 c.2.1];cases e;exact⟨.int _,H,I.tok _,⟨_,rfl⟩,q⟩
  ·cases e
 ·cases e
noncomputable def Pi(y:D)(xs:List D):Option D:=match xs with
 |[x]=>Vz y x
 |_=>none
theorem jC{ds xs:List D}{d:D}(h:Pi (.list ds) xs=some d):∃x n,xs=[x]/\d=.int n/\Vz (.list ds) x=some (.int n):=by
 unfold Pi at h;split at h
 ·rename_i x;have h':=h;unfold Vz at h;dsimp only at h;split at h
  ·cases h;exact⟨x,_,rfl,rfl,h'⟩
  ·cases h
 ·cases h
noncomputable def Vs(f:M D)(g:M (List D)):M D:=Kb f λy=>Kb g λxs=>U9 (match y with | .list ds=>Pi (.list ds) xs|_=>none)
theorem AK{apos cpos:Pos}{f:M D}{g:M (List D)}(hu:X.A.units+64<cLine)(ho:PE X o (tD X.K B G0 f))(ha:PA X (e::es) (tDs X.K B G0 g))
  (hbase:attributeBase o "count" X.env (eval o X.env)=eval o X.env:=by rfl)
  (hfew:((backTo cpos (Uu (e::es) X.env)).all (λx=>!x.1)&&(backToKw cpos (keywordEach [] X.env)).all (λx=>x.1.isSome)
   && decide ((e::es).length+([]:List Keyword).length+(if([]:List Keyword).isEmpty then 0 else 1)<30))=true:=by rfl)
  (hline:(apos.endLine==cpos.line)=true:=by rfl) (hs:Uu (e::es) X.env=(false,eval e X.env)::Uu es X.env:=by rfl) (hplain:(backTo cpos (Uu es X.env)).any (·.1)=false:=by rfl) :
  PE X (.Call (.Attribute o "count" apos) (e::es) [] cpos) (tD X.K B G0 (Vs f g)):=
 Ks (RY F.plainAttrs_list F.slot_list_count F.type_list_count (B3 hu) ho ha hbase hfew hline hs hplain) λσ H Q q=>by
  refine tM.one (R:=Rep X.K) q λv H2 G Z y k r a=>?_
  cases y with
  |list ds=>
   obtain⟨l,ws,rfl,h1,r1⟩:=r.lst_inv;refine⟨.inl ⟨rfl,ws,k.gh.seq h1⟩,?_⟩;refine tM.nx (R:=Reps X.K) k a λxs H3 G3 Z3 es k3 s3 r3 a3=>?_
   obtain⟨d,e,a3⟩:=a3.opt;obtain⟨x,n,rfl,rfl,e'⟩:=jC e;obtain⟨u,rfl,ru⟩:=r3.one_inv;exact⟨G3,u,.list ds,x,n,rfl,k3.gh,r.mono s3,ru,e',aft.now a3 k3 (.int _)⟩
  |_=>
   unfold Kb at a;cases z:g Z with
   |bad=>rw[z]at a;exact a.elim
   |ok xs Z1=>rw[z]at a;exact a.elim
theorem OV{f:M D}{g:M (List D)}{Z Z1 Z2:UH}{ds:List D}{x d:D}(h1:f Z=.ok (.list ds) Z1)(h2:g Z1=.ok [x] Z2)(h3:Vz (.list ds) x=some d):Vs f g Z=.ok d Z2:=by unfold Vs Kb;rw[h1];dsimp only;rw[h2];dsimp only[Pi];rw[h3];rfl
end
section
variable{prog:Uo}{w:World}{A:Around}{R:Result->Um->Prop}{h0:Heap}{l I S:Up}{rs:List (Up×List Ul)}
def Xo(h h':Heap):Prop:=∀b o,h.get? b=some o->h'.get? b=some o
def Ls1(h:Heap)(a:Up)(its:List Ul)(sl:Array (Option Ul)):Prop:=∃n,h.get? a=some {cls:=.type "list", dict:=none,data:=.seq its.toArray n,slots:=sl}
def Ls(h:Heap)(a:Up)(its:List Ul):Prop:=∃n sl,h.get? a=some {cls:=.type "list", dict:=none,data:=.seq its.toArray n,slots:=sl}
theorem Ls.kept{h h':Heap}{a:Up}{its:List Ul}(x:Ls h a its)(k:Xo h h'):Ls h' a its:=by obtain⟨n,sl,e⟩:=x;exact⟨n,sl,k _ _ e⟩
theorem qt(hh:A.in1.handled=none)(hI:h0.objs.size<=I)(hS:h0.objs.size<=S)(hIS:S≠I)(hl:h0.IsList l (rs.map λp=>Value.ref p.1).toArray)(hr:∀p∈rs,Ls h0 p.1 p.2) :
  ∀(k i:Nat)(s:Um)(t:Up)(acc:List Ul)(c:Nat)(sl:Array (Option Ul)),rs.length-i=k->i<=rs.length->Xo h0 s.heap->s.heap.IsListIter I l i ->
   s.heap.get? S=some {cls:=.type "list", dict:=none,data:=.seq #[.ref t] c,slots:=#[]}->t≠S->t≠I->Ls1 s.heap t acc sl->acc.length+((rs.drop i).map (·.2)).flatten.length<=Us ->
   (∀p h' tk sl',Xo h0 h'->Ls1 h' p (acc++((rs.drop i).map (·.2)).flatten) sl'->(p=t/\i=rs.length/\sl'=sl∨h0.objs.size<=p/\sl'=#[])->R (.ok (.ret (.ref p))) {s with heap:=h',toks:=tk}) ->
   codeAny (model prog w) A (.builtin "sum.loop" ⟨[.ref I,.ref S,rawInt 2,rawInt 0],[]⟩) R s:=by
 intro k;induction k with
 |zero=>
  intro i s t acc c sl hk hi hK hit hSS htS htI ht hz hR;have hin:i=rs.length:=by omega
  subst hin;refine codeAny_builtin F.entry_sum_loop ?_;rw[Around.under_plainId F.plain_sum_loop _];show Ut _ A.in1 (seqItems? (.ref S) >>= _) _ _ s;refine Qd (wpAny_seqItems hSS rfl ?_);show Ut _ A.in1 (tryCatch (pyNext (.ref I)) _ >>= _) _ _ s;have hl':s.heap.IsList l (rs.map λp=>Value.ref p.1).toArray:=by obtain⟨o,e,r⟩:=hl;exact⟨o,hK _ _ e,r⟩
  refine wpAny_bind (wpAny_tryCatch (wpAny_pyNext_list_end hh hit hl' (by simp) λh' ex=>?_));refine Qh (hR t h' s.toks sl (λb o e=>?_) ?_ (.inl ⟨rfl,rfl,rfl⟩))
  ·exact ex b o (QN (QF (Qi e) hI)) (hK b o e)
  ·obtain⟨n,e⟩:=ht;rw[List.drop_length,Ug,List.flatten_nil,Jc];exact⟨n,ex _ _ htI e⟩
 |succ k ih=>
  intro i s t acc c sl hk hi hK hit hSS htS htI ht hz hR;have hlt:i<rs.length:=by omega
  refine codeAny_builtin F.entry_sum_loop ?_;rw[Around.under_plainId F.plain_sum_loop _];show Ut _ A.in1 (seqItems? (.ref S) >>= _) _ _ s;refine Qd (wpAny_seqItems hSS rfl ?_);show Ut _ A.in1 (tryCatch (pyNext (.ref I)) _ >>= _) _ _ s;have hl':s.heap.IsList l (rs.map λp=>Value.ref p.1).toArray:=by obtain⟨o,e,r⟩:=hl;exact⟨o,hK _ _ e,r⟩
  refine wpAny_bind (wpAny_tryCatch (wpAny_pyNext_list_item (x:=.ref (rs[i]'hlt).1) hit hl' (by simp[hlt]) λh' hit' sb=>?_));show Ut _ A.in1 ((holding [Value.ref (rs[i]'hlt).1] (binaryOp .Add (.ref t) (.ref (rs[i]'hlt).1))).attempt >>= _) _ _ _;refine Qd (wpAny_attempt (JB ?_));have hm:rs[i]'hlt∈rs:=JX hlt;have hd:rs.drop i=rs[i]'hlt::rs.drop (i+1):=Jb hlt;have hK':Xo h0 h':=λb o e=>(sb.2 b (QN (QF (Qi e) hI))).trans (hK b o e)
  obtain⟨n1,e1⟩:=ht;have e1':=(sb.2 t htI).trans e1;obtain⟨n2,s2,e2⟩:=(hr _ hm).kept hK';have hSS':=(sb.2 S hIS).trans hSS;rw[hd,Qy,QM,Qj]at hz;refine concat_meets ⟨_,e1',rfl⟩ ⟨_,e2,rfl⟩ noFill_list_add seq_list_add PySem.F.slot_list_add PySem.F.entry_list_add (PySem.F.args_list_add_2 _ _) (list_addW t _ acc.toArray _ n1 n2 none none sl s2 (by rw[QI,QI];omega)) ⟨e1',e2,?_⟩;have hlS:S<h'.objs.size:=Qi hSS';have hlI:I<h'.objs.size:=by obtain⟨o,e,_⟩:=hit';exact Qi e
  have ea:acc.toArray++(rs[i]'hlt).2.toArray=(acc++(rs[i]'hlt).2).toArray:=by simp
  rw[ea];have hP:∀b o,h'.get? b=some o->(h'.push {cls:=Value.type "list", data:=Data.seq (acc++(rs[i]'hlt).2).toArray}).get? b=some o:=λb o e=>Qk _ e
  have hS1:=hP _ _ hSS';have hNew:(h'.push {cls:=Value.type "list", data:=Data.seq (acc++(rs[i]'hlt).2).toArray}).get? h'.objs.size=some {cls:=Value.type "list", data:=Data.seq (acc++(rs[i]'hlt).2).toArray}:=Qz _ rfl;show Ut _ A.in1 (updateSeq S (λ_=>#[.ref h'.objs.size]) >>= _) _ _ _;refine Qd (wpAny_updateSeq hS1 rfl ?_);have hS2:=Heap.get?_update_self (Obj.mapSeq λ_=>#[Value.ref h'.objs.size]) hS1 rfl;refine Qd (wpAny_letGo ?_);refine Qd (wpAny_updateSeq hS2 rfl (Qh ⟨plainId_quiet F.plain_sum_loop _,?_⟩));have oth:∀b o,b≠S->(h'.push {cls:=Value.type "list", data:=Data.seq (acc++(rs[i]'hlt).2).toArray}).get? b=some o->(((h'.push {cls:=Value.type "list", data:=Data.seq (acc++(rs[i]'hlt).2).toArray}).update S (Obj.mapSeq λx=>#[Value.ref h'.objs.size])).update S (Obj.mapSeq λx=>#[Value.ref h'.objs.size])).get? b=some o:=λb o hb e=>(Heap.get?_update_other _ _ (Ne.symm hb)).trans ((Heap.get?_update_other _ _ (Ne.symm hb)).trans e)
  refine ih (i+1) _ h'.objs.size (acc++(rs[i]'hlt).2) _ #[] (by omega) hlt ?_ ?_ (Heap.get?_update_self _ hS2 rfl) (JR hlS) (JR hlI) ?_ (by rw[Qj];omega) λp h'' tk sl' hk'' hp hq=>?_
  ·exact λb o e=>oth b o (QN (QF (Qi e) hS)) (hP b o (hK' b o e))
  ·obtain⟨o,e,r⟩:=hit';exact⟨o,oth I o (Ne.symm hIS) (hP I o e),r⟩
  ·exact⟨_,oth _ _ (JR hlS) hNew⟩
  ·refine hR p h'' tk sl' hk'' ?_ (.inr ?_)
   ·rw[hd,Qy,QM,←Q9];exact hp
   ·rcases hq with ⟨rfl, -,e⟩|hq
    ·exact⟨Nat.le_of_lt (Nat.lt_of_le_of_lt hS hlS),e⟩
    ·exact hq
end
section
variable{prog:Uo}{w:World}{A:Around}{E:Ul->Um->Prop}{s:Um}{l z:Up}{rs:List (Up×List Ul)}
theorem AJ(a b:Ul):argsOk "sum" ⟨[a,b],[]⟩:=by unfold argsOk;kernel_rfl
theorem qq{Q:Ul->Um->Prop}(hh:A.handled=none)(hl:s.heap.IsList l (rs.map λp=>Value.ref p.1).toArray)(hr:∀p∈rs,Ls s.heap p.1 p.2)(hz:Ls s.heap z [])(hb:(rs.map (·.2)).flatten.length<=Us)
  (h:∀p h' tk sl',Xo s.heap h'->Ls1 h' p (rs.map (·.2)).flatten sl'->(p=z/\rs=[]∨s.heap.objs.size<=p/\sl'=#[])->Q (.ref p) {s with heap:=h',toks:=tk}) :
  Ut (model prog w) A (call (.builtin "sum") [.ref l,.ref z]) Q E s:=by
 refine call_function_tree F.kind_sum F.plain_sum F.entry_sum (AJ _ _) ?_;unfold Builtin.«sum»;simp only[QJ,QC];rw[QB (by decide)];refine Qd (wpAny_of_eq (show Builtin.Builtins.bindParams "sum" ["start"] 0 ⟨[.ref z],[]⟩=pure [some (.ref z)]from rfl) ?_);refine Qd (JG hl ?_);refine Qd (Qh ?_);obtain⟨n,sl,ez⟩:=id hz;have ty:∀h:Heap,h.get? z=some {cls:=.type "list", dict:=none,data:=.seq [].toArray n,slots:=sl}->({s with heap:=h}:Um).TypeIs (.ref z) "list" :=λh e=>⟨_,e,rfl⟩
 have ez':(s.heap.push {cls:=.type "list_iterator", data:=.fields #[.ref l,.int 0 0]}).get? z=_:=Qk _ ez;simp only[List.forIn_cons,List.forIn_nil];refine Qd (Qd (Qd (wpAny_isInstance (T:= "list") (b:=false) (ty _ ez') F.sub_list_str ?_)));simp only[JD,Ud];refine Qh (Qd (Qd (wpAny_isInstance (T:= "list") (b:=false) (ty _ ez') F.sub_list_bytes ?_)));simp only[JD,Ud];refine Qh (Qd (Qd (wpAny_isInstance (T:= "list") (b:=false) (ty _ ez') F.sub_list_bytearray ?_)));simp only[JD,Ud];refine Qh (Qh ?_);refine Qd (wpAny_newObj_type ?_);have hzs:=Qi ez;have s1:(s.heap.push {cls:=.type "list_iterator", data:=.fields #[.ref l,.int 0 0]}).objs.size=s.heap.objs.size+1:=Heap.size_push ..;have k2:Xo s.heap ((s.heap.push {cls:=.type "list_iterator", data:=.fields #[.ref l,.int 0 0]}).push {cls:=.type "list", data:=.seq #[.ref z]}):=λb o e=>Qk _ (Qk _ e)
 refine Qh ⟨plainId_quiet F.plain_sum_loop _,qt (h0:=s.heap) (l:=l) (I:=s.heap.objs.size) (S:=(s.heap.push {cls:=.type "list_iterator", data:=.fields #[.ref l,.int 0 0]}).objs.size) (rs:=rs) hh (Qr _) (by rw[s1];exact JZ _) (by rw[s1];exact Nat.succ_ne_self _) hl hr rs.length 0 _ z [] 0 sl rfl (JI _)
  k2 ⟨_,Heap.get?_push_of_some _ (Heap.get?_push_size _ rfl),rfl,rfl⟩ (Heap.get?_push_size _ rfl) (by rw[s1];exact Nat.ne_of_lt (Nat.lt_succ_of_lt hzs)) (Nat.ne_of_lt hzs) ⟨n,k2 _ _ ez⟩ (by simpa using hb) λp h' tk sl' hk hp hq=>?_⟩
 exact h p h' tk sl' hk (by simpa using hp) (hq.imp (λe=>⟨e.1,List.eq_nil_of_length_eq_zero e.2.1.symm⟩) id)
end
section
variable{X:Cx}{pins:List (Up×Obj)}{σ:St}{H:Hp}{s:Um}
theorem M8(I:Inv X pins σ H s):∀{rs:List (Up×List V)},(∀p∈rs,SqL X.K H p.1 p.2) ->
  ∃ts:List (Up×List Ul),(ts.map λp=>Value.ref p.1)=(rs.map λp=>Value.ref p.1)/\(∀p∈ts,Ls s.heap p.1 p.2)/\Vals (rs.map (·.2)).flatten (ts.map (·.2)).flatten
 |[],_=>⟨[],rfl,(λ_ h=>by cases h),(show Vals [] []from Paired.nil)⟩
 |p::rs,h=>by
  obtain⟨ts,e,hl,hv⟩:=M8 I λq hq=>h q (Ql _ hq)
  obtain⟨its,rv,⟨⟨c1,d1,t1,sl⟩,n,e1,ec,ed,et⟩,z⟩:=I.list (h p (Qm ..));simp only at ec ed et;subst ec ed et;refine⟨(p.1,its)::ts,by rw[Qy,Qy,e],λq hq=>?_,?_⟩
  ·rcases QP.1 hq with rfl|hq
   ·exact⟨n,sl,e1⟩
   ·exact hl q hq
  ·rw[Qy,Qy,QM,QM];exact rv.append hv
theorem L7:∀{as:List Up}{us:List Ul},Vals (as.map V.ref) us->us=as.map Value.ref
 |[],_,.nil=>rfl
 |a::as,_,.cons h t=>by cases h;rw[L7 t];rfl
theorem AI(hc:X.calm=true):YB X (.builtin "sum") (λxs H Q=>∃l z,∃rs:List (Up×List V),xs=[.ref l,.ref z]/\SqL X.K H l (rs.map λp=>V.ref p.1)/\(∀p∈rs,SqL X.K H p.1 p.2)/\SqL X.K H z []/\(rs.map (·.2)).flatten.length<=Us /\
  (rs=[]->Q (.ref z) H)/\∀p,H p=none->Q (.ref p) (upd H p (.lst (rs.map (·.2)).flatten))):=by
 intro pins s σ H xs us Q I rx h;obtain⟨l,z,rs,rfl,hq,hr,hz,hb,q0,q⟩:=h;obtain⟨u,u',rfl,ru,ru'⟩:=PU rx;cases ru;cases ru';obtain⟨its,rv,pl, -⟩:=I.list hq;obtain⟨ts,e,hl,hv⟩:=M8 I hr;have ei:its=ts.map λp=>Value.ref p.1:=by rw[e];have:=L7 (as:=rs.map (·.1)) (us:=its) (by rw[Q4];exact rv);rw[this,Q4];rfl
 subst ei;obtain⟨zi,rz,⟨⟨c1,d1,t1,sl⟩,n,e1,ec,ed,et⟩, -⟩:=I.list hz;cases rz;simp only at ec ed et;subst ec ed et;have hlen:=hv.length;refine qq (I.ok.hd hc) pl.isList hl ⟨n,sl,e1⟩ (by omega) λp h' tk sl' hk hp hq=>?_
 rcases hq with ⟨rfl,rfl⟩|⟨hp',rfl⟩
 ·have hr0:rs=[]:=by
   cases rs with
   |nil=>rfl
   |cons a b=>cases e
  exact⟨.ref _,H,I.kept hk,rfl,q0 hr0⟩
 ·obtain⟨m,ep⟩:=hp;exact⟨.ref p,_,I.laid (t':=tk) hk hp' (show Zm X.prog X.w _ h' _ (.lst _)from⟨hb,_,m,hv,ep⟩),rfl,q p (I.hok.fresh hp')⟩
noncomputable def Wm:List D->Option (List (List D))
 |[]=>some []
 |.list xs::r=>(Wm r).map (xs :: ·)
 |_=>none
theorem HX{K:Frag}{G:Hp}:∀{vs:List V}{ds:List D}{ls:List (List D)},Reps K G vs ds->Wm ds=some ls ->
  ∃rs:List (Up×List V),vs=(rs.map λp=>V.ref p.1)/\(∀p∈rs,SqL K G p.1 p.2)/\Reps K G (rs.map (·.2)).flatten ls.flatten/\rs.length=ls.length
 |_,_,ls,.nil,e=>by cases e;exact⟨[],rfl,(λ_ h=>by cases h),.nil,rfl⟩
 |_,_,ls,.cons (d:=d) r t,e=>by
  cases d with
  |list xs=>
   unfold Wm at e;cases z:Wm _ with
   |none=>rw[z]at e;cases e
   |some cs=>
    rw[z]at e;cases e;obtain⟨rs,rfl,h1,h2,h3⟩:=HX t z;obtain⟨a,ws,rfl,h,rr⟩:=r.lst_inv;refine⟨(a,ws)::rs,rfl,λp hp=>?_,?_,congrArg (· + 1) h3⟩
    ·rcases QP.1 hp with rfl|hp
     ·exact h
     ·exact h1 p hp
    ·rw[Qy,QM,QM];exact rr.append h2
  |_=>cases e
theorem qp(ls:List (List D)):Wm (ls.map Uy)=some ls:=by
 induction ls with
 |nil=>rfl
 |cons b r ih=>rw[Qy,Wm,ih];rfl
noncomputable def Su:List D->Option D
 |[.list ds,.list []]=>(match Wm ds with
  |some ls=>if ls.flatten.length<=1000000 then some (.list ls.flatten)else none
  |none=>none)
 |_=>none
theorem AH{xs:List D}{d:D}(h:Su xs=some d):∃ds ls,xs=[.list ds,.list []]/\Wm ds=some ls/\ls.flatten.length<=1000000/\d=.list ls.flatten:=by
 unfold Su at h;split at h
 ·rename_i ds;cases z:Wm ds with
  |none=>rw[z]at h;cases h
  |some ls=>
   rw[z]at h;dsimp only at h;split at h
   ·rename_i c;cases h;exact⟨ds,ls,rfl,z,c,rfl⟩
   ·cases h
 ·cases h
theorem Ew(hc:X.calm=true):YG X (.builtin "sum") Su:=by
 refine⟨_,AI hc,λvs G H ds d Q s r e k=>?_⟩;obtain⟨ds,ls,rfl,z,c,rfl⟩:=AH e;obtain⟨v,v',rfl,q1,q2⟩:=r.two_inv;obtain⟨l,ws,rfl,h1,r1⟩:=q1.lst_inv;obtain⟨a,ws2,rfl,h2,r2⟩:=q2.lst_inv;have:=r2.nil_inv;subst this;obtain⟨rs,rfl,g1,g2,g3⟩:=HX r1 z;refine⟨l,a,rs,rfl,s.seq h1,λp hp=>s.seq (g1 p hp),s.seq h2,?_,λe0=>?_,λp hp=>?_⟩
 ·rw[g2.length];exact QT c lim
 ·subst e0;have:ls=[]:=List.eq_nil_of_length_eq_zero g3.symm;subst this;exact k _ G H (.refl s) (.lst h2 .nil)
 ·exact k _ _ _ (.new s hp) (.lst (SqL.of Zc) (g2.mono (Zn (s.free hp))))
end
section
variable{X:Cx}
noncomputable def Zs(ns:List Int):List Int:=ns.mergeSort λa b=>decide (a<=b)
theorem Xb(ns:List Int):(Zs ns).Perm ns:=List.mergeSort_perm ..
theorem L6(ns:List Int):(Zs ns).Pairwise (· <= ·):=by have:=List.pairwise_mergeSort (le:=λa b:Int=>decide (a<=b)) (by intro a b c;simp;omega) (by intro a b;simp;omega) ns;exact this.imp (by simp)
theorem M7:∀{a b:List Int},a.Perm b->a.Pairwise (· <= ·)->b.Pairwise (· <= ·)->a=b
 |[],b,p,_,_=>by rw[List.nil_perm.1 p]
 |x::a,[],p,_,_=>by have:=p.length_eq;simp at this
 |x::a,y::b,p,ha,hb=>by
  have hx:y<=x:=by
   rcases QP.1 (p.mem_iff.1 (Qm ..))with e|e
   ·exact Int.le_of_eq e.symm
   ·exact(Jw.1 hb).1 x e
  have hy:x<=y:=by
   rcases QP.1 (p.mem_iff.2 (Qm ..))with e|e
   ·exact Int.le_of_eq e.symm
   ·exact(Jw.1 ha).1 y e
  have e:=JO hy hx;subst e;rw[M7 (List.Perm.cons_inv p) (Jw.1 ha).2 (Jw.1 hb).2]
theorem L5:∀{us:List Ul}{ns:List Int},PyProof.Rows.IntsAre us ns->Vals (ns.map V.int) us
 |_,_,.nil=>Paired.nil
 |_,_,.cons n t h=>Paired.cons ⟨t,rfl⟩ (L5 h)
theorem qo:YB X (.builtin "sorted") (λxs H Q=>∃l,∃ns:List Int,xs=[.ref l]/\SqL X.K H l (ns.map V.int)/\ns.length<64/\∀p,H p=none->Q (.ref p) (upd H p (.lst ((Zs ns).map V.int)))):=by
 intro pins s σ H xs us Q I rx h;obtain⟨l,ns,rfl,hq,hb,q⟩:=h;obtain⟨u,rfl,ru⟩:=rx.one;cases ru;obtain⟨its,rv,p,hz⟩:=I.list hq;have hi:=Wb rv;have hn:its.length=ns.length:=by have:=rv.length;rw[Qb]at this;omega
 refine sorted_ints p.isList hi (by omega) λout ns' a1 a2 a3=>?_
 obtain⟨e,he⟩:=sortedAll_at s.heap its out;have en:ns'=Zs ns:=M7 (a2.trans (Xb ns).symm) a3 (L6 ns);subst en;refine⟨.ref (s.heap.objs.size+1),_,I.laid (t':=s.toks) (λb o=>sortedAll_old) (JZ _) (show Zm X.prog X.w _ _ _ (.lst ((Zs ns).map V.int))from⟨?_,out.toList,e,L5 a1,he⟩),rfl,q _ (I.hok.fresh (JZ _))⟩;rw[Qb,(Xb ns).length_eq];rw[Qb]at hz;exact hz
noncomputable def VN:List D->Option D
 |[.list ds]=>(match ZO ds with
  |some ns=>if ns.length<64 then some (.list ((Zs ns).map .int))else none
  |none=>none)
 |_=>none
theorem qm{xs:List D}{d:D}(h:VN xs=some d):∃ds ns,xs=[.list ds]/\ZO ds=some ns/\ns.length<64/\d=.list ((Zs ns).map .int):=by
 unfold VN at h;split at h
 ·rename_i ds;cases z:ZO ds with
  |none=>rw[z]at h;cases h
  |some ns=>
   rw[z]at h;dsimp only at h;split at h
   ·rename_i c;cases h;exact⟨ds,ns,rfl,z,c,rfl⟩
   ·cases h
 ·cases h
theorem L4{K:Frag}{G:Hp}:∀ns:List Int,Reps K G (ns.map V.int) (ns.map int)
 |[]=>.nil
 |n::r=>.cons (.int n) (L4 r)
theorem Df:YG X (.builtin "sorted") VN:=by refine⟨_,qo,λvs G H ds d Q s r e k=>?_⟩;obtain⟨ds,ns,rfl,z,c,rfl⟩:=qm e;obtain⟨v,rfl,q1⟩:=r.one_inv;obtain⟨l,ws,rfl,h1,r1⟩:=q1.lst_inv;have:=VU r1 z;subst this;exact⟨l,ns,rfl,s.seq h1,c,λp hp=>k _ _ _ (.new s hp) (.lst (SqL.of Zc) (L4 _))⟩
theorem AG{ns:List Int}(h:ns.length<64):VN [.list (ns.map .int)]=some (.list ((Zs ns).map .int)):=by unfold VN;simp only[VW,Qp h]
end
@[simp] theorem mBind_ok{α β:Type}{f:M α}{k:α->M β}{Z Z':UH}{x:α}(h:f Z=.ok x Z'):Kb f k Z=k x Z':=by unfold Kb;rw[h]
theorem L0{s:D->UH->Option UH}{g:SM}{P:Nat->UH->Prop}{R:Out->Prop}:∀(ds:List D)(n:Nat)(Z:UH),P n Z ->
  (∀i d Z,ds[i]?=some d->P (n+i) Z->∃Z1,s d Z=some Z1/\((∃Z2,(g Z1=.nx Z2∨g Z1=.ct Z2)/\P (n+i+1) Z2)∨(∃x,g Z1=.rt x/\R (.rt x))∨(∃Z2,g Z1=.bk Z2/\R (.nx Z2)) ∨ ∃Z2 x,g Z1=.ex Z2 x/\R (.ex Z2 x)))->(∀Z,P (n+ds.length) Z->R (.nx Z))->R (Vk s g ds Z)
 |[],n,Z,h,_,f=>f Z h
 |d::r,n,Z,h,st,f=>by
  obtain⟨Z1,e1,e2⟩:=st 0 d Z rfl h;rw[Vk,e1];dsimp only;rcases e2 with ⟨Z2,e2,h2⟩|⟨x,e2,h2⟩|⟨Z2,e2,h2⟩|⟨Z2,x,e2,h2⟩
  ·have goal:=L0 (R:=R) r (n+1) Z2 h2 (λi d' Z3 q p=>by
    have e:n+1+i=n+(i+1):=by omega
    rw[e]at p⊢;exact st (i+1) d' Z3 (by simpa using q) p) (λZ3 p=>f Z3 (by
    have e:n+1+r.length=n+(d::r).length:=by rw[QJ];omega
    rw[e]at p;exact p))
   rcases e2 with e2|e2<;>(rw[e2];exact goal)
  ·rw[e2];exact h2
  ·rw[e2];exact h2
  ·rw[e2];exact h2
theorem Wc{lo hi:Int}{i:Nat}{d:D}(h:(ZP lo hi)[i]?=some d):d=.int (lo+i)/\(i:Int)<hi-lo:=by have hl:i<(ZP lo hi).length:=(Qg.mp h).1;rw[YW]at hl;unfold ZP at h;rw[Qe,Qf (by rw[Qu];exact hl),List.getElem_range]at h;cases h;exact⟨rfl,by omega⟩
theorem Ev{α:Type}{xs:List α}{i:Int}{v:α}(h0:0<=i)(h:xs[i.toNat]?=some v):atI xs i=some v:=by have:=KU (xs:=xs) (j:=i.toNat) h;rw[Int.toNat_of_nonneg h0]at this;exact this
section
variable{α β:Type}{Z Z1 Z2 Z3 Z':UH}{f g h:M D}
theorem UR{a:α}:UO a Z=.ok a Z:=rfl
theorem UU:UI Z=.ok [] Z:=rfl
theorem ZZ{o:Option α}{a:α}(h:o=some a):U9 o Z=.ok a Z:=by subst h;rfl
theorem KR{f:M α}{k:α->M β}{x:α}{r:Res β}(h:f Z=.ok x Z1)(h2:k x Z1=r):Kb f k Z=r:=by unfold Kb;rw[h];exact h2
theorem KF{f:M α}{k:α->β}{x:α}(h:f Z=.ok x Z1):UZ k f Z=.ok (k x) Z1:=by unfold UZ Kb;rw[h];rfl
theorem UL{i:Nat}{d:D}(h:Z[i]?=some (some (.pub d))):UB i Z=.ok d Z:=by unfold UB;rw[h]
theorem Yu{i:Nat}{ds:List D}(h:Z[i]?=some (some (.own ds)))(h2:Z.set i (some (.pub (.list ds)))=Z'):UB i Z=.ok (.list ds) Z':=by unfold UB;rw[h];subst h2;rfl
theorem U0{op:D->D->Option β}{x y:D}{r:β}(h1:f Z=.ok x Z1)(h2:g Z1=.ok y Z2)(h3:op x y=some r):UN op f g Z=.ok r Z2:=by unfold UN;exact KR h1 (KR h2 (ZZ h3))
theorem UP{g:M (List D)}{x:D}{xs:List D}(h1:f Z=.ok x Z1)(h2:g Z1=.ok xs Z2):UM f g Z=.ok (x::xs) Z2:=by unfold UM;exact KR h1 (KR h2 rfl)
theorem Yp{g:M (List D)}{xs:List D}(h1:g Z=.ok xs Z1)(h2:xs.length<=1000000):Kw g Z=.ok (.tuple xs) Z1:=by unfold Kw;exact KR h1 (by rw[Qp h2];rfl)
theorem ZC{g:M (List D)}{xs:List D}(h1:g Z=.ok xs Z1)(h2:xs.length<=1000000):KD g Z=.ok (.list xs) Z1:=by unfold KD;exact KR h1 (by rw[Qp h2];rfl)
theorem Vy{g:M (List D)}{xs:List D}(h1:g Z=.ok xs Z1)(h2:xs.length<=1000000):(Kb g λxs=>if xs.length<=1000000 then UO xs else λ_=>.bad) Z=.ok xs Z1:=
 KR h1 (by rw[Qp h2];rfl)
theorem Kj{i:Nat}{d y r:D}(h:Z[i]?=some (some (.pub d)))(h1:g Z=.ok y Z1)(h2:oIx d y=some r):UV i g Z=.ok r Z1:=by unfold UV;rw[h];exact KR h1 (ZZ h2)
theorem Wl{i:Nat}{ds es:List D}{y r:D}(h:Z[i]?=some (some (.own ds)))(h1:g Z=.ok y Z1)(h3:Z1[i]?=some (some (.own es)))(h2:oIx (.list es) y=some r):UV i g Z=.ok r Z1:=by unfold UV;rw[h];exact KR h1 (by rw[h3];exact ZZ h2)
theorem K9{p:List D->Option D}{g:M (List D)}{xs:List D}{r:D}(h1:g Z=.ok xs Z1)(h2:p xs=some r):K1 p g Z=.ok r Z1:=by unfold K1;exact KR h1 (ZZ h2)
theorem Kg{n:Nat}{F:List D->Option D}{g:M (List D)}{xs:List D}{r:D}(h1:g Z=.ok xs Z1)(h2:xs.length=n)(h3:F xs=some r):UW n F g Z=.ok r Z1:=by unfold UW;exact KR h1 (by rw[Qp h2];exact ZZ h3)
theorem SB{i:Int}(h1:f Z=.ok (.int i) Z1):ZX f Z=.ok (.int (-i)) Z1:=by unfold ZX;exact KR h1 rfl
theorem Zq{i:Nat}{d r:D}(h:Z[i]?=some (some (.pub d)))(h2:U8 [d]=some r):K7 i Z=.ok r Z:=by unfold K7;rw[h];exact ZZ h2
theorem De{i:Nat}{ds:List D}(h:Z[i]?=some (some (.own ds))):K7 i Z=.ok (.int ds.length) Z:=by unfold K7;rw[h]
theorem Xz{g:M (List D)}{i:Int}{r:List D}(h1:g Z=.ok [.int i] Z1)(h2:Sw [.int i]=some r):YT g Z=.ok r Z1:=by unfold YT;exact KR h1 (ZZ h2)
theorem Dd{g:M (List D)}{i j:Int}{r:List D}(h1:g Z=.ok [.int i,.int j] Z1)(h2:Sv [.int i,.int j]=some r):RU g Z=.ok r Z1:=by unfold RU;exact KR h1 (ZZ h2)
theorem Xy{g:M (List D)}{xs r:List D}(h1:g Z=.ok xs Z1)(h2:Rh xs=some r):YO g Z=.ok r Z1:=by unfold YO;exact KR h1 (ZZ h2)
theorem YV{i:Int}(h1:f Z=.ok (.int i) Z1):(Kb f λx=>U9 (Ys x)) Z=.ok (some i) Z1:=KR h1 rfl
theorem ZS{f:M Bool}{t:Bool}(h1:f Z=.ok t Z1):Kt f Z=.ok (!t) Z1:=KF h1
theorem Yb{t:Bool}(h1:f Z=.ok (.bool t) Z1):Zg f Z=.ok t Z1:=by unfold Zg;exact KR h1 rfl
theorem Ma{f g:M Bool}{t u:Bool}(h1:f Z=.ok t Z)(h2:t=true->g Z=.ok u Z):KW f g Z=.ok (t&&u) Z:=by
 unfold KW;refine KR h1 ?_;cases t with
 |true=>rw[Qp rfl];exact h2 rfl
 |false=>rfl
theorem GS{f g:M Bool}{t u:Bool}(h1:f Z=.ok t Z)(h2:t=false->g Z=.ok u Z):mOr f g Z=.ok (t || u) Z:=by
 unfold mOr;refine KR h1 ?_;cases t with
 |false=>rw[QB (by decide)];exact h2 rfl
 |true=>rfl
theorem RF{t u:Bool}(h1:f Z=.ok (.bool t) Z)(h2:t=true->g Z=.ok (.bool u) Z):VH f g Z=.ok (.bool (t&&u)) Z:=by
 unfold VH;refine KR h1 ?_;cases t with
 |true=>exact h2 rfl
 |false=>rfl
theorem N9{t u:Bool}(h1:f Z=.ok (.bool t) Z)(h2:t=false->g Z=.ok (.bool u) Z):XT f g Z=.ok (.bool (t || u)) Z:=by
 unfold XT;refine KR h1 ?_;cases t with
 |false=>exact h2 rfl
 |true=>rfl
theorem OB{t:Bool}(h1:f Z=.ok (.bool t) Z1):Rk f Z=.ok (.bool (!t)) Z1:=by unfold Rk;exact KR h1 rfl
theorem N8{f:M Bool}{g h:M α}{r:Res α}(h1:f Z=.ok true Z1)(h2:g Z1=r):mIf f g h Z=r:=by unfold mIf;exact KR h1 (by rw[Qp rfl];exact h2)
theorem P7{f:M Bool}{g h:M α}{r:Res α}(h1:f Z=.ok false Z1)(h2:h Z1=r):mIf f g h Z=r:=by unfold mIf;exact KR h1 (by rw[QB (by decide)];exact h2)
theorem GR{f:M Bool}{g h:M α}{t:Bool}{x y:α}(h1:f Z=.ok t Z1)(h2:g Z1=.ok x Z1)(h3:h Z1=.ok y Z1):mIf f g h Z=.ok (if t=true then x else y) Z1:=by
 unfold mIf;refine KR h1 ?_;cases t with
 |true=>rw[Qp rfl,Qp rfl];exact h2
 |false=>rw[QB (by decide),QB (by decide)];exact h3
theorem OU{p q:D->D->Option Bool}{x y z:D}{t u:Bool}(h1:f Z=.ok x Z)(h2:g Z=.ok y Z)(h3:p x y=some t)(h4:t=true->h Z=.ok z Z)(h5:t=true->q y z=some u):VP p q f g h Z=.ok (t&&u) Z:=by
 unfold VP;refine KR h1 (KR h2 (KR (ZZ h3) ?_));cases t with
 |true=>rw[Qp rfl];exact KR (h4 rfl) (ZZ (h5 rfl))
 |false=>rfl
theorem K0{i j:Int}:U1 (.int i) (.int j)=some (.int (i+j)):=rfl
theorem Xw{x y:List D}(h:x.length+y.length<=1000000):U1 (.list x) (.list y)=some (.list (x++y)):=by unfold U1;exact Qp h
theorem Yt{i j:Int}:KP (.int i) (.int j)=some (.int (i-j)):=rfl
theorem SX{i j:Int}(h1 : -18446744073709551616<i)(h2:i<18446744073709551616):Ki (.int i) (.int j)=some (.int (i*j)):=by unfold Ki Yi;exact Qp (.inl ⟨by omega,by omega⟩)
theorem XJ{i j:Int}(h1 : -18446744073709551616<j)(h2:j<18446744073709551616):Ki (.int i) (.int j)=some (.int (i*j)):=by unfold Ki Yi;exact Qp (.inr ⟨by omega,by omega⟩)
theorem Nn{x:List D}{k:Int}(h : -1000000<=k/\k<=1000000/\x.length*k.toNat<=1000000):Ki (.list x) (.int k)=some (.list (Ux k.toNat x).flatten):=by unfold Ki;exact Qp h
theorem Vx{i j:Int}(h:0<j):ZW (.int i) (.int j)=some (.int (i % j)):=by unfold ZW WB;exact Qp h
theorem M6{i j:Int}(h:0<j)(h2:j<18446744073709551616):XS (.int i) (.int j)=some (.int (i / j)):=by unfold XS WC;exact Qp ⟨h,h2⟩
theorem M5{i j:Int}(h:0<=j/\j<=1000000/\i.natAbs<2 ^ 64):XR (.int i) (.int j)=some (.int (i ^ j.toNat)):=by unfold XR WA;exact Qp h
theorem Rp{p:Int->Int->Bool}{i j:Int}:oIB p (.int i) (.int j)=some (p i j):=rfl
theorem Xx{i j:Int}:oEq (.int i) (.int j)=some (decide (i=j)):=by unfold oEq;rw[if_pos ⟨rfl,rfl,by simp[UD]⟩];congr 1
theorem K2{xs:List D}:U8 [.list xs]=some (.int xs.length):=rfl
theorem B2{xs:List D}:U8 [.tuple xs]=some (.int xs.length):=rfl
theorem Lc{i j:Int}:Ri [.int i,.int j]=some (.int (if j > i then j else i)):=rfl
theorem Xv{j:Int}(h1:j<=1000000)(h2 : -1000000<=j):Sw [.int j]=some (ZP 0 j):=by unfold Sw;exact Qp ⟨h1,h2⟩
theorem B0{i j:Int}(h1:j<=1000000)(h2 : -1000000<=j)(h3:i<=1000000)(h4 : -1000000<=i):Sv [.int i,.int j]=some (ZP i j):=by unfold Sv;exact Qp ⟨h1,h2,h3,h4⟩
theorem XI{xs:List D}:Rh [.list xs]=some (Z7 0 xs):=rfl
theorem Kx{i:Nat}{d:D}(h1:f Z=.ok d Z1)(h2:i<Z1.length)(h3:Z1.set i (some (.pub d))=Z'):U3 i f Z=.nx Z':=by unfold U3 ZD sB gN;rw[h1];dsimp only;rw[if_pos h2];subst h3;rfl
theorem Yd{i:Nat}{f:M (List D)}{ds:List D}(h1:f Z=.ok ds Z1)(h2:i<Z1.length)(h3:Z1.set i (some (.own ds))=Z'):K8 i f Z=.nx Z':=by unfold K8 sB;rw[h1];dsimp only;rw[if_pos h2];subst h3;rfl
theorem Wa{i:Nat}{d:D}{ds0 ds:List D}(h0:Z[i]?=some (some (.own ds0)))(h1:f Z=.ok d Z1)(h2:Z1[i]?=some (some (.own ds)))(h3:ds.length<1000000)(h4:Z1.set i (some (.own (ds++[d])))=Z'):ZE i f Z=.nx Z':=by unfold ZE sB;rw[h0];dsimp only;rw[h1];dsimp only;rw[h2];dsimp only;rw[if_pos h3];subst h4;rfl
theorem Vr{d:D}{s:D->UH->Option UH}(h1:f Z=.ok d Z1)(h2:s d Z1=some Z'):ZD f s Z=.nx Z':=by unfold ZD sB;rw[h1];dsimp only;rw[h2]
theorem Vw{d:D}(h1:f Z=.ok d Z1):XB f Z=.nx Z1:=by unfold XB sB;rw[h1]
theorem UT{i:Nat}{d:D}(h:i<Z.length)(h2:Z.set i (some (.pub d))=Z'):gN i d Z=some Z':=by unfold gN;rw[Qp h,h2]
theorem KB:gN0 [] Z=some Z:=rfl
theorem U2{s:D->UH->Option UH}{t:List D->UH->Option UH}{d:D}{r:List D}(h1:s d Z=some Z1)(h2:t r Z1=some Z'):gNC s t (d::r) Z=some Z':=by unfold gNC;dsimp only;rw[h1];exact h2
theorem Kz{n:Nat}{t:List D->UH->Option UH}{ds:List D}(h1:ds.length=n)(h2:t ds Z=some Z'):gT n t (.tuple ds) Z=some Z':=by unfold gT;dsimp only;rw[if_pos h1];exact h2
structure Ho(g:SM)(Z:UH)(Q:Out->Prop):Prop where
 out:Q (g Z)
noncomputable def GQ(h:SM)(Q:Out->Prop):Out->Prop
 |.nx Z'=>Ho h Z' Q
 |o=>Q o
structure PM(h:SM)(Q:Out->Prop)(o:Out):Prop where
 out:GQ h Q o
variable{Q:Out->Prop}{s t u:SM}
theorem Kr(h:Ho s Z (PM t Q)):Ho (UQ s t) Z Q:=by
 have h:=h.out.out;constructor;unfold UQ;cases e:s Z with
 |nx o=>rw[e]at h;exact h.out
 |_=>rw[e]at h;exact h
theorem Kf(h1:s Z=.nx Z1)(h2:Ho t Z1 Q):Ho (UQ s t) Z Q:=by
 constructor;unfold UQ;rw[h1];exact h2.out
theorem Zx{o:Out}(h1:s Z=o)(h2:Q o):Ho s Z Q:=by constructor;rw[h1];exact h2
theorem Ky(h:Q (.nx Z)):Ho sNx Z Q:=⟨h⟩
theorem Kp{o:UH}(h:Ho t o Q):PM t Q (.nx o):=⟨h⟩
theorem Ws{d:D}(h:Q (.rt d)):PM t Q (.rt d):=⟨h⟩
theorem Ko{f:M Bool}{b:Bool}(h1:f Z=.ok b Z1)(h2:b=true->Ho s Z1 Q)(h3:b=false->Ho t Z1 Q):Ho (sIf f s t) Z Q:=by
 constructor;unfold sIf sB;rw[h1];dsimp only
 cases b with
 |true=>rw[Qp rfl];exact(h2 rfl).out
 |false=>rw[QB (by decide)];exact(h3 rfl).out
theorem Kv{d:D}(h1:f Z=.ok d Z1)(h2:Q (.rt d)):Ho (UY f) Z Q:=by constructor;unfold UY sB;rw[h1];exact h2
theorem Lb{P:Out->Prop}(h:Ho s Z P)(k:∀o,P o->Q o):Ho s Z Q:=⟨k _ h.out⟩
noncomputable def GP(I:UH->Prop)(Q:Out->Prop):Out->Prop
 |.nx Z | .ct Z=>I Z
 |.bk Z=>Q (.nx Z)
 |.rt d=>Q (.rt d)
 |.ex Z d=>Q (.ex Z d)
 |.bad=>False
structure VL(I:UH->Prop)(Q:Out->Prop)(o:Out):Prop where
 out:GP I Q o
theorem KZ{I:UH->Prop}(h:I Z):VL I Q (.nx Z):=⟨h⟩
theorem RH{I:UH->Prop}{d:D}(h:Q (.rt d)):VL I Q (.rt d):=⟨h⟩
theorem Zr{f:M (List D)}{tg:D->UH->Option UH}{ds:List D}(I:Nat->UH->Prop)(h1:f Z=.ok ds Z1)(h0:I 0 Z1)
  (hst:∀i d Z,ds[i]?=some d->I i Z->∃Z2,tg d Z=some Z2/\Ho s Z2 (VL (I (i+1)) Q)) (hend:∀Z,I ds.length Z->Q (.nx Z)):Ho (Kq f tg s) Z Q:=by
 constructor;unfold Kq sB;rw[h1];dsimp only
 refine L0 (P:=I) (R:=Q) ds 0 Z1 h0 (λi d Z e p=>?_) (λZ p=>hend Z (by rw[QY]at p;exact p));rw[QY]at p;obtain⟨Z2,e2,q⟩:=hst i d Z e p;refine⟨Z2,e2,?_⟩;rw[QY];have q:=q.out.out;cases z:s Z2 with
 |nx o=>rw[z]at q;exact .inl ⟨o,.inl rfl,q⟩
 |ct o=>rw[z]at q;exact .inl ⟨o,.inr rfl,q⟩
 |rt o=>rw[z]at q;exact .inr (.inl ⟨o,rfl,q⟩)
 |bk o=>rw[z]at q;exact .inr (.inr (.inl ⟨o,rfl,q⟩))
 |ex o x=>rw[z]at q;exact .inr (.inr (.inr ⟨o,x,rfl,q⟩))
 |bad=>rw[z]at q;exact q.elim
theorem X9{N:List Str}{ds:List D}{P:D->Prop}(h0:Xh N ds=Z)(h:Ho s Z λo=>∃d,o=.rt d/\P d):∃d,U6 N s ds=some d/\P d:=by subst h0;obtain⟨d,e,p⟩:=h.out;refine⟨d,?_,p⟩;unfold U6;rw[e]
theorem KS{N:List Str}{ds:List D}{d:D}(h0:Xh N ds=Z)(h:Ho s Z λo=>o=.rt d):U6 N s ds=some d:=by obtain⟨d',e,p⟩:=X9 (P:=λx=>x=d) h0 (Lb h λo e=>⟨d,e,rfl⟩);rw[e,p]
end
section
variable{α β:Type}{Z Z1 Z2 Z3 Z':UH}{f g h:M D}
theorem Wk{l u:M (Option Int)}{x r:D}{a b:Option Int}(h1:f Z=.ok x Z1)(h2:l Z1=.ok a Z2)(h3:u Z2=.ok b Z3)(h4:YK x a b=some r):ZH f l u Z=.ok r Z3:=by unfold ZH;exact KR h1 (KR h2 (KR h3 (ZZ h4)))
theorem ZY{f g:M Bool}{u:Bool}(h1:f Z=.ok false Z1)(h2:g Z1=.ok u Z2):mOr f g Z=.ok u Z2:=by unfold mOr;exact KR h1 (by rw[QB (by decide)];exact h2)
theorem RE{f g:M Bool}(h1:f Z=.ok false Z1):KW f g Z=.ok false Z1:=by unfold KW;exact KR h1 rfl
theorem RD{f g:M Bool}{u:Bool}(h1:f Z=.ok true Z1)(h2:g Z1=.ok u Z2):KW f g Z=.ok u Z2:=by unfold KW;exact KR h1 (by rw[Qp rfl];exact h2)
theorem We{c:String}{d:D}{t:Bool}(h:f Z=.ok d Z1)(ht:(!Ku d c)=t):Kt (Zg (UZ (λd=>.bool (Ku d c)) f)) Z=.ok t Z1:=by subst ht;exact ZS (Yb (KF (k:=λd=>Uz (Ku d c)) h))
theorem Zl{x:D}{r:List D}(h1:f Z=.ok x Z1)(h2:Oc x=some r):KQ f Z=.ok r Z1:=by unfold KQ;exact KR h1 (ZZ h2)
theorem ZB{p:D->D->Option β}{i:Nat}{d y:D}{r:β}(h:Z[i]?=some (some (.pub d)))(h1:g Z=.ok y Z1)(h2:p d y=some r):K6 p i g Z=.ok r Z1:=by unfold K6;rw[h];exact KR h1 (ZZ h2)
theorem C6{p:D->D->Option β}{i:Nat}{ds es:List D}{y:D}{r:β}(h:Z[i]?=some (some (.own ds)))(h1:g Z=.ok y Z1)(h3:Z1[i]?=some (some (.own es)))(h2:p (.list es) y=some r):K6 p i g Z=.ok r Z1:=by unfold K6;rw[h];exact KR h1 (by rw[h3];exact ZZ h2)
theorem ZT{f:M (List D)}{k:Nat}{s:D->UH->Option UH}{t:M Bool}{ds es:List D}(h1:f Z=.ok ds Z1)(h2:KY s t g ds (Kl Z1++Ux k none) []=some es):Zt f k s t g Z=.ok es Z1:=by unfold Zt;rw[h1];dsimp only;rw[h2]
theorem V1{s:D->UH->Option UH}{t:M Bool}(p:D->Bool)(q:D->D)(I:UH->Prop):∀(ds:List D)(Z:UH)(es:List D),(∀d∈ds,∀Z,I Z->∃Z1,s d Z=some Z1/\t Z1=.ok (p d) Z1/\(p d=true->g Z1=.ok (q d) Z1)/\I (Kl Z1))->I Z->es.length+ds.length<=1000000 ->
  KY s t g ds Z es=some (es++(ds.filter p).map q)
 |[],Z,es,_,_,_=>by rw[KY];simp
 |d::r,Z,es,st,h0,hz=>by
  obtain⟨Z1,e1,e2,e3,h1⟩:=st d Qm Z h0;have ih:=λes' hz'=>V1 p q I r (Kl Z1) es' (λd' hd=>st d' (Ql _ hd)) h1 hz';rw[QJ]at hz;rw[KY,e1];dsimp only;rw[e2];dsimp only
  cases hp:p d with
  |true=>rw[Qp rfl,e3 hp];dsimp only;rw[Qp (by omega),ih _ (by rw[Qj,Q6];omega),List.filter_cons_of_pos hp,Qy,Q9];rfl
  |false=>rw[QB (by decide),ih _ (by omega),List.filter_cons_of_neg (by rw[hp];decide)]
theorem SK{j:Nat}{d:D}{k:Int}{ds0 ds:List D}(h1:f Z=.ok d Z1)(h0:Z1[j]?=some (some (.own ds0)))(h2:g Z1=.ok (.int k) Z2)(h3:Z2[j]?=some (some (.own ds)))(h4:0<=k/\k<ds.length)(h5:Z2.set j (some (.own (ds.set k.toNat d)))=Z'):Wf j g f Z=.nx Z':=by unfold Wf sB;rw[h1];dsimp only;rw[h0];dsimp only;rw[h2];dsimp only;rw[h3];dsimp only;rw[if_pos h4];subst h5;rfl
theorem Wr{xs:List D}{a b:Option Int}:YK (.list xs) a b=some (.list (DL.cutD xs a b)):=rfl
theorem ZK{xs:List D}:Oc (.list xs)=some xs:=rfl
theorem jB(bs:List Bool):VA (bs.map Uz)=some bs:=by
 induction bs with
 |nil=>rfl
 |cons b r ih=>rw[Qy,VA,ih];rfl
theorem La{bs:List Bool}:Yh [.list (bs.map Uz)]=some (.bool (bs.all id)):=by unfold Yh;dsimp only;rw[jB];rfl
end
section
variable{α β:Type}{Z Z1 Z2 Z3 Z4 Z':UH}{f g h:M D}{s:SM}
theorem Eu{g:M (List D)}{xs r:List D}(h1:g Z=.ok xs Z1)(h2:XQ xs=some r):WE g Z=.ok r Z1:=by unfold WE;exact KR h1 (ZZ h2)
theorem EY{l u t:M (Option Int)}{xs:List D}(h1:f Z=.ok (.list xs) Z1)(h2:l Z1=.ok none Z2)(h3:u Z2=.ok none Z3)(h4:t Z3=.ok (some (-1)) Z4):WF f l u t Z=.ok (.list xs.reverse) Z4:=by unfold WF;exact KR h1 (KR h2 (KR h3 (KR h4 (ZZ (by unfold Wx;exact Qp rfl)))))
theorem Pl{i:Nat}{d:D}{ds:List D}(h:Z[i]?=some (some (.pub d)))(h2:Xd [d]=some ds):Vt i Z=.ok ds Z:=by unfold Vt;rw[h];exact ZZ h2
theorem Ro{N:List Str}{ds:List D}(h0:Xh N ds=Z)(h:Ho s Z λo=>∃Z',o=.nx Z'):U6 N s ds=some .none:=by subst h0;obtain⟨Z',e⟩:=h.out;unfold U6;rw[e]
theorem X4{i j:Int}:oNe (.int i) (.int j)=some (!decide (i=j)):=by unfold oNe;rw[if_pos ⟨rfl,rfl,by simp[UD]⟩];congr 1
theorem C5{xs:List Int}{j:Nat}{v:Int}:(xs.map int).set j (.int v)=(xs.set j v).map int:=by rw[List.map_set]
theorem OT{xs:List Int}{a b:Int}(ha:0<=a)(hb:0<=b)(hl:b<=xs.length):DL.cutD (xs.map int) (some a) (some b)=((xs.drop a.toNat).take (b.toNat-a.toNat)).map int:=by
 unfold DL.cutD HT.sIx;dsimp only;rw[QB (by omega),QB (by omega),Qb,Ue,List.map_drop];have e2:min b.toNat xs.length=b.toNat:=by omega
 rw[e2];by_cases hab:a.toNat<=xs.length
 ·have e1:min a.toNat xs.length=a.toNat:=by omega
  rw[e1]
 ·have e3:b.toNat-a.toNat=0:=by omega
  have e4:b.toNat-min a.toNat xs.length=0:=by omega
  rw[e3,e4,J9,J9]
theorem A6{xs ys:List Int}:Yq (xs.map int) (ys.map int)=(xs.zip ys).map λp=>.tuple [.int p.1,.int p.2]:=by unfold Yq;rw[List.zip_map,Q4];rfl
end
section
variable{Z Z1:UH}
theorem C4{g:M (List D)}{xs r:List D}(h1:g Z=.ok xs Z1)(h2:SD xs=some r):R5 g Z=.ok r Z1:=by unfold R5;exact KR h1 (ZZ h2)
theorem A5{xs:List D}:SD [.list xs]=some (Z7 1 xs):=rfl
end
section
variable{X:Cx}{B G0:Hp}{KX:XW}{e o a b c tg i:Ur}{pos p2:Pos}{es rest:List Ur}
noncomputable def Y9(f:M Bool)(g:SM):Nat->SM
 |0,_=>.bad
 |n+1,Z=>match f Z with
  |.bad=>.bad
  |.ok t Z1=>if t=true then(match g Z1 with
   |.nx Z2=>Y9 f g n Z2
   |.ct Z2=>Y9 f g n Z2
   |.bk Z2=>.nx Z2
   |.rt d=>.rt d
   |.ex Z2 d=>.ex Z2 d
   |.bad=>.bad)else .nx Z1
theorem C3{body:List Stmt}{f:M Bool}{g:SM}(n:Nat)(hp:PassesOwn (model X.prog X.w) X.A X.env X.xe)(hc:PT X c (tBo X.K B G0 f))(hb:PSs X body (tS X.K B G0 KX g)):PS X (.While c body [] pos) (tS X.K B G0 KX (Y9 f g n)):=
 Zv (Bp hp hc hb) λDn σ H ⟨G,Z,k,a⟩=>by
  refine⟨λm σ' H'=>∃G' Z',EOk X.K B G0 G' H' σ' Z'/\aftS X.K B G0 KX (Y9 f g m Z') G' Dn,⟨n,G,Z,k,a⟩,?_⟩;rintro m σ' H' ⟨G',Z',k',a'⟩;cases m with
  |zero=>exact a'.elim
  |succ m=>
   rw[Y9]at a';refine⟨G',Z',k',?_⟩;cases z:f Z' with
   |bad=>rw[z]at a';exact a'.elim
   |ok t Z1=>
    rw[z]at a';dsimp only at a';intro v G1 H1 k1 s1 e1;subst e1;cases v with
    |false=>rw[QB Jl]at a'⊢;exact a' _ G1 H1 k1 s1
    |true=>
     rw[Qp rfl]at a'⊢;refine⟨λσ2 H2=>∃G2 Z2,EOk X.K B G0 G2 H2 σ2 Z2/\aftS X.K B G0 KX (Y9 f g m Z2) G2 Dn,λσ2 H2 h2=>⟨m,Ua m,h2⟩,G1,Z1,k1,?_⟩;cases z2:g Z1 with
     |nx Z2=>rw[z2]at a';exact λσ4 G4 H4 k4 s4=>⟨G4,Z2,k4,aftS.mono (s1.trans s4) a'⟩
     |ct Z2=>rw[z2]at a';exact λσ4 G4 H4 k4 s4=>⟨G4,Z2,k4,aftS.mono (s1.trans s4) a'⟩
     |bk Z2=>rw[z2]at a';exact λσ4 G4 H4 k4 s4=>a' σ4 G4 H4 k4 (s1.trans s4)
     |rt d=>rw[z2]at a';exact a'
     |ex Z2 d=>rw[z2]at a';exact λv σ4 G4 H4 k4 s4 r4=>a' v σ4 G4 H4 k4 (s1.trans s4) r4
     |bad=>rw[z2]at a';exact a'.elim
noncomputable def Xj(op:Int->Int->Option D)(j:Nat)(f:M D):SM:=λZ=>match Z[j]? with
 |some (some (.pub (.int a)))=>sB f (λy Z1=>match y with
  |.int b=>(match op a b with
   |some d=>if j<Z1.length then .nx (Z1.set j (some (.pub d)))else .bad
   |none=>.bad)
  |_=>.bad) Z
 |_=>.bad
def IpD(X:Cx)(op:Operator)(p:Int->Int->Option D):Prop:=∃ti,PIp X op ti/\∀i j d,p i j=some d->∃v:V,(∀G,Rep X.K G v d)/\∀H(Q:VK),Q v H->ti (.int i) (.int j) H Q
theorem Dc:IpD X .Mult Yi:=⟨_,D1,λi j d e=>by
 unfold Yi at e;split at e
 ·rename_i h;cases e;exact⟨_,λ_=>.int _,λH Q q=>⟨i,j,rfl,rfl,h,q⟩⟩
 ·cases e⟩
theorem EX{j:Nat}{x:Str}{op:Operator}{p:Int->Int->Option D}{f:M D}{pos':Pos}(hN:X.N.Nodup)(hi:X.N[j]?=some x)(hx:Loc X.env.scope x)(ho:IpD X op p)(he:PE X e (tD X.K B G0 f))(hf:X.fn x=true∨X.env.scope.names.lookup x=some .local:=by first|exact .inl rfl|exact .inr rfl|assumption) :
  PS X (.AugAssign (.Name x pos') op e pos) (tS X.K B G0 KX (Xj p j f)):=by
 obtain⟨ti,hti,hp⟩:=ho;refine Zv (DN hN hi hx he hti hf) λDn σ H ⟨G,Z,k,a⟩=>?_;unfold Xj at a
 cases q:Z[j]? with
 |none=>rw[q]at a;exact a.elim
 |some o0=>
  cases o0 with
  |none=>rw[q]at a;exact a.elim
  |some sl=>
   cases sl with
   |deep _ _=>rw[q]at a;exact a.elim
   |own ds=>rw[q]at a;exact a.elim
   |pub d0=>
    rw[q]at a;cases d0 with
    |int i0=>
     dsimp only at a;obtain⟨v,h1,h2⟩:=k.pub j _ q;cases h2.int_inv;refine⟨.int i0,h1,G,Z,k,?_⟩;unfold sB at a;cases z:f Z with
     |bad=>rw[z]at a;exact a.elim
     |ok y Z1=>
      rw[z]at a;dsimp only at a;intro u G1 H1 k1 s1 r1;cases y with
      |int i1=>
       cases r1.int_inv;dsimp only at a;cases w:p i0 i1 with
       |none=>rw[w]at a;exact a.elim
       |some d=>
        rw[w]at a;dsimp only at a;split at a
        ·rename_i hl;obtain⟨v',rv,hq⟩:=hp i0 i1 d w;exact hq H1 _ (a _ G1 H1 (k1.setPub (rv G1) hl) s1)
        ·exact a.elim
      |_=>exact a.elim
    |_=>exact a.elim
noncomputable def Vj(Z:UH)(j:Nat):Option (List D):=match Z[j]? with
 |some (some (.own ds))=>some ds
 |_=>none
theorem Nb{Z:UH}{j:Nat}{ds:List D}(h:Vj Z j=some ds):Z[j]?=some (some (.own ds)):=by
 unfold Vj at h;split at h
 ·rename_i es e;cases h;exact e
 ·cases h
theorem Lu{Z:UH}{j:Nat}{ds:List D}(h:Z[j]?=some (some (.own ds))):Vj Z j=some ds:=by unfold Vj;rw[h]
noncomputable def XN(j:Nat)(f:M (List D)):SM:=λZ=>match Vj Z j with
 |none=>.bad
 |some _=>sB f (λes Z1=>match Vj Z1 j with
  |some ds=>if ds.length+es.length<=1000000 then .nx (Z1.set j (some (.own (ds++es))))else .bad
  |none=>.bad) Z
theorem EW{j:Nat}{f:M (List D)}{apos cpos:Pos}(ho:PE X o (Za j))(he:PE X e (tL X.K B G0 f))
  (hbase:attributeBase o "extend" X.env (eval o X.env)=eval o X.env:=by rfl)
  (hfew:((backTo cpos (Uu [e] X.env)).all (λx=>!x.1)&&(backToKw cpos (keywordEach [] X.env)).all (λx=>x.1.isSome)
   && decide ([e].length+([]:List Keyword).length+(if([]:List Keyword).isEmpty then 0 else 1)<30))=true:=by rfl)
  (hline:(apos.endLine==cpos.line)=true:=by rfl) (hs:Uu [e] X.env=[(false,eval e X.env)]:=by rfl)
  (hsw:swapsWith (.Call (.Attribute o "extend" apos) [e] [] cpos) none pos.line X.env=pure false:=by rfl) :
  PS X (.Expr (.Call (.Attribute o "extend" apos) [e] [] cpos) pos) (tS X.K B G0 KX (XN j f)):=
 Zv (On (RY PySem.F.plainAttrs_list PySem.F.slot_list_extend PySem.F.type_list_extend qT ho (X6 he Vo (by rw[hs];rfl)) hbase hfew hline (by rw[hs];rfl) rfl) hsw) λD σ H ⟨G,Z,k,a⟩=>by
  unfold XN at a;cases q0:Vj Z j with
  |none=>rw[q0]at a;exact a.elim
  |some ds0=>
  rw[q0]at a;dsimp only at a;obtain⟨ad,vs0,h1,h2,h3,h4,h5⟩:=k.own j ds0 (Nb q0);refine⟨.ref ad,h1,.inl ⟨rfl,_,SqL.of h4⟩,G,Z,k,?_⟩;unfold sB at a;cases z:f Z with
  |bad=>rw[z]at a;exact a.elim
  |ok es Z1=>
  rw[z]at a;dsimp only at a;intro b zs G1 H1 k1 s1 n1;cases q1:Vj Z1 j with
  |none=>rw[q1]at a;exact a.elim
  |some ds=>
  rw[q1]at a;dsimp only at a;split at a
  ·rename_i hl;obtain⟨ad1,vs,g1,g2,g3,g4,g5⟩:=k1.own j ds (Nb q1);rw[h1]at g1;cases g1;refine⟨ad,b,vs,zs,rfl,rfl,g4,n1.h,by rw[g5.length,n1.r.length];exact QT hl lim,?_⟩;exact a σ G1 _ (k1.change (Nb q1) h1 (g5.append n1.r)) s1
  ·exact a.elim
end
section
variable{X:Cx}{B G0:Hp}{KX:XW}
end
section
variable{X:Cx}{B G0:Hp}{e o a b c tg i:Ur}{pos p2:Pos}{es rest:List Ur}
theorem A4(hc:X.calm=true):YB X (.builtin "sum") (λxs H Q=>∃l,∃ns:List Int,xs=[.ref l]/\SqL X.K H l (ns.map V.int)/\Q (.int ns.sum) H):=by
 intro pins s σ H xs us Q I rx h;obtain⟨l,ns,rfl,hq,q⟩:=h;obtain⟨u,rfl,ru⟩:=rx.one;cases ru;obtain⟨its,rv,p,hz⟩:=I.list hq;have hi:=Wb rv;obtain⟨ys,e⟩:=hi.allInts.items;have hns:ns=ys.toList.map (·.1):=by rw[←hi.numsOf,←nums_intItems,←e]
 have hl:=p.isList;rw[e]at hl;refine sum_intListG (I.ok.hd hc) hl λh' tk t' hk=>?_
 have e2:preSum (numAt ys) ys.size=ns.sum:=by rw[preSum_eq,List.take_of_length_le (by simp),hns]
 rw[e2];exact⟨.int ns.sum,H,I.kept hk,⟨t',rfl⟩,q⟩
noncomputable def Vi:List D->Option D
 |[.list ds]=>(ZO ds).map λns=>.int ns.sum
 |_=>none
theorem A3{xs:List D}{d:D}(h:Vi xs=some d):∃ds ns,xs=[.list ds]/\ZO ds=some ns/\d=.int ns.sum:=by
 unfold Vi at h;split at h
 ·rename_i ds;cases z:ZO ds with
  |none=>rw[z]at h;cases h
  |some ns=>rw[z]at h;cases h;exact⟨ds,ns,rfl,z,rfl⟩
 ·cases h
theorem EV(hc:X.calm=true):YG X (.builtin "sum") Vi:=by refine⟨_,A4 hc,λvs G H ds d Q s r e k=>?_⟩;obtain⟨ds,ns,rfl,z,rfl⟩:=A3 e;obtain⟨v,rfl,q1⟩:=r.one_inv;obtain⟨l,ws,rfl,h1,r1⟩:=q1.lst_inv;have:=VU r1 z;subst this;exact⟨l,ns,rfl,s.seq h1,k _ G H (.refl s) (.int _)⟩
theorem OS{ns:List Int}:Vi [.list (ns.map .int)]=some (.int ns.sum):=by unfold Vi;dsimp only;rw[VW];rfl
theorem A2:MtR X "list.index" (λv vs H Q=>∃l k,∃ns:List Int,v=.ref l/\vs=[.int k]/\SqL X.K H l (ns.map V.int)/\PyData.layable0 (.list (ns.map .int))=true/\k∈ns/\Q (.int (ns.idxOf k:Nat)) H):=by intro pins s σ H x vs v us Q I rx rv h;obtain⟨l,k,ns,rfl,rfl,hq,hl,hk,q⟩:=h;cases rx;obtain⟨u,rfl,ru⟩:=rv.one;obtain⟨t,rfl⟩:=ru;obtain⟨its,rv,p,hz⟩:=I.list hq;exact index_list_ints p.isList (Wb rv) hl hk ⟨.int _,H,I.tok _,⟨_,rfl⟩,q⟩
noncomputable def SJ(y:D)(xs:List D):Option D:=match y,xs with
 |.list ds,[.int k]=>(match ZO ds with
  |some ns=>if PyData.layable0 (.list (ns.map .int))=true/\k∈ns then some (.int (ns.idxOf k:Nat))else none
  |none=>none)
 |_,_=>none
theorem jA{ds xs:List D}{d:D}(h:SJ (.list ds) xs=some d):∃k ns,xs=[.int k]/\ZO ds=some ns/\PyData.layable0 (.list (ns.map .int))=true/\k∈ns/\d=.int (ns.idxOf k:Nat):=by
 unfold SJ at h;split at h
 ·rename_i ds' k e1;cases e1;cases z:ZO ds with
  |none=>rw[z]at h;cases h
  |some ns=>
   rw[z]at h;dsimp only at h;split at h
   ·rename_i c;cases h;exact⟨k,ns,rfl,rfl,c.1,c.2,rfl⟩
   ·cases h
 ·cases h
noncomputable def R4(f:M D)(g:M (List D)):M D:=Kb f λy=>Kb g λxs=>U9 (match y with | .list ds=>SJ (.list ds) xs|_=>none)
theorem A1{apos cpos:Pos}{f:M D}{g:M (List D)}(ho:PE X o (tD X.K B G0 f))(ha:PA X (e::es) (tDs X.K B G0 g))
  (hbase:attributeBase o "index" X.env (eval o X.env)=eval o X.env:=by rfl)
  (hfew:((backTo cpos (Uu (e::es) X.env)).all (λx=>!x.1)&&(backToKw cpos (keywordEach [] X.env)).all (λx=>x.1.isSome)
   && decide ((e::es).length+([]:List Keyword).length+(if([]:List Keyword).isEmpty then 0 else 1)<30))=true:=by rfl)
  (hline:(apos.endLine==cpos.line)=true:=by rfl) (hs:Uu (e::es) X.env=(false,eval e X.env)::Uu es X.env:=by rfl) (hplain:(backTo cpos (Uu es X.env)).any (·.1)=false:=by rfl) :
  PE X (.Call (.Attribute o "index" apos) (e::es) [] cpos) (tD X.K B G0 (R4 f g)):=
 Ks (RY F.plainAttrs_list F.slot_list_index F.type_list_index A2 ho ha hbase hfew hline hs hplain) λσ H Q q=>by
  refine tM.one (R:=Rep X.K) q λv H2 G Z y k r a=>?_
  cases y with
  |list ds=>
   obtain⟨l,ws,rfl,h1,r1⟩:=r.lst_inv;refine⟨.inl ⟨rfl,ws,k.gh.seq h1⟩,?_⟩;refine tM.nx (R:=Reps X.K) k a λxs H3 G3 Z3 es k3 s3 r3 a3=>?_
   obtain⟨d,e,a3⟩:=a3.opt;obtain⟨x,ns,rfl,z,hl,hk,rfl⟩:=jA e;obtain⟨u,rfl,ru⟩:=r3.one_inv;have:=VU r1 z;subst this;exact⟨l,x,ns,rfl,by rw[ru.int_inv],k3.gh.seq (s3.seq h1),hl,hk,aft.now a3 k3 (.int _)⟩
  |_=>
   unfold Kb at a;cases z:g Z with
   |bad=>rw[z]at a;exact a.elim
   |ok xs Z1=>rw[z]at a;exact a.elim
theorem C2{f:M D}{g:M (List D)}{Z Z1 Z2:UH}{ds:List D}{x d:D}(h1:f Z=.ok (.list ds) Z1)(h2:g Z1=.ok [x] Z2)(h3:SJ (.list ds) [x]=some d):R4 f g Z=.ok d Z2:=by unfold R4 Kb;rw[h1];dsimp only;rw[h2];dsimp only;rw[h3];rfl
end
end DL
namespace DL
open PySem PySem.Spec PySem.W PyProof.Rows
noncomputable def Kh{α:Type}(lt:Nat->Nat->Bool):KasT α->α
 |.ret a=>a
 |.ask i j k=>Kh lt (k (lt i j))
theorem SQ{α β:Type}{lt:Nat->Nat->Bool}{f:α->KasT β}:∀t:KasT α,Kh lt (t.bind f)=Kh lt (f (Kh lt t))
 |.ret _=>rfl
 |.ask i j k=>by show Kh lt ((k (lt i j)).bind f)=_;rw[SQ];rfl
section
variable{key:Nat->Int}{p:Array Nat}
noncomputable def KA(key:Nat->Int)(p:Array Nat)(i:Nat):Int:=key (p.getD i 0)
def srt(key:Nat->Int)(p:Array Nat)(m:Nat):Prop:=∀i j,i<=j->j<m->KA key p i<=KA key p j
def dsc(key:Nat->Int)(p:Array Nat)(m:Nat):Prop:=∀i j,i<=j->j<m->KA key p j<=KA key p i
noncomputable abbrev kl(key:Nat->Int)(i j:Nat):Bool:=decide (key i<key j)
theorem LZ{k d i:Nat}(hk:k<p.size)(hd:d<=k):KA key (bubble p k d) i=if i=k-d then KA key p k else if k-d<i/\i<=k then KA key p (i-1)else KA key p i:=by
 unfold KA;simp only[Jg];rw[getElem?_bubble hk d hd]
 repeat' split
 all_goals rfl
theorem Rn{i j k:Nat}(hj:j<=p.size):KA key (kas_rev p i j) k=if i<=k/\k<j then KA key p (i+j-1-k)else KA key p k:=by
 unfold KA kas_rev;simp only[Jg];rw[getElem?_mirror_all hj]
 split<;>rfl
theorem VS{i j:Nat}:(kas_rev p i j).size=p.size:=mirror_size _ _ _ _
theorem Wq{i j:Nat}:(kas_rev p i j).Perm p:=mirror_perm _ _ _ _
theorem OR:∀(f n:Nat),1<=n->srt key p n->srt key p (Kh (kl key) (kas_asc p f n))/\n<=Kh (kl key) (kas_asc p f n)/\Kh (kl key) (kas_asc p f n)<=n+f /\
  (Kh (kl key) (kas_asc p f n)<n+f->KA key p (Kh (kl key) (kas_asc p f n))<KA key p (Kh (kl key) (kas_asc p f n)-1))
 |0,n,h1,hs=>⟨hs,Qr _,Qr _,λh=>absurd h (Jo _)⟩
 |f+1,n,h1,hs=>by
  unfold kas_asc Kh;cases c:kl key (p.getD n 0) (p.getD (n-1) 0)with
  |true=>dsimp only;rw[Qp rfl];exact⟨hs,Qr _,by show n<=n+(f+1);omega,λ_=>Qa c⟩
  |false=>
   dsimp only;rw[QB (by decide)];have hle:KA key p (n-1)<=KA key p n:=Uk.mp (Je c)
   obtain⟨a1,a2,a3,a4⟩:=OR f (n+1) (by omega) (λi j hij hj=>by
    by_cases hjn:j=n
    ·subst hjn;by_cases hin:i=j
     ·subst hin;exact QW _
     ·exact JS (hs i (j-1) (by omega) (by omega)) hle
    ·exact hs i j hij (by omega))
   exact⟨a1,by omega,by omega,λh=>a4 (by omega)⟩
def eqs(key:Nat->Int)(p:Array Nat)(n q:Nat):Prop:=∀i,n-1-q<=i->i<n->KA key p i=KA key p (n-1)
theorem Py:∀(f:Nat)(p:Array Nat)(n q:Nat),1<=n->q+1<=n->n+f<=p.size->dsc key p n->eqs key p n q ->
  let r:=Kh (kl key) (kas_desc f p n q)
  r.1.Perm p/\r.1.size=p.size/\dsc key r.1 r.2.1/\eqs key r.1 r.2.1 r.2.2/\r.2.2+1<=r.2.1/\n<=r.2.1/\r.2.1<=n+f
 |0,p,n,q,h1,hq,hz,hd,he=>⟨Uf _,rfl,hd,he,hq,Qr _,Qr _⟩
 |f+1,p,n,q,h1,hq,hz,hd,he=>by
  intro r;have hr:r=Kh (kl key) (kas_desc (f+1) p n q):=rfl;unfold kas_desc Kh at hr;cases c:kl key (p.getD n 0) (p.getD (n-1) 0)with
  |true=>
   rw[c]at hr;(try dsimp only at hr);rw[if_pos rfl]at hr;have hlt:KA key p n<KA key p (n-1):=Qa c
   have ext:∀p':Array Nat,(∀i,KA key p' i=KA key p i)->dsc key p' (n+1)/\eqs key p' (n+1) 0:=λp' hp=>⟨λi j hij hj=>by
     rw[hp,hp];by_cases hjn:j=n
     ·subst hjn;by_cases hin:i=j
      ·subst hin;exact QW _
      ·exact JS (Int.le_of_lt hlt) (hd i (j-1) (by omega) (by omega))
     ·exact hd i j hij (by omega),λi hi1 hi2=>by
     have:i=n:=by omega
     subst this;rfl⟩
   by_cases hq0:q > 0
   ·rw[Qp hq0]at hr
    have same:∀i,KA key (kas_rev p (n-(q+1)) n) i=KA key p i:=λi=>by
     rw[Rn (by omega)];split
     ·rw[he _ (by omega) (by omega),he i (by omega) (by omega)]
     ·rfl
    obtain⟨d1,e1⟩:=ext _ same;obtain⟨a1,a2,a3,a4,a5,a6,a7⟩:=Py f (kas_rev p (n-(q+1)) n) (n+1) 0 (by omega) (by omega) (by rw[VS];omega) d1 e1;rw[←hr]at a1 a2 a3 a4 a5 a6 a7;exact⟨a1.trans Wq,a2.trans VS,a3,a4,a5,by omega,by omega⟩
   ·rw[QB hq0]at hr;obtain⟨d1,e1⟩:=ext p λ_=>rfl
    obtain⟨a1,a2,a3,a4,a5,a6,a7⟩:=Py f p (n+1) 0 (by omega) (by omega) (by omega) d1 e1;rw[←hr]at a1 a2 a3 a4 a5 a6 a7;exact⟨a1,a2,a3,a4,a5,by omega,by omega⟩
  |false=>
   rw[c]at hr;(try dsimp only at hr);rw[if_neg (by decide)]at hr;unfold Kh at hr;have hle:KA key p (n-1)<=KA key p n:=Uk.mp (Je c);cases d:kl key (p.getD (n-1) 0) (p.getD n 0)with
   |true=>rw[d]at hr;(try dsimp only at hr);rw[if_pos rfl]at hr;unfold Kh at hr;rw[hr];exact⟨Uf _,rfl,hd,he,hq,Qr _,by show n<=n+(f+1);omega⟩
   |false=>
    rw[d]at hr;(try dsimp only at hr);rw[if_neg (by decide)]at hr;have hge:KA key p n<=KA key p (n-1):=Uk.mp (Je d)
    obtain⟨a1,a2,a3,a4,a5,a6,a7⟩:=Py f p (n+1) (q+1) (by omega) (by omega) (by omega) (λi j hij hj=>by
     by_cases hjn:j=n
     ·subst hjn;by_cases hin:i=j
      ·subst hin;exact QW _
      ·exact JS hge (hd i (j-1) (by omega) (by omega))
     ·exact hd i j hij (by omega)) (λi hi1 hi2=>by
     have e0:KA key p n=KA key p (n-1):=JO hge hle;show KA key p i=KA key p (n+1-1);rw[J4,e0];by_cases hin:i=n
     ·subst hin;exact e0
     ·exact he i (by omega) (by omega))
    rw[←hr]at a1 a2 a3 a4 a5 a6 a7;exact⟨a1,a2,a3,a4,a5,by omega,by omega⟩
theorem HR{n nrem:Nat}(h1:1<=n)(hn:n<=nrem)(hz:nrem<=p.size)(hd:dsc key p n) :
  let r:=Kh (kl key) (kas_tail3 n nrem p)
  r.2.Perm p/\r.2.size=p.size/\srt key r.2 r.1/\1<=r.1/\r.1<=nrem:=by
 intro r;have hr:r=Kh (kl key) (kas_tail3 n nrem p):=rfl;unfold kas_tail3 at hr;rw[SQ]at hr;have hs:srt key (kas_rev p 0 n) n:=λi j hij hj=>by rw[Rn (by omega),Rn (by omega),Qp (by omega),Qp (by omega)];exact hd _ _ (by omega) (by omega)
 obtain⟨a1,a2,a3,_⟩:=OR (key:=key) (p:=kas_rev p 0 n) (nrem-n) n h1 hs;rw[hr];exact⟨Wq,VS,a1,by show 1<=Kh _ _;omega,by show Kh _ _<=_;omega⟩
theorem Gq{n nrem:Nat}(h1:1<=n)(hn:n+1<=nrem)(hz:nrem<=p.size)(hd:dsc key p (n+1)) :
  let r:=Kh (kl key) (kas_descPart n nrem p)
  r.2.Perm p/\r.2.size=p.size/\srt key r.2 r.1/\1<=r.1/\r.1<=nrem:=by
 intro r;have hr:r=Kh (kl key) (kas_descPart n nrem p):=rfl;unfold kas_descPart at hr;rw[SQ]at hr
 obtain⟨a1,a2,a3,a4,a5,a6,a7⟩:=Py (key:=key) (nrem-(n+1)) p (n+1) 0 (by omega) (by omega) (by omega) hd (λi hi1 hi2=>by
  have:i=n:=by omega
  subst this;rfl)
 generalize Kh (kl key) (kas_desc (nrem-(n+1)) p (n+1) 0)=d at hr a1 a2 a3 a4 a5 a6 a7;obtain⟨p1,n1,q1⟩:=d;dsimp only at hr a1 a2 a3 a4 a5 a6 a7;by_cases hq:q1 > 0
 ·rw[Qp hq]at hr
  have same:∀i,KA key (kas_rev p1 (n1-(q1+1)) n1) i=KA key p1 i:=λi=>by
   rw[Rn (by omega)];split
   ·rw[a4 _ (by omega) (by omega),a4 i (by omega) (by omega)]
   ·rfl
  obtain⟨b1,b2,b3,b4,b5⟩:=HR (key:=key) (p:=kas_rev p1 (n1-(q1+1)) n1) (n:=n1) (nrem:=nrem) (by omega) (by omega) (by rw[VS];omega) (λi j hij hj=>by rw[same,same];exact a3 i j hij hj);rw[hr];exact⟨(b1.trans Wq).trans a1,(b2.trans VS).trans a2,b3,b4,b5⟩
 ·rw[QB hq]at hr;obtain⟨b1,b2,b3,b4,b5⟩:=HR (key:=key) (p:=p1) (n:=n1) (nrem:=nrem) (by omega) (by omega) (by omega) a3;rw[hr];exact⟨b1.trans a1,b2.trans a2,b3,b4,b5⟩
theorem ql{nrem:Nat}(h1:1<=nrem)(hz:nrem<=p.size) :
  let r:=Kh (kl key) (kas_count nrem p)
  r.2.Perm p/\r.2.size=p.size/\srt key r.2 r.1/\1<=r.1/\r.1<=nrem:=by
 intro r;have hr:r=Kh (kl key) (kas_count nrem p):=rfl;unfold kas_count at hr;rw[SQ]at hr
 obtain⟨a1,a2,a3,a4⟩:=OR (key:=key) (p:=p) (nrem-1) 1 (Qr _) (λi j hij hj=>by
  have:i=j:=by omega
  subst this;exact QW _)
 generalize Kh (kl key) (kas_asc p (nrem-1) 1)=n at hr a1 a2 a3 a4;by_cases hn:(n==nrem)=true
 ·rw[Qp hn]at hr;unfold Kh at hr;rw[hr];exact⟨Uf _,rfl,a1,a2,by show n<=nrem;omega⟩
 ·rw[QB hn]at hr;have hne:n≠nrem:=by simpa using hn
  have hlt:=a4 (by omega);by_cases hn1:n > 1
  ·rw[Qp hn1]at hr;unfold Kh at hr;cases c:kl key (p.getD 0 0) (p.getD (n-1) 0)with
   |true=>rw[c]at hr;(try dsimp only at hr);rw[if_pos rfl]at hr;unfold Kh at hr;rw[hr];exact⟨Uf _,rfl,a1,a2,by show n<=nrem;omega⟩
   |false=>
    rw[c]at hr;(try dsimp only at hr);rw[if_neg (by decide)]at hr;have hge:KA key p (n-1)<=KA key p 0:=Uk.mp (Je c);have all:∀i,i<n->KA key p i=KA key p 0:=λi hi=>JO (JS (a1 i (n-1) (by omega) (by omega)) hge) (a1 0 i (by omega) hi)
    have same:∀i,KA key (kas_rev p 0 n) i=KA key p i:=λi=>by
     rw[Rn (by omega)];split
     ·rw[all _ (by omega),all i (by omega)]
     ·rfl
    obtain⟨b1,b2,b3,b4,b5⟩:=Gq (key:=key) (p:=kas_rev p 0 n) (n:=n) (nrem:=nrem) a2 (by omega) (by rw[VS];exact hz) (λi j hij hj=>by
     rw[same,same];by_cases hjn:j=n
     ·subst hjn;by_cases hin:i=j
      ·subst hin;exact QW _
      ·rw[all i (by omega)];rw[all (j-1) (by omega)]at hlt;exact Int.le_of_lt hlt
     ·rw[all i (by omega),all j (by omega)];exact QW _)
    rw[hr];exact⟨b1.trans Wq,b2.trans VS,b3,b4,b5⟩
  ·rw[QB hn1]at hr;have:n=1:=by omega
   subst this
   obtain⟨b1,b2,b3,b4,b5⟩:=Gq (key:=key) (p:=p) (n:=1) (nrem:=nrem) (Qr _) (by omega) hz (λi j hij hj=>by
    by_cases hij2:i=j
    ·subst hij2;exact QW _
    ·have h0:i=0:=by omega
     have h1:j=1:=by omega
     subst h0;subst h1;exact Int.le_of_lt hlt)
   rw[hr];exact⟨b1,b2,b3,b4,b5⟩
theorem Nm{k:Nat}(hs:srt key p k):∀(f l r:Nat),l<=r->r<=k->r-l<=f->(∀i,i<l->KA key p i<=KA key p k)->(∀i,r<=i->i<k->KA key p k<KA key p i) ->
  let m:=Kh (kl key) (kas_place p k f l r)
  m<=k/\(∀i,i<m->KA key p i<=KA key p k)/\(∀i,m<=i->i<k->KA key p k<KA key p i)
 |0,l,r,hlr,hrk,hf,h1,h2=>⟨by show l<=k;omega,h1,λi (hi:l<=i)=>h2 i (by omega)⟩
 |f+1,l,r,hlr,hrk,hf,h1,h2=>by
  intro m;have hm:m=Kh (kl key) (kas_place p k (f+1) l r):=rfl;unfold kas_place at hm;by_cases hge:l ≥ r
  ·rw[Qp hge]at hm;unfold Kh at hm;rw[hm];exact⟨by omega,h1,λi hi=>h2 i (by omega)⟩
  ·rw[QB hge]at hm;unfold Kh at hm;cases c:kl key (p.getD k 0) (p.getD ((l+r) / 2) 0)with
   |true=>rw[c]at hm;(try dsimp only at hm);rw[if_pos rfl]at hm;rw[hm];have hlt:KA key p k<KA key p ((l+r) / 2):=Qa c;exact Nm hs f l ((l+r) / 2) (by omega) (by omega) (by omega) h1 λi hi hik=>Int.lt_of_lt_of_le hlt (hs _ _ hi hik)
   |false=>rw[c]at hm;(try dsimp only at hm);rw[if_neg (by decide)]at hm;rw[hm];have hle:KA key p ((l+r) / 2)<=KA key p k:=Uk.mp (Je c);exact Nm hs f ((l+r) / 2+1) r (by omega) hrk (by omega) (λi hi=>JS (hs i ((l+r) / 2) (by omega) (by omega)) hle) h2
theorem Lr:∀(f:Nat)(p:Array Nat)(k:Nat),k+f<=p.size->srt key p k->let r:=Kh (kl key) (kas_bin f p k);r.Perm p/\r.size=p.size/\srt key r (k+f)
 |0,p,k,_,hs=>⟨Uf _,rfl,hs⟩
 |f+1,p,k,hz,hs=>by
  intro r;have hr:r=Kh (kl key) (kas_bin (f+1) p k):=rfl;unfold kas_bin at hr;rw[SQ]at hr;obtain⟨a1,a2,a3⟩:=Nm (key:=key) hs k 0 k (JI _) (Qr _) (by omega) (λi hi=>by omega) (λi h1 h2=>by omega);generalize Kh (kl key) (kas_place p k k 0 k)=l at hr a1 a2 a3;have hk:k<p.size:=by omega
  obtain⟨b1,b2,b3⟩:=Lr f (bubble p k (k-l)) (k+1) (by rw[bubble_size];omega) (λi j hij hj=>by
   rw[LZ hk (by omega),LZ hk (by omega),show k-(k-l)=l by omega];by_cases hi:i=l
   ·rw[Qp hi];by_cases hjl:j=l
    ·rw[Qp hjl];exact QW _
    ·rw[QB hjl,Qp (by omega)];exact Int.le_of_lt (a3 (j-1) (by omega) (by omega))
   ·rw[QB hi];by_cases hi2:l<i/\i<=k
    ·rw[Qp hi2,QB (show ¬j=l by omega),Qp (by omega)];exact hs _ _ (by omega) (by omega)
    ·rw[QB hi2];by_cases hjl:j=l
     ·rw[Qp hjl];exact a2 i (by omega)
     ·rw[QB hjl];split
      ·exact hs _ _ (by omega) (by omega)
      ·exact hs _ _ (by omega) (by omega))
  rw[hr];exact⟨b1.trans (bubble_perm _ _ _),b2.trans (bubble_size _ _ _),by rw[show k+(f+1)=k+1+f by omega];exact b3⟩
theorem A0{n:Nat}(h1:1<=n):let r:=Kh (kl key) (kas_sort n);r.Perm (List.toArray (Uw n))/\r.size=n/\srt key r n:=by
 intro r;have hr:r=Kh (kl key) (kas_sort n):=rfl;unfold kas_sort at hr;rw[SQ]at hr;have hsz:(List.toArray (Uw n)).size=n:=by simp
 obtain⟨a1,a2,a3,a4,a5⟩:=ql (key:=key) (p:=List.toArray (Uw n)) (nrem:=n) h1 (by rw[hsz];exact Qr _);generalize Kh (kl key) (kas_count n (List.toArray (Uw n)))=d at hr a1 a2 a3 a4 a5;by_cases hlt:d.1<n
 ·rw[Qp hlt]at hr;have hmax:max d.1 1=d.1:=by omega
  rw[hmax]at hr;obtain⟨b1,b2,b3⟩:=Lr (key:=key) (n-d.1) d.2 d.1 (by omega) a3;rw[hr];exact⟨b1.trans a1,by omega,by rw[show d.1+(n-d.1)=n by omega]at b3;exact b3⟩
 ·rw[QB hlt]at hr;unfold Kh at hr;rw[hr];exact⟨a1,by omega,by rw[show d.1=n by omega]at a3;exact a3⟩
noncomputable def Asks{α:Type}(N:Nat)(R:α->Prop):KasT α->Prop
 |.ret a=>R a
 |.ask i j k=>i<N/\j<N/\∀b,Asks N R (k b)
theorem Asks.bind{α β:Type}{N:Nat}{R:α->Prop}{S:β->Prop}{f:α->KasT β}(hf:∀a,R a->Asks N S (f a)):∀{t:KasT α},Asks N R t->Asks N S (t.bind f)
 |.ret a,h=>hf a h
 |.ask _ _ k,⟨h1,h2,h3⟩=>⟨h1,h2,λb=>Asks.bind hf (h3 b)⟩
theorem Lq{α:Type}{lt:Nat->Nat->Bool}{cmp:Nat->Nat->(Bool->Um->Prop)->Um->Prop}{s:Um}{N:Nat}{R:α->Prop}(hc:∀i j C,i<N->j<N->C (lt i j) s->cmp i j C s):∀(t:KasT α)(Q:α->Um->Prop),Asks N R t->Q (Kh lt t) s->t.kasWp cmp Q s
 |.ret _,_,_,h=>h
 |.ask i j k,Q,⟨h1,h2,h3⟩,h=>hc i j _ h1 h2 (Lq hc (k (lt i j)) Q (h3 _) h)
def bnd(N:Nat)(p:Array Nat):Prop:=∀i,p.getD i 0<N
theorem SW{N:Nat}{p q:Array Nat}(hN:0<N)(h:bnd N p)(e:q.Perm p):bnd N q:=λi=>by
 rw[Jg];cases z:q[i]? with
 |none=>exact hN
 |some v=>have hm:v∈q:=Array.mem_of_getElem? z;have hm2:v∈p:=e.mem_iff.mp hm;obtain⟨j,hj,e2⟩:=Array.mem_iff_getElem.mp hm2;have:=h j;rw[Jg,Jr hj,e2]at this;exact this
section
variable{N:Nat}(hN:0<N)
include hN
theorem OQ{p:Array Nat}(h:bnd N p):∀(f n:Nat),Asks N (λ_=>True) (kas_asc p f n)
 |0,_=>trivial
 |f+1,n=>⟨h _,h _,λb=>by
  cases b with
  |true=>(try dsimp only);rw[if_pos rfl];trivial
  |false=>(try dsimp only);rw[if_neg (by decide)];exact OQ h f (n+1)⟩
theorem Px:∀(f:Nat)(p:Array Nat)(n q:Nat),bnd N p->Asks N (λr=>bnd N r.1) (kas_desc f p n q)
 |0,p,_,_,h=>h
 |f+1,p,n,q,h=>⟨h _,h _,λb=>by
  cases b with
  |true=>
   dsimp only;rw[Qp rfl];split
   ·exact Px f _ _ _ (SW hN h Wq)
   ·exact Px f _ _ _ h
  |false=>
   dsimp only;rw[QB (by decide)];refine⟨h _,h _,λb=>?_⟩;cases b with
   |true=>(try dsimp only);rw[if_pos rfl];exact h
   |false=>(try dsimp only);rw[if_neg (by decide)];exact Px f _ _ _ h⟩
theorem HQ{p:Array Nat}{n nrem:Nat}(h:bnd N p):Asks N (λr=>bnd N r.2) (kas_tail3 n nrem p):=
 Asks.bind (N:=N) (R:=λ_=>True) (S:=λr:Nat×Array Nat=>bnd N r.2) (f:=λm=>.ret (m,kas_rev p 0 n)) (λ_ _=>SW (p:=p) (q:=kas_rev p 0 n) hN h Wq) (OQ hN (SW hN h Wq) _ _)
theorem Gp{p:Array Nat}{n nrem:Nat}(h:bnd N p):Asks N (λr=>bnd N r.2) (kas_descPart n nrem p):=
 Asks.bind (λr hr=>by
  split
  ·exact HQ hN (SW hN hr Wq)
  ·exact HQ hN hr) (Px hN _ _ _ _ h)
theorem qk{p:Array Nat}{nrem:Nat}(h:bnd N p):Asks N (λr=>bnd N r.2) (kas_count nrem p):=
 Asks.bind (R:=λ_=>True) (λn _=>by
  split
  ·exact h
  ·split
   ·refine⟨h _,h _,λb=>?_⟩;cases b with
    |true=>(try dsimp only);rw[if_pos rfl];exact h
    |false=>(try dsimp only);rw[if_neg (by decide)];exact Gp hN (SW hN h Wq)
   ·exact Gp hN h) (OQ hN h _ _)
theorem Nl{p:Array Nat}(h:bnd N p)(k:Nat):∀(f l r:Nat),Asks N (λ_=>True) (kas_place p k f l r)
 |0,_,_=>trivial
 |f+1,l,r=>by
  unfold kas_place;split
  ·trivial
  ·refine⟨h _,h _,λb=>?_⟩;cases b with
   |true=>(try dsimp only);rw[if_pos rfl];exact Nl h k f _ _
   |false=>(try dsimp only);rw[if_neg (by decide)];exact Nl h k f _ _
theorem Lp:∀(f:Nat)(p:Array Nat)(k:Nat),bnd N p->Asks N (λ_=>True) (kas_bin f p k)
 |0,_,_,_=>trivial
 |f+1,p,k,h=>Asks.bind (R:=λ_=>True) (λl _=>Lp f _ _ (SW hN h (bubble_perm _ _ _))) (Nl hN h k _ _ _)
end
theorem Al{n:Nat}(hn:0<n):Asks n (λ_=>True) (kas_sort n):=by
 have hb:bnd n (List.toArray (Uw n)):=λi=>by
  rw[Jg];by_cases hi:i<n
  ·simp[hi]
  ·simp[hi,hn]
 refine Asks.bind (λr hr=>?_) (qk hn hb);split
 ·exact Lp hn _ _ _ hr
 ·trivial
end
noncomputable def KE(q:Int×Int):Int:=q.1*10000000+q.2
def okP(q:Int×Int):Prop:=-1000000<=q.2/\q.2<=1000000
theorem Db{x y:Int×Int}(hx:okP x)(hy:okP y):KE x<KE y ↔ (x.1<y.1∨x.1=y.1/\x.2<y.2):=by unfold KE okP at *;omega
theorem C1{x y:Int×Int}(hx:okP x)(hy:okP y)(h:KE x=KE y):x=y:=by
 unfold KE okP at *;have h1:x.1=y.1:=by omega
 have h2:x.2=y.2:=by omega
 exact Prod.ext h1 h2
section
variable{prog:Uo}{w:World}{A:Around}{E:Ul->Um->Prop}{s:Um}
def R3(h:Heap)(v:Ul)(q:Int×Int):Prop:=∃a t u o n,v=.ref a/\h.get? a=some o/\o.cls=.type "tuple" /\ o.data=.seq #[.int q.1 t,.int q.2 u] n
theorem Da{x y:Ul}{p q:Int×Int}{Q:Bool->Um->Prop}(hx:R3 s.heap x p)(hy:R3 s.heap y q)(h:Q (decide (p.1<q.1∨p.1=q.1/\p.2<q.2)) s):Ut (model prog w) A (keyLt' (tuples' true) x y) Q E s:=by
 obtain⟨a,t,u,o,n,rfl,e1,c1,d1⟩:=hx;obtain⟨b,t',u',o',n',rfl,e2,c2,d2⟩:=hy;refine kat_lt e1 d1 e2 d2 ?_;show KatLex prog w A true _ Q [(Value.int p.1 t,Value.int q.1 t'),(Value.int p.2 u,Value.int q.2 u')] 0 s;refine kat_cons (wpAny_eqBool_int ?_);by_cases h1:p.1=q.1
 ·have e:(p.1==q.1)=true:=by simpa using h1
  rw[e];refine kat_yes (kat_cons (wpAny_eqBool_int ?_));by_cases h2:p.2=q.2
  ·have e:(p.2==q.2)=true:=by simpa using h2
   rw[e];refine kat_yes (kat_nil ?_);have:decide (p.1<q.1∨p.1=q.1/\p.2<q.2)=false:=QG (by omega);rw[this]at h;exact h
  ·have e:(p.2==q.2)=false:=by simpa using h2
   rw[e];refine kat_no (kat_one _ _ (PyProof.Rows.lt_int ?_))
   have:decide (p.1<q.1∨p.1=q.1/\p.2<q.2)=decide (p.2<q.2):=by
    by_cases z:p.2<q.2
    ·rw[Q5 z,Q5 (.inr ⟨h1,z⟩)]
    ·rw[QG z,QG (by omega)]
   rw[this]at h;exact h
 ·have e:(p.1==q.1)=false:=by simpa using h1
  rw[e];refine kat_no (oneLt_int ?_)
  have:decide (p.1<q.1∨p.1=q.1/\p.2<q.2)=decide (p.1<q.1):=by
   by_cases z:p.1<q.1
   ·rw[Q5 z,Q5 (.inl z)]
   ·rw[QG z,QG (by omega)]
  rw[this]at h;exact h
noncomputable def YI(h:Heap):List Ul->LP->Prop
 |[],[]=>True
 |v::vs,q::qs=>R3 h v q/\YI h vs qs
 |_,_=>False
theorem YI.get{h:Heap}:∀{vs:List Ul}{qs:LP},YI h vs qs->vs.length=qs.length/\∀(i:Nat)(hi:i<vs.length),R3 h (vs.getD i .none) (qs.getD i (0,0))
 |[],[],_=>⟨rfl,λi hi=>absurd hi (J6 _)⟩
 |v::vs,q::qs,⟨h1,h2⟩=>by
  obtain⟨e,f⟩:=YI.get h2;refine⟨by simp[e],λi hi=>?_⟩;cases i with
  |zero=>exact h1
  |succ i=>exact f i (by simpa using hi)
theorem YI.tups{h:Heap}:∀{vs:List Ul}{qs:LP},YI h vs qs->∃fs:List Ul,KatTups h vs fs/\fs.length=vs.length/\∀v∈fs,∃i t,v=.int i t
 |[],[],_=>⟨[],trivial,rfl,λ_ h=>by cases h⟩
 |v::vs,q::qs,⟨hp,h2⟩=>by
  obtain⟨a,t,u,o,n,rfl,e1,c1,d1⟩:=hp;obtain⟨fs,f1,f2,f3⟩:=YI.tups h2;refine⟨.int q.1 t::fs,.cons e1 c1 d1 rfl f1,by simp[f2],λv hv=>?_⟩;rcases QP.mp hv with rfl|hv
  ·exact⟨_,_,rfl⟩
  ·exact f3 v hv
theorem YI.mono{h h':Heap}(k:∀b o,h.get? b=some o->h'.get? b=some o):∀{vs:List Ul}{qs:LP},YI h vs qs->YI h' vs qs
 |[],[],_=>trivial
 |v::vs,q::qs,⟨hp,h2⟩=>by obtain⟨a,t,u,o,n,rfl,e1,c1,d1⟩:=hp;exact⟨⟨a,t,u,o,n,rfl,k _ _ e1,c1,d1⟩,YI.mono k h2⟩
def RT(qs:LP)(π:List Nat):Prop:=π.Perm (Uw qs.length)/\(π.map λi=>qs.getD i (0,0)).Pairwise λx y=>KE x<=KE y
theorem ki{a:Up}{vs:List Ul}{qs:LP}{n:Nat}{P:Fin->Um->Prop}(ho:s.heap.get? a=some (seqObj "list" vs.toArray n))
  (hp:YI ((s.heap.update a (Obj.mapSeq λ_=>#[]))) vs qs) (hq:∀q∈qs,okP q) (h64:vs.length<64)
  (h:∀π:List Nat,RT qs π->P (.done (.ret .none)) {s with heap:=sortedHeap s.heap a vs (List.toArray (π.map λi=>vs.getD i .none))}) :
  Ut (model prog w) A (Builtin.«list.sort» ⟨[.ref a],[]⟩) P E s:=by
 obtain⟨hl,hget⟩:=hp.get;rw[list_sort_plain];have ha:a<s.heap.objs.size:=Qi ho;refine Qd (listItems_at ho rfl ?_);refine Qd (listUpdate_at ho rfl ?_);obtain⟨e1,ho1⟩:∃e1,(s.heap.update a (Obj.mapSeq λ_=>#[])).get? a=some (seqObj "list" #[] e1):=⟨_,get?_update_seq ho (λ_=>#[])⟩
 refine Qd (seqEpoch_at ho1 rfl ?_);refine Qd (wpAny_newTuple ?_);refine Qd (wpAny_newList ?_);refine JB ?_;have ho6:(((s.heap.update a (Obj.mapSeq λ_=>#[])).push (seqObj "tuple" vs.toArray 0)).push (seqObj "list" #[] 0)).get? a=some (seqObj "list" #[] e1):=by rw[Heap.get?_push_ne _ _ _ (by rw[size_push',Heap.size_update];exact QN (J8 ha)),Heap.get?_push_ne _ _ _ (by rw[Heap.size_update];exact QN ha)];exact ho1
 have hp6:YI (((s.heap.update a (Obj.mapSeq λ_=>#[])).push (seqObj "tuple" vs.toArray 0)).push (seqObj "list" #[] 0)) vs qs:=hp.mono λb o e=>Qk _ (Qk _ e)
 show Ut (model prog w) A _ P E {s with heap:=((s.heap.update a (Obj.mapSeq λ_=>#[])).push (seqObj "tuple" vs.toArray 0)).push (seqObj "list" #[] 0)};dsimp only;have hsz:vs.toArray.size=vs.length:=by simp
 by_cases h2:vs.toArray.size<2
 ·rw[Qp h2,Qp h2];refine Qd (Qh ?_);rw[StateT.run_pure];refine Qd (Qh ?_);dsimp only;refine Qd (seqEpoch_at ho6 rfl ?_);refine Qd (listUpdate_at ho6 rfl ?_ (hsz2:=by rw[Array.size_map];show(pairsOf vs).size<=_;rw[pairsOf_size,sizeLine_eq];omega));simp only[bne_self_eq_false,JD,Ud]
  have hid:(arrOf (SortSt.mk' general' (vs.toArray.zip vs.toArray) #[] 7 none)).map (·.2)=List.toArray ((Uw vs.length).map λi=>vs.getD i .none):=by
   show(vs.toArray.zip vs.toArray).map (·.2)=_
   apply Array.toList_inj.mp;apply List.ext_getElem?;intro i;simp only[Array.toList_map,Array.toList_zip,Qe,List.getElem?_zip_eq_some];by_cases hi:i<vs.length
   ·simp[List.getElem?_zip_eq_some,hi,List.getElem?_range]
   ·simp[hi]
  rw[hid];refine Qh (h (Uw vs.length) ⟨by rw[hl],?_⟩);rw[List.pairwise_map];rw[hsz]at h2
  rcases(show vs.length=0∨vs.length=1 by omega)with z|z<;>rw[z]
  ·exact .nil
  ·exact List.pairwise_singleton _ _
 ·rw[QB h2,QB h2];rw[hsz]at h2;obtain⟨fs,f1,f2,f3⟩:=hp6.tups;refine Qd (kat_kind (T:=.type "int") f1 (by omega) (λv hv=>by obtain⟨i,t,rfl⟩:=f3 v hv;exact(show Looks _ _ (pure (Value.type "int")) _ from .now)) rfl ?_)
  refine Qd (QH (kat_run (ks:=vs) (G:=λp s'=>s' = {s with heap:=((s.heap.update a (Obj.mapSeq λ_=>#[])).push (seqObj "tuple" vs.toArray 0)).push (seqObj "list" #[] 0)}/\p=Kh (kl λi=>KE (qs.getD i (0,0))) (kas_sort vs.length))
   (Q:=λst' s'=>s' = {s with heap:=((s.heap.update a (Obj.mapSeq λ_=>#[])).push (seqObj "tuple" vs.toArray 0)).push (seqObj "list" #[] 0)}/\failedOf st'=none/\arrOf st'=(Kh (kl λi=>KE (qs.getD i (0,0))) (kas_sort vs.length)).map (kas_item (vs.toArray.zip vs.toArray)))
   rfl (by omega) h64 (λp st' s' a1 a2 a3 a4=>⟨a4.1,a3,by rw[a2,a4.2]⟩) ?_) ?_ λ_ _ e=>e)
  ·refine Lq (N:=vs.length) (R:=λ_=>True) (lt:=kl λi=>KE (qs.getD i (0,0))) (λi j C hi hj hC=>?_) _ _ (Al (by omega)) ⟨rfl,rfl⟩;refine Da (YI.get hp6 |>.2 i hi) (YI.get hp6 |>.2 j hj) ?_;have oi:okP (qs.getD i (0,0)):=hq _ (by rw[Qn,Qf (by omega)];exact JX _);have oj:okP (qs.getD j (0,0)):=hq _ (by rw[Qn,Qf (by omega)];exact JX _);have e:decide ((qs.getD i (0,0)).1<(qs.getD j (0,0)).1∨(qs.getD i (0,0)).1=(qs.getD j (0,0)).1/\(qs.getD i (0,0)).2<(qs.getD j (0,0)).2)=kl (λi=>KE (qs.getD i (0,0))) i j:=by unfold kl;exact decide_eq_decide.mpr (Db oi oj).symm
   rw[e];exact hC
  ·rintro⟨⟨⟩,st'⟩ s' ⟨rfl,hf,har⟩;dsimp only;obtain⟨b1,b2,b3⟩:=A0 (key:=λi=>KE (qs.getD i (0,0))) (n:=vs.length) (by omega);generalize Kh (kl λi=>KE (qs.getD i (0,0))) (kas_sort vs.length)=p at har b1 b2 b3;have hout:=kat_snds (ks:=vs) (vs:=vs) rfl har;have hsz2:((arrOf st').map (·.2)).size=vs.length:=by rw[hout,QI,Qb,Jh,b2]
   refine Qd (seqEpoch_at ho6 rfl ?_);refine Qd (listUpdate_at ho6 rfl ?_ (hsz2:=by rw[hsz2,sizeLine_eq];omega));rw[hf];simp only[bne_self_eq_false,JD,Ud];rw[hout];refine Qh (h p.toList ⟨?_,?_⟩)
   ·have:=Array.perm_iff_toList_perm.mp b1;rw[←hl];exact this
   ·rw[List.pairwise_map,List.pairwise_iff_getElem];intro i j hi hj hij;rw[Jh,b2]at hi hj;have:=b3 i j (by omega) hj;unfold KA at this;rw[Jg,Jg,Jr (by omega),Jr (by omega)]at this;simpa using this
end
section
variable{prog:Uo}{w:World}{A:Around}{E:Ul->Um->Prop}{s:Um}
theorem jI{l:Up}{vs:List Ul}{qs:LP}{Q:Ul->Um->Prop}(hl:s.heap.IsList l vs.toArray)(hp:YI s.heap vs qs)(hq:∀q∈qs,okP q)(h64:vs.length<64)
  (h:∀π:List Nat,RT qs π->Q (.ref (s.heap.objs.size+1)) {s with heap:=sortedAll s.heap vs (List.toArray (π.map λi=>vs.getD i .none))}) :
  Ut (model prog w) A (call (.builtin "sorted") [.ref l]) Q E s:=by
 refine Calls.call_function_entry kind_sorted plain_sorted entry_sorted (args_sorted1 _) ?_;unfold Builtin.«sorted»;refine Qd (m:=checkCount "sorted" 1 1 _) (Qh ?_);refine Qd (collect_list hl ?_);refine Qd (wpAny_newList ?_);have hsz:((s.heap.push (seqObj "list" #[] 0)).update s.heap.objs.size (Obj.mapSeq (· ++ vs.toArray))).objs.size=s.heap.objs.size+1:=by rw[Heap.size_update,size_push']
 have hoL:(((s.heap.push (seqObj "list" #[] 0)).update s.heap.objs.size (Obj.mapSeq (· ++ vs.toArray))).push (seqObj "list" vs.toArray 0)).get? (s.heap.objs.size+1)=some (seqObj "list" vs.toArray 0):=by rw[←hsz];exact Qz _ rfl
 show Ut _ _ _ _ _ {s with heap:=((s.heap.push (seqObj "list" #[] 0)).update s.heap.objs.size (Obj.mapSeq (· ++ vs.toArray))).push (seqObj "list" vs.toArray 0)};rw[hsz];refine Qd (JB (JA slot_list_sort ⟨_,hoL,rfl⟩ entry_list_sort (ki (qs:=qs) hoL (hp.mono λb o e=>?_) hq h64 λπ a1=>⟨_,rfl,?_⟩) (args_list_sort _)))
 ·have hlt:b<s.heap.objs.size:=Qi e;dsimp only;have hlt':(b:Nat)<s.heap.objs.size:=hlt;rw[Heap.get?_update_ne _ _ _ _ (QN (J8 hlt')),Heap.get?_push_ne _ _ _ (by rw[hsz];exact QN (J8 hlt')),Heap.get?_update_ne _ _ _ _ (QN hlt),Heap.get?_push_ne _ _ _ (QN hlt)];exact e
 ·exact Qh ⟨_,rfl,h π a1⟩
end
end DL
namespace DL
open PySem PySem.Spec L2
open PyProof.Rows hiding St
section
variable{X:Cx}
theorem Lo{pins:List (Up×Obj)}{s:Um}{σ:St}{H:Hp}(I:Inv X pins σ H s):∀{as:List Up}{us:List Ul}{qs:LP},Vals (as.map V.ref) us->as.length=qs.length->(∀(i:Nat) a q,as[i]?=some a->qs[i]?=some q->SqT X.K H a [.int q.1,.int q.2])->YI s.heap us qs
 |[],_,[],.nil,_,_=>trivial
 |a::as,_,q::qs,.cons r t,hl,h=>by refine⟨?_,Lo I t (by simpa using hl) λi a q h1 h2=>h (i+1) a q (by simpa using h1) (by simpa using h2)⟩;cases r;obtain⟨its,rv,⟨o,e,c,n,d⟩,_⟩:=I.tuple (h 0 a q rfl rfl);obtain⟨u,v,rfl,r1,r2⟩:=rv.two;obtain⟨t1,rfl⟩:=r1;obtain⟨t2,rfl⟩:=r2;exact⟨a,t1,t2,o,n,rfl,e,c,by simpa using d⟩
theorem Ht{as:List Up}{us:List Ul}(r:Vals (as.map V.ref) us):∀(π:List Nat),(∀i∈π,i<as.length)->Vals (π.map λi=>V.ref (as.getD i 0)) (π.map λi=>us.getD i .none)
 |[],_=>.nil
 |i::π,h=>by
  refine .cons ?_ (Ht r π λj hj=>h j (Ql _ hj));have hi:=h i Qm;have e:(as.map V.ref)[i]?=some (.ref (as.getD i 0)):=by rw[List.getElem?_map,List.getElem?_eq_getElem hi];simp[List.getD,List.getElem?_eq_getElem hi]
  obtain⟨u,e2,ru⟩:=r.get e;simp only[List.getD,e2,JW];exact ru
theorem qi:YB X (.builtin "sorted") (λxs H Q=>∃l,∃as:List Up,∃qs:LP,xs=[.ref l]/\SqL X.K H l (as.map V.ref)/\as.length=qs.length/\(∀(i:Nat) a q,as[i]?=some a->qs[i]?=some q->SqT X.K H a [.int q.1,.int q.2])/\(∀q∈qs,okP q)/\qs.length<64 /\
  ∀π p,RT qs π->H p=none->Q (.ref p) (upd H p (.lst (π.map λi=>V.ref (as.getD i 0))))):=by
 intro pins s σ H xs us Q I rx h;obtain⟨l,as,qs,rfl,hq,hl,ht,ho,hb,q⟩:=h;obtain⟨u,rfl,ru⟩:=rx.one;cases ru;obtain⟨its,rv,p,hz⟩:=I.list hq;have hn:its.length=qs.length:=by have:=rv.length;rw[Qb]at this;omega
 refine jI (qs:=qs) p.isList (Lo I rv hl ht) ho (by omega) λπ hπ=>?_
 obtain⟨e,he⟩:=sortedAll_at s.heap its (List.toArray (π.map λi=>its.getD i .none));have hπl:∀i∈π,i<as.length:=λi hi=>by have:=hπ.1.mem_iff.mp hi;rw[Q7]at this;omega
 refine⟨.ref (s.heap.objs.size+1),_,I.laid (t':=s.toks) (λb o=>sortedAll_old) (JZ _) (show Zm X.prog X.w _ _ _ (.lst (π.map λi=>V.ref (as.getD i 0)))from⟨?_,_,e,Ht rv π hπl,he⟩),rfl,q π _ hπ (I.hok.fresh (JZ _))⟩;rw[Qb,hπ.1.length_eq,Qu];rw[Qb]at hz;omega
noncomputable def R1:D->Option (Int×Int)
 |.tuple [.int a,.int b]=>some (a,b)
 |_=>none
noncomputable def VF:List D->Option LP
 |[]=>some []
 |d::r=>(R1 d).bind λq=>(VF r).map (q :: ·)
noncomputable def Kd(q:Int×Int):D:=.tuple [.int q.1,.int q.2]
theorem Ak{d:D}{q:Int×Int}(h:R1 d=some q):d=Kd q:=by
 unfold R1 at h;split at h
 ·cases h;rfl
 ·cases h
theorem Gh:∀{ds:List D}{qs:LP},VF ds=some qs->ds=qs.map Kd
 |[],qs,h=>by cases h;rfl
 |d::r,qs,h=>by
  unfold VF at h;cases z:R1 d with
  |none=>rw[z]at h;cases h
  |some q=>
   rw[z]at h;cases z2:VF r with
   |none=>rw[z2]at h;cases h
   |some qs'=>rw[z2]at h;cases h;rw[Ak z,Gh z2];rfl
theorem Gy:∀qs:LP,VF (qs.map Kd)=some qs
 |[]=>rfl
 |q::r=>by rw[Qy,VF,Gy r];rfl
noncomputable def Wh(qs:LP):LP:=qs.mergeSort λx y=>decide (KE x<=KE y)
theorem HP(qs:LP):(Wh qs).Perm qs:=List.mergeSort_perm ..
theorem Hs(qs:LP):(Wh qs).Pairwise λx y=>KE x<=KE y:=by have:=List.pairwise_mergeSort (le:=λx y:Int×Int=>decide (KE x<=KE y)) (by intro a b c;simp;omega) (by intro a b;simp;omega) qs;exact this.imp (by simp)
theorem OP:∀{a b:LP},(∀x∈a,okP x)->a.Perm b->a.Pairwise (λx y=>KE x<=KE y)->b.Pairwise (λx y=>KE x<=KE y)->a=b
 |[],b,_,p,_,_=>by rw[List.nil_perm.1 p]
 |x::a,[],_,p,_,_=>by have:=p.length_eq;simp at this
 |x::a,y::b,ok,p,ha,hb=>by
  have hx:KE y<=KE x:=by
   rcases QP.1 (p.mem_iff.1 (Qm ..))with e|e
   ·rw[e];exact QW _
   ·exact(Jw.1 hb).1 x e
  have hy:KE x<=KE y:=by
   rcases QP.1 (p.mem_iff.2 (Qm ..))with e|e
   ·rw[e];exact QW _
   ·exact(Jw.1 ha).1 y e
  have oky:okP y:=ok y (p.mem_iff.2 (Qm ..));have e:=C1 (ok x (Qm ..)) oky (JO hy hx);subst e;rw[OP (λz hz=>ok z (Ql _ hz)) (List.Perm.cons_inv p) (Jw.1 ha).2 (Jw.1 hb).2]
theorem C0{qs:LP}{π:List Nat}(ok:∀q∈qs,okP q)(h:RT qs π):(π.map λi=>qs.getD i (0,0))=Wh qs:=by
 have hp:(π.map λi=>qs.getD i (0,0)).Perm qs:=by
  have h1:=h.1.map λi=>qs.getD i (0,0)
  have e:(Uw qs.length).map (λi=>qs.getD i (0,0))=qs:=by
   apply List.ext_getElem?;intro i;rw[Qe];by_cases hi:i<qs.length
   ·rw[List.getElem?_range hi,List.getElem?_eq_getElem hi];simp[List.getD,List.getElem?_eq_getElem hi]
   ·rw[Ja (by rw[Qu];omega),Ja (by omega)];rfl
  rw[e]at h1;exact h1
 exact OP (λx hx=>ok x (hp.mem_iff.mp hx)) (hp.trans (HP qs).symm) h.2 (Hs qs)
noncomputable def okPB(q:Int×Int):Bool:=decide (-1000000<=q.2/\q.2<=1000000)
noncomputable def Rx:List D->Option D
 |[.list ds]=>(match VF ds with
  |some qs=>if qs.length<64/\qs.all okPB=true then some (.list ((Wh qs).map Kd))else none
  |none=>none)
 |_=>none
theorem qh{xs:List D}{d:D}(h:Rx xs=some d):∃qs:LP,xs=[.list (qs.map Kd)]/\qs.length<64/\(∀q∈qs,okP q)/\d=.list ((Wh qs).map Kd):=by
 unfold Rx at h;split at h
 ·rename_i ds;cases z:VF ds with
  |none=>rw[z]at h;cases h
  |some qs=>
   rw[z]at h;dsimp only at h;split at h
   ·rename_i c;cases h;exact⟨qs,by rw[Gh z],c.1,λq hq=>(show -1000000<=q.2/\q.2<=1000000 from Qa (Q2.mp c.2 q hq)),rfl⟩
   ·cases h
 ·cases h
theorem Hr{K:Frag}{G:Hp}:∀{vs:List V}{qs:LP},Reps K G vs (qs.map Kd)->∃as:List Up,vs=as.map V.ref/\as.length=qs.length/\∀(i:Nat) a q,as[i]?=some a->qs[i]?=some q->SqT K G a [.int q.1,.int q.2]
 |_,[],.nil=>⟨[],rfl,rfl,λi a q h=>by simp at h⟩
 |_,q::qs,.cons r t=>by
  obtain⟨as,rfl,hl,h⟩:=Hr t;obtain⟨a,ws,rfl,h1,r1⟩:=r.tup_inv;cases r1 with
  |cons ra rb=>
   obtain⟨v,rfl,rb'⟩:=rb.one_inv;refine⟨a::as,rfl,by simp[hl],λi a' q' e1 e2=>?_⟩;cases i with
   |zero=>cases e1;cases e2;rw[ra.int_inv,rb'.int_inv]at h1;exact h1
   |succ i=>exact h i a' q' (by simpa using e1) (by simpa using e2)
theorem CZ{K:Frag}{G:Hp}{a:Up}{q:Int×Int}(h:SqT K G a [.int q.1,.int q.2]):Rep K G (.ref a) (Kd q):=.tup h (.cons (.int _) (.cons (.int _) .nil))
theorem Hq{K:Frag}{G:Hp}{as:List Up}{qs:LP}(hl:as.length=qs.length)(h:∀(i:Nat) a q,as[i]?=some a->qs[i]?=some q->SqT K G a [.int q.1,.int q.2]):∀π:List Nat,(∀i∈π,i<qs.length)->Reps K G (π.map λi=>V.ref (as.getD i 0)) ((π.map λi=>qs.getD i (0,0)).map Kd)
 |[],_=>.nil
 |i::π,hb=>by
  refine .cons ?_ (Hq hl h π λj hj=>hb j (Ql _ hj));have hi:=hb i Qm;refine CZ (h i _ _ ?_ ?_)
  ·rw[List.getElem?_eq_getElem (by omega)];simp[List.getD,List.getElem?_eq_getElem (show i<as.length by omega)]
  ·rw[List.getElem?_eq_getElem hi];simp[List.getD,List.getElem?_eq_getElem hi]
theorem E9:YG X (.builtin "sorted") Rx:=by refine⟨_,qi,λvs G H ds d Q s r e k=>?_⟩;obtain⟨qs,rfl,h64,ok,rfl⟩:=qh e;obtain⟨v,rfl,q1⟩:=r.one_inv;obtain⟨l,ws,rfl,h1,r1⟩:=q1.lst_inv;obtain⟨as,rfl,hl,ht⟩:=Hr r1;refine⟨l,as,qs,rfl,s.seq h1,hl,λi a q e1 e2=>YQ s (ht i a q e1 e2),ok,h64,λπ p hπ hp=>?_⟩;have hb:∀i∈π,i<qs.length:=λi hi=>Q7.mp (hπ.1.mem_iff.mp hi);have rr:=(Hq hl ht π hb).mono (Zn (s.free hp):Same G (upd G p (.lst (π.map λi=>V.ref (as.getD i 0)))));rw[C0 ok hπ]at rr;exact k _ _ _ (Ext.new s hp) (.lst (SqL.of Zc) rr)
theorem YG.or{f:Ul}{p q:List D->Option D}(h1:YG X f p)(h2:YG X f q):YG X f (λxs=>(p xs).orElse λ_=>q xs):=by
 obtain⟨r1,c1,k1⟩:=h1;obtain⟨r2,c2,k2⟩:=h2;refine⟨λxs H Q=>r1 xs H Q∨r2 xs H Q,λpins s σ H xs us Q I rx h=>?_,λvs G H ds d Q s r e k=>?_⟩
 ·rcases h with h|h
  ·exact c1 pins s σ H xs us Q I rx h
  ·exact c2 pins s σ H xs us Q I rx h
 ·dsimp only at e;cases z:p ds with
  |some d'=>rw[z]at e;cases e;exact .inl (k1 vs G H ds _ Q s r z k)
  |none=>rw[z]at e;exact .inr (k2 vs G H ds _ Q s r e k)
noncomputable def VJ(xs:List D):Option D:=(VN xs).orElse λ_=>Rx xs
theorem EU:YG X (.builtin "sorted") VJ:=Df.or E9
theorem HN{ns:List Int}(h:ns.length<64):VJ [.list (ns.map .int)]=some (.list ((Zs ns).map .int)):=by unfold VJ;rw[AG h];rfl
theorem Aj{qs:LP}(h:qs.length<64)(ok:∀q∈qs,okP q):VJ [.list (qs.map Kd)]=some (.list ((Wh qs).map Kd)):=by
 cases qs with
 |nil=>
  have e1:Wh []=[]:=by unfold Wh;simp
  have e2:Zs []=[]:=by unfold Zs;simp
  have:=HN (ns:=[]) (by decide);rw[e2]at this;rw[e1];exact this
 |cons q r=>have e1:VN [.list ((q::r).map Kd)]=none:=rfl;unfold VJ;rw[e1,Option.orElse];unfold Rx;dsimp only;rw[Gy];exact Qp ⟨h,Q2.mpr λq hq=>Q5 (show -1000000<=q.2/\q.2<=1000000 from ok q hq)⟩
end
section
variable{X:Cx}
end
section
variable{X:Cx}{B G0:Hp}{e o a b c tg:Ur}{pos p2:Pos}{es rest:List Ur}{te to ti:TE}
noncomputable def Ss{β:Type}(p:D->D->Option β)(f:M D)(j:Nat):M β:=Kb f λx=>λZ=>match Z[j]? with
 |some (some (.pub d))=>U9 (p x d) Z
 |some (some (.own ds))=>U9 (p x (.list ds)) Z
 |_=>.bad
theorem GO{K:Frag}{σ:St}{H:Hp}{p:D->D->Option Bool}{r:R2}{j:Nat}{f:M D}{Q:Bool->Hp->Prop}{QV:VK}(hq:∀t H3,Q t H3->QV (.bl t) H3)
  (hr:∀v u G H x y d Q,Same G H->Rep K G v x->Rep K G u y->p x y=some d->Q (.bl d) H->r v u H Q)
  (q:tBo K B G0 (Ss p f j) σ H Q):tD K B G0 f σ H λx H1=>Za j σ H1 λy H2=>r x y H2 QV:=by
 refine tM.one (R:=Rep K) q λv H2 G Z x k rx a=>?_
 cases z:Z[j]? with
 |none=>rw[z]at a;exact a.elim
 |some o=>
  cases o with
  |none=>rw[z]at a;exact a.elim
  |some sl=>
   cases sl with
   |deep _ _=>rw[z]at a;exact a.elim
   |pub d=>rw[z]at a;dsimp only at a;obtain⟨d',e',a'⟩:=aft.opt a;obtain⟨u,h1,h2⟩:=k.pub j d z;exact⟨u,h1,hr v u G H2 x d d' _ k.gh rx h2 e' (hq _ _ (a' d' G H2 k (.refl _) rfl))⟩
   |own ds=>rw[z]at a;dsimp only at a;obtain⟨d',e',a'⟩:=aft.opt a;obtain⟨ad,vs,h1,h2,h3,h4,h5⟩:=k.own j ds z;exact⟨.ref ad,h1,hr v (.ref ad) H2 H2 x (.list ds) d' _ (.refl _) (rx.mono k.gh) (.lst (SqL.of h4) (h5.mono k.gh)) e' (hq _ _ (a' d' G H2 k (.refl _) rfl))⟩
theorem E8{op:CmpOp}{p:D->D->Option Bool}{j:Nat}{f:M D}(o:OpB X (Uv op) p)(ha:PE X a (tD X.K B G0 f))(hb:PE X b (Za j))(hm:behindInMarks op b=false) :
  PT X (.Compare a [op] [b] pos) (tBo X.K B G0 (Ss p f j)):=by
 obtain⟨r,h,i⟩:=o;exact Yw (Om h ha hb hm) λσ H Q q=>GO (λt H3 z=>⟨t,rfl,z⟩) i q
theorem Ln{β:Type}{p:D->D->Option β}{f:M D}{j:Nat}{Z Z1:UH}{x:D}{ds:List D}{r:β}(h1:f Z=.ok x Z1)(h2:Z1[j]?=some (some (.own ds)))(h3:p x (.list ds)=some r):Ss p f j Z=.ok r Z1:=by unfold Ss;exact KR h1 (by rw[h2];exact ZZ h3)
end
noncomputable def Rw(Z:UH)(j:Nat):Option D:=match Z[j]? with
 |some (some (.pub d))=>some d
 |some (some (.own ds))=>some (.list ds)
 |some (some (.deep _ d))=>some d
 |_=>none
theorem EOk.tree{K:Frag}{B G0 G H:Hp}{σ:St}{Z:UH}{j:Nat}{d:D}(k:EOk K B G0 G H σ Z)(h:Rw Z j=some d):∃v,σ[j]?=some (some v)/\Rep K H v d:=by
 unfold Rw at h;split at h
 ·rename_i d' e;cases h;obtain⟨v,h1,h2⟩:=k.pub j _ e;exact⟨v,h1,h2.mono k.gh⟩
 ·rename_i ds e;cases h;obtain⟨a,vs,h1,h2,h3,h4,h5⟩:=k.own j ds e;exact⟨.ref a,h1,.lst (SqL.of h4) (h5.mono k.gh)⟩
 ·rename_i p d' e;cases h;obtain⟨ω,k1,k2⟩:=k.dp;obtain⟨v,fp,s,r,_⟩:=k1 j p _ e;exact⟨v,s,r.rep k.gh⟩
 ·cases h
section
variable{X:Cx}{B G0:Hp}{e o a b c tg:Ur}{pos p2:Pos}{es rest:List Ur}
end
end DL
namespace HT
open PySem PyProof.Rows
section
open PySem.SeqAt
open PySem.AutoSeq1 (wpAny_loadPart')
open PySem.MeetsSeq PySem.MeetsSeq2 PySem.MeetsSeq3
end
section
variable{prog:Uo}{w:World}{A:Around}{E:Ul->Um->Prop}{s:Um}
end
end HT
namespace DL
open PySem PySem.Spec L2
open PyProof.Rows hiding St
section
variable{X:Cx}
end
section
variable{X:Cx}
noncomputable def Sr(x y:D):Option (List D):=match x,y with
 |.list xs,.int k=>if -1000000<=k/\k<=1000000/\xs.length*k.toNat<=1000000 then some (Ux k.toNat xs).flatten else none
 |_,_=>none
theorem Ai{x y:D}{ds:List D}(h:Sr x y=some ds):∃xs k,x=.list xs/\y=.int k/\(-1000000<=k/\k<=1000000/\xs.length*k.toNat<=1000000)/\ds=(Ux k.toNat xs).flatten:=by
 unfold Sr at h;split at h
 ·split at h
  ·rename_i xs k c;cases h;exact⟨xs,k,rfl,rfl,c,rfl⟩
  ·cases h
 ·cases h
noncomputable def Sq(f g:M D):M (List D):=Kb f λx=>Kb g λy=>U9 (Sr x y)
theorem MA{f g:M D}(ha:PE X a (tD X.K B G0 f))(hb:PE X b (tD X.K B G0 g)):PE X (.BinOp a .Mult b pos) (tL X.K B G0 (Sq f g)):=
 Ks (NJ M4 ha hb) λσ H Q ⟨G,Z,k,q⟩=>by
  refine⟨G,Z,k,?_⟩;unfold Sq Kb at q;cases z:f Z with
  |bad=>rw[z]at q;exact q.elim
  |ok x Z1=>
   rw[z]at q;dsimp only at q;intro v G1 H1 k1 s1 r1;refine⟨G1,Z1,k1,?_⟩;cases z2:g Z1 with
   |bad=>rw[z2]at q;exact q.elim
   |ok y Z2=>
    rw[z2]at q;dsimp only[U9]at q;intro u G2 H2 k2 s2 r2;cases z3:Sr x y with
    |none=>rw[z3]at q;exact q.elim
    |some ds=>rw[z3]at q;obtain⟨xs,i,rfl,rfl,c,rfl⟩:=Ai z3;obtain⟨l,vs,rfl,h1,w⟩:=r1.lst_inv;exact⟨l,i,vs,rfl,r2.int_inv,k2.gh.seq (s2.seq h1),by omega,by omega,by rw[w.length];exact QT c.2.2 lim,λp hp=>q p _ G2 _ (k2.ext (Ext.hid k2.gh hp)) (s1.trans s2) (NewL.of k2 hp ((w.mono s2).rep _))⟩
theorem Mz{f g:M D}{Z Z1 Z2:UH}{x:D}{n:Nat}(h1:f Z=.ok (.list [x]) Z1)(h2:g Z1=.ok (.int n) Z2)(h:n<=1000):Sq f g Z=.ok (Ux n x) Z2:=by
 unfold Sq Kb;rw[h1];dsimp only;rw[h2];dsimp only[U9]
 have e:Sr (.list [x]) (.int n)=some (Ux n x):=by
  unfold Sr;dsimp only;rw[Qp ⟨by omega,by omega,by show 1*_<=_;omega⟩]
  congr 1
  rw[Qt];clear h2 h;induction n with
  |zero=>rfl
  |succ n ih=>rw[QU,QM,ih,QU];rfl
 rw[e]
end
end DL
namespace DL
open PySem
theorem lz0{P:List Ul->Prop}{us:List Ul}(hl:us.length=0)(h:P []):P us:=by
 cases us with
 |nil=>exact h
 |cons a r=>cases hl
theorem lzS{P:List Ul->Prop}{us:List Ul}{n:Nat}(hl:us.length=n+1)(h:∀a r,r.length=n->P (a::r)):P us:=by
 cases us with
 |nil=>cases hl
 |cons a r=>exact h a r (Nat.succ.inj hl)
theorem lz1{P:List Ul->Prop}{us:List Ul}(hl:us.length=1)(h:∀a,P [a]):P us:=lzS hl λa r e=>lz0 (P:=λr=>P (a::r)) e (h a)
theorem lz2{P:List Ul->Prop}{us:List Ul}(hl:us.length=2)(h:∀a b,P [a,b]):P us:=lzS hl λa r e=>lz1 (P:=λr=>P (a::r)) e (h a)
theorem lz3{P:List Ul->Prop}{us:List Ul}(hl:us.length=3)(h:∀a b c,P [a,b,c]):P us:=lzS hl λa r e=>lz2 (P:=λr=>P (a::r)) e (h a)
theorem lz4{P:List Ul->Prop}{us:List Ul}(hl:us.length=4)(h:∀a b c d,P [a,b,c,d]):P us:=lzS hl λa r e=>lz3 (P:=λr=>P (a::r)) e (h a)
theorem lz5{P:List Ul->Prop}{us:List Ul}(hl:us.length=5)(h:∀a b c d e,P [a,b,c,d,e]):P us:=lzS hl λa r e=>lz4 (P:=λr=>P (a::r)) e (h a)
theorem bz1{fd:Uq}{ps:List Str}{us:List Ul}(hl:us.length=1)(h:∀a,bindArgs fd {pos:=[a]}=pure (ps.zip [a])):bindArgs fd {pos:=us}=pure (ps.zip us):=lz1 (P:=λus=>bindArgs fd {pos:=us}=pure (ps.zip us)) hl h
theorem bz2{fd:Uq}{ps:List Str}{us:List Ul}(hl:us.length=2)(h:∀a b,bindArgs fd {pos:=[a,b]}=pure (ps.zip [a,b])):bindArgs fd {pos:=us}=pure (ps.zip us):=lz2 (P:=λus=>bindArgs fd {pos:=us}=pure (ps.zip us)) hl h
theorem bz3{fd:Uq}{ps:List Str}{us:List Ul}(hl:us.length=3)(h:∀a b c,bindArgs fd {pos:=[a,b,c]}=pure (ps.zip [a,b,c])):bindArgs fd {pos:=us}=pure (ps.zip us):=lz3 (P:=λus=>bindArgs fd {pos:=us}=pure (ps.zip us)) hl h
theorem bz4{fd:Uq}{ps:List Str}{us:List Ul}(hl:us.length=4)(h:∀a b c d,bindArgs fd {pos:=[a,b,c,d]}=pure (ps.zip [a,b,c,d])):bindArgs fd {pos:=us}=pure (ps.zip us):=lz4 (P:=λus=>bindArgs fd {pos:=us}=pure (ps.zip us)) hl h
theorem bz5{fd:Uq}{ps:List Str}{us:List Ul}(hl:us.length=5)(h:∀a b c d e,bindArgs fd {pos:=[a,b,c,d,e]}=pure (ps.zip [a,b,c,d,e])):bindArgs fd {pos:=us}=pure (ps.zip us):=lz5 (P:=λus=>bindArgs fd {pos:=us}=pure (ps.zip us)) hl h
end DL
namespace DL
open PySem PySem.Spec L2
open PyProof.Rows hiding St
noncomputable def whole(h:Heap):Frag:=(Uw h.objs.size).filterMap λa=>(h.get? a).map λo=>(a,o)
theorem Hn{g:Up->Option Obj}{x:Up}:∀l:List Up,(l.filterMap λa=>(g a).map λo=>(a,o)).lookup x=if x∈l then g x else none
 |[]=>rfl
 |y::l=>by
  have ih:=Hn (g:=g) (x:=x) l;by_cases e:x=y
  ·subst e;rw[Qp Qm];cases z:g x with
   |none=>rw[List.filterMap_cons_none (by rw[z];rfl),ih,z];split<;>rfl
   |some o=>rw[List.filterMap_cons_some (by rw[z];rfl),Q0,beq_self_eq_true]
  ·have m:(x∈y::l)=(x∈l):=by simp[List.mem_cons,e]
   have b:(x==y)=false:=by simpa using e
   have ih':(if x∈y::l then g x else none)=_:=(by simp only[m];exact ih.symm)
   rw[ih'];cases z:g y with
   |none=>rw[List.filterMap_cons_none (by rw[z];rfl)]
   |some o=>rw[List.filterMap_cons_some (by rw[z];rfl),Q0,b]
theorem RN{h:Heap}{a:Up}:(whole h).lookup a=h.get? a:=by
 unfold whole;rw[Hn];split
 ·rfl
 ·rename_i n;cases z:h.get? a with
  |none=>rfl
  |some o=>exact absurd (Q7.mpr (Qi z)) n
theorem CY(h:Heap):(whole h).In h:=λa o e=>by rw[RN]at e;exact e
noncomputable def GN(st:Stmt):Option DefRec:=match st with
 |.FunctionDef name a b _ _ _ sc _ _ pos=>some ⟨name,a,b,sc,pos⟩
 |_=>none
noncomputable def P0(st:Stmt):Option Str:=match st with
 |.FunctionDef name _ _ _ _ _ _ _ _ _=>some name
 |_=>none
noncomputable def GM(st:Stmt):Pos:=match st with
 |.FunctionDef _ _ _ _ _ _ _ _ _ pos=>pos
 |_=>⟨0,0,0,0⟩
noncomputable abbrev Zu(p:Uo)(i:Nat):Stmt:=p.main.body.getD i (.Pass ⟨0,0,0,0⟩)
noncomputable def Rv(p:Uo)(ix:List Nat):List DefRec:=ix.filterMap λi=>GN (Zu p i)
section
variable{p q:Uo}{loose:List Str}{mean:ExcName->Option Ul}{mg mb:Str->Option Ul}{h:Heap}{w:World}
theorem NU{ix:List Nat}(T:Top q loose mean mg mb h)(e:recsOf q=Rv p ix)(i:Nat)(x:Str)(hi:ix.contains i=true)(hn:P0 (Zu p i)=some x):∃f fd,mg x=some (.ref f)/\Fun (whole h) x x (Zu p i) f fd:=by
 cases hs:Zu p i with
 |FunctionDef name a b _ _ _ sc _ _ pos=>
  rw[hs]at hn;cases hn;have hd:(⟨x,a,b,sc,pos⟩:DefRec)∈recsOf q:=by rw[e];exact List.mem_filterMap.mpr ⟨i,by simpa using hi,by rw[hs];rfl⟩
  obtain⟨f,⟨oc,od,dt,osl⟩,pm,cd,doc,h1,h2,h3,h4⟩:=T.fn _ hd;have h3:dt=_:=h3;subst h3;refine⟨f,_,h1,⟨⟨oc,od,.none,doc,pm,_,cd,_,osl,rfl,by rw[RN];exact h2,?_⟩,?_⟩⟩
  ·obtain⟨c,⟨_,_,dc,_⟩,vs,t,rfl,g1,g2,g3⟩:=h4;have g2:dc=_:=g2;subst g2;unfold PySem.W.codeIn;dsimp only;rw[RN,g1];dsimp only;have g4:vs.toList[1]?=some (.str x t):=by rw[Array.getElem?_toList];exact g3
   cases hv:vs.toList with
   |nil=>rw[hv]at g4;cases g4
   |cons v0 r=>
    rw[hv]at g4;cases r with
    |nil=>cases g4
    |cons v1 r=>cases g4;exact beq_self_eq_true _
  ·unfold PySem.W.keepIn;dsimp only;rw[RN,h2]
 |_=>rw[hs]at hn;cases hn
theorem Ah{K:Frag}{x qual y:Str}{st:Stmt}{f:Up}{fd:Uq}(F:Fun K x qual st f fd)
  (hb:∀(kV doc pm:Ul)(an:Option Up)(cdv ct v:Ul),bindArgs (PySem.W.fnOf x qual (SG st) (Vv st) (ZL st) .none kV doc pm an cdv ct) ⟨[v],[]⟩=pure [(y,v)]) (s:Um) (v:Ul):BindsTo s fd ⟨[v],[]⟩ [(y,v)]:=by
 obtain⟨oc,od,kV,doc,pm,an,cdv,ct,osl,rfl,lk,hcd⟩:=F.ex;exact .of_eq (hb kV doc pm an cdv ct v)
noncomputable def RS(q:Uo)(loose:List Str)(x:Str):Bool:=
 !startupNames.contains x && !loose.contains x && !((recsOf q).map (·.name)).contains x && !((litsOf q).map (·.1)).contains x && !((clssOf q loose).map (·.name)).contains x
theorem YR(T:Top q loose mean mg mb h){xs:List Str}(e:xs.all (RS q loose)=true){x:Str}(hx:x∈xs):mg x=none:=by have:=Q2.mp e x hx;unfold RS at this;simp only[Jp,Bool.not_eq_true',List.contains_eq_mem,decide_eq_false_iff_not]at this;exact T.free x this.1.1.1.1 this.1.1.1.2 this.1.1.2 this.1.2 this.2
theorem Pw(T:Top q loose mean mg mb h){x:Str}{i:Int}(e:valOf q x=some (.int i)):∃t,mg x=some (.int i t):=by obtain⟨v,h1,h2⟩:=T.const x _ e;have:=h2 h;cases this;exact⟨_,h1⟩
theorem NH:∀{vs:List Ul}{ss:List Str},StrsAre vs ss->Vals (ss.map V.str) vs
 |_,_,.nil=>.nil
 |_,_,.cons y t r=>.cons ⟨t,rfl⟩ (NH r)
theorem Ag(B:Tables q w mg h){x:Str}{ss:List Str}(e:tupStrsOf q x=some ss)(hl:ss.length<=1000) :
  ∃ad o its n,mg x=some (.ref ad)/\(whole h).lookup ad=some o/\o.cls=.type "tuple" /\ o.data=.seq its n/\its.size<=Us/\Vals (ss.map V.str) its.toList:=by
 obtain⟨a,vs,h1,⟨o,h2,h3,n,h4⟩,h5⟩:=B.tupS x ss e;have r:=NH h5;refine⟨a,o,_,n,h1,by rw[RN];exact h2,h3,h4,?_,r⟩;have:=r.length;rw[Qb]at this;have l:(1000:Nat)<=Us:=by decide
 rw[QI];omega
end
noncomputable def scOk(sc:Scope)(N gl:List Str):Bool:=(N.all λx=>match sc.names.lookup x with|some .local=>true|some .cell=>true|_=>false)&&gl.all λx=>match sc.names.lookup x with|some .globalImplicit=>true|_=>false
noncomputable def fnB(sc:Scope)(N gl:List Str):Bool:=decide (sc.kind=.function) && !sc.isCoroutine && !sc.isGenerator&&decide N.Nodup&&(sc.names.all λy=>match y.2 with | .free=>false|_=>true)&&scOk sc N gl
structure FnNm(sc:Scope)(N gl:List Str):Prop where
 kind:sc.kind=.function
 co:sc.isCoroutine=false
 gen:sc.isGenerator=false
 nd:N.Nodup
 nofree:∀y∈sc.names,y.2≠.free
 nm:∀x∈N,sc.names.lookup x=some .local∨sc.names.lookup x=some .cell
 gl:∀x∈gl,sc.names.lookup x=some .globalImplicit
theorem KG{sc:Scope}{N gl:List Str}(H:fnB sc N gl=true):FnNm sc N gl:=by
 unfold fnB scOk at H;simp only[Jp,decide_eq_true_eq,Bool.not_eq_true',Q2]at H;obtain⟨⟨⟨⟨⟨h1,h2⟩,h3⟩,h4⟩,h5⟩,h6,h7⟩:=H;refine⟨h1,h2,h3,h4,λy hy e=>?_,λx hx=>?_,λx hx=>?_⟩
 ·have:=h5 y hy;rw[e]at this;cases this
 ·have:=h6 x hx;split at this
  ·rename_i e;exact .inl e
  ·rename_i e;exact .inr e
  ·cases this
 ·have:=h7 x hx;split at this
  ·rename_i e;exact e
  ·cases this
section
variable{sc:Scope}{N gl:List Str}{x:Str}
theorem nq(H:FnNm sc N gl):N.Nodup:=H.nd
theorem fq(H:FnNm sc N gl)(n:Nat):RB N (N.take n) sc:=⟨H.kind,H.co,H.gen,H.nd,by rw[QO,List.take_eq_take_iff];omega,λx hx=>H.nm x (List.mem_of_mem_take hx),H.nofree⟩
theorem lq(H:FnNm sc N gl)(i:Nat)(h:N[i]?=some x:=by rfl):L2.Loc sc x:=H.nm x (Qo h)
theorem gq(H:FnNm sc N gl)(i:Nat)(h:gl[i]?=some x:=by rfl):sc.names.lookup x=some .globalImplicit:=H.gl x (Qo h)
theorem pq{X:Cx}{pos:Pos}(H:FnNm X.env.scope X.N gl)(i:Nat)(h:X.N[i]?=some x:=by rfl)(hd:(x==("__debug__" : Str))=false:=by decide)(hc:(x==("__classdict__" : Str))=false:=by decide):PE X (.Name x pos) (Za i):=
 N7 h ((H.nm x (Qo h)).elim .inl λz=>.inr (.inl z)) hd hc
end
theorem KI{q p:Uo}{loose:List Str}{mean:ExcName->Option Ul}{mg mb:Str->Option Ul}{h:Heap}{ix:List Nat}(P:Uo)(w:World)(base:Heap){ps:List Str}{k n:Nat}{F:List D->Option D}(T:Top q loose mean mg mb h)(e:recsOf q=Rv p ix)(i:Nat)(x:Str)(hi:ix.contains i=true)(hn:P0 (Zu p i)=some x)
  (ok:∀{f:Up}{fd:Uq},Fun (whole h) x x (Zu p i) f fd->FnOk P w (whole h) mg base CX0 k f fd ps (spD (whole h) n F))
  (hb:∀(kV doc pm:Ul)(an:Option Up)(cdv ct:Ul)(us:List Ul),us.length=ps.length->bindArgs (PySem.W.fnOf x x (SG (Zu p i)) (Vv (Zu p i)) (ZL (Zu p i)) .none kV doc pm an cdv ct) ⟨us,[]⟩=pure (ps.zip us)):Def P w (whole h) mg base x k n F:=by
 obtain⟨f,fd,m,FU⟩:=NU T e i x hi hn;exact Def.mk m FU (FU.binds hb) (ok FU)
section
variable{X:Cx}{B G0:Hp}{e:Ur}{pos:Pos}{es:List Ur}
theorem pdf{k kk n:Nat}{F:List D->Option D}{g:M (List D)}{x:Str}{p2:Pos}(d:Def X.prog X.w X.K X.mg X.base x k n F)(hr:Room kk X.A)(hg:Gl X x)(ha:PA X (e::es) (tDs X.K B G0 g))(hk:k<=kk:=by decide)(hn:(e::es).length=n:=by rfl)
  (hdb:(x==("__debug__" : Str))=false:=by decide) (he:Uu (e::es) X.env=(false,eval e X.env)::Uu es X.env:=by rfl) (hpl:(backTo pos (Uu es X.env)).any (·.1)=false:=by rfl) :
  PE X (.Call (.Name x p2) (e::es) [] pos) (tD X.K B G0 (UW n F g)):=CA d (hr.mono hk) hg ha hn hdb he hpl
end
theorem GL{q p:Uo}{loose:List Str}{mean:ExcName->Option Ul}{mg mb:Str->Option Ul}{h:Heap}{ix:List Nat}{P:Uo}{w:World}{k:Nat}{F:List D->Option D}{y:Str}{fa:Up}(T:Top q loose mean mg mb h)(e:recsOf q=Rv p ix)(i:Nat)(x:Str)(hi:ix.contains i=true)(hn:P0 (Zu p i)=some x)(hfa:mg x=some (.ref fa))
  (hb:∀(kV doc pm:Ul)(an:Option Up)(cdv ct v:Ul),bindArgs (PySem.W.fnOf x x (SG (Zu p i)) (Vv (Zu p i)) (ZL (Zu p i)) .none kV doc pm an cdv ct) ⟨[v],[]⟩=pure [(y,v)])
  (ok:∀(base:Heap){f:Up}{fd:Uq},Fun (whole h) x x (Zu p i) f fd->FnOk P w (whole h) mg base CX0 k f fd [y] (spD (whole h) 1 F)) :
  ∃fd:Uq,(∀(s:Um)(v:Ul),BindsTo s fd ⟨[v],[]⟩ [(y,v)])/\∀base:Heap,FnOk P w (whole h) mg base CX0 k fa fd [y] (spD (whole h) 1 F):=by
 obtain⟨f,fd,m,FU⟩:=NU T e i x hi hn;cases hfa.symm.trans m;exact⟨fd,Ah FU hb,λbase=>ok base FU⟩
theorem CW{l:PySem.W.OpenLaw}{n k:Nat}{q:Uo}{loose:List Str}{XP:(Str->Option Ul)->Heap->Prop}{YP:World->Heap->Prop}{d:DefRec}{F:List D->Option D}{x:Str}
  (hn:l.most=some n) (hn2:n<=Us) (hdf:d.params.defaults=[]) (hr:Room k callerA)
  (hF:∀(w:World)(s₀:Um)(mg mb:Str->Option Ul)(fa:Up)(h:Heap),PySem.W.Ground q loose [] XP w s₀ mg mb h->mg d.name=some (.ref fa) ->
   ∃fd:Uq,(∀(s:Um)(u:Ul),BindsTo s fd ⟨[u],[]⟩ [(x,u)])/\∀base:Heap,FnOk l.prog w (whole h) mg base CX0 k fa fd [x] (spD (whole h) 1 F))
  (hl:∀ns:List Int,ns.length<=n->F [.list (ns.map int)]=some (.bool true)) :
  PySem.W.WalkO q loose XP YP l.row.toRowW d [] (λf vs=>PySem.call f vs):=by
 refine Att.attach_call hn hdf λw s₀ s₁ mg mb fa o pm cd doc a vs ns G Y ho hd hcd hmg hobj hints hlen hg=>?_
 obtain⟨fd,hb,hF⟩:=hF w s₀ mg mb fa _ G hmg;exact BV (CY _) G.T.g G.T.b G.T.builtins G.T.nolimit hg hobj hints (QT hlen hn2) hr (λbase _ _=>hF base) hb (λH hO hS=>EH hS (hl ns hlen)) λH e s' z=>z
section
variable{K:Frag}{G H H':Hp}{nm:Str}{C a:Up}{bm:List Ul}{vs:List V}{ds fs:List D}{dd:Option Up}
end
section
variable{X:Cx}{B G0:Hp}{KX:XW}{e a b c:Ur}{pos p2 cpos:Pos}{es:List Ur}{st:Stmt}{sts:List Stmt}{nm x:Str}{k kk n:Nat}
end
section
variable{K:Frag}{B G0 G H:Hp}{σ:St}{Z:UH}
end
section
variable{X:Cx}{B G0:Hp}{KX:XW}{e a b c:Ur}{pos p2 cpos np hpos:Pos}{es:List Ur}{x n:Str}{k kk:Nat}
end
section
variable{P:Uo}{w:World}{K:Frag}{mg:Str->Option Ul}{base:Heap}{st:Stmt}{f f0 D:Up}{fd fd0:Uq}{q:Str}{p1 p2 p3 p4 p5 p6 p7 p8 p9 r1 r2 r3 r4 r5 r6 r7 r8 r9 q1 q2:Pos}{j1 j2:Nat}
end
section
variable{h h':Heap}{nm:Str}{own:Option Stmt}{C N:Up}{bm:List Ul}{mN:Str->Option Ul}
end
section
variable{h h':Heap}{nm:Str}{own ownD:Option Stmt}{C N D ND:Up}{bm:List Ul}{mN mD:Str->Option Ul}{M:Model}
end
section
variable{h:Heap}{mg:Str->Option Ul}{p:Uo}{l:XL0}{i j:Nat}{c:Str×Option Nat}{p1 p2 p3 p4 p5 p6 p7 p8 p9 r1 r2 r3 r4 r5 r6 r7 r8 r9 q1 q2:Pos}{j1 j2:Nat}
end
section
variable{α β:Type}{Z Z1 Z2 Z3 Z':UH}{f:M D}{s t:SM}{Q:Out->Prop}{d:D}{ds fs:List D}{nm x:Str}{o:Out}
end
section
variable{X:Cx}{B G0:Hp}{KX:XW}{e o a b c:Ur}{pos p2:Pos}{es rest:List Ur}
end
end DL
namespace L2
open PySem PySem.Spec PyProof.Rows
end L2
namespace DL
open PySem PySem.Spec L2
open PyProof.Rows hiding St
noncomputable def RR:D->Option Key
 |.int i=>some (.inl i)
 |.str x=>some (.inr x)
 |_=>none
noncomputable def Wj:List D->Option (List Key)
 |[]=>some []
 |d::r=>match RR d,Wj r with
  |some k,some ks=>some (k::ks)
  |_,_=>none
section
variable{K:Frag}{B G0 G H:Hp}{σ:St}{Z:UH}
theorem OO{d:D}{k:Key}(h:RR d=some k):d=kD k:=by
 cases d with
 |int i=>cases h;rfl
 |str x=>cases h;rfl
 |_=>cases h
theorem Rep.key_inv{v:V}{k:Key}(r:Rep K G v (kD k)):v=kV k:=by
 cases k with
 |inl i=>exact r.int_inv
 |inr x=>exact r.str_inv
end
section
variable{X:Cx}{B G0:Hp}{KX:XW}{e o a b c:Ur}{pos p2:Pos}{es rest:List Ur}
end
section
variable{X:Cx}{B G0:Hp}{KX:XW}{e o a b c:Ur}{pos p2 cpos:Pos}{es rest:List Ur}
end
section
variable{X:Cx}
end
end DL
namespace DL
open PySem PySem.Spec L2 PySem.SeqAt PySem.AutoSeq1
open PyProof.Rows hiding St
section
variable{X:Cx}{pins:List (Up×Obj)}{s:Um}{σ:L2.St}{G H:Hp}{A:Around}
end
section
variable{X:Cx}{pins:List (Up×Obj)}{s:Um}{σ:L2.St}{G H:Hp}{A:Around}
end
end DL
namespace DL
open PySem PySem.Spec L2
open PyProof.Rows hiding St
section
variable{X:Cx}{pins:List (Up×Obj)}{s:Um}{σ:L2.St}{G H:Hp}
end
section
variable{X:Cx}
end
section
variable{X:Cx}{B G0:Hp}{KX:XW}{e:Ur}{pos cpos:Pos}{sts sts2:List Stmt}
end
end DL
namespace L2
open PySem PySem.Spec PyProof.Rows
section
variable{prog:Uo}{w:World}{A:Around}{E:Ul->Um->Prop}{s:Um}{d it:Up}{o:Obj}{es:Array DictEntry}{ep i:Nat}
theorem E7{Q:Ul->Um->Prop}(hd:(d==sysModules)=false)(ho:s.heap.get? d=some o)(hc:o.ExactDict)(hdat:o.data=.dict es ep)
  (hQ:Q (.ref s.heap.objs.size) {s with heap:=s.heap.push {cls:=.type "dict_keyiterator", data:=.fields #[.ref d,.int 0 0,.int es.size 0,.int ep 0]}}):Ut (model prog w) A (pyIter (.ref d)) Q E s:=by
 have hT:s.TypeIs (.ref d) "dict" :=⟨o,ho,hc.1⟩
 refine wpAny_pyIter_slot hT F.slot_dict_iter (JA F.slot_dict_iter hT F.entry_dict_iter ?_ (F.args_dict_iter_1 _));unfold Builtin.«dict.__iter__»;refine Qd ?_;unfold Builtin.Dict.dictSlotNone;refine Qd (wpAny_notOrdered_dict hT ?_);show Ut _ _ (pure (Value.ref d)) _ _ s;refine Qh ?_;show Ut _ _ (Builtin.Dict.showsAll d >>= _) _ _ s;unfold Builtin.Dict.showsAll;rw[QB (by rw[hd];exact Jl)];refine Qd (Qh ?_);refine Qd (wpAny_dictEntries ho hdat (Qd (wpAny_dictEpoch ho hdat ?_)));refine wpAny_bind (wpAny_newObj_type (wpAny_pure ⟨_,rfl, "dict_keyiterator", _,⟨_,Heap.get?_push_size _ rfl,rfl⟩,F.slot_dict_keyiterator_next.lookup,?_⟩));simpa[rawInt]using hQ
theorem E6{Q:Option Ul->Um->Prop}(hit:s.heap.IsKeyIter it d i es.size ep)(hod:s.heap.get? d=some o)(hdd:o.data=.dict es ep)(hlt:i<es.size)
  (hQ:∀h',h'.IsKeyIter it d (i+1) es.size ep->Heap.SameBut it s.heap h'->Q (some es[i].key) {s with heap:=h'}):Ut (model prog w) A (pyNext (.ref it)) Q E s:=by
 obtain⟨oi,ho,hc,hd⟩:=id hit;unfold pyNext;refine Qd (wpAny_attempt (wpAny_callSpecial?_slot (name:=UG "__next__") hit.typeIs Jv (JA Jv hit.typeIs F.entry_dict_keyiterator_next ?_ (F.args_dict_keyiterator_next_1 _))));refine Qd (Qh (Qd (Qd ?_)))
 first|refine Qd (Ju hit.typeIs (Qh (Qd (wpAny_fieldsOf ho hd ?_))))|refine Qd (wpAny_typeNameOf_keyiter hit.typeIs (Qh (Qd (wpAny_fieldsOf ho hd ?_))))
 have hown:Builtin.Dict_items.ownsTuple "dict_keyiterator" = false:=(by decide)
 simp only[hown,JD,Ud];show Ut _ _ (if(Value.ref d==Value.none)=true then _ else _) _ _ s;rw[QB (show ¬((Value.ref d==Value.none)=true)from Jl)];refine Qd (Qh (Qd (wpAny_dictEntries hod hdd ?_)));rw[if_neg (by simp)];refine wpAny_bind (wpAny_pure (wpAny_bind (wpAny_dictEpoch hod hdd ?_)));rw[if_neg (by simp)];refine wpAny_pure ?_;simp only[show ¬((i:Int)<0)from by omega,Ud,Qt,Jr hlt];refine Qd ?_
 first|refine Qd (Ju hit.typeIs (Qh (Qd (wpAny_isOneOf_keyiter hit.typeIs ?_))))|refine Qd (wpAny_typeNameOf_keyiter hit.typeIs (Qh (Qd (wpAny_isOneOf_keyiter hit.typeIs ?_))))
 show Ut _ _ (setField (.ref it) 1 (rawInt ((i:Int)+1)) >>= _) _ _ s;refine wpAny_bind (wpAny_setField ho hd (by simp) ?_);have hit':(s.heap.update it (Obj.mapFields (·.setIfInBounds 1 (rawInt ((i:Int)+1))))).IsKeyIter it d (i+1) es.size ep:=⟨_,Heap.get?_update_self _ ho (Obj.isFreed_of_fields (Obj.data_mapFields hd _)),(Obj.cls_mapFields ..).trans hc,by rw[Obj.data_mapFields hd];simp[rawInt]⟩
 refine Qd (JB (Qd (wpAny_isOneOf_keyiter (s:={s with heap:=s.heap.update it (Obj.mapFields (·.setIfInBounds 1 (rawInt ((i:Int)+1))))}) hit'.typeIs ?_)));show Ut _ _ (pure es[i].key) _ _ _;exact Qh (Qh ⟨_,rfl,Qh (hQ _ hit' (Heap.SameBut.update ..))⟩)
theorem ET{Q:Option Ul->Um->Prop}(hh:A.handled=none)(hit:s.heap.IsKeyIter it d i es.size ep)(hod:s.heap.get? d=some o)(hdd:o.data=.dict es ep)(hge:es.size<=i)
  (hQ:∀h',Heap.ExtBut it s.heap h'->Q none {s with heap:=h'}):Ut (model prog w) A (pyNext (.ref it)) Q E s:=by
 obtain⟨oi,ho,hc,hd⟩:=id hit;unfold pyNext;refine Qd (wpAny_attempt (wpAny_callSpecial?_slot (name:=UG "__next__") hit.typeIs Jv (JA Jv hit.typeIs F.entry_dict_keyiterator_next ?_ (F.args_dict_keyiterator_next_1 _))));refine Qd (Qh (Qd (Qd ?_)))
 first|refine Qd (Ju hit.typeIs (Qh (Qd (wpAny_fieldsOf ho hd ?_))))|refine Qd (wpAny_typeNameOf_keyiter hit.typeIs (Qh (Qd (wpAny_fieldsOf ho hd ?_))))
 have hown:Builtin.Dict_items.ownsTuple "dict_keyiterator" = false:=(by decide)
 simp only[hown,JD,Ud];show Ut _ _ (if(Value.ref d==Value.none)=true then _ else _) _ _ s;rw[QB (show ¬((Value.ref d==Value.none)=true)from Jl)];refine Qd (Qh (Qd (wpAny_dictEntries hod hdd ?_)));rw[if_neg (by simp)];refine wpAny_bind (wpAny_pure (wpAny_bind (wpAny_dictEpoch hod hdd ?_)));rw[if_neg (by simp)];refine wpAny_pure ?_;simp only[show ¬((i:Int)<0)from by omega,Ud,Qt,Array.getElem?_eq_none hge];refine Qd ?_
 first|refine Qd (Ju hit.typeIs (Qh ?_))|refine Qd (wpAny_typeNameOf_keyiter hit.typeIs (Qh ?_))
 show Ut _ _ (setField (.ref it) 0 .none >>= _) _ _ s;refine wpAny_bind (wpAny_setField ho hd (by simp) ?_);show Ut _ _ (newExc (.type "StopIteration") [] >>= _) _ _ _;refine Qd ?_;simp only[newExc,newTuple];refine Qd (wpAny_newObj_type ?_ (by size_fits));refine Qd (m:=firstArgMember _ _) (wpAny_of_eq (a:=Value.none) (by first|rfl|(simp only[firstArgMember];rfl)) ?_);refine wpAny_newObj_type ?_ (by size_fits);simp only[raiseNew];refine Qd (wpAny_handled ?_);rw[show A.in1.handled=none from hh];refine Qd (Qh (wpAny_throw ?_));refine Qd (wpAny_isInstance (T:= "StopIteration") (b:=true) ⟨_,Qz _ rfl,rfl⟩ isSubtype_stop (Qh (hQ _ (((Heap.SameBut.update ..).extBut.push _).push _))))
end
theorem KT.get{H:Hp}:∀{kvs:List (List Key×V)}{xs:List (List Key×Up×Ul)}{i:Nat}{p:List Key×V},KT H kvs xs->kvs[i]?=some p->∃q,xs[i]?=some q/\p.1=q.1/\H q.2.1=some (.tup (p.1.map kV))/\RelV p.2 q.2.2
 |_,_,0,_,.cons h _,e=>by cases e;exact⟨_,rfl,h⟩
 |_,_,i+1,p,.cons _ t,e=>by obtain⟨q,h1,h2⟩:=KT.get (i:=i) (p:=p) t (by simpa using e);exact⟨q,by simpa using h1,h2⟩
noncomputable def Itf(o:Obj)(d:Up):It:=
 ⟨λi H=>∃kvs,H d=some (.frz o (.dT kvs))/\i<kvs.length,
  λi H v H'=>H'=H/\∃b,v=.ref b/\∀kvs,H d=some (.frz o (.dT kvs))->∃p,kvs[i]?=some p/\H b=some (.tup (p.1.map kV)),
  λi H=>∃kvs,H d=some (.frz o (.dT kvs))/\kvs.length<=i⟩
theorem KT.length{H:Hp}{kvs:List (List Key×V)}{xs:List (List Key×Up×Ul)}(r:KT H kvs xs):kvs.length=xs.length:=Paired.length r
theorem NT{X:Cx}{pins:List (Up×Obj)}{s:Um}{σ:St}{H:Hp}{o:Obj}{es:Array DictEntry}{ep:Nat}{d:Up}{kvs:List (List Key×V)}(hd:o.data=.dict es ep)(I:Inv X pins σ H s)(hq:H d=some (.frz o (.dT kvs))) :
  s.heap.get? d=some o/\o.ExactDict/\(d==sysModules)=false/\es.size=kvs.length/\∀i(h:i<es.size),∃p b,kvs[i]?=some p/\es[i].key=.ref b/\H b=some (.tup (p.1.map kV)):=by
 obtain⟨hget,z,y,xs,rel,o',es',ep',h1,h2,h3,h4,h5⟩:=(show Zm X.prog X.w H s.heap d (.frz o (.dT kvs))from I.hok d _ hq)
 rw[hget]at h1;cases h1;rw[hd]at h3;cases h3;have hl:es.size=kvs.length:=by have:=congrArg List.length h4;rw[Qb,←KT.length rel]at this;simpa using this
 refine⟨hget,h2,y,hl,λi h=>?_⟩;have hk:kvs[i]?=some kvs[i]:=Qf (by omega);obtain⟨q,hx,e1,e2,e3⟩:=KT.get rel hk;refine⟨_,q.2.1,hk,?_,e2⟩;have e:es.toList[i]?=some (entryOfKey (tupleKind (YU X.prog X.w)) q):=by rw[h4,Qe,hx];rfl
 have e':es.toList[i]?=some es[i]:=by rw[Array.getElem?_toList,Jr h]
 rw[e']at e;rw[QQ e];rfl
theorem qg{P:Uo}{w:World}{K:Frag}{tg:Ur}{o:Obj}{es:Array DictEntry}{ep:Nat}(hd:o.data=.dict es ep)(d it:Up):Turn P w K tg (Itf o d) [it] it (λi h=>h.IsKeyIter it d i es.size ep) where
 mem:=by simp
 obj:=λi h st b hb=>by
  have e:b=it:=by simpa using hb
  subst e;obtain⟨o,e,c,d⟩:=st;exact⟨o,e,λv z=>by rw[d]at z;cases z⟩
 keep:=λi h h' st k=>by obtain⟨o,e,c,d⟩:=st;exact⟨o,k it (by simp) o e,c,d⟩
 item:=by
  intro X hP hw hK hc i pins s σ H E I hf st hg;subst hP hw hK;obtain⟨kvs,hq,hi⟩:=hg;obtain⟨hget,hx,hy,hl,hall⟩:=NT hd I hq;have hi':i<es.size:=by omega
  obtain⟨p,b,h1,h2,h3⟩:=hall i hi';obtain⟨f0,f1,f2,f3,f4,f5⟩:=hf it (by simp);refine E6 st hget hd hi' λh' st' sb=>?_;have I1:Inv X pins σ H {s with heap:=h'}:=I.turned (t':=s.toks) (λb o hb e=>(sb.2 b hb).trans e) f0 f1 f3 f4 f5
  obtain⟨o',e,c,d'⟩:=id st';refine⟨_,rfl,Rm (s:={s with heap:=h'}) e c d' (by decide) ⟨.ref b,H,I1,by rw[h2];rfl,⟨rfl,b,rfl,λkvs' hq'=>?_⟩,st',λb hb=>(hf b hb).1⟩⟩;rw[hq]at hq';cases hq';exact⟨p,h1,h3⟩
 done:=by intro X hP hw hK hc i pins s σ H E I hf st hg;subst hP hw hK;obtain⟨kvs,hq,hi⟩:=hg;obtain⟨hget,hx,hy,hl,hall⟩:=NT hd I hq;obtain⟨f0,f1,f2,f3,f4,f5⟩:=hf it (by simp);exact ET (I.ok.hd hc) st hget hd (by omega) λh' eb=>⟨rfl,I.turned (t':=s.toks) (λb o hb e=>eb b o hb e) f0 f1 f3 f4 f5⟩
 self:=λ_ _ _ _ _ st h=>wpAny_pyIter_keyiter st h
section
variable{X:Cx}{tg:Ur}
noncomputable def iDct(tl:TE):TI:=λσ H R=>tl σ H λx H1=>∃a o kvs,x=.ref a/\H1 a=some (.frz o (.dT kvs))/\R (Itf o a) H1
theorem ES{l:Ur}{tl:TE}(hl:PE X l tl):PI X tg l (iDct tl):=by
 intro pins s σ H R I h;refine thn (hl pins s σ H _ I h) λv s1 ⟨x,H1,I1,r1,q1⟩=>?_
 obtain⟨a,o,kvs,e,hq,q⟩:=q1;subst e;cases r1;obtain⟨hget,z,y,xs,rel,o',es,ep,h1,h2,h3,_⟩:=(show Zm X.prog X.w H1 s1.heap a (.frz o (.dT kvs))from I1.hok a _ hq)
 rw[hget]at h1;cases h1;refine E7 y hget h2 h3 ?_;refine⟨s1.heap.objs.size,[s1.heap.objs.size],_,_,H1,rfl,I1.kept (t':=s1.toks) λb o e=>Qk _ e,qg h3 a _,⟨_,Qz _ rfl,rfl,rfl⟩,λb hb=>?_,q⟩;have e:b=s1.heap.objs.size:=by simpa using hb
 subst e;exact I1.fpOk (Qr _) (I1.hok.fresh (Qr _))
noncomputable def tFrz(te:TE):TE:=λσ H Q=>te σ H λv H1=>∃a kvs,v=.ref a/\H1 a=some (.dT kvs)/\∀o,Q v (upd H1 a (.frz o (.dT kvs)))
theorem ER{e:Ur}{te:TE}(h:PE X e te):PE X e (tFrz te):=by
 intro pins s σ H Q I q;refine thn (h pins s σ H _ I q) λu s1 ⟨v,H1,I1,rv,a,kvs,ev,hq,q1⟩=>?_;subst ev
 obtain⟨z,y,xs,rel,o,es,ep,h1,h2⟩:=(show Zm X.prog X.w H1 s1.heap a (.dT kvs)from I1.hok a _ hq)
 refine⟨.ref a,_,?_,rv,q1 o⟩;refine Oi (t':=s1.toks) I1 (by rw[hq];exact True.intro) (Heap.SameBut.refl _ _) ⟨o,h1⟩ ⟨h1,z,y,xs,KT.keeps rel λb ys e=>?_,o,es,ep,h1,h2⟩;rw[KM (NI e hq (by intro z;cases z))];exact e
noncomputable def EQ(K:Frag)(td ty:TE):TE:=λσ H Q=>td σ H λx H1=>ty σ H1 λy H2=>∃a b kvs k v,x=.ref a/\y=.ref b/\Rd H2 a (.dT kvs)/\SqT K H2 b (k.map kV)/\ZM kvs k=some v/\Q v H2
theorem CV{o i:Ur}{pos:Pos}{td ty:TE}(hu:X.A.units+1<cLine)(ho:PE X o td)(hi:PE X i ty)(hs:Sh i):PE X (.Subscript o i pos) (EQ X.K td ty):=by intro pins s σ H Q I h;refine Cr PySem.F.slot_dict_getitem.lookup hs (thn (ho pins s σ H _ I h) λu s1 ⟨x,H1,I1,rx,q1⟩=>thn (hi pins s1 σ H1 _ I1 q1) λiv s2 ⟨y,H2,I2,ry,a,b,kvs,k,v,ex,ey,e,eb,l,q2⟩=>?_);subst ex ey;obtain rfl:u=Value.ref a:=rx;obtain rfl:iv=Value.ref b:=ry;obtain⟨z,hd,xs,rel,dd⟩:=Nw I2.hok e;refine⟨dd.typeIs,?_⟩;obtain⟨w',hw,rw'⟩:=RelO.some_of (v:=v) (o:=(atKey xs k).map (·.2)) (by rw[←l];exact rel.val k);obtain⟨p,hp,hp2⟩:=Option.map_eq_some_iff.mp hw;obtain⟨its,rv,⟨ob,g1,g2,n,g3⟩,hz⟩:=I2.tuple eb;refine wpAny_getItem_heap (tupleKind_room_in1 hu) ⟨ob,its.toArray,n,g1,g2,g3,by simpa using O1 rv⟩ dd hp ?_;rw[hp2];exact⟨v,H2,I2.tok _,rw',q2⟩
end
end L2
namespace DL
open PySem PySem.Spec L2
open PyProof.Rows hiding St
section
variable{K:Frag}{B G0 G H:Hp}{σ:St}{Z:UH}
noncomputable def YF(Z:UH):Bool:=Z.all λs=>match s with|some (.own _)=>false|some (.deep _ _)=>false|_=>true
theorem RM(h:YF Z=true){i:Nat}{ds:List D}(q:Z[i]?=some (some (.own ds))):False:=by have:=Q2.mp h _ (Qo q);cases this
theorem qf(h:YF Z=true){i:Nat}{p:Pat}{d:D}(q:Z[i]?=some (some (.deep p d))):False:=by have:=Q2.mp h _ (Qo q);cases this
theorem DpOk.no(h:YF Z=true):DpOk K B G H σ Z:=.of (λ_ _ _ q=>qf h q) λ_ _ q=>RM h q
theorem Hm{i:Nat}{d:D}(h:YF Z=true):YF (Z.set i (some (.pub d)))=true:=by
 unfold YF;rw[Q2];intro s hs;rcases List.mem_or_eq_of_mem_set hs with h1|h1
 ·exact Q2.mp h s h1
 ·subst h1;rfl
theorem EOk.rebaseN(k:EOk K B G0 G H σ Z)(h:YF Z=true):EOk K H G G H σ Z where
 bh:=.refl _
 gh:=k.gh
 g0:=.refl _
 np:=λ_ _ _ n=>n
 len:=k.len
 pub:=k.pub
 own:=λi ds q=>(RM h q).elim
 sep:=k.sep
 dp:=.no h
theorem EOk.heap{H':Hp}(k:EOk K B G0 G H σ Z)(h:YF Z=true)(g:Same G H'):EOk K H' G G H' σ Z where
 bh:=.refl _
 gh:=g
 g0:=.refl _
 np:=λ_ _ _ n=>n
 len:=k.len
 pub:=k.pub
 own:=λi ds q=>(RM h q).elim
 sep:=k.sep
 dp:=.no h
theorem Na:∀(k:List Key),Reps K G (k.map kV) (k.map kD)
 |[]=>.nil
 |.inl i::r=>.cons (.int i) (Na r)
 |.inr x::r=>.cons (.str x) (Na r)
theorem Lm:∀{k:List Key}{ws:List V},Reps K G ws (k.map kD)->ws=k.map kV
 |[],_,.nil=>rfl
 |k::r,_,.cons h t=>by rw[Qy,←Lm t,h.key_inv]
theorem CU{b:Up}{ys:List V}(gh:Same G H)(hb:H b=some (.tup ys)):∃G',Ext G H G' H/\SqT K G' b ys:=by
 cases q:G b with
 |some u=>have:=gh b u q;rw[hb]at this;cases this;exact⟨G,.refl gh,SqT.of q⟩
 |none=>
  refine⟨upd G b (.tup ys),⟨.refl _,Zn q,λc u e=>?_,λc u e n=>?_⟩,SqT.of Zc⟩
  ·by_cases z:c=b
   ·subst z;rw[Zc]at e;cases e;exact hb
   ·rw[KM z]at e;exact gh c u e
  ·by_cases z:c=b
   ·subst z;rw[hb]at e;cases u<;>cases e
   ·rw[KM z];exact n
theorem Af{ad:Up}{o:Obj}{ks:List (List Key)}{vs:List V}(h:G ad=some (.frz o (.dT (ks.zip vs))))(hl:ks.length=vs.length):Xf K (Itf o ad) (ks.map tkD) G where
 go:=λi G1 H s1 s2 hi=>by rw[Qb]at hi;exact⟨_,s2 _ _ (s1 _ _ h),by rw[JN];omega⟩
 stop:=λi G1 H s1 s2 hi=>by rw[Qb]at hi;exact⟨_,s2 _ _ (s1 _ _ h),by rw[JN];omega⟩
 yld:=λi G1 H x H' d s1 s2 e y=>by
  obtain⟨rfl,b,rfl,y⟩:=y;obtain⟨p,hp,hb⟩:=y _ (s2 _ _ (s1 _ _ h));rw[Qe]at e;have hp1:ks[i]?=some p.1:=by rw[List.getElem?_zip_eq_some]at hp;exact hp.1
  rw[hp1]at e;cases e;obtain⟨G',ex,sq⟩:=CU (K:=K) s2 hb;exact⟨G',ex,.tup sq (Na p.1)⟩
noncomputable def kOf:D->Option (List Key)
 |.tuple ds=>Wj ds
 |_=>none
noncomputable def unT:List (D×D)->Option (List D)
 |(.bool true,.none)::r=>some (r.map (·.1))
 |_=>none
noncomputable def Rc:D->Option (List D)
 |.dict kvs=>unT kvs
 |_=>none
noncomputable def RQ(f:M D):M (List D):=Kb f λx=>U9 (Rc x)
noncomputable def So:D->D->Option D
 |.dict ((.bool true,.none)::r),y=>match kOf y with
  |some k=>(r.find? λp=>decide (kOf p.1=some k)).map (·.2)
  |none=>none
 |_,_=>none
theorem Rep.prs_inv{v:V}{r:List (D×D)}(h:Rep K G v (.dict ((.bool true,.none)::r))):∃(a:Up)(o:Obj)(ks:List (List Key))(vs:List V)(ds:List D),v=.ref a/\r=(ks.map tkD).zip ds/\ks.length=ds.length/\G a=some (.frz o (.dT (ks.zip vs)))/\Reps K G vs ds:=by
 cases h with
 |@dct ad ks vs ds _ e hne hl _ _=>
  cases ks with
  |nil=>exact absurd rfl hne
  |cons k ks=>
   cases ds with
   |nil=>cases hl
   |cons d ds=>have e1:=(Prod.mk.inj (List.cons.inj e).1).1;cases k<;>cases e1
 |@dtt ad o ks vs ds _ e hl h r=>exact⟨ad,o,ks,vs,ds,rfl,(List.cons.inj e).2,hl,h,r⟩
theorem Nk:∀(k:List Key),Wj (k.map kD)=some k
 |[]=>rfl
 |.inl i::r=>by rw[Qy,Wj];show(match some (Sum.inl i),Wj (r.map kD)with|some k,some ks=>some (k::ks)|_,_=>none)=_;rw[Nk r]
 |.inr x::r=>by rw[Qy,Wj];show(match some (Sum.inr x),Wj (r.map kD)with|some k,some ks=>some (k::ks)|_,_=>none)=_;rw[Nk r]
theorem HM:∀{ds:List D}{k:List Key},Wj ds=some k->ds=k.map kD
 |[],_,h=>by cases h;rfl
 |d::r,k,h=>by
  rw[Wj]at h;split at h
  ·rename_i k1 ks h1 h2;cases h;rw[Qy,←HM h2,←OO h1]
  ·cases h
theorem Fv(k:List Key):kOf (tkD k)=some k:=Nk k
theorem Ll{k:List Key}{d:D}:∀{ks:List (List Key)}{vs:List V}{ds:List D},Reps K G vs ds->(((ks.map tkD).zip ds).find? λp=>decide (kOf p.1=some k)).map (·.2)=some d->∃v,ZM (ks.zip vs) k=some v/\Rep K G v d
 |[],vs,ds,_,e=>by simp at e
 |q::ks,_,_,.nil,e=>by simp at e
 |q::ks,_,_,.cons (v:=v) (vs:=vs) (ds:=ds) r t,e=>by
  rw[Qy,J5,List.find?_cons,Fv]at e;rw[J5];by_cases h:q=k
  ·subst h;simp only[decide_true]at e;cases e;exact⟨v,OG rfl,r⟩
  ·have h':¬(some q=some k):=λz=>h (QQ z)
   simp only[h',decide_false]at e;rw[Pn (by exact h)];exact Ll t e
end
section
variable{X:Cx}{B G0:Hp}{KX:XW}{e a b c tg:Ur}{pos:Pos}
theorem E5{f:M D}(h:PE X e (tD X.K B G0 f)):PI X tg e (iD X.K B G0 (RQ f)):=YY (ES h) λσ H R q=>tM.toI (R0:=Rep X.K) q λv H' G' Z' x k r a=>by
 cases z:Rc x with
 |none=>rw[z]at a;exact a.elim
 |some ds=>
  rw[z]at a;unfold Rc at z;split at z
  ·unfold unT at z;split at z
   ·cases z;obtain⟨ad,o,ks,vs,ds,rfl,rfl,hl,hg,rr⟩:=r.prs_inv;refine⟨ad,o,_,rfl,k.gh _ _ hg,a _ G' H' k (.refl _) ?_⟩;rw[List.map_fst_zip (by rw[Qb];omega)];exact Af hg (by rw[rr.length];exact hl)
   ·cases z
  ·cases z
theorem E4(hu:X.A.units+64<cLine){f g:M D}(ha:PE X a (tD X.K B G0 f))(hb:PE X b (tD X.K B G0 g))(hs:Sh b:=by intro _ _;rfl):PE X (.Subscript a b pos) (tD X.K B G0 (UN So f g)):=
 Ks (CV (by omega) ha hb hs) λσ H Q q=>tM.two q λv u H2 G Z x y k rx ry a=>by
  obtain⟨d,e,a1⟩:=a.opt;unfold So at e;split at e
  ·rename_i r;split at e
   ·rename_i ky hk;obtain⟨ad,o,ks,vs,ds,rfl,rfl,hl,hg,rr⟩:=rx.prs_inv;cases y with
    |tuple ys=>have hy:=HM hk;subst hy;obtain⟨bd,ws,rfl,hsq,rw'⟩:=ry.tup_inv;have hws:ws=ky.map kV:=Lm rw';subst hws;obtain⟨w,hw,rw2⟩:=Ll rr e;exact⟨ad,bd,_,ky,w,rfl,rfl,.inr ⟨o,k.gh _ _ hg⟩,YQ k.gh hsq,hw,a1.now k rw2⟩
    |_=>cases hk
   ·cases e
  ·cases e
end
noncomputable def Rb(acc:List (List Key×D))(k:List Key):Bool:=acc.all λp=>decide (p.1≠k)
theorem CT{acc:List (List Key×D)}{k:List Key}(h:Rb acc k=true):k∉acc.map (·.1):=λz=>by obtain⟨p,hp,e⟩:=Qs.mp z;have:=Qa (Q2.mp h p hp);exact this e
noncomputable def V6:Option (Option Sl)->Bool
 |some none=>true
 |_=>false
theorem E3{x:Option (Option Sl)}(h:V6 x=true):x=some none:=by
 unfold V6 at h;split at h
 ·rfl
 ·cases h
noncomputable def XG(i1 i2:Nat)(g:M D):List D->List (List Key×D)->UH->Option (List (List Key×D))
 |[],acc,_=>some acc
 |.tuple [x,y]::r,acc,Z=>match RR x,RR y with
  |some kx,some ky=>match g ((Z.set i1 (some (.pub x))).set i2 (some (.pub y)))with
   |.ok v Z'=>if acc.length<1000000/\Rb acc [kx,ky]=true/\YF Z'=true then XG i1 i2 g r (acc++[([kx,ky],v)]) Z' else none
   |.bad=>none
  |_,_=>none
 |_::_,_,_=>none
noncomputable def V2(acc:List (List Key×D)):D:=.dict (pdD (acc.map (·.1)) (acc.map (·.2)))
noncomputable def Wv(j i1 i2:Nat)(f:M (List D))(g:M D):SM:=λZ=>
 if YF Z=true/\V6 Z[j]?=true/\i1<Z.length/\i2<Z.length then match f Z with
  |.ok ds Z1=>if YF Z1=true then match XG i1 i2 g ds [] Z1 with
   |some acc=>.rt (V2 acc)
   |none=>.bad
   else .bad
  |.bad=>.bad
 else .bad
section
variable{X:Cx}{B G0:Hp}{KX:XW}{e a b c tg iter:Ur}{pos:Pos}
theorem Fu{j i1 i2:Nat}{x y z:Str}{f:M (List D)}{g:M D}{p1 p2 p3 p4 p5 p6 p7 p8 p9 pa pb pc pd pe:Pos}{k1 k2}
  (hu:X.A.units+64<cLine) (hp:PassesOwn (model X.prog X.w) X.A X.env X.xe) (hc:X.calm=true) (hN:X.N.Nodup)
  (hj:X.N[j]?=some x) (h1:X.N[i1]?=some y) (h2:X.N[i2]?=some z) (hx:Loc X.env.scope x) (hy:Loc X.env.scope y) (hz:Loc X.env.scope z)
  (vx:∀q,PE X (.Name x q) (Za j)) (vy:∀q,PE X (.Name y q) (Za i1)) (vz:∀q,PE X (.Name z q) (Za i2))
  (n1:j≠i1) (n2:j≠i2) (n3:i1≠i2)
  (hi:∀B' G',PI X (.Tuple [.Name y p3,.Name z p4] k1 p5) iter (iD X.K B' G' f)) (hg:∀B' G',PE X e (tD X.K B' G' g))
  (hfx:X.fn x=true∨X.env.scope.names.lookup x=some .local) (hfy:X.fn y=true∨X.env.scope.names.lookup y=some .local) (hfz:X.fn z=true∨X.env.scope.names.lookup z=some .local)
  (hs1:swapsWith (.Dict [] [] p2) (some (.Name x p1)) pa.line X.env=pure false:=by rfl)
  (hs2:swapsWith e (some (.Subscript (.Name x p6) (.Tuple [.Name y p7,.Name z p8] k2 p9) pb)) pc.line X.env=pure false:=by rfl)
  (hs3:(UJ [.Name y p3,.Name z p4] X.env).map (·.2)=assign (.Name y p3) X.env::(UJ [.Name z p4] X.env).map (·.2):=by rfl)
  (hs4:(UJ [.Name z p4] X.env).map (·.2)=assign (.Name z p4) X.env::(UJ [] X.env).map (·.2):=by rfl)
  (hs5:(UJ [.Name y p3,.Name z p4] X.env).length=2:=by rfl) (hs6:(UJ [.Name y p3,.Name z p4] X.env).findIdx? (·.1)=none:=by rfl)
  (hs7:Uu [.Name y p7,.Name z p8] X.env=(false,eval (.Name y p7) X.env)::Uu [.Name z p8] X.env:=by rfl)
  (hs8:Uu [.Name z p8] X.env=[(false,eval (.Name z p8) X.env)]:=by rfl)
  (hs9:∀x,UK iter X.env x=pure x:=by intro _;rfl) :
  PSs X [.Assign [.Name x p1] (.Dict [] [] p2) pa,.For (.Tuple [.Name y p3,.Name z p4] k1 p5) iter [.Assign [.Subscript (.Name x p6) (.Tuple [.Name y p7,.Name z p8] k2 p9) pb] e pc] [] pd,.Return (some (.Name x pe)) pos] (tS X.K B G0 KX (Wv j i1 i2 f g)):=by
 have L1:=P9 (pos:=pa) hN hj hx (BR (X:=X) (pos:=p2)) hs1 hfx;have hi':PI X (.Tuple [.Name y p3,.Name z p4] k1 p5) iter (λσ H R=>∃B' G',iD X.K B' G' f σ H R):=λpins s σ H R I ⟨B',G',q⟩=>hi B' G' pins s σ H R I q;have hg':PE X e (λσ H Q=>∃B' G',tD X.K B' G' g σ H Q):=λpins s σ H Q I ⟨B',G',q⟩=>hg B' G' pins s σ H Q I q;have T:=N3 (X:=X) (pos:=p5) (k:=k1) hc (OH (XA (pos:=p3) hN h1 hy hfy) (OH (XA (pos:=p4) hN h2 hz hfz) Le hs4) hs3) hs5 hs6;have P:=Cq (X:=X) (pos:=pc) (pos':=pb) (by omega) (vx p6) (NX (pos:=p9) (x1:=k2) (X6 (vy p7) (X6 (vz p8) Vo hs8) hs7)) hg' hs2
 have F:=N0 (pos:=pd) hp hc hi' T (Oo P) hs9;have R:=N4 (pos:=pos) (ER (vx pe));refine PX (OI L1 (OI F (Oo R))) λDn σ H ⟨G,Z,k,a⟩=>?_;unfold Wv at a
 split at a
 case isFalse=>exact a.elim
 case isTrue hcond=>
 obtain⟨c1,c2,c3,c4⟩:=hcond;have c2:=E3 c2;intro p hp0;show ∃B' G',iD X.K B' G' f (σ.set j (some (.ref p))) (upd H p (.dT [])) _;have hgp:G p=none:=k.gh.free hp0
 have hbp:B p=none:=by
  cases q:B p with
  |none=>rfl
  |some u=>have:=k.bh p u q;rw[hp0]at this;cases this
 have hjl:j<Z.length:=(Qg.mp c2).1;have sgH:Same G (upd H p (.dT [])):=k.gh.trans (Zn hp0)
 have k1:EOk X.K (upd H p (.dT [])) G G (upd H p (.dT [])) (σ.set j (some (.ref p))) Z:=by
  refine⟨.refl _,sgH,.refl _,λ_ _ _ n=>n,by rw[QX];exact k.len,λi d q=>?_,λi ds q=>(RM c1 q).elim,λi l ad es fs q _ _ _=>(RM c1 q).elim,.no c1⟩;have z:j≠i:=λz=>by subst z;rw[c2]at q;cases q
  rw[Qq z];exact k.pub i d q
 have hpj:(σ.set j (some (V.ref p)))[j]?=some (some (.ref p)):=QD (by rw[←k.len];exact hjl);have ex0:Ext G0 B G (upd H p (.dT [])):=k.exit.trans (Ext.hid k.gh hp0);refine⟨_,_,G,Z,k1,?_⟩;cases zf:f Z with
 |bad=>rw[zf]at a;exact a.elim
 |ok ds Z1=>
 rw[zf]at a;dsimp only at a⊢;split at a
 case isFalse=>exact a.elim
 case isTrue c5=>
 cases zl:XG i1 i2 g ds [] Z1 with
 |none=>rw[zl]at a;exact a.elim
 |some accF=>
 rw[zl]at a;dsimp only at a;intro J G1 H1 kk s1 it;have hp1:H1 p=some (.dT []):=kk.bh p _ Zc;have hg1:G1 p=none:=kk.np p (.t []) Zc hgp
 refine⟨λi m σ' H'=>m=ds.length-i/\∃G' Z' acc vs,EOk X.K H' G' G' H' σ' Z'/\Same G1 G'/\YF Z'=true/\Z'.length=Z.length/\σ'[j]?=some (some (.ref p))/\H' p=some (.dT ((acc.map (·.1)).zip vs))/\Reps X.K G' vs (acc.map (·.2))/\G' p=none/\Ext G0 B G' H'/\XG i1 i2 g (ds.drop i) acc Z'=some accF,
  ⟨ds.length,by omega,G1,Z1,[],[],kk.rebaseN c5,.refl _,c5,by rw[kk.len,k1.len],hpj,hp1,.nil,hg1,ex0.trans kk.exit,by rw[Uh];exact zl⟩,?_⟩
 rintro i m σ' H' ⟨rfl,G',Z',acc,vs,k',s',c6,c6',hpj',hp',rv,hg'',ex',hl⟩;by_cases hi:i<ds.length
 ·right;refine⟨it.go i G' H' s' k'.gh hi,λσ2 H2=>∃G' Z' acc vs,EOk X.K H2 G' G' H2 σ2 Z'/\Same G1 G'/\YF Z'=true/\Z'.length=Z.length/\σ2[j]?=some (some (.ref p))/\H2 p=some (.dT ((acc.map (·.1)).zip vs))/\Reps X.K G' vs (acc.map (·.2))/\G' p=none/\Ext G0 B G' H2/\XG i1 i2 g (ds.drop (i+1)) acc Z'=some accF,λσ2 H2 h2=>⟨ds.length-(i+1),by omega,rfl,h2⟩,λxv H2 yl=>?_⟩
  obtain⟨G2,ex,rx⟩:=it.yld i G' H' xv H2 ds[i] s' k'.gh (Qf hi) yl;rw[Jb hi]at hl;generalize hdi:ds[i]=di at hl rx;unfold XG at hl;split at hl
  ·rename_i heq;cases heq
  ·rename_i acc Z' _ _ _ dx dy r heq;injection heq with he1 he2;subst he1 he2
   split at hl
   ·rename_i kx ky hkx hky;obtain⟨ad,ws,rfl,hsq,rws⟩:=rx.tup_inv;cases rws with
    |cons ra rws=>
    cases rws with
    |cons rb rws=>
    cases rws;rename_i v1 v2;have ev1:=OO hkx;have ev2:=OO hky;subst ev1 ev2;have ew1:=ra.key_inv;have ew2:=rb.key_inv;subst ew1 ew2;refine⟨ad,_,rfl,YQ ex.gh hsq,rfl,_,_,rfl,_,_,rfl,rfl,?_⟩;have k2:EOk X.K H' G' G2 H2 σ' Z':=k'.ext ex;have k3:=(k2.setPub (i:=i1) ra (by rw[c6'];exact c3)).setPub (i:=i2) rb (by rw[QX,c6'];exact c4);have c7:YF ((Z'.set i1 (some (.pub (kD kx)))).set i2 (some (.pub (kD ky))))=true:=Hm (Hm c6);have hs2:H2 p=some (.dT ((acc.map (·.1)).zip vs)):=ex.h p _ hp';have hg2:G2 p=none:=ex.np p (.t _) hp' hg'';refine⟨_,_,G2,_,k3.rebaseN c7,?_⟩;cases zg:g ((Z'.set i1 (some (.pub (kD kx)))).set i2 (some (.pub (kD ky))))with
    |bad=>rw[zg]at hl;cases hl
    |ok dv Z4=>
    rw[zg]at hl;dsimp only at hl;split at hl
    case isFalse=>cases hl
    case isTrue hcc=>
    obtain⟨d1,d2,d3⟩:=hcc;have d2:=CT d2;intro v G4 H4 k4 s4 rv4;have lj:j<σ'.length:=(Qg.mp hpj').1;have l1:i1<σ'.length:=by rw[←k'.len,c6'];exact c3
    have l2:i2<σ'.length:=by rw[←k'.len,c6'];exact c4
    refine⟨.ref p,by rw[Qq n2.symm,Qq n1.symm];exact hpj',?_⟩;refine⟨_,by rw[Qq n3.symm];exact QD l1,_,QD (by rw[QX];exact l2),(show 2<=Us by decide),λq hq=>?_⟩;have hp4:H4 p=some (.dT ((acc.map (·.1)).zip vs)):=k4.bh p _ hs2;have hqp:p≠q:=Yc hp4 hq;have hg4:G4 p=none:=k4.np p (.t _) hs2 hg2;have hgq:G4 q=none:=k4.gh.free hq;have hvl:vs.length=acc.length:=by rw[rv.length,Qb]
    have hnone:ZM ((acc.map (·.1)).zip vs) [kx,ky]=none:=by
     have key:∀(ks:List (List Key))(us:List V),[kx,ky]∉ks->ZM (ks.zip us) [kx,ky]=none:=by
      intro ks;induction ks with
      |nil=>intro us _;rfl
      |cons k0 kr ih=>
       intro us hn;cases us with
       |nil=>rfl
       |cons u0 ur=>rw[J5,Pn (by intro z;exact hn (by rw[←z];exact Qm))];exact ih ur λz=>hn (Ql _ z)
     exact key _ _ d2
    refine⟨p,_,rfl,DPut.t (k:=[kx,ky]) (by rw[KM hqp];exact hp4) Zc (by rw[JN,Qb,sizeLine_eq];omega),?_⟩;rw[BU _ hnone];have sg6:Same G4 (upd (upd H4 q (.tup [kV kx,kV ky])) p (.dT ((acc.map (·.1)).zip vs++[([kx,ky],v)]))):=λbb u e=>by rw[KM (Yc e hg4),KM (Yc e hgq)];exact k4.gh bb u e
    refine⟨G4,Z4,acc++[([kx,ky],dv)],vs++[v],k4.heap d3 sg6,(s'.trans ex.g).trans s4,d3,?_,?_,?_,?_,hg4,?_,hl⟩
    ·rw[k4.len,QX,QX,←k'.len,c6']
    ·rw[Qq n2.symm,Qq n1.symm];exact hpj'
    ·rw[Zc,QE,List.zip_append (by rw[Qb,hvl])];rfl
    ·rw[QE];exact Reps.append (rv.mono (ex.g.trans s4)) (.cons rv4 .nil)
    ·have e4:Ext G0 B G4 H4:=(ex'.trans ex).trans k4.exit;refine⟨λbb u e=>?_,e4.g,sg6,e4.np⟩;have hb4:=e4.h bb u e;rw[KM (Yc e hbp),KM (Yc hb4 hq)];exact hb4
   ·cases hl
  ·cases hl
 ·left;refine⟨it.stop i G' H' s' k'.gh (by omega),.ref p,hpj',p,_,rfl,hp',λo=>?_⟩
  rw[List.drop_eq_nil_of_le (by omega)]at hl;have hl:some acc=some accF:=hl;have hl:=QQ hl;subst hl;refine a (.ref p) (upd G' p (.frz o (.dT ((acc.map (·.1)).zip vs)))) _ ⟨λbb u e=>?_,ex'.g.trans (Zn hg''),λbb u e=>?_,λbb u e n=>?_⟩ ?_
  ·rw[KM (Yc e hbp)];exact ex'.h bb u e
  ·by_cases zz:bb=p
   ·subst zz;rw[Zc]at e⊢;exact e
   ·rw[KM zz]at e⊢;exact k'.gh bb u e
  ·rw[KM (Yc e hbp)];exact ex'.np bb u e n
  ·exact .dtt rfl (by rw[Qb,Qb]) Zc (rv.mono (Zn hg''))
end
section
variable{X:Cx}
noncomputable def YN:List Int->Int
 |[]=>0
 |[n]=>n
 |n::r=>if YN r<n then YN r else n
theorem O9:∀{ns:List Int},0<ns.length->YN ns∈ns
 |[n],_=>QZ.2 rfl
 |n::m::r,_=>by
  have ih:=O9 (ns:=m::r) (Ui _);unfold YN;split
  ·exact Ql _ ih
  ·exact Qm ..
theorem Lk:∀{ns:List Int}{a:Int},a∈ns->YN ns<=a
 |[n],a,h=>by rw[QZ.1 h];exact QW _
 |n::m::r,a,h=>by
  have ih:∀b,b∈m::r->YN (m::r)<=b:=λb hb=>Lk hb;unfold YN;rcases QP.1 h with e|h
  ·subst e;split<;>omega
  ·have:=ih a h;split<;>omega
theorem CS{ns:List Int}{M:Int}(h1:M∈ns)(h2:∀a,a∈ns->M<=a):YN ns=M:=
 JO (Lk h1) (h2 _ (O9 (J0 h1)))
theorem Ae(hc:X.calm=true):YB X (.builtin "min") (λxs H Q=>∃l,∃ns:List Int,xs=[.ref l]/\SqL X.K H l (ns.map V.int)/\0<ns.length/\Q (.int (YN ns)) H):=by
 intro pins s σ H xs us Q I rx h;obtain⟨l,ns,rfl,hq,hb,q⟩:=h;obtain⟨u,rfl,ru⟩:=rx.one;cases ru;obtain⟨its,rv,p,hz⟩:=I.list hq;have hi:=Wb rv;obtain⟨ys,e⟩:=hi.allInts.items;have hns:ns=ys.toList.map (·.1):=by rw[←hi.numsOf,←nums_intItems,←e]
 have hsz:0<ys.size:=by rw[hns,Qb,Jh]at hb;exact hb
 have hl:=p.isList;rw[e]at hl;refine min_intList (I.ok.hd hc) hl hsz λv h' tk hv hk=>?_
 obtain⟨t,rfl⟩:=intItems_at hv;obtain⟨h1,h2⟩:=argBest_lt (numAt ys) (ys.size-1);refine⟨.int (YN ns),H,I.kept hk,⟨t,?_⟩,q⟩;rw[CS (M:=_) ?_ ?_]
 ·rw[hns,numAt_eq];exact getD_mem (by rw[Qb,Jh];omega)
 ·intro a ha;rw[hns]at ha;obtain⟨j,hj,rfl⟩:=mem_getD ha;rw[Qb,Jh]at hj;rw[←numAt_eq];exact h2 j (by omega)
noncomputable def Sn:List D->Option D
 |[.list ds]=>(match ZO ds with
  |some ns=>if 0<ns.length then some (.int (YN ns))else none
  |none=>none)
 |_=>none
theorem Ad{xs:List D}{d:D}(h:Sn xs=some d):∃ds ns,xs=[.list ds]/\ZO ds=some ns/\0<ns.length/\d=.int (YN ns):=by
 unfold Sn at h;split at h
 ·rename_i ds;cases z:ZO ds with
  |none=>rw[z]at h;cases h
  |some ns=>
   rw[z]at h;dsimp only at h;split at h
   ·rename_i c;cases h;exact⟨ds,ns,rfl,z,c,rfl⟩
   ·cases h
 ·cases h
theorem Ft(hc:X.calm=true):YG X (.builtin "min") Sn:=by refine⟨_,Ae hc,λvs G H ds d Q s r e k=>?_⟩;obtain⟨ds,ns,rfl,z,c,rfl⟩:=Ad e;obtain⟨v,rfl,q1⟩:=r.one_inv;obtain⟨l,ws,rfl,h1,r1⟩:=q1.lst_inv;have:=VU r1 z;subst this;exact⟨l,ns,rfl,s.seq h1,c,k _ G H (.refl s) (.int _)⟩
theorem CQ{ns:List Int}(h:0<ns.length):Sn [.list (ns.map .int)]=some (.int (YN ns)):=by unfold Sn;simp only[VW,Qp h]
end
end DL
namespace L2
open PySem PySem.Spec PyProof.Rows
end L2
namespace DL
open PySem PySem.Spec L2
open PyProof.Rows hiding St
section
variable{X:Cx}{B G0:Hp}{KX:XW}{e1 e2 e3:Ur}{pos:Pos}
end
section
variable{X:Cx}{B G0:Hp}{e:Ur}{pos:Pos}{es:List Ur}{st:Stmt}{sts:List Stmt}
end
section
variable{prog:Uo}{w:World}{A:Around}{E:Ul->Um->Prop}{s:Um}
end
end DL
namespace L2
open PySem PySem.Spec PyProof.Rows
section
variable{X:Cx}
end
end L2
namespace DL
open PySem PySem.Spec L2
open PyProof.Rows hiding St
section
variable{X:Cx}{B G0:Hp}{e a b c tg:Ur}{pos:Pos}{es rest:List Ur}
end
theorem EOk.lent{K:Frag}{B G0 G H:Hp}{σ:St}{Z:UH}(k:EOk K B G0 G H σ Z):EOk K H H H H σ (ZA Z) where
 bh:=.refl _
 gh:=.refl _
 g0:=.refl _
 np:=λ_ _ e n=>by rw[n]at e;cases e
 len:=by unfold ZA;rw[Qb];exact k.len
 pub:=λi d e=>by
  rcases Ha e with e2|⟨ds,rfl,e2⟩|⟨p,e2⟩
  ·exact k.tree (by unfold Rw;rw[e2])
  ·exact k.tree (by unfold Rw;rw[e2])
  ·exact k.tree (by unfold Rw;rw[e2])
 own:=λi ds e=>(SR e).elim
 sep:=λi j a ds es e=>(SR e).elim
 dp:=.of (λ_ _ _ q=>Gj q) λ_ _ q=>SR q
section
variable{X:Cx}{B G0:Hp}{KX:XW}{e a b c tg iter:Ur}{pos:Pos}
end
end DL
namespace L2
open PySem PySem.Spec PyProof.Rows
section
variable{X:Cx}
end
end L2
namespace DL
open PySem PySem.Spec L2
open PyProof.Rows hiding St
section
variable{X:Cx}{B G0:Hp}{e a b c tg:Ur}{pos:Pos}{es rest:List Ur}
end
section
variable{prog:Uo}{w:World}{A:Around}{E:Ul->Um->Prop}{s:Um}
end
section
variable{X:Cx}{B G0:Hp}{e a b c:Ur}{pos p2 p3:Pos}
end
section
variable{X:Cx}{B G0:Hp}{KX:XW}{e o a b c tg i:Ur}{pos p2:Pos}{es rest:List Ur}{te to ti:TE}
end
section
variable{prog:Uo}{w:World}{A:Around}{E:Ul->Um->Prop}{s:Um}
end
section
variable{prog:Uo}{w:World}{A:Around}{E:Ul->Um->Prop}
variable{K:Type}[DecidableEq K]{knd:KeyKind prog w K}
end
section
variable{prog:Uo}{w:World}{A:Around}{E:Ul->Um->Prop}{h:Heap}{g:Array GenState}{d:Drawn}{t:Nat}{os:OsState}{a:Up}{o:Obj}
end
section
variable{prog:Uo}{w:World}{A:Around}{E:Ul->Um->Prop}
variable{K:Type}[DecidableEq K]{knd:KeyKind prog w K}
end
end DL
namespace L2
open PySem PySem.Spec PyProof.Rows
section
variable{X:Cx}
end
end L2
namespace DL
open PySem PySem.Spec L2
open PyProof.Rows hiding St
section
variable{X:Cx}{B G0:Hp}{a:Ur}{p p2 p3 pos:Pos}
end
section
variable{K:Frag}{B G0 G H:Hp}{σ:St}{Z:UH}
end
section
variable{X:Cx}{B G0:Hp}{KX:XW}{e o a b c:Ur}{pos:Pos}{es:List Ur}{st:Stmt}{sts:List Stmt}{pt:Pat}
end
section
variable{K:Frag}{B G0 G H:Hp}{σ:St}{Z:UH}
end
section
variable{X:Cx}{B G0:Hp}{KX:XW}{e o a b c:Ur}{pos:Pos}{es:List Ur}
end
section
variable{X:Cx}{B G0:Hp}{KX:XW}{e o a b c:Ur}{pos:Pos}{es:List Ur}
end
noncomputable def isT:Option HO->Bool
 |some (.tup _)=>true
 |some (.frz _ (.tup _))=>true
 |_=>false
theorem Fs{u:MO}:isT (some u.ho)=false:=by cases u<;>rfl
noncomputable def Zo(fp:List Up)(G H:Hp):Hp:=λb=>if b∈fp∨isT (H b)=true then H b else G b
section
variable{K:Frag}{B G0 G H:Hp}{fp:List Up}
theorem Ac(gh:Same G H):Same G (Zo fp G H):=λb o e=>by
 unfold Zo;split
 ·exact gh b o e
 ·exact e
theorem E2(gh:Same G H):Same (Zo fp G H) H:=λb o e=>by
 unfold Zo at e;split at e
 ·exact e
 ·exact gh b o e
theorem My{b:Up}(h:b∈fp∨isT (H b)=true):Zo fp G H b=H b:=by unfold Zo;rw[Qp h]
theorem Mx{b:Up}(h:b∉fp)(h2:isT (H b)=false):Zo fp G H b=G b:=by
 unfold Zo;rw[QB];rintro(z|z)
 ·exact h z
 ·rw[h2]at z;cases z
theorem Ext.pubT{G' H':Hp}(ex:Ext G H G' H')(fr:∀a∈fp,H a=none):Ext G H (Zo fp G' H') H':=
 ⟨ex.h,ex.g.trans (Ac ex.gh),E2 ex.gh,λa u e n=>by rw[Mx (λm=>by rw[fr a m]at e;cases e) (by rw[ex.h a _ e];exact Fs)];exact ex.np a u e n⟩
noncomputable def nl0:D->Bool
 |.tuple ds=>ds.all flat
 |d=>flat d
theorem Rep.nl{G' G2 H':Hp}{v:V}{d:D}(r:Rep K G' v d)(h:nl0 d=true)(gh:Same G' H'):Rep K (Zo fp G2 H') v d:=by
 cases r with
 |tup hs rr=>
  refine .tup ?_ (rr.flat h);rcases hs with (hs|⟨o,hs⟩)|hs
  ·have:=gh _ _ hs;exact .inl (.inl ((My (.inr (by rw[this];rfl))).trans this))
  ·have:=gh _ _ hs;exact .inl (.inr ⟨o,(My (.inr (by rw[this];rfl))).trans this⟩)
  ·exact .inr hs
 |non=>exact .non
 |bl b=>exact .bl b
 |int i=>exact .int i
 |str x=>exact .str x
 |lst _ _=>cases h
 |dic _=>cases h
 |exc _ _ _ _=>cases h
 |dct _ _ _ _ _=>cases h
 |dtt _ _ _ _=>cases h
theorem Reps.nl{G' G2 H':Hp}(gh:Same G' H'):∀{vs:List V}{ds:List D},Reps K G' vs ds->ds.all nl0=true->Reps K (Zo fp G2 H') vs ds
 |_,_,.nil,_=>.nil
 |_,_,.cons r t,h=>by rw[List.all_cons,Jp]at h;exact .cons (r.nl h.1 gh) (Reps.nl gh t h.2)
end
noncomputable def X8(f:M (List D)):M (List D):=λZ=>match f (ZA Z)with
 |.ok ds _=>if ds.all nl0=true then .ok ds Z else .bad
 |.bad=>.bad
section
variable{X:Cx}{B G0:Hp}{KX:XW}{e o a b c:Ur}{pos:Pos}{es:List Ur}{pt:Pat}
end
section
variable{Z Z1 Z2 Z':UH}{pt:Pat}
theorem CP{f:M (List D)}{ds:List D}(h:f (ZA Z)=.ok ds Z')(hf:ds.all nl0=true):X8 f Z=.ok ds Z:=by unfold X8;rw[h];dsimp only;rw[if_pos hf]
end
section
variable{X:Cx}{B G0:Hp}{e:Ur}
end
section
variable{X:Cx}{B G0:Hp}{e o a b c:Ur}{pos:Pos}{es:List Ur}
end
section
variable{X:Cx}{B G0:Hp}{KX:XW}{e1 e2 e3 a b:Ur}{pos:Pos}{es:List Ur}
end
section
variable{K:Frag}{B G0 G H:Hp}{fp:List Up}
end
section
variable{X:Cx}{B G0:Hp}{KX:XW}{e a b:Ur}{pos:Pos}{es:List Ur}
end
theorem NewL.back{K:Frag}{B G0 G H G' H':Hp}{σ:St}{Z Z1:UH}{ad:Up}{vs:List V}{ds:List D}(k:EOk K B G0 G H σ Z)(k':EOk K H H G' H' σ Z1)(n:NewL K H G' H' σ Z1 ad vs ds)(hf:ds.all nl0=true) :
  EOk K B G0 (Zo [] G H') H' σ Z/\Same G (Zo [] G H')/\NewL K B (Zo [] G H') H' σ Z ad vs ds:=by
 have ex:Ext G H G H':=⟨k'.bh,.refl _,k.gh.trans k'.bh,λ_ _ _ n=>n⟩;have ex2:Ext G H (Zo [] G H') H':=ex.pubT (λa m=>by cases m);refine⟨k.ext ex2,ex2.g,⟨k.bh.free n.b,?_,n.h,n.r.nl k'.gh hf,λj es q w=>?_,λj pt d v fp q s r=>k.freshD k'.bh n.b q s r⟩⟩
 ·rw[Mx (by simp) (by rw[n.h];rfl)];exact k.gh.free n.b
 ·obtain⟨b,us,g1,g2,g3,g4,g5⟩:=k.own j es q;rw[g1]at w;cases w;rw[n.b]at g4;cases g4
section
variable{X:Cx}{B G0:Hp}{KX:XW}
theorem GK{l:Bool}{y:Str}{j:Nat}{py:Pos}{spos:Pos}{tg elt iter:Ur}{ifs:List Ur}{gs:List Comprehension}{scope:Scope}{pos:Pos}{N2:List Str}{k:Nat}{f:M (List D)}{s:D->UH->Option UH}{t:M Bool}{rd:RdB}(hN:X.N.Nodup)(hj:X.N[j]?=some y)(hy:X.env.scope.names.lookup y=some .local)(hc:X.calm=true)
  (hi:∀B' G',PI X tg iter (iD X.K B' G' f)) (hblk:Yk X N2 scope (.ListComp elt (⟨tg,iter,ifs,0⟩::gs) scope pos) tg ifs s t rd) (hb:Sz X.env.scope scope X.N N2 k) (hs:∀x,UK iter X.env x=pure x:=by intro _;rfl)
  (hsw:swapsWith (.ListComp elt (⟨tg,iter,ifs,0⟩::gs) scope pos) (some (.Name y py)) spos.line X.env=pure true:=by rfl) :
  PS X (.Assign [.Name y py] (.ListComp elt (⟨tg,iter,ifs,0⟩::gs) scope pos) spos) (tS X.K B G0 KX (K8 j (X8 (dCG l f k s t rd)))):=by
 intro pins s0 σ H Dn I ⟨G,Z,k0,a⟩;unfold K8 sB X8 at a;cases z:dCG l f k s t rd (ZA Z)with
 |bad=>rw[z]at a;exact a.elim
 |ok es Z1=>
 rw[z]at a;dsimp only at a;by_cases hnl:es.all nl0=true
 case neg=>rw[QB hnl]at a;exact a.elim
 rw[Qp hnl]at a;dsimp only at a;by_cases hl:j<Z.length
 ·rw[Qp hl]at a;obtain⟨ds,ZF,zf,zl,hfl⟩:=Oe z;rw[exec_Assign_Name_used _ _ _ _ hsw];refine Qd (Js (Qd ?_));show Ut _ X.A (do let _ ←comprehension (.ListComp elt (⟨tg,iter,ifs,0⟩::gs) scope pos) scope X.env _ (newList []) false (eval iter X.env) (some (assign (.Name y py) X.env))) _ _ s0;refine Qd (QH (OE (use:=some (assign (.Name y py) X.env)) (Qc:=λ_ s'=>SP X pins Dn .next s') hc (hi H H) hblk hb hs I k0.lent zf zl hfl λC D vs G' H' s4 m I7 hm hC hL hz hcl hp k' s' n=>?_) (λ_ s' hq=>Qh (Qh hq)) λ_ _ e=>e);show Ut _ X.A (assign (.Name y py) X.env (.ref D)) _ _ s4;refine wpAny_assign_Name (O2 I7 hN hj (.inl hy) (v:=.ref D) rfl (λs5 I8 ⟨ad,sb,hx⟩=>?_) (.inr hy))
  have hCa:C≠ad:=by
   rcases hx with e|e
   ·rw[e];exact hL
   ·exact Ne.symm (hcl y ad e)
  refine⟨m,hm.sameBut sb hCa,λh' sb'=>⟨_,H',I8.turned (t':=s5.toks) (it:=C) (λb o hb e=>(sb'.2 b hb).trans e) hC hL (.inr hz) hcl hp,?_⟩⟩;obtain⟨k2,s2,n2⟩:=NewL.back k0 k' n hnl;exact a _ _ H' (k2.setOwn n2 hl) s2
 ·rw[QB hl]at a;exact a.elim
theorem Ab{F F':M (List D)}(h:∀Z es Z',F Z=.ok es Z'->F' Z=.ok es Z')(Z:UH)(es:List D)(Z':UH)(e:X8 F Z=.ok es Z'):X8 F' Z=.ok es Z':=by
 unfold X8 at e⊢;cases z:F (ZA Z)with
 |bad=>rw[z]at e;cases e
 |ok ds Z1=>rw[z]at e;rw[h _ _ _ z];exact e
theorem GJ{l:Bool}{y:Str}{j:Nat}{py:Pos}{spos:Pos}{tg elt iter:Ur}{ifs:List Ur}{gs:List Comprehension}{scope:Scope}{pos:Pos}{f:M (List D)}{s:D->UH->Option UH}{t:M Bool}{rd:RdB}{F:M (List D)}(SC:Scope)(N1 N2:List Str)(k:Nat)(le:∀Z es Z',F Z=.ok es Z'->dCG l f k s t rd Z=.ok es Z')(hN:X.N.Nodup)(hj:X.N[j]?=some y)(hy:X.env.scope.names.lookup y=some .local)(hc:X.calm=true)
  (hi:∀B' G',PI X tg iter (iD X.K B' G' f)) (hblk:Yk X N2 scope (.ListComp elt (⟨tg,iter,ifs,0⟩::gs) scope pos) tg ifs s t rd) (h1:X.env.scope=SC) (h2:X.N=N1) (hb:Vu Sy SC scope N1 N2 k=true) (hs:∀x,UK iter X.env x=pure x:=by intro _;rfl)
  (hsw:swapsWith (.ListComp elt (⟨tg,iter,ifs,0⟩::gs) scope pos) (some (.Name y py)) spos.line X.env=pure true:=by rfl) :
  PS X (.Assign [.Name y py] (.ListComp elt (⟨tg,iter,ifs,0⟩::gs) scope pos) spos) (tS X.K B G0 KX (K8 j (X8 F))):=
 Zv (GK hN hj hy hc hi hblk (by rw[h1,h2];exact Od hb) hs hsw) λ_ _ _ q=>Mb (Ab le) q
end
noncomputable def SI(f:M D):M Bool:=Kb f λx=>match x with | .list ds=>UO (!ds.isEmpty)|_=>λ_=>.bad
noncomputable def X2:Nat:=10 ^ 60
section
variable{X:Cx}{B G0:Hp}{e:Ur}
theorem jz{α β:Type}{xs:List α}{ys:List β}(h:xs.length=ys.length):xs.isEmpty=ys.isEmpty:=by cases xs<;>cases ys<;>first|rfl|(simp at h)
theorem E1{f:M D}(h:PE X e (tD X.K B G0 f))(he:∀whole,isTrue e X.env whole=(do let v ←whole;standAt e.pos;holding [v] (truthy v)):=by intro _;rfl):PT X e (tBo X.K B G0 (SI f)):=
 Yw (BY h he) λσ H Q q=>tM.one (R:=Rep X.K) q λv H2 G Z x k r a=>by
  cases x with
  |list ds=>obtain⟨l,vs,rfl,h1,r1⟩:=r.lst_inv;refine⟨!vs.isEmpty,.inl ⟨vs,k.gh.seq h1,rfl⟩,?_⟩;exact aft.now (v:=!vs.isEmpty) a k (by rw[jz r1.length])
  |_=>exact a.elim
theorem Pv{f:M D}{Z Z1:UH}{ds:List D}(h1:f Z=.ok (.list ds) Z1):SI f Z=.ok (!ds.isEmpty) Z1:=by unfold SI;exact KR h1 rfl
end
end DL
namespace L2
open PySem PySem.Spec PyProof.Rows PySem.Calls PyProof.V
section
variable{X:Cx}{x n:Str}{pos np hpos:Pos}{pins:List (Up×Obj)}{σ:St}{H:Hp}{s:Um}{a C D fI fD:Up}{dd:Option Up}{bm bmD:List Ul}{rest:List ExceptHandler}{Q:Flow->Um->Prop}
end
end L2
namespace DL
open PySem PySem.Spec L2
open PyProof.Rows hiding St
section
variable{X:Cx}{B G0:Hp}{KX:XW}{e a b c:Ur}{pos p2 cpos np np2 hpos hpos2:Pos}{es:List Ur}{x x2 n:Str}{k kk:Nat}
end
section
variable{X:Cx}{B G0:Hp}{KX:XW}{e e1 e2:Ur}{pos:Pos}
end
section
variable{X:Cx}
noncomputable def V3:D->D->Option Bool
 |.list xs,.list ys=>if xs.length=ys.length then none else some false
 |_,_=>none
theorem GI(hu:X.A.units+64<cLine):OpB X (Uv .Eq) V3:=by
 refine⟨λv u H Q=>∃l m xs ys,v=.ref l/\u=.ref m/\SqL X.K H l xs/\SqL X.K H m ys/\xs.length≠ys.length/\Q (.bl false) H,?_,λv u G H x y d Q s rx ry e k=>?_⟩
 ·intro pins s σ H x y v u Q I rx ry h;obtain⟨l,m,xs,ys,rfl,rfl,h1,h2,hne,q⟩:=h;cases rx;cases ry;obtain⟨its,r,p,z⟩:=I.list h1;obtain⟨its2,r2,p2,z2⟩:=I.list h2;refine SeqAt.eq_list_lengthsAt p.isList p2.isList ?_ (by omega) ⟨.bl false,H,I,rfl,q⟩;rw[QI,QI,←r.length,←r2.length];simpa using hne
 ·unfold V3 at e;split at e
  ·split at e
   ·cases e
   ·rename_i hl;cases e;obtain⟨l,vs,rfl,h1,r1⟩:=rx.lst_inv;obtain⟨m,ws,rfl,h2,r2⟩:=ry.lst_inv;exact⟨l,m,vs,ws,rfl,rfl,s.seq h1,s.seq h2,by rw[r1.length,r2.length];exact hl,k⟩
  ·cases e
noncomputable def V4(x y:D):Option Bool:=(V3 x y).orElse λ_=>oEq x y
theorem GH(hu:X.A.units+64<cLine):OpB X (Uv .Eq) V4:=(GI hu).or (Sm hu)
theorem EZ{xs:List D}:V4 (.list xs) (.list [])=some xs.isEmpty:=by
 cases xs with
 |nil=>kernel_rfl
 |cons x r=>rfl
end
noncomputable def tgN:Ur->List Str
 |.Name x _=>[x]
 |.Tuple [.Name x _] _ _=>[x]
 |.Tuple [.Name x _,.Name y _] _ _=>[x,y]
 |.Tuple [.Name x _,.Name y _,.Name z _] _ _=>[x,y,z]
 |.Tuple [.Name x _,.Name y _,.Name z _,.Name u _] _ _=>[x,y,z,u]
 |_=>[]
noncomputable def adN(vs:List Str):List Str->List Str
 |[]=>vs
 |x::r=>adN (if vs.elem x then vs else vs++[x]) r
noncomputable def V8(vs:List Str):List Comprehension->List Str
 |[]=>vs
 |⟨tg,_,_,_⟩::r=>V8 (adN vs (tgN tg)) r
noncomputable def dotN(x:Str):Str:=("." : Str)++x
noncomputable def blN(N:List Str)(gs:List Comprehension):List Str:=N.map (λx=>if(V8 [] gs).elem x then dotN x else x)++V8 [] gs
noncomputable def glN(sc:Scope):List Str:=sc.names.filterMap λy=>match y.2 with | .globalImplicit=>some y.1|_=>none
abbrev NmF(s:Stmt)(N:List Str):Prop:=FnNm (ZL s) N (glN (ZL s))
theorem mq{α:Type}{l:List α}{x:α}(n:Nat)(h:l[n]?=some x):x∈l:=Qo h
section
variable{sc:Scope}{N gl:List Str}{x:Str}
theorem gA(H:FnNm sc N gl)(h:gl.elem x=true):sc.names.lookup x=some .globalImplicit:=H.gl x (by simpa using h)
end
section
variable{X:Cx}{B G0:Hp}{KX:XW}{e e1 e2 o a b c i:Ur}{gl:List Str}{pos p2:Pos}{x:Str}{j:Nat}
theorem GF(H:FnNm X.env.scope X.N gl)(hi:X.N[j]?=some x:=by rfl)(hf:X.fn x=true∨X.env.scope.names.lookup x=some .local:=by first|exact .inl rfl|exact .inr rfl|assumption):PG X (.Name x pos) (tG X.K B G0 (gN j)):=X5 (XA H.nd hi (lq H j hi) hf)
theorem Fq{N':List Str}{scope:Scope}{cl:List (Str×Up)}{C:Up}{s₀:Um}{H₀:Hp}{ex:List Up}(hN:N'.Nodup:=by decide +kernel)(hi:N'[j]?=some x:=by rfl)(hl:scope.names.lookup x=some .local:=by rfl):PG (X.blk N' scope cl C s₀ H₀ ex) (.Name x pos) (tG X.K B G0 (gN j)):=X5 (XA hN hi (Of hl) (.inr (P4 hl)))
theorem aSet{f:M D}(H:FnNm X.env.scope X.N gl)(he:PE X e (tD X.K B G0 f))(hi:X.N[j]?=some x:=by rfl)(hs:swapsWith e (some (.Name x p2)) pos.line X.env=pure false:=by rfl)
  (hf:X.fn x=true∨X.env.scope.names.lookup x=some .local:=by first|exact .inl rfl|exact .inr rfl|assumption):PS X (.Assign [.Name x p2] e pos) (tS X.K B G0 KX (U3 j f)):=EI H.nd hi (lq H j hi) he hs hf
theorem GE{f:M (List D)}(H:FnNm X.env.scope X.N gl)(he:PE X e (tL X.K B G0 f))(hi:X.N[j]?=some x:=by rfl)(hs:swapsWith e (some (.Name x p2)) pos.line X.env=pure false:=by rfl)
  (hf:X.fn x=true∨X.env.scope.names.lookup x=some .local:=by first|exact .inl rfl|exact .inr rfl|assumption):PS X (.Assign [.Name x p2] e pos) (tS X.K B G0 KX (K8 j f)):=M2 H.nd hi (lq H j hi) he hs hf
theorem aAug{op:Operator}{p:Int->Int->Option D}{f:M D}{pos':Pos}(H:FnNm X.env.scope X.N gl)(ho:IpD X op p)(he:PE X e (tD X.K B G0 f))(hi:X.N[j]?=some x:=by rfl)(hf:X.fn x=true∨X.env.scope.names.lookup x=some .local:=by first|exact .inl rfl|exact .inr rfl|assumption):PS X (.AugAssign (.Name x pos') op e pos) (tS X.K B G0 KX (Xj p j f)):=EX H.nd hi (lq H j hi) ho he hf
theorem GD{l:Bool}{tg elt iter:Ur}{ifs:List Ur}{gs:List Comprehension}{scope:Scope}{f:M (List D)}{s:D->UH->Option UH}{t:M Bool}{rd:RdB}{F:M (List D)}{k:Nat}{SC:Scope}{N1:List Str}(H:FnNm SC N1 gl)(le:∀Z es Z',F Z=.ok es Z'->dCG l f k s t rd Z=.ok es Z')(hc:X.calm=true)
  (hi:PI X tg iter (iD X.K B G0 f)) (hblk:Yk X (blN N1 (⟨tg,iter,ifs,0⟩::gs)) scope (.ListComp elt (⟨tg,iter,ifs,0⟩::gs) scope pos) tg ifs s t rd) (hb:Vu Sy SC scope N1 (blN N1 (⟨tg,iter,ifs,0⟩::gs)) k=true) (h1:X.env.scope=SC:=by rfl) (h2:X.N=N1:=by rfl) (hs:∀x,UK iter X.env x=pure x:=by intro _;rfl) :
  PE X (.ListComp elt (⟨tg,iter,ifs,0⟩::gs) scope pos) (tL X.K B G0 F):=F2 _ _ _ k le hc hi hblk h1 h2 hb hs
theorem GC{l:Bool}{y:Str}{py spos:Pos}{tg elt iter:Ur}{ifs:List Ur}{gs:List Comprehension}{scope:Scope}{f:M (List D)}{s:D->UH->Option UH}{t:M Bool}{rd:RdB}{F:M (List D)}{k:Nat}{SC:Scope}{N1:List Str}(H:FnNm SC N1 gl)(le:∀Z es Z',F Z=.ok es Z'->dCG l f k s t rd Z=.ok es Z')(hc:X.calm=true)
  (hi:PI X tg iter (iD X.K B G0 f)) (hblk:Yk X (blN N1 (⟨tg,iter,ifs,0⟩::gs)) scope (.ListComp elt (⟨tg,iter,ifs,0⟩::gs) scope pos) tg ifs s t rd) (hb:Vu Sy SC scope N1 (blN N1 (⟨tg,iter,ifs,0⟩::gs)) k=true) (hj:N1[j]?=some y:=by rfl) (hy:SC.names.lookup y=some .local:=by rfl) (h1:X.env.scope=SC:=by rfl) (h2:X.N=N1:=by rfl) (hs:∀x,UK iter X.env x=pure x:=by intro _;rfl)
  (hsw:swapsWith (.ListComp elt (⟨tg,iter,ifs,0⟩::gs) scope pos) (some (.Name y py)) spos.line X.env=pure true:=by rfl) :
  PS X (.Assign [.Name y py] (.ListComp elt (⟨tg,iter,ifs,0⟩::gs) scope pos) spos) (tS X.K B G0 KX (K8 j F)):=sD_1 _ _ _ k le (h2 ▸ H.nd) (h2 ▸ hj) (h1 ▸ hy) hc hi hblk h1 h2 hb hs hsw
end
end DL
namespace W
open PySem PySem.Spec L2 DL
open PyProof.Rows hiding St
noncomputable def top(i:Nat):Stmt:=PySem.Challenge.pw_wishdeal_k44_whole_bettered_until_best.main.body.getD i (.Pass ⟨0,0,0,0⟩)
abbrev GG(s:Stmt)(x:Str):Prop:=(ZL s).names.lookup x=some NameKind.globalImplicit
abbrev VV(s:Stmt)(x:Str):Prop:=L2.Vis (ZL s) x
abbrev LL(s:Stmt)(x:Str):Prop:=L2.Loc (ZL s) x
theorem vk{s:Stmt}{x:Str}(h:(ZL s).names.lookup x=some .local∨(ZL s).names.lookup x=some .cell∨(ZL s).names.lookup x=some .free):VV s x:=h
theorem lk{s:Stmt}{x:Str}(h:(ZL s).names.lookup x=some .local∨(ZL s).names.lookup x=some .cell):LL s x:=h
structure Txt(K:Frag)(mg:Str->Option Ul):Prop where
 b_all:mg "all" = none
 b_bool:mg "bool" = none
 b_enumerate:mg "enumerate" = none
 b_int:mg "int" = none
 b_isinstance:mg "isinstance" = none
 b_len:mg "len" = none
 b_list:mg "list" = none
 b_max:mg "max" = none
 b_min:mg "min" = none
 b_range:mg "range" = none
 b_set:mg "set" = none
 b_sorted:mg "sorted" = none
 b_str:mg "str" = none
 b_sum:mg "sum" = none
 b_tuple:mg "tuple" = none
 b_zip:mg "zip" = none
 c_MOST_ASKERS:∃t,mg "MOST_ASKERS" = some (Value.int 7 t)
 c_MOST_COPIES:∃t,mg "MOST_COPIES" = some (Value.int 7 t)
 c_MOST_RANKS:∃t,mg "MOST_RANKS" = some (Value.int 5 t)
 c_MOST_THINGS:∃t,mg "MOST_THINGS" = some (Value.int 6 t)
 c_ORDERS:∃ad o its n,mg "ORDERS" = some (.ref ad)/\K.lookup ad=some o/\o.cls=.type "tuple" /\ o.data=.seq its n/\its.size<=Us/\Vals ((["firsts", "full", "lasts"]:List Str).map V.str) its.toList
noncomputable abbrev Sbz:Stmt:=top 70
noncomputable abbrev N_bz:List Str:=["_law_worths_here", "_law_dealing", "_law_pairs"]
theorem Hbz:NmF Sbz N_bz:=KG (by decide +kernel)
noncomputable def Tg:SM:=
 UQ (K8 2 (Zt (YO (UM (UB 1) (UI))) 2 (gT 2 (gNC (gN 3) (gNC (gN 4) (gN0)))) (UZ (λd=>!isNon d) (UB 4)) (Kw (UM (UB 3) (UM (UB 4) (UI))))))
 (UY (K1 Vi (UM (UZ Uy (Zt (KQ (UB 2)) 1 (gN 3) (UO true) (UN So (UB 0) (UB 3)))) (UI))))
noncomputable def Yz:List D->Option D:=U6 N_bz Tg
noncomputable abbrev Scb:Stmt:=top 72
noncomputable abbrev N_cb:List Str:=["_law_wishes_here", "_law_paper"]
theorem Hcb:NmF Scb N_cb:=KG (by decide +kernel)
noncomputable def Te:SM:=
 UY (UN U1 (K1 Vi (UM (UV 1 (UO (.int 1))) (UI))) (K1 Vi (UM (UZ Uy (Zt (WE (UM (UV 0 (UO (.int 0))) (UM (UV 1 (UO (.int 2))) (UI)))) 2 (gT 2 (gNC (gN 2) (gNC (gN 3) (gN0)))) (UO true) (UN Ki (UB 2) (UB 3)))) (UI))))
noncomputable def WL:List D->Option D:=U6 N_cb Te
noncomputable abbrev Sbu:Stmt:=top 65
noncomputable abbrev N_bu:List Str:=["_law_thing"]
theorem Hbu:NmF Sbu N_bu:=KG (by decide +kernel)
noncomputable def Wy:SM:=
 UY (VH (UZ (λd=>.bool (Ku d "int")) (UB 0)) (Rk (UZ (λd=>.bool (Ku d "bool")) (UB 0))))
noncomputable def ZI:List D->Option D:=U6 N_bu Wy
noncomputable abbrev Sbq:Stmt:=top 61
noncomputable abbrev N_bq:List Str:=["_law_wishes_here", "_law_asker"]
theorem Hbq:NmF Sbq N_bq:=KG (by decide +kernel)
noncomputable def Tp:SM:=
 UY (K1 VJ (UM (K1 Su (UM (UN oIx (UV 0 (UO (.int 1))) (UB 1)) (UM (KD (UI)) (UI)))) (UI)))
noncomputable def Yl:List D->Option D:=U6 N_bq Tp
noncomputable abbrev Sbx:Stmt:=top 68
noncomputable abbrev N_bx:List Str:=["_law_wishes_here", "_law_thing", "_law_asker", "_law_one"]
theorem Hbx:NmF Sbx N_bx:=KG (by decide +kernel)
noncomputable def Mw:SM:=
 UQ (sIf (KW (UZ (λd=>!isNon d) (UB 3)) (mOr (Kt (Zg (UW 1 ZI (UM (UB 3) (UI))))) (K6 Yg 3 (UW 2 Yl (UM (UB 0) (UM (UB 2) (UI)))))))
 (UY (UO (.bool false)))
 (sNx))
 (sIf (KW (UZ (λd=>!isNon d) (UB 3)) (UN (oIB λi j=>decide (j<i)) (Vs (UB 1) (UM (UB 3) (UI))) (UN oIx (UV 0 (UO (.int 0))) (UB 3))))
 (UY (UO (.bool false)))
 (sNx))
noncomputable def Ti:SM:=
 UQ (sIf (mOr (Kt (Zg (UZ (λd=>.bool (Ku d "list")) (UB 1)))) (UN oNe (K7 1) (K1 U8 (UM (UV 0 (UO (.int 1))) (UI)))))
 (UY (UO (.bool false)))
 (sNx))
 (UQ (Kq (YO (UM (UB 1) (UI))) (gT 2 (gNC (gN 2) (gNC (gN 3) (gN0)))) Mw)
 (UY (UO (.bool true))))
noncomputable def WO:List D->Option D:=U6 N_bx Ti
noncomputable abbrev Sbv:Stmt:=top 66
noncomputable abbrev N_bv:List Str:=["_law_thing", "_law_many"]
theorem Hbv:NmF Sbv N_bv:=KG (by decide +kernel)
noncomputable def Tk:SM:=
 UQ (sIf (mOr (Kt (Zg (UZ (λd=>.bool (Ku d "list")) (UB 0)))) (UN oNe (K7 0) (UB 1)))
 (UY (UO (.bool false)))
 (sNx))
 (UY (K1 Yh (UM (UZ Uy (Zt (KQ (UB 0)) 1 (gN 2) (UO true) (UW 1 ZI (UM (UB 2) (UI))))) (UI))))
noncomputable def XV:List D->Option D:=U6 N_bv Tk
noncomputable abbrev Sca:Stmt:=top 71
noncomputable abbrev N_ca:List Str:=["_law_wishes_here", "_law_worths_here", "_law_thing", "_law_asker", "_law_one"]
theorem Hca:NmF Sca N_ca:=KG (by decide +kernel)
noncomputable def Mv:SM:=
 sIf (UN (oIB λi j=>decide (i<j)) (UN U1 (UN oIx (UV 2 (UO (.int 1))) (UB 3)) (UN oIx (UV 2 (UO (.int 2))) (UB 4))) (UN Ki (UV 2 (UO (.int 0))) (UN So (UB 1) (Kw (UM (UB 3) (UM (UB 4) (UI)))))))
 (UY (UO (.bool false)))
 (sNx)
noncomputable def Tf:SM:=
 UQ (sIf (mOr (Kt (Zg (UZ (λd=>.bool (Ku d "tuple")) (UB 2)))) (UN oNe (K7 2) (UO (.int 3))))
 (UY (UO (.bool false)))
 (sNx))
 (UQ (sIf (mOr (Kt (Zg (UW 1 ZI (UM (UV 2 (UO (.int 0))) (UI))))) (UN (oIB λi j=>decide (i<j)) (UV 2 (UO (.int 0))) (UO (.int 1))))
 (UY (UO (.bool false)))
 (sNx))
 (UQ (sIf (mOr (Kt (Zg (UW 2 XV (UM (UV 2 (UO (.int 1))) (UM (K1 U8 (UM (UV 0 (UO (.int 1))) (UI))) (UI)))))) (Kt (Zg (UW 2 XV (UM (UV 2 (UO (.int 2))) (UM (K1 U8 (UM (UV 0 (UO (.int 0))) (UI))) (UI)))))))
 (UY (UO (.bool false)))
 (sNx))
 (UQ (sIf (UN (oIB λi j=>decide (i<j)) (K1 Sn (UM (UN U1 (UV 2 (UO (.int 1))) (UV 2 (UO (.int 2)))) (UI))) (UO (.int 0)))
 (UY (UO (.bool false)))
 (sNx))
 (UQ (Kq (RQ (UB 1)) (gT 2 (gNC (gN 3) (gNC (gN 4) (gN0)))) Mv)
 (UY (UO (.bool true)))))))
noncomputable def WM:List D->Option D:=U6 N_ca Tf
noncomputable abbrev Scf:Stmt:=top 76
noncomputable abbrev N_cf:List Str:=["_law_wishes_here", "_law_worths_here", "_law_dealing", "_law_paper"]
theorem Hcf:NmF Scf N_cf:=KG (by decide +kernel)
noncomputable def Ta:SM:=
 UQ (sIf (mOr (Kt (Zg (UW 2 WO (UM (UB 0) (UM (UB 2) (UI)))))) (Kt (Zg (UW 3 WM (UM (UB 0) (UM (UB 1) (UM (UB 3) (UI))))))))
 (UY (UO (.bool false)))
 (sNx))
 (UQ (sIf (UN oNe (UV 3 (UO (.int 0))) (UO (.int 1)))
 (UY (UO (.bool false)))
 (sNx))
 (UY (UZ Uz (UN oEq (UW 2 WL (UM (UB 0) (UM (UB 3) (UI)))) (UW 2 Yz (UM (UB 1) (UM (UB 2) (UI))))))))
noncomputable def WH:List D->Option D:=U6 N_cf Ta
noncomputable abbrev Sce:Stmt:=top 75
noncomputable abbrev N_ce:List Str:=["_law_dealing", "_law_way", "_law_found", "_law_asker", "_law_thing"]
theorem Hce:NmF Sce N_ce:=KG (by decide +kernel)
noncomputable def Mu:SM:=
 Wf 2 (UB 3) (UB 4)
noncomputable def Tb:SM:=
 UQ (K8 2 (Vt 0))
 (UQ (Kq (KQ (UB 1)) (gT 2 (gNC (gN 3) (gNC (gN 4) (gN0)))) Mu)
 (UY (UB 2)))
noncomputable def WI:List D->Option D:=U6 N_ce Tb
noncomputable abbrev Scc:Stmt:=top 73
noncomputable abbrev N_cc:List Str:=["_law_wishes_here", "_law_dealing"]
theorem Hcc:NmF Scc N_cc:=KG (by decide +kernel)
noncomputable def Td:SM:=
 UY (UZ Uy (Zt (YT (UM (K1 U8 (UM (UV 0 (UO (.int 0))) (UI))) (UI))) 1 (gN 2) (UO true) (UN KP (UN oIx (UV 0 (UO (.int 0))) (UB 2)) (Vs (UB 1) (UM (UB 2) (UI))))))
noncomputable def WK:List D->Option D:=U6 N_cc Td
noncomputable abbrev Scd:Stmt:=top 74
noncomputable abbrev N_cd:List Str:=["_law_wishes_here", "_law_dealing", "_law_way", "_law_k", "_law_step", "_law_asker", "_law_thing", "_law_last"]
theorem Hcd:NmF Scd N_cd:=KG (by decide +kernel)
noncomputable def Mt:SM:=
 UQ (sIf (mOr (Kt (Zg (UZ (λd=>.bool (Ku d "tuple")) (UB 4)))) (mOr (UN oNe (K7 4) (UO (.int 2))) (Kt (Zg (UW 1 ZI (UM (UV 4 (UO (.int 0))) (UI)))))))
 (UY (UO (.bool false)))
 (sNx))
 (UQ (ZD (UB 4) (gT 2 (gNC (gN 5) (gNC (gN 6) (gN0)))))
 (UQ (sIf (mOr (K6 (oIB λi j=>decide (i<j)) 5 (UO (.int 0))) (mOr (K6 (oIB λi j=>decide (j<=i)) 5 (K7 1)) (K6 oIn 5 (UZ Uy (Zt (KQ (ZH (UB 2) (UO none) (Kb (UB 3) λx=>U9 (Ys x)))) 1 (gN 8) (UO true) (UV 8 (UO (.int 0))))))))
 (UY (UO (.bool false)))
 (sNx))
 (UQ (sIf (mOr (KW (UZ isNon (UB 6)) (UN (oIB λi j=>decide (i<j)) (UN U1 (UB 3) (UO (.int 1))) (K7 2))) (K6 oEq 6 (UV 1 (UB 5))))
 (UY (UO (.bool false)))
 (sNx))
 (UQ (sIf (KW (UZ (λd=>!isNon d) (UB 6)) (Kt (Zg (UW 1 ZI (UM (UB 6) (UI))))))
 (UY (UO (.bool false)))
 (sNx))
 (UQ (sIf (KW (UZ (λd=>!isNon d) (UB 6)) (K6 Yg 6 (UW 2 Yl (UM (UB 0) (UM (UB 5) (UI))))))
 (UY (UO (.bool false)))
 (sNx))
 (sIf (KW (K6 (oIB λi j=>decide (j<i)) 3 (UO (.int 0))) (UN oNe (UV 1 (UB 5)) (UN oIx (UV 2 (UN KP (UB 3) (UO (.int 1)))) (UO (.int 1)))))
 (UY (UO (.bool false)))
 (sNx)))))))
noncomputable def Tc:SM:=
 UQ (sIf (mOr (Kt (Zg (UZ (λd=>.bool (Ku d "list")) (UB 2)))) (K6 V4 2 (KD (UI))))
 (UY (UO (.bool false)))
 (sNx))
 (UQ (Kq (YO (UM (UB 2) (UI))) (gT 2 (gNC (gN 3) (gNC (gN 4) (gN0)))) Mt)
 (UQ (U3 7 (UN oIx (UV 2 (ZX (UO (.int 1)))) (UO (.int 1))))
 (UQ (sIf (mOr (UZ isNon (UB 7)) (K6 oEq 7 (UV 1 (UN oIx (UV 2 (UO (.int 0))) (UO (.int 0))))))
 (UY (UO (.bool true)))
 (sNx))
 (UY (UZ Uz (UN (oIB λi j=>decide (j<i)) (UN oIx (UW 2 WK (UM (UB 0) (UM (UB 1) (UI)))) (UB 7)) (UO (.int 0))))))))
noncomputable def WJ:List D->Option D:=U6 N_cd Tc
noncomputable abbrev Sbh:Stmt:=top 50
noncomputable abbrev N_bh:List Str:=["askers", "worths", "prices", "asks", "asker", "thing", "worth"]
theorem Hbh:NmF Sbh N_bh:=KG (by decide +kernel)
noncomputable def Ms:SM:=
 Wf 3 (UB 4) (K1 Ri (UM (UV 3 (UB 4)) (UM (UN KP (UB 6) (UV 2 (UB 5))) (UI))))
noncomputable def Tx:SM:=
 UQ (K8 3 (Sq (KD (UM (UO (.int 0)) (UI))) (UB 0)))
 (UQ (Kq (KQ (UB 1)) (gT 3 (gNC (gN 4) (gNC (gN 5) (gNC (gN 6) (gN0))))) Ms)
 (UY (UB 3)))
noncomputable def WV:List D->Option D:=U6 N_bh Tx
noncomputable abbrev Saw:Stmt:=top 39
noncomputable abbrev N_aw:List Str:=["nothing", "got"]
theorem Haw:NmF Saw N_aw:=KG (by decide +kernel)
noncomputable def TN:SM:=
 UY (mIf (UZ isNon (UB 1)) (UB 0) (UB 1))
noncomputable def XZ:List D->Option D:=U6 N_aw TN
noncomputable abbrev Sax:Stmt:=top 40
noncomputable abbrev Sj:List Str:=["nothing", "worths", "dealing", "had", "asker", "thing", "worth", "told"]
theorem Hax:FnNm (ZL Sax) Sj ["place_of", "enumerate", "len"]:=KG (by decide +kernel)
noncomputable def Mr:SM:=
 sIf (UN oNe (UV 2 (UB 4)) (UB 5))
 (ZE 7 (Kw (UM (UW 2 XZ (UM (UB 0) (UM (UV 2 (UB 4)) (UI)))) (UM (UB 5) (UM (UN KP (UB 6) (UV 3 (UB 4))) (UM (UB 4) (UI)))))))
 (sNx)
noncomputable def Mq:SM:=
 sIf (UN oEq (UV 2 (UB 4)) (UB 5))
 (Wf 3 (UB 4) (UB 6))
 (sNx)
noncomputable def TM:SM:=
 UQ (K8 3 (Sq (KD (UM (UO (.int 0)) (UI))) (K7 2)))
 (UQ (Kq (KQ (UB 1)) (gT 3 (gNC (gN 4) (gNC (gN 5) (gNC (gN 6) (gN0))))) Mq)
 (UQ (K8 7 (X8 (Zt (YO (UM (UB 2) (UI))) 2 (gT 2 (gNC (gN 8) (gNC (gN 9) (gN0)))) (UZ (λd=>!isNon d) (UB 9)) (Kw (UM (UB 9) (UM (UB 0) (UM (ZX (UV 3 (UB 8))) (UM (UB 8) (UI)))))))))
 (UQ (Kq (KQ (UB 1)) (gT 3 (gNC (gN 4) (gNC (gN 5) (gNC (gN 6) (gN0))))) Mr)
 (UY (UB 7)))))
noncomputable def W1:List D->Option D:=U6 Sj TM
noncomputable abbrev Saa:Stmt:=top 1
noncomputable abbrev N_aa:List Str:=["thing"]
theorem Haa:NmF Saa N_aa:=KG (by decide +kernel)
noncomputable def Sf:SM:=
 UY (VH (UZ (λd=>.bool (Ku d "int")) (UB 0)) (Rk (UZ (λd=>.bool (Ku d "bool")) (UB 0))))
noncomputable def Vh:List D->Option D:=U6 N_aa Sf
noncomputable abbrev Sab:Stmt:=top 2
noncomputable abbrev N_ab:List Str:=["thing", "many"]
theorem Hab:NmF Sab N_ab:=KG (by decide +kernel)
noncomputable def Se:SM:=
 UY (VH (UW 1 Vh (UM (UB 0) (UI))) (UZ Uz (VP (oIB λi j=>decide (i<=j)) (oIB λi j=>decide (i<j)) (UO (.int 0)) (UB 0) (UB 1))))
noncomputable def ZJ:List D->Option D:=U6 N_ab Se
noncomputable abbrev Sad:Stmt:=top 13
noncomputable abbrev N_ad:List Str:=["thing", "things"]
theorem Had:NmF Sad N_ad:=KG (by decide +kernel)
noncomputable def Sc:SM:=
 UQ (sIf (mOr (Kt (Zg (UZ (λd=>.bool (Ku d "list")) (UB 0)))) (UN oEq (K7 0) (UO (.int 0))))
 (UY (UO (.bool false)))
 (sNx))
 (UY (K1 Yh (UM (UZ Uy (Zt (KQ (UB 0)) 1 (gN 2) (UO true) (UW 2 ZJ (UM (UB 2) (UM (UB 1) (UI)))))) (UI))))
noncomputable def X1:List D->Option D:=U6 N_ad Sc
noncomputable abbrev Sae:Stmt:=top 14
noncomputable abbrev N_ae:List Str:=["thing", "things", "wished"]
theorem Hae:NmF Sae N_ae:=KG (by decide +kernel)
noncomputable def Sb:SM:=
 UQ (sIf (mOr (Kt (Zg (UZ (λd=>.bool (Ku d "list")) (UB 0)))) (UN (oIB λi j=>decide (j<i)) (K7 0) (UO (.int 5))))
 (UY (UO (.bool false)))
 (sNx))
 (UQ (sIf (Kt (Zg (K1 Yh (UM (UZ Uy (Zt (KQ (UB 0)) 1 (gN 3) (UO true) (UW 2 X1 (UM (UB 3) (UM (UB 1) (UI)))))) (UI)))))
 (UY (UO (.bool false)))
 (sNx))
 (UQ (K8 2 (Rs (KQ (UB 0)) 2 (gN 3) (UO true) (KQ (UB 3)) (gN 4) (UO true) (UB 4)))
 (UY (UZ Uz (UN oEq (K1 Wn (UM (UB 2) (UI))) (K7 2))))))
noncomputable def Vf:List D->Option D:=U6 N_ae Sb
noncomputable abbrev Saf:Stmt:=top 15
noncomputable abbrev N_af:List Str:=["lists", "things", "asker", "ranks"]
theorem Haf:NmF Saf N_af:=KG (by decide +kernel)
noncomputable def Mp:SM:=
 sIf (Kt (Zg (UW 2 Vf (UM (UB 3) (UM (UB 1) (UI))))))
 (X7)
 (sNx)
noncomputable def Sa:SM:=
 UQ (sIf (mOr (Kt (Zg (UZ (λd=>.bool (Ku d "list")) (UB 0)))) (Kt (VP (oIB λi j=>decide (i<=j)) (oIB λi j=>decide (i<=j)) (UO (.int 1)) (K7 0) (UO (.int 7)))))
 (X7)
 (sNx))
 (Kq (YO (UM (UB 0) (UI))) (gT 2 (gNC (gN 2) (gNC (gN 3) (gN0)))) Mp)
noncomputable def Ve:List D->Option D:=U6 N_af Sa
noncomputable abbrev Sac:Stmt:=top 12
noncomputable abbrev N_ac:List Str:=["copies", "number", "many"]
theorem Hac:NmF Sac N_ac:=KG (by decide +kernel)
noncomputable def MV:SM:=
 sIf (Kt (Zg (UW 2 ZJ (UM (UB 2) (UM (UN U1 (UO (.int 7)) (UO (.int 1))) (UI))))))
 (X7)
 (sNx)
noncomputable def Sd:SM:=
 UQ (sIf (mOr (Kt (Zg (UZ (λd=>.bool (Ku d "list")) (UB 0)))) (Kt (VP (oIB λi j=>decide (i<=j)) (oIB λi j=>decide (i<=j)) (UO (.int 1)) (K7 0) (UO (.int 6)))))
 (X7)
 (sNx))
 (Kq (YO (UM (UB 0) (UI))) (gT 2 (gNC (gN 1) (gNC (gN 2) (gN0)))) MV)
noncomputable def Vg:List D->Option D:=U6 N_ac Sd
noncomputable abbrev Sag:Stmt:=top 16
noncomputable abbrev N_ag:List Str:=["thing", "copies", "lists"]
theorem Hag:NmF Sag N_ag:=KG (by decide +kernel)
noncomputable def T9:SM:=
 UQ (sIf (mOr (Kt (Zg (UZ (λd=>.bool (Ku d "tuple")) (UB 0)))) (UN oNe (K7 0) (UO (.int 2))))
 (X7)
 (sNx))
 (UQ (ZD (UB 0) (gT 2 (gNC (gN 1) (gNC (gN 2) (gN0)))))
 (UQ (XB (UW 1 Vg (UM (UB 1) (UI))))
 (XB (UW 2 Ve (UM (UB 2) (UM (K7 1) (UI)))))))
noncomputable def Ym:List D->Option D:=U6 N_ag T9
noncomputable abbrev Sak:Stmt:=top 21
noncomputable abbrev N_ak:List Str:=["wishes", "dealing"]
theorem Hak:NmF Sak N_ak:=KG (by decide +kernel)
noncomputable def T5:SM:=
 UQ (XB (UW 1 Ym (UM (UB 0) (UI))))
 (UY (UZ Uy (Zt (YO (UM (UV 0 (UO (.int 0))) (UI))) 2 (gT 2 (gNC (gN 2) (gNC (gN 3) (gN0)))) (UO true) (UN KP (UB 3) (Vs (UB 1) (UM (UB 2) (UI)))))))
noncomputable def Va:List D->Option D:=U6 N_ak T5
noncomputable abbrev Say:Stmt:=top 41
noncomputable abbrev N_ay:List Str:=["wishes", "dealing", "nothing", "left", "to_nothing"]
theorem Hay:NmF Say N_ay:=KG (by decide +kernel)
noncomputable def TL:SM:=
 UQ (U3 2 (K1 U8 (UM (UV 0 (UO (.int 0))) (UI))))
 (UQ (U3 3 (UW 2 Va (UM (UB 0) (UM (UB 1) (UI)))))
 (UQ (K8 4 (Zt (YO (UM (UB 3) (UI))) 2 (gT 2 (gNC (gN 5) (gNC (gN 6) (gN0)))) (K6 (oIB λi j=>decide (j<i)) 6 (UO (.int 0))) (Kw (UM (UB 5) (UM (UB 2) (UM (UO (.int 0)) (UM (UO .none) (UI))))))))
 (UY (UN U1 (UB 4) (UZ Uy (Zt (YT (UM (UB 2) (UI))) 1 (gN 5) (UO true) (Kw (UM (UB 2) (UM (UB 5) (UM (UO (.int 0)) (UM (UO .none) (UI))))))))))))
noncomputable def W0:List D->Option D:=U6 N_ay TL
noncomputable abbrev Saz:Stmt:=top 42
noncomputable abbrev N_az:List Str:=["wishes", "worths", "dealing"]
theorem Haz:NmF Saz N_az:=KG (by decide +kernel)
noncomputable def TK:SM:=
 UY (UN U1 (UW 3 W1 (UM (K1 U8 (UM (UV 0 (UO (.int 0))) (UI))) (UM (UB 1) (UM (UB 2) (UI))))) (UW 2 W0 (UM (UB 0) (UM (UB 2) (UI)))))
noncomputable def Y6:List D->Option D:=U6 N_az TK
noncomputable abbrev Sba:Stmt:=top 43
noncomputable abbrev N_ba:List Str:=["walks", "steps", "told", "step", "ahead", "behind", "gain", "asker", "gained", "walked"]
theorem Hba:NmF Sba N_ba:=KG (by decide +kernel)
noncomputable def MU:SM:=
 UQ (ZD (UB 3) (gT 4 (gNC (gN 4) (gNC (gN 5) (gNC (gN 6) (gNC (gN 7) (gN0)))))))
 (UQ (ZD (UV 0 (UB 4)) (gT 2 (gNC (gN 8) (gNC (gN 9) (gN0)))))
 (sIf (UN (oIB λi j=>decide (j<i)) (UN U1 (UB 8) (UB 6)) (UN oIx (UV 2 (UB 5)) (UO (.int 0))))
 (Wf 2 (UB 5) (Kw (UM (UN U1 (UB 8) (UB 6)) (UM (UN U1 (UB 9) (KD (UM (UB 3) (UI)))) (UI)))))
 (sNx)))
noncomputable def TJ:SM:=
 UQ (K8 2 (Vt 0))
 (UQ (Kq (KQ (UB 1)) (gN 3) MU)
 (UY (UB 2)))
noncomputable def WZ:List D->Option D:=U6 N_ba TJ
noncomputable abbrev Sbb:Stmt:=top 44
noncomputable abbrev N_bb:List Str:=["places", "steps", "told", "turn"]
theorem Hbb:NmF Sbb N_bb:=KG (by decide +kernel)
noncomputable def MT:SM:=
 U3 2 (UW 2 WZ (UM (UB 2) (UM (UB 1) (UI))))
noncomputable def TH:SM:=
 UQ (U3 2 (UN Ki (KD (UM (Kw (UM (UO (.int 0)) (UM (KD (UI)) (UI)))) (UI))) (UB 0)))
 (UQ (Kq (YT (UM (UB 0) (UI))) (gN 3) MT)
 (UY (UB 2)))
noncomputable def Xr:List D->Option D:=U6 N_bb TH
noncomputable abbrev Sbg:Stmt:=top 49
noncomputable abbrev N_bg:List Str:=["wishes", "worths", "dealing", "nothing", "walks"]
theorem Hbg:NmF Sbg N_bg:=KG (by decide +kernel)
noncomputable def Tz:SM:=
 UQ (U3 3 (K1 U8 (UM (UV 0 (UO (.int 0))) (UI))))
 (UQ (U3 4 (UW 2 Xr (UM (UN U1 (UB 3) (UO (.int 1))) (UM (UW 3 Y6 (UM (UB 0) (UM (UB 1) (UM (UB 2) (UI))))) (UI)))))
 (UY (UZ Uy (Zt (KQ (ZH (UB 4) (UO none) (Kb (UB 3) λx=>U9 (Ys x)))) 2 (gT 2 (gNC (gN 5) (gNC (gN 6) (gN0)))) (UO true) (UB 5)))))
noncomputable def WW:List D->Option D:=U6 N_bg Tz
noncomputable abbrev Sbi:Stmt:=top 51
noncomputable abbrev N_bi:List Str:=["wishes", "worths", "dealing", "prices"]
theorem Hbi:NmF Sbi N_bi:=KG (by decide +kernel)
noncomputable def Tw:SM:=
 UQ (U3 3 (UW 3 WW (UM (UB 0) (UM (UB 1) (UM (UB 2) (UI))))))
 (UY (Kw (UM (UO (.int 1)) (UM (UW 3 WV (UM (K1 U8 (UM (UV 0 (UO (.int 1))) (UI))) (UM (UB 1) (UM (UB 3) (UI))))) (UM (UB 3) (UI))))))
noncomputable def Xq:List D->Option D:=U6 N_bi Tw
noncomputable abbrev Sbc:Stmt:=top 45
noncomputable abbrev N_bc:List Str:=["walk", "end", "step", "begin"]
theorem Hbc:NmF Sbc N_bc:=KG (by decide +kernel)
noncomputable def MS:SM:=
 sIf (UN oEq (UN oIx (UV 0 (UB 3)) (UO (.int 0))) (UV 2 (UO (.int 1))))
 (UY (ZH (UB 0) (Kb (UB 3) λx=>U9 (Ys x)) (Kb (UN U1 (UB 1) (UO (.int 1))) λx=>U9 (Ys x))))
 (sNx)
noncomputable def MR:SM:=
 Kq (YT (UM (UN U1 (UB 1) (UO (.int 1))) (UI))) (gN 3) MS
noncomputable def TF:SM:=
 UQ (Kq (YO (UM (UB 0) (UI))) (gT 2 (gNC (gN 1) (gNC (gN 2) (gN0)))) MR)
 (UY (KD (UI)))
noncomputable def WY:List D->Option D:=U6 N_bc TF
noncomputable abbrev Sbd:Stmt:=top 46
noncomputable abbrev N_bd:List Str:=["nothing", "steps", "begin", "number", "step", "way", "ahead", "behind", "gain", "asker"]
theorem Hbd:NmF Sbd N_bd:=KG (by decide +kernel)
noncomputable def MQ:SM:=
 sIf (UZ (λd=>!isNon d) (UB 9))
 (ZE 5 (Kw (UM (UB 9) (UM (mIf (K6 oEq 7 (UB 0)) (UO .none) (UB 7)) (UI)))))
 (sNx)
noncomputable def MP:SM:=
 sIf (UN oEq (UV 4 (UO (.int 0))) (UB 0))
 (U3 2 (UB 3))
 (sNx)
noncomputable def TD:SM:=
 UQ (U3 2 (UO (.int 0)))
 (UQ (Kq (YO (UM (UB 1) (UI))) (gT 2 (gNC (gN 3) (gNC (gN 4) (gN0)))) MP)
 (UQ (K8 5 (Kb (UI) λxs=>if xs.length<=1000000 then UO xs else λ_=>.bad))
 (UQ (Kq (KQ (UN U1 (ZH (UB 1) (Kb (UB 2) λx=>U9 (Ys x)) (UO none)) (ZH (UB 1) (UO none) (Kb (UB 2) λx=>U9 (Ys x))))) (gT 4 (gNC (gN 6) (gNC (gN 7) (gNC (gN 8) (gNC (gN 9) (gN0)))))) MQ)
 (UY (UB 5)))))
noncomputable def XY:List D->Option D:=U6 N_bd TD
noncomputable abbrev Sbe:Stmt:=top 47
noncomputable abbrev N_be:List Str:=["wishes", "worths", "dealing", "nothing", "gained", "walk"]
theorem Hbe:NmF Sbe N_be:=KG (by decide +kernel)
noncomputable def MN:SM:=
 sIf (UN oEq (K7 5) (UN U1 (UB 3) (UO (.int 1))))
 (UY (UW 2 XY (UM (UB 3) (UM (UW 1 WY (UM (UB 5) (UI))) (UI)))))
 (sNx)
noncomputable def TC:SM:=
 UQ (U3 3 (K1 U8 (UM (UV 0 (UO (.int 0))) (UI))))
 (UQ (Kq (KQ (UW 2 Xr (UM (UN U1 (UB 3) (UO (.int 1))) (UM (UW 3 Y6 (UM (UB 0) (UM (UB 1) (UM (UB 2) (UI))))) (UI))))) (gT 2 (gNC (gN 4) (gNC (gN 5) (gN0)))) MN)
 (UY (KD (UI))))
noncomputable def Y5:List D->Option D:=U6 N_be TC
noncomputable abbrev Saj:Stmt:=top 19
noncomputable abbrev N_aj:List Str:=["wishes"]
theorem Haj:NmF Saj N_aj:=KG (by decide +kernel)
noncomputable def T6:SM:=
 UQ (XB (UW 1 Ym (UM (UB 0) (UI))))
 (UY (K1 VJ (UM (UZ Uy (Rr (YO (UM (UV 0 (UO (.int 1))) (UI))) 4 (gT 2 (gNC (gN 1) (gNC (gN 2) (gN0)))) (UO true) (KQ (UB 2)) (gN 3) (UO true) (KQ (UB 3)) (gN 4) (UO true) (Kw (UM (UB 1) (UM (UB 4) (UI)))))) (UI))))
noncomputable def Vb:List D->Option D:=U6 N_aj T6
noncomputable abbrev Saq:Stmt:=top 31
noncomputable abbrev N_aq:List Str:=["base", "times", "told", "step"]
theorem Haq:NmF Saq N_aq:=KG (by decide +kernel)
noncomputable def MM:SM:=
 Xj Yi 2 (UB 0)
noncomputable def TX:SM:=
 UQ (U3 2 (UO (.int 1)))
 (UQ (Kq (YT (UM (UB 1) (UI))) (gN 3) MM)
 (UY (UB 2)))
noncomputable def Zp:List D->Option D:=U6 N_aq TX
noncomputable abbrev Sas:Stmt:=top 33
noncomputable abbrev N_as:List Str:=["turns", "base", "asker", "rank", "behind"]
theorem Has:NmF Sas N_as:=KG (by decide +kernel)
noncomputable def TV:SM:=
 UQ (sIf (K6 Yg 2 (UB 0))
 (UY (UO (.int 0)))
 (sNx))
 (UQ (U3 4 (UN KP (UN KP (K7 0) (UO (.int 1))) (R4 (UB 0) (UM (UB 2) (UI)))))
 (UY (UN Ki (UN KP (UB 1) (UB 3)) (UW 2 Zp (UM (UB 1) (UM (UB 4) (UI)))))))
noncomputable def W3:List D->Option D:=U6 N_as TV
noncomputable abbrev Sar:Stmt:=top 32
noncomputable abbrev N_ar:List Str:=["order", "base", "most", "rank"]
theorem Har:NmF Sar N_ar:=KG (by decide +kernel)
noncomputable def TW:SM:=
 UQ (sIf (K6 oEq 0 (UO (.str "firsts")))
 (UY (UW 2 Zp (UM (UB 1) (UM (UN KP (UB 2) (UB 3)) (UI)))))
 (sNx))
 (UQ (sIf (K6 oEq 0 (UO (.str "full")))
 (UY (UN U1 (UW 2 Zp (UM (UB 1) (UM (UB 2) (UI)))) (UW 2 Zp (UM (UB 1) (UM (UN KP (UB 2) (UB 3)) (UI))))))
 (sNx))
 (UY (UN KP (UW 2 Zp (UM (UB 1) (UM (UB 2) (UI)))) (UW 2 Zp (UM (UB 1) (UM (UN KP (UB 3) (UO (.int 1))) (UI)))))))
noncomputable def W4:List D->Option D:=U6 N_ar TW
noncomputable abbrev Sah:Stmt:=top 17
noncomputable abbrev N_ah:List Str:=["ranks", "thing", "number", "rank"]
theorem Hah:NmF Sah N_ah:=KG (by decide +kernel)
noncomputable def ML:SM:=
 sIf (K6 oIn 1 (UB 3))
 (UY (UB 2))
 (sNx)
noncomputable def T8:SM:=
 UQ (Kq (R5 (UM (UB 0) (UI))) (gT 2 (gNC (gN 2) (gNC (gN 3) (gN0)))) ML)
 (UY (UO (.int 0)))
noncomputable def Vd:List D->Option D:=U6 N_ah T8
noncomputable abbrev Sat:Stmt:=top 34
noncomputable abbrev N_at:List Str:=["wishes", "aim", "most", "asker", "thing", "order", "old", "turns", "lists", "rank", "base", "kept", "by_counts"]
theorem Hat:NmF Sat N_at:=KG (by decide +kernel)
noncomputable def TU:SM:=
 UQ (ZD (UB 1) (gT 3 (gNC (gN 5) (gNC (gN 6) (gNC (gN 7) (gN0))))))
 (UQ (U3 8 (UV 0 (UO (.int 1))))
 (UQ (U3 9 (UW 2 Vd (UM (UV 8 (UB 3)) (UM (UB 4) (UI)))))
 (UQ (U3 10 (UN U1 (K7 8) (UO (.int 1))))
 (UQ (U3 11 (mIf (KW (UZ (λd=>!isNon d) (UB 6)) (UN oEq (UV 6 (UB 3)) (UB 4))) (UO (.int 1)) (UO (.int 0))))
 (UQ (U3 12 (UN U1 (UN Ki (UW 4 W4 (UM (UB 5) (UM (UB 10) (UM (UB 2) (UM (UB 9) (UI)))))) (UB 10)) (UB 11)))
 (UY (UN U1 (UN Ki (UB 12) (UW 2 Zp (UM (UN U1 (UB 2) (UO (.int 1))) (UM (K7 7) (UI))))) (UW 4 W3 (UM (UB 7) (UM (UN U1 (UB 2) (UO (.int 1))) (UM (UB 3) (UM (UB 9) (UI)))))))))))))
noncomputable def X0:List D->Option D:=U6 N_at TU
noncomputable abbrev Sai:Stmt:=top 18
noncomputable abbrev N_ai:List Str:=["wishes"]
theorem Hai:NmF Sai N_ai:=KG (by decide +kernel)
noncomputable def T7:SM:=
 UQ (XB (UW 1 Ym (UM (UB 0) (UI))))
 (UY (K1 VG (UM (UZ Uy (Zt (KQ (UV 0 (UO (.int 1)))) 1 (gN 1) (UO true) (K7 1))) (UI))))
noncomputable def Vc:List D->Option D:=U6 N_ai T7
noncomputable abbrev Sao:Stmt:=top 28
noncomputable abbrev N_ao:List Str:=["thing", "askers"]
theorem Hao:NmF Sao N_ao:=KG (by decide +kernel)
noncomputable def TZ:SM:=
 UQ (sIf (mOr (Kt (Zg (UZ (λd=>.bool (Ku d "list")) (UB 0)))) (Kt (Zg (K1 Yh (UM (UZ Uy (Zt (KQ (UB 0)) 1 (gN 2) (UO true) (UW 2 ZJ (UM (UB 2) (UM (UB 1) (UI)))))) (UI))))))
 (UY (UO (.bool false)))
 (sNx))
 (UY (UZ Uz (UN oEq (K1 Wn (UM (UB 0) (UI))) (K7 0))))
noncomputable def W6:List D->Option D:=U6 N_ao TZ
noncomputable abbrev San:Stmt:=top 27
noncomputable abbrev N_an:List Str:=["thing", "askers", "things"]
theorem Han:NmF San N_an:=KG (by decide +kernel)
noncomputable def T2:SM:=
 UQ (sIf (UZ isNon (UB 0))
 (UY (UO (.bool true)))
 (sNx))
 (UQ (sIf (mOr (Kt (Zg (UZ (λd=>.bool (Ku d "list")) (UB 0)))) (UN oNe (K7 0) (UB 1)))
 (UY (UO (.bool false)))
 (sNx))
 (UY (K1 Yh (UM (UZ Uy (Zt (KQ (UB 0)) 1 (gN 3) (UO true) (XT (UZ (λd=>.bool (isNon d)) (UB 3)) (UW 2 ZJ (UM (UB 3) (UM (UB 2) (UI))))))) (UI)))))
noncomputable def W7:List D->Option D:=U6 N_an T2
noncomputable abbrev Sal:Stmt:=top 24
noncomputable abbrev N_al:List Str:=["thing"]
theorem Hal:NmF Sal N_al:=KG (by decide +kernel)
noncomputable def T4:SM:=
 UY (VH (UZ (λd=>.bool (Ku d "str")) (UB 0)) (UZ Uz (K6 oIn 0 (UO (.tuple ((["firsts", "full", "lasts"]:List Str).map UA))))))
noncomputable def W9:List D->Option D:=U6 N_al T4
noncomputable abbrev Sam:Stmt:=top 25
noncomputable abbrev N_am:List Str:=["thing"]
theorem Ham:NmF Sam N_am:=KG (by decide +kernel)
noncomputable def T3:SM:=
 sIf (Kt (Zg (UW 1 W9 (UM (UB 0) (UI)))))
 (X7)
 (sNx)
noncomputable def W8:List D->Option D:=U6 N_am T3
noncomputable abbrev Sap:Stmt:=top 29
noncomputable abbrev N_ap:List Str:=["wishes", "thing", "copies", "lists", "order", "old", "turns"]
theorem Hap:NmF Sap N_ap:=KG (by decide +kernel)
noncomputable def TY:SM:=
 UQ (XB (UW 1 Ym (UM (UB 0) (UI))))
 (UQ (sIf (mOr (Kt (Zg (UZ (λd=>.bool (Ku d "tuple")) (UB 1)))) (UN oNe (K7 1) (UO (.int 3))))
 (X7)
 (sNx))
 (UQ (ZD (UB 0) (gT 2 (gNC (gN 2) (gNC (gN 3) (gN0)))))
 (UQ (ZD (UB 1) (gT 3 (gNC (gN 4) (gNC (gN 5) (gNC (gN 6) (gN0))))))
 (UQ (XB (UW 1 W8 (UM (UB 4) (UI))))
 (UQ (sIf (Kt (Zg (UW 3 W7 (UM (UB 5) (UM (K7 3) (UM (K7 2) (UI)))))))
 (X7)
 (sNx))
 (sIf (Kt (Zg (UW 2 W6 (UM (UB 6) (UM (K7 3) (UI))))))
 (X7)
 (sNx)))))))
noncomputable def W5:List D->Option D:=U6 N_ap TY
noncomputable abbrev Sau:Stmt:=top 35
noncomputable abbrev N_au:List Str:=["wishes", "aim", "most"]
theorem Hau:NmF Sau N_au:=KG (by decide +kernel)
noncomputable def TR:SM:=
 UQ (XB (UW 2 W5 (UM (UB 0) (UM (UB 1) (UI)))))
 (UQ (U3 2 (UW 1 Vc (UM (UB 0) (UI))))
 (UY (UZ Uy (Zt (KQ (UW 1 Vb (UM (UB 0) (UI)))) 2 (gT 2 (gNC (gN 3) (gNC (gN 4) (gN0)))) (UO true) (Kw (UM (UB 3) (UM (UB 4) (UM (UW 5 X0 (UM (UB 0) (UM (UB 1) (UM (UB 2) (UM (UB 3) (UM (UB 4) (UI))))))) (UI)))))))))
noncomputable def Xs:List D->Option D:=U6 N_au TR
noncomputable abbrev Sbk:Stmt:=top 54
noncomputable abbrev N_bk:List Str:=["wishes", "aim", "dealing", "worths", "way"]
theorem Hbk:NmF Sbk N_bk:=KG (by decide +kernel)
noncomputable def Tu:SM:=
 UQ (U3 3 (UW 2 Xs (UM (UB 0) (UM (UB 1) (UI)))))
 (UQ (U3 4 (UW 3 Y5 (UM (UB 0) (UM (UB 3) (UM (UB 2) (UI))))))
 (UQ (sIf (SI (UB 4))
 (UY (Kw (UM (UO (.str "way")) (UM (UB 4) (UI)))))
 (sNx))
 (UY (Kw (UM (UO (.str "best")) (UM (UW 3 Xq (UM (UB 0) (UM (UB 3) (UM (UB 2) (UI))))) (UI)))))))
noncomputable def WT:List D->Option D:=U6 N_bk Tu
noncomputable abbrev Sbm:Stmt:=top 57
noncomputable abbrev N_bm:List Str:=["_law_cell", "_law_salt", "_law_sizes", "_law_number", "_law_left_here", "_law_found", "_law_k", "_law_one"]
theorem Hbm:NmF Sbm N_bm:=KG (by decide +kernel)
noncomputable def OA:SM:=
 sIf (KW (K6 (oIB λi j=>decide (j<=i)) 3 (UN XR (UO (.int 10)) (UO (.int 18)))) (K6 (oIB λi j=>decide (j<i)) 4 (UO (.int 0))))
 (UQ (ZE 5 (UN ZW (UB 4) (UV 2 (UB 6))))
 (U3 4 (UN XS (UB 4) (UV 2 (UB 6)))))
 (UQ (U3 7 (UN ZW (UN U1 (UN U1 (UN U1 (UB 3) (UN Ki (UO (.int 7919)) (UB 1))) (UN Ki (UN Ki (UO (.int 101)) (UB 6)) (UB 6))) (UB 6)) (UO (.int 2147483647))))
 (UQ (U3 7 (UN ZW (UN Ki (UB 7) (UO (.int 48271))) (UO (.int 2147483647))))
 (UQ (U3 7 (UN ZW (UN Ki (UN ZW (UN Ki (UB 7) (UB 7)) (UO (.int 2147483629))) (UO (.int 48271))) (UO (.int 2147483647))))
 (ZE 5 (UN ZW (UN XS (UB 7) (UO (.int 16))) (UV 2 (UB 6)))))))
noncomputable def Tt:SM:=
 UQ (U3 3 (K1 Ri (UM (UB 0) (UM (UN KP (ZX (UO (.int 1))) (UB 0)) (UI)))))
 (UQ (U3 4 (UB 3))
 (UQ (K8 5 (Kb (UI) λxs=>if xs.length<=1000000 then UO xs else λ_=>.bad))
 (UQ (Kq (YT (UM (K7 2) (UI))) (gN 6) OA)
 (UY (UB 5)))))
noncomputable def YA:List D->Option D:=U6 N_bm Tt
noncomputable abbrev Sbs:Stmt:=top 63
noncomputable abbrev N_bs:List Str:=["_law_wishes_here", "_law_cell", "_law_salt", "_law_left_here", "_law_digits", "_law_found", "_law_asker", "_law_some", "_law_thing"]
theorem Hbs:NmF Sbs N_bs:=KG (by decide +kernel)
noncomputable def Oz:SM:=
 UQ (U3 7 (UN U1 (UZ Uy (Rt (KQ (UW 2 Yl (UM (UB 0) (UM (UB 6) (UI))))) 1 (gN 9) (UN (oIB λi j=>decide (j<i)) (UV 3 (UB 9)) (UO (.int 0))) (UB 9))) (KD (UM (UO .none) (UI)))))
 (UQ (U3 8 (UV 7 (UN ZW (UV 4 (UB 6)) (K7 7))))
 (UQ (sIf (UZ (λd=>!isNon d) (UB 8))
 (Wf 3 (UB 8) (UN KP (UV 3 (UB 8)) (UO (.int 1))))
 (sNx))
 (ZE 5 (UB 8))))
noncomputable def Tn:SM:=
 UQ (K8 3 (Kb (UM (UV 0 (UO (.int 0))) (UI)) λxs=>U9 (Xd xs)))
 (UQ (U3 4 (UW 3 YA (UM (UB 1) (UM (UB 2) (UM (UN Ki (KD (UM (UO (.int 61)) (UI))) (K1 U8 (UM (UV 0 (UO (.int 1))) (UI)))) (UI))))))
 (UQ (K8 5 (Kb (UI) λxs=>if xs.length<=1000000 then UO xs else λ_=>.bad))
 (UQ (Kq (YT (UM (K1 U8 (UM (UV 0 (UO (.int 1))) (UI))) (UI))) (gN 6) Oz)
 (UY (UB 5)))))
noncomputable def Xp:List D->Option D:=U6 N_bs Tn
noncomputable abbrev Sav:Stmt:=top 37
noncomputable abbrev N_av:List Str:=["dealing", "way", "told", "asker", "taken"]
theorem Hav:NmF Sav N_av:=KG (by decide +kernel)
noncomputable def MK:SM:=
 Wf 2 (UB 3) (UB 4)
noncomputable def TQ:SM:=
 UQ (K8 2 (Vt 0))
 (UQ (Kq (KQ (UB 1)) (gT 2 (gNC (gN 3) (gNC (gN 4) (gN0)))) MK)
 (UY (UB 2)))
noncomputable def W2:List D->Option D:=U6 N_av TQ
noncomputable abbrev Sbf:Stmt:=top 48
noncomputable abbrev N_bf:List Str:=["wishes", "worths", "dealing", "way"]
theorem Hbf:NmF Sbf N_bf:=KG (by decide +kernel)
noncomputable def Ph:SM:=
 UQ (U3 2 (UW 2 W2 (UM (UB 2) (UM (UB 3) (UI)))))
 (U3 3 (UW 3 Y5 (UM (UB 0) (UM (UB 1) (UM (UB 2) (UI))))))
noncomputable def TB:SM:=
 UQ (U3 2 (UN Ki (KD (UM (UO .none) (UI))) (K1 U8 (UM (UV 0 (UO (.int 1))) (UI)))))
 (UQ (U3 3 (UW 3 Y5 (UM (UB 0) (UM (UB 1) (UM (UB 2) (UI))))))
 (UQ (Y9 (SI (UB 3)) Ph X2)
 (UY (UB 2))))
noncomputable def WX:List D->Option D:=U6 N_bf TB
noncomputable abbrev Sbj:Stmt:=top 53
noncomputable abbrev N_bj:List Str:=["wishes", "aim", "worths", "dealing"]
theorem Hbj:NmF Sbj N_bj:=KG (by decide +kernel)
noncomputable def Tv:SM:=
 UQ (U3 2 (UW 2 Xs (UM (UB 0) (UM (UB 1) (UI)))))
 (UQ (U3 3 (UW 2 WX (UM (UB 0) (UM (UB 2) (UI)))))
 (UY (Kw (UM (UB 3) (UM (UW 3 Xq (UM (UB 0) (UM (UB 2) (UM (UB 3) (UI))))) (UI))))))
noncomputable def WU:List D->Option D:=U6 N_bj Tv
noncomputable abbrev Sbw:Stmt:=top 67
noncomputable abbrev N_bw:List Str:=["_law_wishes_here", "_law_found", "_law_asker"]
theorem Hbw:NmF Sbw N_bw:=KG (by decide +kernel)
noncomputable def MJ:SM:=
 XN 1 (Zt (KQ (UW 2 Yl (UM (UB 0) (UM (UB 2) (UI))))) 1 (gN 3) (UO true) (Kw (UM (UB 2) (UM (UB 3) (UI)))))
noncomputable def Tj:SM:=
 UQ (K8 1 (Kb (UI) λxs=>if xs.length<=1000000 then UO xs else λ_=>.bad))
 (UQ (Kq (YT (UM (K1 U8 (UM (UV 0 (UO (.int 1))) (UI))) (UI))) (gN 2) MJ)
 (UY (UB 1)))
noncomputable def XU:List D->Option D:=U6 N_bw Tj
noncomputable abbrev Sbo:Stmt:=top 59
noncomputable abbrev N_bo:List Str:=["_law_wishes_here", "_law_asker", "_law_thing", "_law_k", "_law_row"]
theorem Hbo:NmF Sbo N_bo:=KG (by decide +kernel)
noncomputable def MI:SM:=
 sIf (K6 oIn 2 (UB 4))
 (UY (UN U1 (UB 3) (UO (.int 1))))
 (sNx)
noncomputable def Tr:SM:=
 UQ (Kq (YO (UM (UN oIx (UV 0 (UO (.int 1))) (UB 1)) (UI))) (gT 2 (gNC (gN 3) (gNC (gN 4) (gN0)))) MI)
 (UY (UO (.int 0)))
noncomputable def WR:List D->Option D:=U6 N_bo Tr
noncomputable abbrev Sbp:Stmt:=top 60
noncomputable abbrev N_bp:List Str:=["_law_wishes_here"]
theorem Hbp:NmF Sbp N_bp:=KG (by decide +kernel)
noncomputable def Tq:SM:=
 UY (K1 VG (UM (UZ Uy (Zt (KQ (UV 0 (UO (.int 1)))) 1 (gN 1) (UO true) (K7 1))) (UI)))
noncomputable def WQ:List D->Option D:=U6 N_bp Tq
noncomputable abbrev Sbt:Stmt:=top 64
noncomputable abbrev N_bt:List Str:=["_law_wishes_here", "_law_aim_here", "_law_asker", "_law_thing", "_law_order", "_law_old", "_law_turns", "_law_base", "_law_ranks", "_law_rank_here", "_law_powers", "_law_k", "_law_worth_here", "_law_pick", "_law_one"]
theorem Hbt:NmF Sbt N_bt:=KG (by decide +kernel)
noncomputable def Pg:SM:=
 UQ (U3 12 (UN Ki (UB 12) (UN U1 (UB 8) (UO (.int 1)))))
 (UQ (U3 13 (UN Ki (UB 13) (UN U1 (UB 8) (UO (.int 1)))))
 (sIf (K6 oEq 14 (UB 2))
 (U3 13 (UN KP (UN U1 (UN U1 (UB 13) (UB 8)) (UO (.int 1))) (UB 9)))
 (sNx)))
noncomputable def MH:SM:=
 ZE 10 (UN Ki (UV 10 (ZX (UO (.int 1)))) (UB 7))
noncomputable def Tl:SM:=
 UQ (ZD (UB 1) (gT 3 (gNC (gN 4) (gNC (gN 5) (gNC (gN 6) (gN0))))))
 (UQ (U3 7 (UN U1 (K1 U8 (UM (UV 0 (UO (.int 1))) (UI))) (UO (.int 1))))
 (UQ (U3 8 (UW 1 WQ (UM (UB 0) (UI))))
 (UQ (U3 9 (UW 3 WR (UM (UB 0) (UM (UB 2) (UM (UB 3) (UI))))))
 (UQ (K8 10 (Kb (UM (UO (.int 1)) (UI)) λxs=>if xs.length<=1000000 then UO xs else λ_=>.bad))
 (UQ (Kq (YT (UM (UB 8) (UI))) (gN 11) MH)
 (UQ (U3 12 (UV 10 (UN KP (UB 8) (UB 9))))
 (UQ (sIf (K6 oEq 4 (UO (.str "full")))
 (U3 12 (UN U1 (UB 12) (UV 10 (UB 8))))
 (sNx))
 (UQ (sIf (K6 oEq 4 (UO (.str "lasts")))
 (U3 12 (UN KP (UV 10 (UB 8)) (UV 10 (UN KP (UB 9) (UO (.int 1))))))
 (sNx))
 (UQ (U3 12 (UN Ki (UB 12) (UB 7)))
 (UQ (sIf (KW (UZ (λd=>!isNon d) (UB 5)) (UN oEq (UV 5 (UB 2)) (UB 3)))
 (U3 12 (UN U1 (UB 12) (UO (.int 1))))
 (sNx))
 (UQ (U3 13 (UO (.int 0)))
 (UQ (Kq (KQ (UB 6)) (gN 14) Pg)
 (UY (UN U1 (UB 12) (UB 13)))))))))))))))
noncomputable def XX:List D->Option D:=U6 N_bt Tl
noncomputable abbrev Sby:Stmt:=top 69
noncomputable abbrev N_by:List Str:=["_law_wishes_here", "_law_aim_here", "_law_found", "_law_asker", "_law_thing"]
theorem Hby:FnNm (ZL Sby) N_by ["_law_wishes_of", "_law_worth"]:=KG (by decide +kernel)
noncomputable def Th:SM:=
 Wv 2 3 4 (KQ (UW 1 XU (UM (UB 0) (UI)))) (UW 4 XX (UM (UB 0) (UM (UB 1) (UM (UB 3) (UM (UB 4) (UI))))))
noncomputable def WN:List D->Option D:=U6 N_by Th
noncomputable abbrev Sbl:Stmt:=top 56
noncomputable abbrev N_bl:List Str:=["_law_script", "_law_k"]
theorem Hbl:NmF Sbl N_bl:=KG (by decide +kernel)
noncomputable def Wz:SM:=
 UQ (sIf (K6 (oIB λi j=>decide (i<j)) 1 (K7 0))
 (UY (UV 0 (UB 1)))
 (sNx))
 (UY (UO (.int 0)))
noncomputable def Y4:List D->Option D:=U6 N_bl Wz
noncomputable abbrev Sbr:Stmt:=top 62
noncomputable abbrev N_br:List Str:=["_law_wishes_here", "_law_cell", "_law_salt", "_law_askers", "_law_sizes", "_law_digits", "_law_old", "_law_turns", "_law_digit"]
theorem Hbr:NmF Sbr N_br:=KG (by decide +kernel)
noncomputable def Pf:SM:=
 U3 8 (UN ZW (UN U1 (UB 8) (UO (.int 1))) (UB 3))
noncomputable def MG:SM:=
 UQ (Y9 (Ss oIn (UB 8) 7) Pf 1000)
 (ZE 7 (UB 8))
noncomputable def To:SM:=
 UQ (U3 3 (K1 U8 (UM (UV 0 (UO (.int 1))) (UI))))
 (UQ (U3 4 (UN U1 (KD (UM (UO (.int 3)) (UM (UO (.int 2)) (UM (UN U1 (UB 3) (UO (.int 1))) (UI))))) (UN Ki (KD (UM (UN U1 (K1 U8 (UM (UV 0 (UO (.int 0))) (UI))) (UO (.int 1))) (UI))) (UB 3))))
 (UQ (U3 5 (UW 3 YA (UM (UB 1) (UM (UB 2) (UM (UN U1 (UB 4) (UN Ki (KD (UM (UB 3) (UI))) (UB 3))) (UI))))))
 (UQ (U3 6 (UO .none))
 (UQ (sIf (UN oEq (UV 5 (UO (.int 1))) (UO (.int 1)))
 (K8 6 (Zt (KQ (ZH (UB 5) (Kb (UO (.int 3)) λx=>U9 (Ys x)) (Kb (UN U1 (UO (.int 3)) (UB 3)) λx=>U9 (Ys x)))) 1 (gN 9) (UO true) (UN oIx (KD (UM (UO .none) (UM (UN KP (UB 9) (UO (.int 1))) (UI)))) (K1 Rl (UM (UZ Uz (K6 (oIB λi j=>decide (j<i)) 9 (UO (.int 0)))) (UI))))))
 (sNx))
 (UQ (K8 7 (Kb (UI) λxs=>if xs.length<=1000000 then UO xs else λ_=>.bad))
 (UQ (Kq (KQ (ZH (UB 5) (Kb (UN U1 (UO (.int 3)) (UB 3)) λx=>U9 (Ys x)) (Kb (UN U1 (UN U1 (UO (.int 3)) (UB 3)) (UV 5 (UO (.int 2)))) λx=>U9 (Ys x)))) (gN 8) MG)
 (UY (Kw (UM (UN oIx (KD (UM (UO (.str "firsts")) (UM (UO (.str "full")) (UM (UO (.str "lasts")) (UI))))) (UV 5 (UO (.int 0)))) (UM (UB 6) (UM (UB 7) (UI))))))))))))
noncomputable def WP:List D->Option D:=U6 N_br To
noncomputable abbrev Sbn:Stmt:=top 58
noncomputable abbrev N_bn:List Str:=["_law_script", "_law_at", "_law_most_things", "_law_most_askers", "_law_most_ranks", "_law_sizes", "_law_digits", "_law_copies", "_law_lists", "_law_asker", "_law_cell", "_law_places", "_law_ranks", "_law_rank_here", "_law_row"]
theorem Hbn:NmF Sbn N_bn:=KG (by decide +kernel)
noncomputable def Oy:SM:=
 UQ (K8 14 (Zt (YT (UM (K7 7) (UI))) 1 (gN 15) (UN oEq (UV 11 (UB 15)) (UB 13)) (UB 15)))
 (sIf (K6 oNe 14 (KD (UI)))
 (ZE 12 (UN oIx (KD (UM (UB 14) (UM (WF (UB 14) (UO none) (UO none) (Kb (ZX (UO (.int 1))) λx=>U9 (Ys x))) (UI)))) (UV 11 (ZX (UO (.int 1))))))
 (sNx))
noncomputable def Ox:SM:=
 UQ (U3 10 (UW 2 Y4 (UM (UB 0) (UM (UN U1 (UN U1 (UB 1) (UO (.int 1))) (UB 9)) (UI)))))
 (UQ (U3 11 (UW 3 YA (UM (UB 10) (UM (UN U1 (UN U1 (UN Ki (UO (.int 11)) (UB 1)) (UN Ki (UO (.int 3)) (UB 9))) (UO (.int 1))) (UM (UN U1 (UN Ki (KD (UM (UN U1 (UB 4) (UO (.int 1))) (UI))) (UB 2)) (KD (UM (UO (.int 2)) (UI)))) (UI))))))
 (UQ (K8 12 (Kb (UI) λxs=>if xs.length<=1000000 then UO xs else λ_=>.bad))
 (UQ (Kq (RU (UM (UO (.int 1)) (UM (UN U1 (UB 4) (UO (.int 1))) (UI)))) (gN 13) Oy)
 (ZE 8 (UB 12)))))
noncomputable def Ts:SM:=
 UQ (U3 5 (UN U1 (KD (UM (UB 2) (UM (UB 3) (UI)))) (UN Ki (KD (UM (UO (.int 11)) (UI))) (UB 2))))
 (UQ (U3 6 (UW 3 YA (UM (UW 2 Y4 (UM (UB 0) (UM (UB 1) (UI)))) (UM (UB 1) (UM (UB 5) (UI))))))
 (UQ (K8 7 (Zt (KQ (ZH (UB 6) (Kb (UO (.int 2)) λx=>U9 (Ys x)) (Kb (UN U1 (UO (.int 3)) (UV 6 (UO (.int 0)))) λx=>U9 (Ys x)))) 1 (gN 15) (UO true) (UN oIx (KD (UM (UO (.int 1)) (UM (UO (.int 1)) (UM (UO (.int 2)) (UM (UO (.int 0)) (UM (UO (.int 3)) (UM (UO (.int 7)) (UM (UO (.int 1)) (UM (UO (.int 4)) (UM (UO (.int 5)) (UM (UO (.int 6)) (UM (UO (.int 1)) (UI))))))))))))) (UB 15))))
 (UQ (K8 8 (Kb (UI) λxs=>if xs.length<=1000000 then UO xs else λ_=>.bad))
 (UQ (Kq (YT (UM (UN U1 (UO (.int 1)) (UV 6 (UO (.int 1)))) (UI))) (gN 9) Ox)
 (UY (Kw (UM (UB 7) (UM (UB 8) (UI)))))))))
noncomputable def WS:List D->Option D:=U6 N_bn Ts
noncomputable abbrev Scg:Stmt:=top 77
noncomputable abbrev N_cg:List Str:=["_law_script", "_law_wishes_here", "_law_aim_here", "_law_worths_here", "_law_most", "_law_starts", "_law_dealing", "_law_told", "_law_turn", "_law_behind"]
theorem Hcg:NmF Scg N_cg:=KG (by decide +kernel)
noncomputable def MF:SM:=
 sIf (UN oEq (UV 7 (UO (.int 0))) (UO (.str "way")))
 (UQ (U3 7 (UW 3 WT (UM (UB 1) (UM (UB 2) (UM (UZ Uy (Vt 6)) (UI))))))
 (sIf (UN oEq (UV 7 (UO (.int 0))) (UO (.str "way")))
 (UQ (sIf (Kt (Zg (UW 3 WJ (UM (UB 1) (UM (UB 6) (UM (UV 7 (UO (.int 1))) (UI)))))))
 (UY (UO (.bool false)))
 (sNx))
 (UQ (U3 9 (UW 2 WI (UM (UB 6) (UM (UV 7 (UO (.int 1))) (UI)))))
 (UQ (sIf (UN (oIB λi j=>decide (i<=j)) (UW 2 Yz (UM (UB 3) (UM (UB 9) (UI)))) (UW 2 Yz (UM (UB 3) (UM (UB 6) (UI)))))
 (UY (UO (.bool false)))
 (sNx))
 (U3 6 (UB 9)))))
 (sNx)))
 (sNx)
noncomputable def ME:SM:=
 UQ (U3 7 (Kw (UM (UO (.str "way")) (UM (UO .none) (UI)))))
 (UQ (Kq (YT (UM (UO (.int 40)) (UI))) (gN 8) MF)
 (sIf (UN oNe (UV 7 (UO (.int 0))) (UO (.str "way")))
 (UQ (sIf (Kt (Zg (UW 4 WH (UM (UB 1) (UM (UB 3) (UM (UB 6) (UM (UV 7 (UO (.int 1))) (UI))))))))
 (UY (UO (.bool false)))
 (sNx))
 (sIf (UN oNe (UW 2 Yz (UM (UB 3) (UM (UB 6) (UI)))) (UB 4))
 (UY (UO (.bool false)))
 (sNx)))
 (sNx)))
noncomputable def V9:SM:=
 UQ (U3 1 (UW 5 WS (UM (UB 0) (UM (UO (.int 1)) (UM (UO (.int 5)) (UM (UO (.int 6)) (UM (UO (.int 4)) (UI))))))))
 (UQ (U3 2 (UW 3 WP (UM (UB 1) (UM (UW 2 Y4 (UM (UB 0) (UM (UO (.int 0)) (UI)))) (UM (UO (.int 5)) (UI))))))
 (UQ (U3 3 (UW 2 WN (UM (UB 1) (UM (UB 2) (UI)))))
 (UQ (U3 4 (UW 2 Yz (UM (UB 3) (UM (UN oIx (UW 2 WU (UM (UB 1) (UM (UB 2) (UI)))) (UO (.int 0))) (UI)))))
 (UQ (U3 5 (UN U1 (KD (UM (UN Ki (KD (UM (UO .none) (UI))) (K1 U8 (UM (UV 1 (UO (.int 1))) (UI)))) (UI))) (UZ Uy (Zt (KQ (ZH (UB 0) (Kb (UO (.int 8)) λx=>U9 (Ys x)) (Kb (UO (.int 11)) λx=>U9 (Ys x)))) 1 (gN 10) (UO true) (UW 3 Xp (UM (UB 1) (UM (UB 10) (UM (UO (.int 31)) (UI)))))))))
 (UQ (Kq (KQ (UB 5)) (gN 6) ME)
 (UY (UO (.bool true))))))))
noncomputable def WG:List D->Option D:=U6 N_cg V9
set_option hygiene false in
local macro_rules | `(tactic| walk_at "g")=>`(tactic| first | exact gA nm rfl | exact EG rfl)
set_option hygiene false in
local macro_rules | `(tactic| walk_at "v")=>`(tactic| first | exact pq nm _ | exact pvb _)
set_option hygiene false in
local macro_rules | `(tactic| walk_at "b")=>`(tactic| first | ((with_reducible show OpB _ (compareOp CmpOp.Eq) _);first | exact Sm hu | exact GH hu) | ((with_reducible show OpB _ (compareOp CmpOp.NotEq) _);first | exact B_ne hu) | ((with_reducible show OpB _ (compareOp CmpOp.Lt) _);first | exact B_lt) | ((with_reducible show OpB _ (compareOp CmpOp.LtE) _);first | exact B_le) | ((with_reducible show OpB _ (compareOp CmpOp.Gt) _);first | exact B_gt) | ((with_reducible show OpB _ (compareOp CmpOp.GtE) _);first | exact B_ge) | ((with_reducible show OpB _ (compareOp CmpOp.In) _);first | exact B_in hu) | ((with_reducible show OpB _ (compareOp CmpOp.NotIn) _);first | exact GU hu))
set_option hygiene false in
local macro_rules | `(tactic| walk_at "m")=>`(tactic| first | exact P8 _ | exact rfl)
set_option hygiene false in
local macro_rules | `(tactic| walk_at "k")=>`(tactic| first | exact Lv | exact AZ | exact AY | exact AX)
set_option hygiene false in
local macro_rules | `(tactic| walk_at "w")=>`(tactic| first | exact PassesOwn.never)
set_option hygiene false in
local macro_rules | `(tactic| walk_at "x")=>`(tactic| first | assumption | exact wants_cx)
set_option hygiene false in
local macro_rules | `(tactic| walk_at "c")=>`(tactic| first | exact T.c_MOST_ASKERS | exact T.c_MOST_COPIES | exact T.c_MOST_RANKS | exact T.c_MOST_THINGS | exact T.c_ORDERS)
set_option hygiene false in
local macro_rules | `(tactic| walk_at "ck")=>`(tactic| fail)
set_option hygiene false in
local macro_rules | `(tactic| walk_at "e")=>`(tactic| first | ((with_reducible show PE _ (Expr.Name _ _) _);first | exact Zy (pq nm _) | exact Zy (pvb _) | exact FZ (by walk_at "g") (by walk_at "c") | exact GT (by walk_at "g") (by walk_at "c")) | ((with_reducible show PE _ (Expr.Constant _ _ _) _);first | exact Mg | exact Cn | exact Ee | exact Co) | ((with_reducible show PE _ (Expr.Subscript _ _ _) _);first | refine SF (by walk_at "v") ?_ (fun _ _=>rfl) | refine je ?_ ?_ ?_ | refine Di ?_ ?_ ?_ ?_ | refine EL ?_ ?_ (fun _ _=>rfl) | refine E4 hu ?_ ?_) | ((with_reducible show PE _ (Expr.BinOp _ Operator.Add _ _) _);first | refine VI Fx ?_ ?_) | ((with_reducible show PE _ (Expr.BinOp _ Operator.Sub _ _) _);first | refine VI NG ?_ ?_) | ((with_reducible show PE _ (Expr.BinOp _ Operator.Mult _ _) _);first | refine VI Fw ?_ ?_) | ((with_reducible show PE _ (Expr.BinOp _ Operator.Mod _ _) _);first | refine VI F8 ?_ ?_) | ((with_reducible show PE _ (Expr.BinOp _ Operator.FloorDiv _ _) _);first | refine VI F7 ?_ ?_) | ((with_reducible show PE _ (Expr.BinOp _ Operator.Pow _ _) _);first | refine VI F6 ?_ ?_) | ((with_reducible show PE _ (Expr.Call (Expr.Name "len" _) _ _ _) _);first | refine Lx (by walk_at "g") T.b_len (by walk_at "v") | refine VD NF (by walk_at "g") T.b_len boot_len ?_ | refine jd rfl (by walk_at "g") T.b_len (by walk_at "g") T.b_set ?_) | ((with_reducible show PE _ (Expr.Call (Expr.Name "max" _) _ _ _) _);first | refine VD (EK rfl) (by walk_at "g") T.b_max boot_max ?_ | refine VD (Ex rfl) (by walk_at "g") T.b_max boot_max ?_) | ((with_reducible show PE _ (Expr.Call (Expr.Name "min" _) _ _ _) _);first | refine VD (Ft rfl) (by walk_at "g") T.b_min boot_min ?_) | ((with_reducible show PE _ (Expr.Call (Expr.Name "sorted" _) _ _ _) _);first | refine VD EU (by walk_at "g") T.b_sorted PyProof.Rows.boot_sorted ?_) | ((with_reducible show PE _ (Expr.Call (Expr.Name "sum" _) _ _ _) _);first | refine VD (EV rfl) (by walk_at "g") T.b_sum PyProof.Rows.boot_sum ?_ | refine VD (Ew rfl) (by walk_at "g") T.b_sum PyProof.Rows.boot_sum ?_) | ((with_reducible show PE _ (Expr.Call (Expr.Name "all" _) _ _ _) _);first | refine VD (F1 rfl) (by walk_at "g") T.b_all PyProof.Rows.boot_all ?_) | ((with_reducible show PE _ (Expr.Call (Expr.Name "int" _) _ _ _) _);first | refine qW Ey (by walk_at "g") T.b_int PyProof.Rows.boot_int ?_) | ((with_reducible show PE _ (Expr.Call (Expr.Name "isinstance" _) [_,Expr.Name "int" _] _ _) _);first | refine RL (c := "int") (by decide) (by walk_at "g") T.b_isinstance (by walk_at "g") T.b_int (by decide +kernel) ?_ (by decide) (by decide)) | ((with_reducible show PE _ (Expr.Call (Expr.Name "isinstance" _) [_,Expr.Name "list" _] _ _) _);first | refine RL (c := "list") (by decide) (by walk_at "g") T.b_isinstance (by walk_at "g") T.b_list (by decide +kernel) ?_ (by decide) (by decide)) | ((with_reducible show PE _ (Expr.Call (Expr.Name "isinstance" _) [_,Expr.Name "tuple" _] _ _) _);first | refine RL (c := "tuple") (by decide) (by walk_at "g") T.b_isinstance (by walk_at "g") T.b_tuple (by decide +kernel) ?_ (by decide) (by decide)) | ((with_reducible show PE _ (Expr.Call (Expr.Name "isinstance" _) [_,Expr.Name "bool" _] _ _) _);first | refine RL (c := "bool") (by decide) (by walk_at "g") T.b_isinstance (by walk_at "g") T.b_bool (by decide +kernel) ?_ (by decide) (by decide)) | ((with_reducible show PE _ (Expr.Call (Expr.Name "isinstance" _) [_,Expr.Name "str" _] _ _) _);first | refine RL (c := "str") (by decide) (by walk_at "g") T.b_isinstance (by walk_at "g") T.b_str (by decide +kernel) ?_ (by decide) (by decide)) | ((with_reducible show PE _ (Expr.Call (Expr.Name _ _) _ _ _) _);first | refine pdf (by assumption) hr (by walk_at "g") ?_) | ((with_reducible show PE _ (Expr.Call _ _ _ _) _);first | refine AK hu ?_ ?_ | refine A1 ?_ ?_) | refine M3 ?_ | refine Og ?_ | ((with_reducible show PE _ (Expr.Compare _ _ _ _) _);first | refine CH ?_ | refine Dj (by walk_at "b") (by walk_at "v") ?_ (by walk_at "m") | refine Cg (by walk_at "b") ?_ ?_ (by walk_at "m") | refine AE (by walk_at "b") (by walk_at "b") ?_ ?_ ?_) | refine Dl ?_ | refine M0 ?_ | refine D8 ?_ | refine Ca ?_ ?_ | refine EM ?_ ?_ | refine D9 ?_ | refine AD ?_ ?_ ?_)
set_option hygiene false in
local macro_rules | `(tactic| walk_at "t")=>`(tactic| first | ((with_reducible show PT _ (Expr.Compare _ _ _ _) _);first | refine CI ?_ | refine Ly ?_ | refine Dk (by walk_at "b") (by walk_at "v") ?_ (by walk_at "m") | refine E8 (by walk_at "b") ?_ (by walk_at "v") (by walk_at "m") | refine Oh (by walk_at "b") ?_ ?_ (by walk_at "m") | refine AF (by walk_at "b") (by walk_at "b") ?_ ?_ ?_) | ((with_reducible show PT _ (Expr.BoolOp _ _ _) _);refine PW.pt ?_) | refine Cc ?_ | refine Cb ?_ | refine E1 ?_)
set_option hygiene false in
local macro_rules | `(tactic| walk_at "l")=>`(tactic| first | refine GD nm (by walk_at "k") rfl ?_ ?_ (by decide +kernel) | refine AT (by walk_at "g") T.b_list (by walk_at "v") | refine B7 (by walk_at "g") T.b_list ?_ | refine CB ?_ | refine MA ?_ ?_)
set_option hygiene false in
local macro_rules | `(tactic| walk_at "i")=>`(tactic| first | refine AC (by walk_at "g") T.b_range ?_ | refine AB (by walk_at "g") T.b_range ?_ | refine M1 (by walk_at "g") T.b_enumerate ?_ | refine B4 (by walk_at "g") T.b_enumerate ?_ | refine EA (by walk_at "g") T.b_zip ?_ | refine E5 ?_ | refine R6 ?_)
set_option hygiene false in
local macro_rules | `(tactic| walk_at "s")=>`(tactic| first | ((with_reducible show PS _ (Stmt.Assign [Expr.Name _ _] _ _) _);first | refine aSet nm ?_ | refine GC nm (by walk_at "k") rfl ?_ ?_ (by decide +kernel) | refine GE nm ?_) | ((with_reducible show PS _ (Stmt.Assign _ _ _) _);first | refine EJ ?_ ?_ | refine M9 ?_ (by walk_at "v") ?_) | refine PY ?_ ?_ ?_ | refine Md ?_ | refine P5 (by walk_at "w") rfl ?_ ?_ ?_ | ((with_reducible show PS _ (Stmt.Expr _ _) _);first | refine Mc (by walk_at "v") ?_ | refine EW (by walk_at "v") ?_ | refine CC ?_) | refine aAug nm Dc ?_ | exact BK | refine C3 _ (by walk_at "w") ?_ ?_)
set_option hygiene false in
local macro_rules | `(tactic| walk_at "d")=>`(tactic| (have hu:=hr.units;have hgd:=hr.gd;repeat' (first | ((with_reducible show PE _ _ (tD _ _ _ _));first | walk_at "e") | ((with_reducible show PA _ _ (tDs _ _ _ _));first | refine YD ?_ ?_ | exact VC) | ((with_reducible show PSs _ _ (tS _ _ _ _ _));first | refine RA ?_ ?_ | refine SE ?_ | exact P6 | exact sD_nevers) | ((with_reducible show PS _ _ _);walk_at "s") | ((with_reducible show PT _ _ _);walk_at "t") | ((with_reducible show PW _ _ _);first | refine Cd ?_ ?_ | refine EN ?_ ?_ | refine BO ?_ | refine Ce ?_) | ((with_reducible show PE _ _ (tL _ _ _ _));walk_at "l") | ((with_reducible show PI _ _ _ _);walk_at "i") | ((with_reducible show PG _ _ _);first | exact GF nm | exact Fq | refine R7 rfl ?_) | ((with_reducible show PGs _ _ _);first | exact R8 | refine Wo ?_ ?_) | ((with_reducible show PO _ _ _);first | exact BN | refine BM ?_) | ((with_reducible show Yk _ _ _ _ _ _ _ _ _);refine fun cl C s0 H0 ex=>⟨fun B' G'=>?_,fun B' G'=>?_,?_⟩) | ((with_reducible show Y3 _ _ _);first | exact Dm | refine MZ ?_) | ((with_reducible show Rf _ _ _ _ _ _);first | refine L9 rfl rfl rfl fun B' G'=>?_ | refine Av rfl rfl rfl rfl (fun _=>rfl) (fun B' G'=>?_) (fun B' G'=>?_) (fun B' G'=>?_) ?_))))
section
variable{P:Uo}{w:World}{K:Frag}{mg:Str->Option Ul}{base:Heap}{f:Up}{fd:Uq}(T:Txt K mg)
include T
theorem Kbz(F:Fun K "_law_sum" "_law_sum" Sbz f fd):FnOk P w K mg base CX0 1 f fd ["_law_worths_here", "_law_dealing"] (spD K 2 Yz):=
 okD (k:=0) (g:=Tg) F (fq Hbz 2) rfl λcdv A outer s H E B G0 hr=>
 have nm:=Hbz
 by walk_at "d"
theorem Kcb(F:Fun K "_law_claim" "_law_claim" Scb f fd):FnOk P w K mg base CX0 1 f fd ["_law_wishes_here", "_law_paper"] (spD K 2 WL):=
 okD (k:=0) (g:=Te) F (fq Hcb 2) rfl λcdv A outer s H E B G0 hr=>
 have nm:=Hcb
 by walk_at "d"
theorem Kbu(F:Fun K "_law_is_number" "_law_is_number" Sbu f fd):FnOk P w K mg base CX0 1 f fd ["_law_thing"] (spD K 1 ZI):=
 okD (k:=0) (g:=Wy) F (fq Hbu 1) rfl λcdv A outer s H E B G0 hr=>
 have nm:=Hbu
 by walk_at "d"
theorem Kbq(F:Fun K "_law_wished" "_law_wished" Sbq f fd):FnOk P w K mg base CX0 1 f fd ["_law_wishes_here", "_law_asker"] (spD K 2 Yl):=
 okD (k:=0) (g:=Tp) F (fq Hbq 2) rfl λcdv A outer s H E B G0 hr=>
 have nm:=Hbq
 by walk_at "d"
theorem Kbx(d_bu:Def P w K mg base "_law_is_number" 1 1 ZI)(d_bq:Def P w K mg base "_law_wished" 1 2 Yl)(F:Fun K "_law_is_dealing" "_law_is_dealing" Sbx f fd):FnOk P w K mg base CX0 2 f fd ["_law_wishes_here", "_law_thing"] (spD K 2 WO):=
 okD (k:=1) (g:=Ti) F (fq Hbx 2) rfl λcdv A outer s H E B G0 hr=>
 have nm:=Hbx
 by walk_at "d"
theorem Kbv(d_bu:Def P w K mg base "_law_is_number" 1 1 ZI)(F:Fun K "_law_is_row" "_law_is_row" Sbv f fd):FnOk P w K mg base CX0 2 f fd ["_law_thing", "_law_many"] (spD K 2 XV):=
 okD (k:=1) (g:=Tk) F (fq Hbv 2) rfl λcdv A outer s H E B G0 hr=>
 have nm:=Hbv
 by walk_at "d"
theorem Kca(d_bv:Def P w K mg base "_law_is_row" 2 2 XV)(d_bu:Def P w K mg base "_law_is_number" 1 1 ZI)(F:Fun K "_law_lets" "_law_lets" Sca f fd):FnOk P w K mg base CX0 3 f fd ["_law_wishes_here", "_law_worths_here", "_law_thing"] (spD K 3 WM):=
 okD (k:=2) (g:=Tf) F (fq Hca 3) rfl λcdv A outer s H E B G0 hr=>
 have nm:=Hca
 by walk_at "d"
theorem Kcf(d_cb:Def P w K mg base "_law_claim" 1 2 WL)(d_bz:Def P w K mg base "_law_sum" 1 2 Yz)(d_bx:Def P w K mg base "_law_is_dealing" 2 2 WO)(d_ca:Def P w K mg base "_law_lets" 3 3 WM)(F:Fun K "_law_shows_best" "_law_shows_best" Scf f fd):FnOk P w K mg base CX0 4 f fd ["_law_wishes_here", "_law_worths_here", "_law_dealing", "_law_paper"] (spD K 4 WH):=
 okD (k:=3) (g:=Ta) F (fq Hcf 4) rfl λcdv A outer s H E B G0 hr=>
 have nm:=Hcf
 by walk_at "d"
theorem Kce(F:Fun K "_law_done" "_law_done" Sce f fd):FnOk P w K mg base CX0 1 f fd ["_law_dealing", "_law_way"] (spD K 2 WI):=
 okD (k:=0) (g:=Tb) F (fq Hce 2) rfl λcdv A outer s H E B G0 hr=>
 have nm:=Hce
 by walk_at "d"
theorem Kcc(F:Fun K "_law_left" "_law_left" Scc f fd):FnOk P w K mg base CX0 1 f fd ["_law_wishes_here", "_law_dealing"] (spD K 2 WK):=
 okD (k:=0) (g:=Td) F (fq Hcc 2) rfl λcdv A outer s H E B G0 hr=>
 have nm:=Hcc
 by walk_at "d"
theorem Kcd(d_cc:Def P w K mg base "_law_left" 1 2 WK)(d_bq:Def P w K mg base "_law_wished" 1 2 Yl)(d_bu:Def P w K mg base "_law_is_number" 1 1 ZI)(F:Fun K "_law_is_way" "_law_is_way" Scd f fd):FnOk P w K mg base CX0 2 f fd ["_law_wishes_here", "_law_dealing", "_law_way"] (spD K 3 WJ):=
 okD (k:=1) (g:=Tc) F (fq Hcd 3) rfl λcdv A outer s H E B G0 hr=>
 have nm:=Hcd
 by walk_at "d"
theorem Kbh(F:Fun K "asks_beyond" "asks_beyond" Sbh f fd):FnOk P w K mg base CX0 1 f fd ["askers", "worths", "prices"] (spD K 3 WV):=
 okD (k:=0) (g:=Tx) F (fq Hbh 3) rfl λcdv A outer s H E B G0 hr=>
 have nm:=Hbh
 by walk_at "d"
theorem Kaw(F:Fun K "place_of" "place_of" Saw f fd):FnOk P w K mg base CX0 1 f fd ["nothing", "got"] (spD K 2 XZ):=
 okD (k:=0) (g:=TN) F (fq Haw 2) rfl λcdv A outer s H E B G0 hr=>
 have nm:=Haw
 by walk_at "d"
theorem Kax(d_aw:Def P w K mg base "place_of" 1 2 XZ)(F:Fun K "steps_of_askers" "steps_of_askers" Sax f fd):FnOk P w K mg base CX0 2 f fd ["nothing", "worths", "dealing"] (spD K 3 W1):=
 okD (k:=1) (g:=TM) F (fq Hax 3) rfl λcdv A outer s H E B G0 hr=>
 have hu:=hr.units;have hgd:=hr.gd
 (RA (M2 (i:=3) (nq Hax) rfl (lq Hax 3) (MA (M3 (YD Mg VC)) (Lx (gq Hax 2) T.b_len (pq Hax 2))))
 (RA (P5 UF rfl (R6 (Zy (pq Hax 1))) (R7 rfl (Wo (X5 (XA (i:=4) (nq Hax) rfl (lq Hax 4))) (Wo (X5 (XA (i:=5) (nq Hax) rfl (lq Hax 5))) (Wo (X5 (XA (i:=6) (nq Hax) rfl (lq Hax 6))) R8))))
 (SE (PY (Oh (Sm hu) (SF (pq Hax 2) (Zy (pq Hax 4)) (λ_ _=>rfl)) (Zy (pq Hax 5)) (P8 _))
 (SE (M9 (Zy (pq Hax 6)) (pq Hax 3) (Zy (pq Hax 4))))
 P6)))
 (RA (GJ (j:=7) (ZL Sax) Sj ["nothing", "worths", "dealing", "had", ".asker", "thing", "worth", "told", "asker", "got"] 2 Lv (nq Hax) rfl rfl rfl (λB' G'=>(M1 (gq Hax 1) T.b_enumerate (YD (Zy (pq Hax 2)) VC))) (λcl C s0 H0 ex=>⟨λB' G'=>(R7 rfl (Wo (X5 (XA (i:=8) (show(["nothing", "worths", "dealing", "had", ".asker", "thing", "worth", "told", "asker", "got"]:List Str).Nodup by decide +kernel) rfl (Of rfl) (.inr (P4 rfl)))) (Wo (X5 (XA (i:=9) (show(["nothing", "worths", "dealing", "had", ".asker", "thing", "worth", "told", "asker", "got"]:List Str).Nodup by decide +kernel) rfl (Of rfl) (.inr (P4 rfl)))) R8))),λB' G'=>(MZ (Ly (Zy (pvb 9)))),(L9 rfl rfl rfl λB' G'=>(Og (YD (Zy (pvb 9)) (YD (Zy (pvb 0)) (YD (M0 (SF (pvb 3) (Zy (pvb 8)) (λ_ _=>rfl))) (YD (Zy (pvb 8)) VC))))))⟩) rfl rfl (by decide +kernel))
 (RA (P5 UF rfl (R6 (Zy (pq Hax 1))) (R7 rfl (Wo (X5 (XA (i:=4) (nq Hax) rfl (lq Hax 4))) (Wo (X5 (XA (i:=5) (nq Hax) rfl (lq Hax 5))) (Wo (X5 (XA (i:=6) (nq Hax) rfl (lq Hax 6))) R8))))
 (SE (PY (Oh (B_ne hu) (SF (pq Hax 2) (Zy (pq Hax 4)) (λ_ _=>rfl)) (Zy (pq Hax 5)) (P8 _))
 (SE (Mc (pq Hax 7) (Og (YD (pdf d_aw hr (gq Hax 0) (YD (Zy (pq Hax 0)) (YD (SF (pq Hax 2) (Zy (pq Hax 4)) (λ_ _=>rfl)) VC))) (YD (Zy (pq Hax 5)) (YD (VI NG (Zy (pq Hax 6)) (SF (pq Hax 3) (Zy (pq Hax 4)) (λ_ _=>rfl))) (YD (Zy (pq Hax 4)) VC)))))))
 P6)))
 (SE (Md (Zy (pq Hax 7))))))))
theorem Kaa(F:Fun K "is_whole" "is_whole" Saa f fd):FnOk P w K mg base CX0 1 f fd ["thing"] (spD K 1 Vh):=
 okD (k:=0) (g:=Sf) F (fq Haa 1) rfl λcdv A outer s H E B G0 hr=>
 have nm:=Haa
 by walk_at "d"
theorem Kab(d_aa:Def P w K mg base "is_whole" 1 1 Vh)(F:Fun K "is_number_below" "is_number_below" Sab f fd):FnOk P w K mg base CX0 2 f fd ["thing", "many"] (spD K 2 ZJ):=
 okD (k:=1) (g:=Se) F (fq Hab 2) rfl λcdv A outer s H E B G0 hr=>
 have nm:=Hab
 by walk_at "d"
theorem Kad(d_ab:Def P w K mg base "is_number_below" 2 2 ZJ)(F:Fun K "is_rank" "is_rank" Sad f fd):FnOk P w K mg base CX0 3 f fd ["thing", "things"] (spD K 2 X1):=
 okD (k:=2) (g:=Sc) F (fq Had 2) rfl λcdv A outer s H E B G0 hr=>
 have nm:=Had
 by walk_at "d"
theorem Kae(d_ad:Def P w K mg base "is_rank" 3 2 X1)(F:Fun K "is_asker_list" "is_asker_list" Sae f fd):FnOk P w K mg base CX0 4 f fd ["thing", "things"] (spD K 2 Vf):=
 okD (k:=3) (g:=Sb) F (fq Hae 2) rfl λcdv A outer s H E B G0 hr=>
 have nm:=Hae
 by walk_at "d"
theorem Kaf(d_ae:Def P w K mg base "is_asker_list" 4 2 Vf)(F:Fun K "look_at_lists" "look_at_lists" Saf f fd):FnOk P w K mg base CX0 5 f fd ["lists", "things"] (spD K 2 Ve):=
 okD (k:=4) (g:=Sa) F (fq Haf 2) rfl λcdv A outer s H E B G0 hr=>
 have nm:=Haf
 by walk_at "d"
theorem Kac(d_ab:Def P w K mg base "is_number_below" 2 2 ZJ)(F:Fun K "look_at_copies" "look_at_copies" Sac f fd):FnOk P w K mg base CX0 3 f fd ["copies"] (spD K 1 Vg):=
 okD (k:=2) (g:=Sd) F (fq Hac 1) rfl λcdv A outer s H E B G0 hr=>
 have nm:=Hac
 by walk_at "d"
theorem Kag(d_af:Def P w K mg base "look_at_lists" 5 2 Ve)(d_ac:Def P w K mg base "look_at_copies" 3 1 Vg)(F:Fun K "look_at_wishes" "look_at_wishes" Sag f fd):FnOk P w K mg base CX0 6 f fd ["thing"] (spD K 1 Ym):=
 okD (k:=5) (g:=T9) F (fq Hag 1) rfl λcdv A outer s H E B G0 hr=>
 have nm:=Hag
 by walk_at "d"
theorem Kak(d_ag:Def P w K mg base "look_at_wishes" 6 1 Ym)(F:Fun K "copies_left" "copies_left" Sak f fd):FnOk P w K mg base CX0 7 f fd ["wishes", "dealing"] (spD K 2 Va):=
 okD (k:=6) (g:=T5) F (fq Hak 2) rfl λcdv A outer s H E B G0 hr=>
 have nm:=Hak
 by walk_at "d"
theorem Kay(d_ak:Def P w K mg base "copies_left" 7 2 Va)(F:Fun K "steps_of_copies" "steps_of_copies" Say f fd):FnOk P w K mg base CX0 8 f fd ["wishes", "dealing"] (spD K 2 W0):=
 okD (k:=7) (g:=TL) F (fq Hay 2) rfl λcdv A outer s H E B G0 hr=>
 have nm:=Hay
 by walk_at "d"
theorem Kaz(d_ax:Def P w K mg base "steps_of_askers" 2 3 W1)(d_ay:Def P w K mg base "steps_of_copies" 8 2 W0)(F:Fun K "all_steps" "all_steps" Saz f fd):FnOk P w K mg base CX0 9 f fd ["wishes", "worths", "dealing"] (spD K 3 Y6):=
 okD (k:=8) (g:=TK) F (fq Haz 3) rfl λcdv A outer s H E B G0 hr=>
 have nm:=Haz
 by walk_at "d"
theorem Kba(F:Fun K "longer_walks" "longer_walks" Sba f fd):FnOk P w K mg base CX0 1 f fd ["walks", "steps"] (spD K 2 WZ):=
 okD (k:=0) (g:=TJ) F (fq Hba 2) rfl λcdv A outer s H E B G0 hr=>
 have nm:=Hba
 by walk_at "d"
theorem Kbb(d_ba:Def P w K mg base "longer_walks" 1 2 WZ)(F:Fun K "widest_walks" "widest_walks" Sbb f fd):FnOk P w K mg base CX0 2 f fd ["places", "steps"] (spD K 2 Xr):=
 okD (k:=1) (g:=TH) F (fq Hbb 2) rfl λcdv A outer s H E B G0 hr=>
 have nm:=Hbb
 by walk_at "d"
theorem Kbg(d_az:Def P w K mg base "all_steps" 9 3 Y6)(d_bb:Def P w K mg base "widest_walks" 2 2 Xr)(F:Fun K "prices_for" "prices_for" Sbg f fd):FnOk P w K mg base CX0 10 f fd ["wishes", "worths", "dealing"] (spD K 3 WW):=
 okD (k:=9) (g:=Tz) F (fq Hbg 3) rfl λcdv A outer s H E B G0 hr=>
 have nm:=Hbg
 by walk_at "d"
theorem Kbi(d_bh:Def P w K mg base "asks_beyond" 1 3 WV)(d_bg:Def P w K mg base "prices_for" 10 3 WW)(F:Fun K "paper_for" "paper_for" Sbi f fd):FnOk P w K mg base CX0 11 f fd ["wishes", "worths", "dealing"] (spD K 3 Xq):=
 okD (k:=10) (g:=Tw) F (fq Hbi 3) rfl λcdv A outer s H E B G0 hr=>
 have nm:=Hbi
 by walk_at "d"
theorem Kbc(F:Fun K "round_within" "round_within" Sbc f fd):FnOk P w K mg base CX0 1 f fd ["walk"] (spD K 1 WY):=
 okD (k:=0) (g:=TF) F (fq Hbc 1) rfl λcdv A outer s H E B G0 hr=>
 have nm:=Hbc
 by walk_at "d"
theorem Kbd(F:Fun K "way_round" "way_round" Sbd f fd):FnOk P w K mg base CX0 1 f fd ["nothing", "steps"] (spD K 2 XY):=
 okD (k:=0) (g:=TD) F (fq Hbd 2) rfl λcdv A outer s H E B G0 hr=>
 have nm:=Hbd
 by walk_at "d"
theorem Kbe(d_az:Def P w K mg base "all_steps" 9 3 Y6)(d_bb:Def P w K mg base "widest_walks" 2 2 Xr)(d_bc:Def P w K mg base "round_within" 1 1 WY)(d_bd:Def P w K mg base "way_round" 1 2 XY)(F:Fun K "gaining_way" "gaining_way" Sbe f fd):FnOk P w K mg base CX0 10 f fd ["wishes", "worths", "dealing"] (spD K 3 Y5):=
 okD (k:=9) (g:=TC) F (fq Hbe 3) rfl λcdv A outer s H E B G0 hr=>
 have nm:=Hbe
 by walk_at "d"
theorem Kaj(d_ag:Def P w K mg base "look_at_wishes" 6 1 Ym)(F:Fun K "all_wishes" "all_wishes" Saj f fd):FnOk P w K mg base CX0 7 f fd ["wishes"] (spD K 1 Vb):=
 okD (k:=6) (g:=T6) F (fq Haj 1) rfl λcdv A outer s H E B G0 hr=>
 have nm:=Haj
 by walk_at "d"
theorem Kaq(F:Fun K "power" "power" Saq f fd):FnOk P w K mg base CX0 1 f fd ["base", "times"] (spD K 2 Zp):=
 okD (k:=0) (g:=TX) F (fq Haq 2) rfl λcdv A outer s H E B G0 hr=>
 have nm:=Haq
 by walk_at "d"
theorem Kas(d_aq:Def P w K mg base "power" 1 2 Zp)(F:Fun K "worth_by_turns" "worth_by_turns" Sas f fd):FnOk P w K mg base CX0 2 f fd ["turns", "base", "asker", "rank"] (spD K 4 W3):=
 okD (k:=1) (g:=TV) F (fq Has 4) rfl λcdv A outer s H E B G0 hr=>
 have nm:=Has
 by walk_at "d"
theorem Kar(d_aq:Def P w K mg base "power" 1 2 Zp)(F:Fun K "worth_by_order" "worth_by_order" Sar f fd):FnOk P w K mg base CX0 2 f fd ["order", "base", "most", "rank"] (spD K 4 W4):=
 okD (k:=1) (g:=TW) F (fq Har 4) rfl λcdv A outer s H E B G0 hr=>
 have nm:=Har
 by walk_at "d"
theorem Kah(F:Fun K "rank_in" "rank_in" Sah f fd):FnOk P w K mg base CX0 1 f fd ["ranks", "thing"] (spD K 2 Vd):=
 okD (k:=0) (g:=T8) F (fq Hah 2) rfl λcdv A outer s H E B G0 hr=>
 have nm:=Hah
 by walk_at "d"
theorem Kat(d_aq:Def P w K mg base "power" 1 2 Zp)(d_as:Def P w K mg base "worth_by_turns" 2 4 W3)(d_ar:Def P w K mg base "worth_by_order" 2 4 W4)(d_ah:Def P w K mg base "rank_in" 1 2 Vd)(F:Fun K "worth_by_aim" "worth_by_aim" Sat f fd):FnOk P w K mg base CX0 3 f fd ["wishes", "aim", "most", "asker", "thing"] (spD K 5 X0):=
 okD (k:=2) (g:=TU) F (fq Hat 5) rfl λcdv A outer s H E B G0 hr=>
 have nm:=Hat
 by walk_at "d"
theorem Kai(d_ag:Def P w K mg base "look_at_wishes" 6 1 Ym)(F:Fun K "longest" "longest" Sai f fd):FnOk P w K mg base CX0 7 f fd ["wishes"] (spD K 1 Vc):=
 okD (k:=6) (g:=T7) F (fq Hai 1) rfl λcdv A outer s H E B G0 hr=>
 have nm:=Hai
 by walk_at "d"
theorem Kao(d_ab:Def P w K mg base "is_number_below" 2 2 ZJ)(F:Fun K "is_turns" "is_turns" Sao f fd):FnOk P w K mg base CX0 3 f fd ["thing", "askers"] (spD K 2 W6):=
 okD (k:=2) (g:=TZ) F (fq Hao 2) rfl λcdv A outer s H E B G0 hr=>
 have nm:=Hao
 by walk_at "d"
theorem Kan(d_ab:Def P w K mg base "is_number_below" 2 2 ZJ)(F:Fun K "is_old" "is_old" San f fd):FnOk P w K mg base CX0 3 f fd ["thing", "askers", "things"] (spD K 3 W7):=
 okD (k:=2) (g:=T2) F (fq Han 3) rfl λcdv A outer s H E B G0 hr=>
 have nm:=Han
 by walk_at "d"
theorem Kal(F:Fun K "is_order" "is_order" Sal f fd):FnOk P w K mg base CX0 1 f fd ["thing"] (spD K 1 W9):=
 okD (k:=0) (g:=T4) F (fq Hal 1) rfl λcdv A outer s H E B G0 hr=>
 have nm:=Hal
 by walk_at "d"
theorem Kam(d_al:Def P w K mg base "is_order" 1 1 W9)(F:Fun K "look_at_order" "look_at_order" Sam f fd):FnOk P w K mg base CX0 2 f fd ["thing"] (spD K 1 W8):=
 okD (k:=1) (g:=T3) F (fq Ham 1) rfl λcdv A outer s H E B G0 hr=>
 have nm:=Ham
 by walk_at "d"
theorem Kap(d_ao:Def P w K mg base "is_turns" 3 2 W6)(d_an:Def P w K mg base "is_old" 3 3 W7)(d_am:Def P w K mg base "look_at_order" 2 1 W8)(d_ag:Def P w K mg base "look_at_wishes" 6 1 Ym)(F:Fun K "look_at_aim" "look_at_aim" Sap f fd):FnOk P w K mg base CX0 7 f fd ["wishes", "thing"] (spD K 2 W5):=
 okD (k:=6) (g:=TY) F (fq Hap 2) rfl λcdv A outer s H E B G0 hr=>
 have nm:=Hap
 by walk_at "d"
theorem Kau(d_aj:Def P w K mg base "all_wishes" 7 1 Vb)(d_at:Def P w K mg base "worth_by_aim" 3 5 X0)(d_ai:Def P w K mg base "longest" 7 1 Vc)(d_ap:Def P w K mg base "look_at_aim" 7 2 W5)(F:Fun K "all_worths" "all_worths" Sau f fd):FnOk P w K mg base CX0 8 f fd ["wishes", "aim"] (spD K 2 Xs):=
 okD (k:=7) (g:=TR) F (fq Hau 2) rfl λcdv A outer s H E B G0 hr=>
 have nm:=Hau
 by walk_at "d"
theorem Kbk(d_bi:Def P w K mg base "paper_for" 11 3 Xq)(d_be:Def P w K mg base "gaining_way" 10 3 Y5)(d_au:Def P w K mg base "all_worths" 8 2 Xs)(F:Fun K "bettered" "bettered" Sbk f fd):FnOk P w K mg base CX0 12 f fd ["wishes", "aim", "dealing"] (spD K 3 WT):=
 okD (k:=11) (g:=Tu) F (fq Hbk 3) rfl λcdv A outer s H E B G0 hr=>
 have nm:=Hbk
 by walk_at "d"
theorem Kbm(F:Fun K "_law_numbers" "_law_numbers" Sbm f fd):FnOk P w K mg base CX0 1 f fd ["_law_cell", "_law_salt", "_law_sizes"] (spD K 3 YA):=
 okD (k:=0) (g:=Tt) F (fq Hbm 3) rfl λcdv A outer s H E B G0 hr=>
 have nm:=Hbm
 by walk_at "d"
theorem Kbs(d_bq:Def P w K mg base "_law_wished" 1 2 Yl)(d_bm:Def P w K mg base "_law_numbers" 1 3 YA)(F:Fun K "_law_dealt" "_law_dealt" Sbs f fd):FnOk P w K mg base CX0 2 f fd ["_law_wishes_here", "_law_cell", "_law_salt"] (spD K 3 Xp):=
 okD (k:=1) (g:=Tn) F (fq Hbs 3) rfl λcdv A outer s H E B G0 hr=>
 have nm:=Hbs
 by walk_at "d"
theorem Kav(F:Fun K "behind_way" "behind_way" Sav f fd):FnOk P w K mg base CX0 1 f fd ["dealing", "way"] (spD K 2 W2):=
 okD (k:=0) (g:=TQ) F (fq Hav 2) rfl λcdv A outer s H E B G0 hr=>
 have nm:=Hav
 by walk_at "d"
theorem Kbf(d_be:Def P w K mg base "gaining_way" 10 3 Y5)(d_av:Def P w K mg base "behind_way" 1 2 W2)(F:Fun K "best_by" "best_by" Sbf f fd):FnOk P w K mg base CX0 11 f fd ["wishes", "worths"] (spD K 2 WX):=
 okD (k:=10) (g:=TB) F (fq Hbf 2) rfl λcdv A outer s H E B G0 hr=>
 have nm:=Hbf
 by walk_at "d"
theorem Kbj(d_bi:Def P w K mg base "paper_for" 11 3 Xq)(d_bf:Def P w K mg base "best_by" 11 2 WX)(d_au:Def P w K mg base "all_worths" 8 2 Xs)(F:Fun K "best_dealing" "best_dealing" Sbj f fd):FnOk P w K mg base CX0 12 f fd ["wishes", "aim"] (spD K 2 WU):=
 okD (k:=11) (g:=Tv) F (fq Hbj 2) rfl λcdv A outer s H E B G0 hr=>
 have nm:=Hbj
 by walk_at "d"
theorem Kbw(d_bq:Def P w K mg base "_law_wished" 1 2 Yl)(F:Fun K "_law_wishes_of" "_law_wishes_of" Sbw f fd):FnOk P w K mg base CX0 2 f fd ["_law_wishes_here"] (spD K 1 XU):=
 okD (k:=1) (g:=Tj) F (fq Hbw 1) rfl λcdv A outer s H E B G0 hr=>
 have nm:=Hbw
 by walk_at "d"
theorem Kbo(F:Fun K "_law_rank" "_law_rank" Sbo f fd):FnOk P w K mg base CX0 1 f fd ["_law_wishes_here", "_law_asker", "_law_thing"] (spD K 3 WR):=
 okD (k:=0) (g:=Tr) F (fq Hbo 3) rfl λcdv A outer s H E B G0 hr=>
 have nm:=Hbo
 by walk_at "d"
theorem Kbp(F:Fun K "_law_longest" "_law_longest" Sbp f fd):FnOk P w K mg base CX0 1 f fd ["_law_wishes_here"] (spD K 1 WQ):=
 okD (k:=0) (g:=Tq) F (fq Hbp 1) rfl λcdv A outer s H E B G0 hr=>
 have nm:=Hbp
 by walk_at "d"
theorem Kbt(d_bo:Def P w K mg base "_law_rank" 1 3 WR)(d_bp:Def P w K mg base "_law_longest" 1 1 WQ)(F:Fun K "_law_worth" "_law_worth" Sbt f fd):FnOk P w K mg base CX0 2 f fd ["_law_wishes_here", "_law_aim_here", "_law_asker", "_law_thing"] (spD K 4 XX):=
 okD (k:=1) (g:=Tl) F (fq Hbt 4) rfl λcdv A outer s H E B G0 hr=>
 have nm:=Hbt
 by walk_at "d"
theorem Kby(d_bw:Def P w K mg base "_law_wishes_of" 2 1 XU)(d_bt:Def P w K mg base "_law_worth" 2 4 XX)(F:Fun K "_law_worths" "_law_worths" Sby f fd):FnOk P w K mg base CX0 3 f fd ["_law_wishes_here", "_law_aim_here"] (spD K 2 WN):=
 okD (k:=2) (g:=Th) F (fq Hby 2) rfl λcdv A outer s H E B G0 hr=>
 have hu:=hr.units;have hgd:=hr.gd
 (Fu (j:=2) (i1:=3) (i2:=4) hu UF rfl (nq Hby) rfl rfl rfl (lq Hby 2) (lq Hby 3) (lq Hby 4) (λ_=>(pq Hby 2)) (λ_=>(pq Hby 3)) (λ_=>(pq Hby 4)) (by decide) (by decide) (by decide)
 (λB' G'=>(R6 (pdf d_bw hr (gq Hby 0) (YD (Zy (pq Hby 0)) VC))))
 (λB' G'=>(pdf d_bt hr (gq Hby 1) (YD (Zy (pq Hby 0)) (YD (Zy (pq Hby 1)) (YD (Zy (pq Hby 3)) (YD (Zy (pq Hby 4)) VC)))))) (by first|exact .inl rfl|exact .inr rfl|assumption) (by first|exact .inl rfl|exact .inr rfl|assumption) (by first|exact .inl rfl|exact .inr rfl|assumption))
theorem Kbl(F:Fun K "_law_cell_at" "_law_cell_at" Sbl f fd):FnOk P w K mg base CX0 1 f fd ["_law_script", "_law_k"] (spD K 2 Y4):=
 okD (k:=0) (g:=Wz) F (fq Hbl 2) rfl λcdv A outer s H E B G0 hr=>
 have nm:=Hbl
 by walk_at "d"
theorem Kbr(d_bm:Def P w K mg base "_law_numbers" 1 3 YA)(F:Fun K "_law_aim" "_law_aim" Sbr f fd):FnOk P w K mg base CX0 2 f fd ["_law_wishes_here", "_law_cell", "_law_salt"] (spD K 3 WP):=
 okD (k:=1) (g:=To) F (fq Hbr 3) rfl λcdv A outer s H E B G0 hr=>
 have nm:=Hbr
 by walk_at "d"
theorem Kbn(d_bm:Def P w K mg base "_law_numbers" 1 3 YA)(d_bl:Def P w K mg base "_law_cell_at" 1 2 Y4)(F:Fun K "_law_wishes" "_law_wishes" Sbn f fd):FnOk P w K mg base CX0 2 f fd ["_law_script", "_law_at", "_law_most_things", "_law_most_askers", "_law_most_ranks"] (spD K 5 WS):=
 okD (k:=1) (g:=Ts) F (fq Hbn 5) rfl λcdv A outer s H E B G0 hr=>
 have nm:=Hbn
 by walk_at "d"
theorem Kcg(d_bz:Def P w K mg base "_law_sum" 1 2 Yz)(d_cf:Def P w K mg base "_law_shows_best" 4 4 WH)(d_ce:Def P w K mg base "_law_done" 1 2 WI)(d_cd:Def P w K mg base "_law_is_way" 2 3 WJ)(d_bk:Def P w K mg base "bettered" 12 3 WT)(d_bs:Def P w K mg base "_law_dealt" 2 3 Xp)(d_bj:Def P w K mg base "best_dealing" 12 2 WU)(d_by:Def P w K mg base "_law_worths" 3 2 WN)(d_bl:Def P w K mg base "_law_cell_at" 1 2 Y4)(d_br:Def P w K mg base "_law_aim" 2 3 WP)(d_bn:Def P w K mg base "_law_wishes" 2 5 WS)(F:Fun K "law" "law" Scg f fd):FnOk P w K mg base CX0 13 f fd ["_law_script"] (spD K 1 WG):=
 okD (k:=12) (g:=V9) F (fq Hcg 1) rfl λcdv A outer s H E B G0 hr=>
 have nm:=Hcg
 by walk_at "d"
end
theorem KH:recsOf q0=Rv p0 ixL:=by show recsOf (PySem.W.view PySem.Challenge.pw_wishdeal_k44_whole_bettered_until_best Xu)=Rv PySem.Challenge.pw_wishdeal_k44_whole_bettered_until_best ixL;rw[PySem.W.Fast.te3399658132070893891,PySem.W.Fast.te5268323931007635182];kernel_rfl
theorem YM:(["all", "bool", "enumerate", "int", "isinstance", "len", "list", "max", "min", "range", "set", "sorted", "str", "sum", "tuple", "zip"]:List Str).all (RS q0 (PySem.W.looseW q0 []))=true:=by show List.all _ (RS (PySem.W.view PySem.Challenge.pw_wishdeal_k44_whole_bettered_until_best Xu) (PySem.W.looseW (PySem.W.view PySem.Challenge.pw_wishdeal_k44_whole_bettered_until_best Xu) []))=true;k_qdec
theorem ke:valOf q0 "MOST_ASKERS" = some (.int 7):=by show valOf (PySem.W.view PySem.Challenge.pw_wishdeal_k44_whole_bettered_until_best Xu) _=_;rw[Jx,PySem.W.Fast.te5268323931007635182];kernel_rfl
theorem ka:valOf q0 "MOST_COPIES" = some (.int 7):=by show valOf (PySem.W.view PySem.Challenge.pw_wishdeal_k44_whole_bettered_until_best Xu) _=_;rw[Jx,PySem.W.Fast.te5268323931007635182];kernel_rfl
theorem j4:valOf q0 "MOST_RANKS" = some (.int 5):=by show valOf (PySem.W.view PySem.Challenge.pw_wishdeal_k44_whole_bettered_until_best Xu) _=_;rw[Jx,PySem.W.Fast.te5268323931007635182];kernel_rfl
theorem j9:valOf q0 "MOST_THINGS" = some (.int 6):=by show valOf (PySem.W.view PySem.Challenge.pw_wishdeal_k44_whole_bettered_until_best Xu) _=_;rw[Jx,PySem.W.Fast.te5268323931007635182];kernel_rfl
theorem Ar:tupStrsOf q0 "ORDERS" = some (["firsts", "full", "lasts"]:List Str):=by show tupStrsOf (PySem.W.view PySem.Challenge.pw_wishdeal_k44_whole_bettered_until_best Xu) _=_;rw[PySem.W.Fast.te14491516231548247274,PySem.W.Fast.te5268323931007635182];kernel_rfl
theorem Fp{l:PySem.W.OpenLaw}{w:World}{s0:Um}{mg mb:Str->Option Ul}{fa:Up}{h:Heap}{XP:(Str->Option Ul)->Heap->Prop}(G:PySem.W.Ground q0 [] [] XP w s0 mg mb h)(hfa:mg "law" = some (.ref fa)) :
  ∃fd:Uq,(∀(s:Um)(v:Ul),BindsTo s fd ⟨[v],[]⟩ [("_law_script", v)])/\∀base:Heap,FnOk l.prog w (whole h) mg base CX0 13 fa fd ["_law_script"] (spD (whole h) 1 WG):=by
 have T:Txt (whole h) mg:=⟨YR G.T YM (mq 0 rfl),YR G.T YM (mq 1 rfl),YR G.T YM (mq 2 rfl),YR G.T YM (mq 3 rfl),YR G.T YM (mq 4 rfl),YR G.T YM (mq 5 rfl),YR G.T YM (mq 6 rfl),YR G.T YM (mq 7 rfl),YR G.T YM (mq 8 rfl),YR G.T YM (mq 9 rfl),YR G.T YM (mq 10 rfl),YR G.T YM (mq 11 rfl),YR G.T YM (mq 12 rfl),YR G.T YM (mq 13 rfl),YR G.T YM (mq 14 rfl),YR G.T YM (mq 15 rfl),Pw G.T ke,Pw G.T ka,Pw G.T j4,Pw G.T j9,Ag G.B Ar (by decide)⟩
 refine GL G.T KH 77 "law" rfl rfl hfa (λ_ _ _ _ _ _ _=>rfl) λbase=>?_
 have d_bz:=KI l.prog w base G.T KH 70 "_law_sum" rfl rfl (λF=>Kbz T  F) λ_ _ _ _ _ _ us hl=>bz2 (us:=us) hl λ_ _=>rfl
 have d_cb:=KI l.prog w base G.T KH 72 "_law_claim" rfl rfl (λF=>Kcb T  F) λ_ _ _ _ _ _ us hl=>bz2 (us:=us) hl λ_ _=>rfl
 have d_bu:=KI l.prog w base G.T KH 65 "_law_is_number" rfl rfl (λF=>Kbu T  F) λ_ _ _ _ _ _ us hl=>bz1 (us:=us) hl λ_=>rfl
 have d_bq:=KI l.prog w base G.T KH 61 "_law_wished" rfl rfl (λF=>Kbq T  F) λ_ _ _ _ _ _ us hl=>bz2 (us:=us) hl λ_ _=>rfl
 have d_bx:=KI l.prog w base G.T KH 68 "_law_is_dealing" rfl rfl (λF=>Kbx T d_bu d_bq F) λ_ _ _ _ _ _ us hl=>bz2 (us:=us) hl λ_ _=>rfl
 have d_bv:=KI l.prog w base G.T KH 66 "_law_is_row" rfl rfl (λF=>Kbv T d_bu F) λ_ _ _ _ _ _ us hl=>bz2 (us:=us) hl λ_ _=>rfl
 have d_ca:=KI l.prog w base G.T KH 71 "_law_lets" rfl rfl (λF=>Kca T d_bv d_bu F) λ_ _ _ _ _ _ us hl=>bz3 (us:=us) hl λ_ _ _=>rfl
 have d_cf:=KI l.prog w base G.T KH 76 "_law_shows_best" rfl rfl (λF=>Kcf T d_cb d_bz d_bx d_ca F) λ_ _ _ _ _ _ us hl=>bz4 (us:=us) hl λ_ _ _ _=>rfl
 have d_ce:=KI l.prog w base G.T KH 75 "_law_done" rfl rfl (λF=>Kce T  F) λ_ _ _ _ _ _ us hl=>bz2 (us:=us) hl λ_ _=>rfl
 have d_cc:=KI l.prog w base G.T KH 73 "_law_left" rfl rfl (λF=>Kcc T  F) λ_ _ _ _ _ _ us hl=>bz2 (us:=us) hl λ_ _=>rfl
 have d_cd:=KI l.prog w base G.T KH 74 "_law_is_way" rfl rfl (λF=>Kcd T d_cc d_bq d_bu F) λ_ _ _ _ _ _ us hl=>bz3 (us:=us) hl λ_ _ _=>rfl
 have d_bh:=KI l.prog w base G.T KH 50 "asks_beyond" rfl rfl (λF=>Kbh T  F) λ_ _ _ _ _ _ us hl=>bz3 (us:=us) hl λ_ _ _=>rfl
 have d_aw:=KI l.prog w base G.T KH 39 "place_of" rfl rfl (λF=>Kaw T  F) λ_ _ _ _ _ _ us hl=>bz2 (us:=us) hl λ_ _=>rfl
 have d_ax:=KI l.prog w base G.T KH 40 "steps_of_askers" rfl rfl (λF=>Kax T d_aw F) λ_ _ _ _ _ _ us hl=>bz3 (us:=us) hl λ_ _ _=>rfl
 have d_aa:=KI l.prog w base G.T KH 1 "is_whole" rfl rfl (λF=>Kaa T  F) λ_ _ _ _ _ _ us hl=>bz1 (us:=us) hl λ_=>rfl
 have d_ab:=KI l.prog w base G.T KH 2 "is_number_below" rfl rfl (λF=>Kab T d_aa F) λ_ _ _ _ _ _ us hl=>bz2 (us:=us) hl λ_ _=>rfl
 have d_ad:=KI l.prog w base G.T KH 13 "is_rank" rfl rfl (λF=>Kad T d_ab F) λ_ _ _ _ _ _ us hl=>bz2 (us:=us) hl λ_ _=>rfl
 have d_ae:=KI l.prog w base G.T KH 14 "is_asker_list" rfl rfl (λF=>Kae T d_ad F) λ_ _ _ _ _ _ us hl=>bz2 (us:=us) hl λ_ _=>rfl
 have d_af:=KI l.prog w base G.T KH 15 "look_at_lists" rfl rfl (λF=>Kaf T d_ae F) λ_ _ _ _ _ _ us hl=>bz2 (us:=us) hl λ_ _=>rfl
 have d_ac:=KI l.prog w base G.T KH 12 "look_at_copies" rfl rfl (λF=>Kac T d_ab F) λ_ _ _ _ _ _ us hl=>bz1 (us:=us) hl λ_=>rfl
 have d_ag:=KI l.prog w base G.T KH 16 "look_at_wishes" rfl rfl (λF=>Kag T d_af d_ac F) λ_ _ _ _ _ _ us hl=>bz1 (us:=us) hl λ_=>rfl
 have d_ak:=KI l.prog w base G.T KH 21 "copies_left" rfl rfl (λF=>Kak T d_ag F) λ_ _ _ _ _ _ us hl=>bz2 (us:=us) hl λ_ _=>rfl
 have d_ay:=KI l.prog w base G.T KH 41 "steps_of_copies" rfl rfl (λF=>Kay T d_ak F) λ_ _ _ _ _ _ us hl=>bz2 (us:=us) hl λ_ _=>rfl
 have d_az:=KI l.prog w base G.T KH 42 "all_steps" rfl rfl (λF=>Kaz T d_ax d_ay F) λ_ _ _ _ _ _ us hl=>bz3 (us:=us) hl λ_ _ _=>rfl
 have d_ba:=KI l.prog w base G.T KH 43 "longer_walks" rfl rfl (λF=>Kba T  F) λ_ _ _ _ _ _ us hl=>bz2 (us:=us) hl λ_ _=>rfl
 have d_bb:=KI l.prog w base G.T KH 44 "widest_walks" rfl rfl (λF=>Kbb T d_ba F) λ_ _ _ _ _ _ us hl=>bz2 (us:=us) hl λ_ _=>rfl
 have d_bg:=KI l.prog w base G.T KH 49 "prices_for" rfl rfl (λF=>Kbg T d_az d_bb F) λ_ _ _ _ _ _ us hl=>bz3 (us:=us) hl λ_ _ _=>rfl
 have d_bi:=KI l.prog w base G.T KH 51 "paper_for" rfl rfl (λF=>Kbi T d_bh d_bg F) λ_ _ _ _ _ _ us hl=>bz3 (us:=us) hl λ_ _ _=>rfl
 have d_bc:=KI l.prog w base G.T KH 45 "round_within" rfl rfl (λF=>Kbc T  F) λ_ _ _ _ _ _ us hl=>bz1 (us:=us) hl λ_=>rfl
 have d_bd:=KI l.prog w base G.T KH 46 "way_round" rfl rfl (λF=>Kbd T  F) λ_ _ _ _ _ _ us hl=>bz2 (us:=us) hl λ_ _=>rfl
 have d_be:=KI l.prog w base G.T KH 47 "gaining_way" rfl rfl (λF=>Kbe T d_az d_bb d_bc d_bd F) λ_ _ _ _ _ _ us hl=>bz3 (us:=us) hl λ_ _ _=>rfl
 have d_aj:=KI l.prog w base G.T KH 19 "all_wishes" rfl rfl (λF=>Kaj T d_ag F) λ_ _ _ _ _ _ us hl=>bz1 (us:=us) hl λ_=>rfl
 have d_aq:=KI l.prog w base G.T KH 31 "power" rfl rfl (λF=>Kaq T  F) λ_ _ _ _ _ _ us hl=>bz2 (us:=us) hl λ_ _=>rfl
 have d_as:=KI l.prog w base G.T KH 33 "worth_by_turns" rfl rfl (λF=>Kas T d_aq F) λ_ _ _ _ _ _ us hl=>bz4 (us:=us) hl λ_ _ _ _=>rfl
 have d_ar:=KI l.prog w base G.T KH 32 "worth_by_order" rfl rfl (λF=>Kar T d_aq F) λ_ _ _ _ _ _ us hl=>bz4 (us:=us) hl λ_ _ _ _=>rfl
 have d_ah:=KI l.prog w base G.T KH 17 "rank_in" rfl rfl (λF=>Kah T  F) λ_ _ _ _ _ _ us hl=>bz2 (us:=us) hl λ_ _=>rfl
 have d_at:=KI l.prog w base G.T KH 34 "worth_by_aim" rfl rfl (λF=>Kat T d_aq d_as d_ar d_ah F) λ_ _ _ _ _ _ us hl=>bz5 (us:=us) hl λ_ _ _ _ _=>rfl
 have d_ai:=KI l.prog w base G.T KH 18 "longest" rfl rfl (λF=>Kai T d_ag F) λ_ _ _ _ _ _ us hl=>bz1 (us:=us) hl λ_=>rfl
 have d_ao:=KI l.prog w base G.T KH 28 "is_turns" rfl rfl (λF=>Kao T d_ab F) λ_ _ _ _ _ _ us hl=>bz2 (us:=us) hl λ_ _=>rfl
 have d_an:=KI l.prog w base G.T KH 27 "is_old" rfl rfl (λF=>Kan T d_ab F) λ_ _ _ _ _ _ us hl=>bz3 (us:=us) hl λ_ _ _=>rfl
 have d_al:=KI l.prog w base G.T KH 24 "is_order" rfl rfl (λF=>Kal T  F) λ_ _ _ _ _ _ us hl=>bz1 (us:=us) hl λ_=>rfl
 have d_am:=KI l.prog w base G.T KH 25 "look_at_order" rfl rfl (λF=>Kam T d_al F) λ_ _ _ _ _ _ us hl=>bz1 (us:=us) hl λ_=>rfl
 have d_ap:=KI l.prog w base G.T KH 29 "look_at_aim" rfl rfl (λF=>Kap T d_ao d_an d_am d_ag F) λ_ _ _ _ _ _ us hl=>bz2 (us:=us) hl λ_ _=>rfl
 have d_au:=KI l.prog w base G.T KH 35 "all_worths" rfl rfl (λF=>Kau T d_aj d_at d_ai d_ap F) λ_ _ _ _ _ _ us hl=>bz2 (us:=us) hl λ_ _=>rfl
 have d_bk:=KI l.prog w base G.T KH 54 "bettered" rfl rfl (λF=>Kbk T d_bi d_be d_au F) λ_ _ _ _ _ _ us hl=>bz3 (us:=us) hl λ_ _ _=>rfl
 have d_bm:=KI l.prog w base G.T KH 57 "_law_numbers" rfl rfl (λF=>Kbm T  F) λ_ _ _ _ _ _ us hl=>bz3 (us:=us) hl λ_ _ _=>rfl
 have d_bs:=KI l.prog w base G.T KH 63 "_law_dealt" rfl rfl (λF=>Kbs T d_bq d_bm F) λ_ _ _ _ _ _ us hl=>bz3 (us:=us) hl λ_ _ _=>rfl
 have d_av:=KI l.prog w base G.T KH 37 "behind_way" rfl rfl (λF=>Kav T  F) λ_ _ _ _ _ _ us hl=>bz2 (us:=us) hl λ_ _=>rfl
 have d_bf:=KI l.prog w base G.T KH 48 "best_by" rfl rfl (λF=>Kbf T d_be d_av F) λ_ _ _ _ _ _ us hl=>bz2 (us:=us) hl λ_ _=>rfl
 have d_bj:=KI l.prog w base G.T KH 53 "best_dealing" rfl rfl (λF=>Kbj T d_bi d_bf d_au F) λ_ _ _ _ _ _ us hl=>bz2 (us:=us) hl λ_ _=>rfl
 have d_bw:=KI l.prog w base G.T KH 67 "_law_wishes_of" rfl rfl (λF=>Kbw T d_bq F) λ_ _ _ _ _ _ us hl=>bz1 (us:=us) hl λ_=>rfl
 have d_bo:=KI l.prog w base G.T KH 59 "_law_rank" rfl rfl (λF=>Kbo T  F) λ_ _ _ _ _ _ us hl=>bz3 (us:=us) hl λ_ _ _=>rfl
 have d_bp:=KI l.prog w base G.T KH 60 "_law_longest" rfl rfl (λF=>Kbp T  F) λ_ _ _ _ _ _ us hl=>bz1 (us:=us) hl λ_=>rfl
 have d_bt:=KI l.prog w base G.T KH 64 "_law_worth" rfl rfl (λF=>Kbt T d_bo d_bp F) λ_ _ _ _ _ _ us hl=>bz4 (us:=us) hl λ_ _ _ _=>rfl
 have d_by:=KI l.prog w base G.T KH 69 "_law_worths" rfl rfl (λF=>Kby T d_bw d_bt F) λ_ _ _ _ _ _ us hl=>bz2 (us:=us) hl λ_ _=>rfl
 have d_bl:=KI l.prog w base G.T KH 56 "_law_cell_at" rfl rfl (λF=>Kbl T  F) λ_ _ _ _ _ _ us hl=>bz2 (us:=us) hl λ_ _=>rfl
 have d_br:=KI l.prog w base G.T KH 62 "_law_aim" rfl rfl (λF=>Kbr T d_bm F) λ_ _ _ _ _ _ us hl=>bz3 (us:=us) hl λ_ _ _=>rfl
 have d_bn:=KI l.prog w base G.T KH 58 "_law_wishes" rfl rfl (λF=>Kbn T d_bm d_bl F) λ_ _ _ _ _ _ us hl=>bz5 (us:=us) hl λ_ _ _ _ _=>rfl
 exact λ{_ _} F=>Kcg T d_bz d_cf d_ce d_cd d_bk d_bs d_bj d_by d_bl d_br d_bn F
noncomputable abbrev d_cg:DefRec:=⟨"law", SG Scg,Vv Scg,ZL Scg,GM Scg⟩
theorem walk{YP:World->Heap->Prop}{XP:(Str->Option Ul)->Heap->Prop}(hlaw:∀ns:List Int,ns.length<=63->WG [.list (ns.map int)]=some (.bool true)):PySem.W.WalkO q0 [] XP YP (PySem.Challenge.rw_wishdeal_k44_whole_bettered_until_best).row.toRowW d_cg [] (λf vs=>PySem.call f vs):=
 CW (n:=63) (k:=13) (x:= "_law_script") rfl (by decide) rfl ⟨rfl,by decide,by decide,rfl⟩ (λ_ _ _ _ _ _ G hm=>Fp G hm) hlaw
theorem PL{f:M D}{Z Z1:UH}{d:D}{t:Bool}(h:f Z=.ok d Z1)(ht:(!isNon d)=t):UZ (λd=>!isNon d) f Z=.ok t Z1:=by subst ht;exact KF (k:=λd=>!isNon d) h
theorem HL{sizes found:List Int}{z d:Int}(h:∀(j:Nat) d z,found[j]?=some d->sizes[j]?=some z->0<=d/\d<z)(hz:sizes[found.length]?=some z)(h0:0<=d/\d<z) :
  ∀(j:Nat) d' z',(found++[d])[j]?=some d'->sizes[j]?=some z'->0<=d'/\d'<z':=by
 intro j d' z' e1 e2;by_cases hj:j<found.length
 ·rw[Qw hj]at e1;exact h j d' z' e1 e2
 ·by_cases hj2:j=found.length
  ·subst hj2;rw[hz]at e2;cases e2;rw[Qx (Qr _),Nat.sub_self,List.getElem?_cons_zero]at e1;cases e1;exact h0
  ·rw[Ja (by rw[Qj,Q6];omega)]at e1;cases e1
def inv(c s:Int)(sizes:List Int)(n:Int)(i:Nat)(Z:UH):Prop:=∃left found x6 x7,Z=[some (Sl.pub (.int c)),some (.pub (.int s)),some (.pub (.list (sizes.map .int))),some (.pub (.int n)),some (.pub (.int left)),some (.own ((found:List Int).map .int)),x6,x7] /\
 found.length=i/\∀(j:Nat) d z,found[j]?=some d->sizes[j]?=some z->0<=d/\d<z
theorem Aq{c s n:Int}{sizes:List Int}(hs:∀x∈sizes,0<x/\x<18446744073709551616)(hl:sizes.length<=1000){i:Nat}{d:D}{Z:UH}{Q:Out->Prop}(hi:(ZP 0 sizes.length)[i]?=some d)(h:inv c s sizes n i Z) :
  ∃Z2,gN 6 d Z=some Z2/\Ho OA Z2 (VL (inv c s sizes n (i+1)) Q):=by
 obtain⟨left,found,x6,x7,rfl,hf,hfd⟩:=h;obtain⟨rfl,hlt⟩:=Wc hi;obtain⟨z,hz⟩:∃z,sizes[i]?=some z:=⟨sizes[i]'(by omega),Qf _⟩
 obtain⟨z1,z2⟩:=hs z (Qo hz);have hix:oIx (.list (sizes.map int)) (.int (0+(i:Int)))=some (.int z):=by rw[JT];exact KU (by rw[Qe,hz];rfl)
 generalize hk:(0:Int)+(i:Int)=k at hix⊢;have hk1:k<18446744073709551616:=by omega
 have hk2 : -18446744073709551616<k:=by omega
 have hlen:(found.map int).length<1000000:=by rw[Qb];omega
 have pw:XR (.int 10) (.int 18)=some (.int 1000000000000000000):=by rw[M5 (by decide)];rfl
 refine⟨_,UT (Qa rfl) rfl,?_⟩;unfold OA;apply Ko
 case h1=>exact Ma (ZB rfl (U0 UR UR pw) rfl) λ_=>ZB rfl UR rfl
 case h2=>intro _;refine Kf (Wa rfl (U0 (UL rfl) (Kj rfl (UL rfl) hix) (Vx (by omega))) rfl hlen rfl) ?_;refine Zx (Kx (U0 (UL rfl) (Kj rfl (UL rfl) hix) (M6 (by omega) (by omega))) (Qa rfl) rfl) (KZ ?_);exact⟨_,found++[left % z],_,_,by rw[QE];rfl,by rw[Qj,hf];rfl,HL hfd (by rw[hf];exact hz) ⟨Int.emod_nonneg _ (by omega),Int.emod_lt_of_pos _ z1⟩⟩
 case h3=>intro _;refine Kf (Kx (U0 (U0 (U0 (U0 (UL rfl) (U0 UR (UL rfl) (SX (by decide) (by decide))) K0) (U0 (U0 UR (UL rfl) (SX (by decide) (by decide))) (UL rfl) (XJ hk2 hk1)) K0) (UL rfl) K0) UR (Vx (by decide))) (Qa rfl) rfl) ?_;refine Kf (Kx (U0 (U0 (UL rfl) UR (XJ (by decide) (by decide))) UR (Vx (by decide))) (Qa rfl) rfl) ?_;refine Kf (Kx (U0 (U0 (U0 (U0 (UL rfl) (UL rfl) (XJ (by omega) (by omega))) UR (Vx (by decide))) UR (XJ (by decide) (by decide))) UR (Vx (by decide))) (Qa rfl) rfl) ?_;refine Zx (Wa rfl (U0 (U0 (UL rfl) UR (M6 (by decide) (by decide))) (Kj rfl (UL rfl) hix) (Vx (by omega))) rfl hlen rfl) (KZ ?_);exact⟨_,found++[_ % z],_,_,by rw[QE];rfl,by rw[Qj,hf];rfl,HL hfd (by rw[hf];exact hz) ⟨Int.emod_nonneg _ (by omega),Int.emod_lt_of_pos _ z1⟩⟩
theorem PK(c s:Int){sizes:List Int}(hs:∀x∈sizes,0<x/\x<18446744073709551616)(hl:sizes.length<=1000) :
  ∃r,YA [.int c,.int s,.list (sizes.map int)]=some r/\∃ds:List Int,r=.list (ds.map .int)/\ds.length=sizes.length/\∀(j:Nat) d z,ds[j]?=some d->sizes[j]?=some z->0<=d/\d<z:=by
 refine X9 (Z:=[some (.pub (.int c)),some (.pub (.int s)),some (.pub (.list (sizes.map int))),none,none,none,none,none]) rfl ?_;unfold Tt;refine Kf (Kx (K9 (UP (UL rfl) (UP (U0 (SB UR) (UL rfl) Yt) UU)) Lc) (Qa rfl) rfl) ?_;refine Kf (Kx (UL rfl) (Qa rfl) rfl) ?_;refine Kf (Yd (Vy UU (Qa rfl)) (Qa rfl) rfl) ?_;apply Kr;apply Zr (ds:=ZP 0 sizes.length) (inv c s sizes (if -1-c > c then -1-c else c))
 case h1=>exact Xz (UP (Zq rfl (by rw[K2,Qb])) UU) (Xv (by omega) (by omega))
 case h0=>exact⟨_,[],none,none,rfl,rfl,λj d z e=>by cases e⟩
 case hst=>exact λi d Z e h=>Aq hs hl e h
 case hend=>rintro Z ⟨left,found,x6,x7,rfl,hf,hfd⟩;rw[YW]at hf;exact Kp (Kv (Yu rfl rfl) ⟨_,rfl,found,rfl,by omega,hfd⟩)
theorem Pu:∀{xs:List D},(∀x∈xs,PyData.canLay0 x=true)->UC xs=true
 |[],_=>rfl
 |x::r,h=>by
  show(PyData.canLay0 x&&UC r)=true
  rw[h x Qm,Pu λy hy=>h y (Ql _ hy)];rfl
theorem O8{n:Nat}:∀{xs:List D},(∀x∈xs,UD x<=n)->PyData.depthAll xs<=n
 |[],_=>by simp[PyData.depthAll]
 |x::r,h=>by have h1:=h x Qm;have h2:=O8 (n:=n) λy hy=>h y (Ql _ hy);simp only[PyData.depthAll];omega
noncomputable def Zf(r:List Int):D:=.list (r.map int)
noncomputable def KL(rs:List (List Int)):D:=.list (rs.map Zf)
noncomputable def U7(cs:List Int)(ls:L3):D:=.tuple [.list (cs.map int),.list (ls.map KL)]
structure V0(n:Nat)(rs:List (List Int)):Prop where
 few:rs.length<=5
 some:∀r∈rs,r≠[]
 there:∀r∈rs,∀t∈r,0<=t/\t<n
 once:rs.flatten.Nodup
structure Good(cs:List Int)(ls:L3):Prop where
 c1:1<=cs.length
 c6:cs.length<=6
 c7:∀c∈cs,0<=c/\c<8
 l1:1<=ls.length
 l7:ls.length<=7
 rk:∀rs∈ls,V0 cs.length rs
theorem CO(r:List Int):(Zf r).canLay0=true:=Pu λx hx=>by obtain⟨y,_,rfl⟩:=Qs.mp hx;rfl
theorem MD(i:Int):(int i).depth<=1:=by simp[UD]
theorem MC{n:Nat}{xs:List D}(h:PyData.depthAll xs<=n):(Uy xs).depth<=n+1:=by simp only[UD];omega
theorem CN(r:List Int):(Zf r).depth<=2:=MC (O8 λx hx=>by obtain⟨y,_,rfl⟩:=Qs.mp hx;exact MD y)
theorem Ap(i:Int):Vh [.int i]=some (.bool true):=by refine KS (Z:=[some (.pub (.int i))]) rfl ?_;unfold Sf;exact Kv (RF (KF (UL rfl)) (λ_=>OB (KF (UL rfl)))) rfl
theorem Pt{i m:Int}(h0:0<=i)(h1:i<m):ZJ [.int i,.int m]=some (.bool true):=by
 refine KS (Z:=[some (.pub (.int i)),some (.pub (.int m))]) rfl ?_;unfold Se;have hb:(decide (0<=i)&&decide (i<m))=true:=by simp[h0,h1]
 refine Kv (RF (t:=true) (u:=true) (Kg (UP (UL rfl) UU) rfl (Ap i)) (λ_=>?_)) rfl;rw[←hb];exact KF (OU UR (UL rfl) rfl (λ_=>UL rfl) (λ_=>rfl))
theorem Ps{α:Type}(l:List α):Yh [.list (l.map λ_=>.bool true)]=some (.bool true):=by
 have:(l.map λ_=>Uz true)=(l.map λ_=>true).map Uz:=by rw[Q4];rfl
 rw[this,La]
 congr 2
 rw[List.all_map];induction l with
 |nil=>rfl
 |cons x r ih=>simpa using ih
theorem qe{r:List Int}{n:Int}(hne:r≠[])(hl:r.length<=1000)(h:∀t∈r,0<=t/\t<n):X1 [Zf r,.int n]=some (.bool true):=by
 refine KS (Z:=[some (.pub (Zf r)),some (.pub (.int n))]) rfl ?_;unfold Sc;apply Kr;have hlen:U8 [Zf r]=some (.int r.length):=by unfold Zf;rw[K2,Qb]
 have hp:0<r.length:=List.length_pos_iff.mpr hne;apply Ko
 case h1=>exact ZY (Z1:=[some (.pub (Zf r)),some (.pub (.int n))]) (We (UL rfl) rfl) (U0 (Zq rfl hlen) UR Xx)
 case h2=>
       intro hh;have:(r.length:Int)=0:=by simpa using hh
       omega
 case h3=>
  intro _;refine Ky (Kp ?_)
  have hc:KY (gN 2) (UO true) (UW 2 ZJ (UM (UB 2) (UM (UB 1) (UI)))) (r.map int) (Kl [some (.pub (Zf r)),some (.pub (.int n))]++Ux 1 none) []=some (r.map λ_=>.bool true):=by
   rw[V1 (λ_=>true) (λ_=>.bool true) (λZ=>∃x,Z=[some (.pub (Zf r)),some (.pub (.int n)),x])]
   ·rw[Uc.mpr (λ_ _=>rfl),Ji,Q4];rfl
   ·rintro d hm Z ⟨x,rfl⟩;obtain⟨t,ht,rfl⟩:=Qs.mp hm;exact⟨_,UT (Qa rfl) rfl,rfl,λ_=>Kg (UP (UL rfl) (UP (UL rfl) UU)) rfl (Pt (h t ht).1 (h t ht).2),_,rfl⟩
   ·exact⟨none,rfl⟩
   ·rw[Qb,QC];omega
  exact Kv (K9 (UP (KF (ZT (Zl (UL rfl) rfl) hc)) UU) (Ps r)) rfl
theorem Hl{a b c x3:Option Sl}(ha:Xe a=a)(hb:Xe b=b)(hc:Xe c=c)(hx:Xe x3=x3):∀(ds es:List D)(x4:Option Sl),es.length+ds.length<=1000000 ->
  ∃y,YJ (gN 4) (UO true) (UB 4) ds [a,b,c,x3,x4] es=some (es++ds,[a,b,c,x3,y])
 |[],es,x4,_=>⟨x4,by rw[YJ,Jc]⟩
 |d::r,es,x4,h=>by
  rw[QJ]at h;obtain⟨y,e⟩:=Hl ha hb hc hx r (es++[d]) (some (.pub d)) (by rw[Qj,Q6];omega);refine⟨y,?_⟩;rw[YJ];have h1:gN 4 d [a,b,c,x3,x4]=some [a,b,c,x3,some (.pub d)]:=UT (Qa rfl) rfl;rw[h1];dsimp only[UO];rw[Qp rfl];have h2:UB 4 [a,b,c,x3,some (.pub d)]=.ok d [a,b,c,x3,some (.pub d)]:=UL rfl;rw[h2];dsimp only;rw[Qp (by omega)];have h3:Kl [a,b,c,x3,some (.pub d)]=[a,b,c,x3,some (.pub d)]:=by unfold Kl;simp only[Qy,Ug,ha,hb,hc,hx];rfl
  rw[h3,e,Q9];rfl
theorem Gg{a b:D}:∀(rs:List (List Int))(es:List D)(x3 x4:Option Sl),es.length+rs.flatten.length<=1000000 ->
  XH (gN 3) (UO true) (KQ (UB 3)) (gN 4) (UO true) (UB 4) (rs.map Zf) [some (.pub a),some (.pub b),none,x3,x4] es=some (es++rs.flatten.map int)
 |[],es,_,_,_=>by rw[List.map_nil,XH];simp
 |r::rs,es,x3,x4,h=>by rw[QM,Qj]at h;rw[Qy,XH];have h1:gN 3 (Zf r) [some (.pub a),some (.pub b),none,x3,x4]=some [some (.pub a),some (.pub b),none,some (.pub (Zf r)),x4]:=UT (Qa rfl) rfl;rw[h1];dsimp only[UO];rw[Qp rfl];have h2:KQ (UB 3) [some (.pub a),some (.pub b),none,some (.pub (Zf r)),x4]=.ok (r.map int) [some (.pub a),some (.pub b),none,some (.pub (Zf r)),x4]:=Zl (UL rfl) rfl;rw[h2];dsimp only;have h3:Kl [some (.pub a),some (.pub b),none,some (.pub (Zf r)),x4]=[some (.pub a),some (.pub b),none,some (.pub (Zf r)),Xe x4]:=rfl;rw[h3];obtain⟨y,e⟩:=Hl (a:=some (.pub a)) (b:=some (.pub b)) (c:=none) (x3:=some (.pub (Zf r))) rfl rfl rfl rfl (r.map int) es (Xe x4) (by rw[Qb];omega);rw[e];dsimp only;have ih:=Gg (a:=a) (b:=b) rs (es++r.map int) (some (.pub (Zf r))) y (by rw[Qj,Qb];omega);refine Eq.trans ih ?_;rw[QM,QE,Q9]
theorem HK{ns:List Int}(h:ns.Nodup):VO ns=ns.length:=by
 unfold VO
 have:∀i,i<=ns.length->(PyProof.Rows.firstMet (λi=>ns.getD i 0) i).length=i:=by
  intro i;induction i with
  |zero=>intro _;rfl
  |succ i ih=>
   intro hi;rw[PyProof.Rows.firstMet_succ]
   have hany:(PyProof.Rows.firstMet (λi=>ns.getD i 0) i).any (· == ns.getD i 0)=false:=by
    rw[PyProof.Rows.firstMet_any,List.any_eq_false];intro x hx;obtain⟨j,hj,rfl⟩:=Qs.mp hx;have hj:=Q7.mp hj;intro e;have e:ns.getD j 0=ns.getD i 0:=by simpa using e
    have l1:j<ns.length:=by omega
    have l2:i<ns.length:=by omega
    simp only[List.getD,Qf l1,Qf l2,JW]at e;exact absurd ((List.getElem_inj h).mp e) (by omega)
   unfold PyProof.Rows.step_dedup;rw[hany];rw[QB (by decide),Qj,ih (by omega)];rfl
 exact this ns.length (Qr _)
theorem jy{rs:List (List Int)}{n:Nat}(g:V0 n rs)(hn:n<=6)(hf:rs.flatten.length<=1000):Vf [KL rs,.int n]=some (.bool true):=by
 refine KS (Z:=[some (.pub (KL rs)),some (.pub (.int n)),none]) rfl ?_;unfold Sb;have hlen:U8 [KL rs]=some (.int rs.length):=by unfold KL;rw[K2,Qb]
 have h5:=g.few;have hrl:∀r∈rs,r.length<=1000:=λr hr=>QT (List.Sublist.length_le (List.sublist_flatten_of_mem hr)) hf;apply Kr;apply Ko
 case h1=>exact ZY (Z1:=[some (.pub (KL rs)),some (.pub (.int n)),none]) (We (UL rfl) rfl) (U0 (Zq rfl hlen) UR rfl)
 case h2=>
       intro hh;have:(5:Int)<(rs.length:Int):=by simpa using hh
       omega
 case h3=>
  intro _;refine Ky (Kp ?_)
  have hc:KY (gN 3) (UO true) (UW 2 X1 (UM (UB 3) (UM (UB 1) (UI)))) (rs.map Zf) (Kl [some (.pub (KL rs)),some (.pub (.int n)),none]++Ux 1 none) []=some (rs.map λ_=>.bool true):=by
   rw[V1 (λ_=>true) (λ_=>.bool true) (λZ=>∃x,Z=[some (.pub (KL rs)),some (.pub (.int n)),none,x])]
   ·rw[Uc.mpr (λ_ _=>rfl),Ji,Q4];rfl
   ·rintro d hm Z ⟨x,rfl⟩;obtain⟨r,hr,rfl⟩:=Qs.mp hm;exact⟨_,UT (Qa rfl) rfl,rfl,λ_=>Kg (UP (UL rfl) (UP (UL rfl) UU)) rfl (qe (g.some r hr) (hrl r hr) (g.there r hr)),_,rfl⟩
   ·exact⟨none,rfl⟩
   ·rw[Qb,QC];omega
  apply Kr;apply Ko
  case h1=>exact ZS (Yb (K9 (UP (KF (ZT (Zl (UL rfl) rfl) hc)) UU) (Ps rs)))
  case h2=>intro hh;cases hh
  case h3=>
   intro _;refine Ky (Kp ?_);have h2:Rs (KQ (UB 0)) 2 (gN 3) (UO true) (KQ (UB 3)) (gN 4) (UO true) (UB 4) [some (.pub (KL rs)),some (.pub (.int n)),none]=.ok (rs.flatten.map int) [some (.pub (KL rs)),some (.pub (.int n)),none]:=by unfold Rs;have e1:KQ (UB 0) [some (.pub (KL rs)),some (.pub (.int n)),none]=.ok (rs.map Zf) [some (.pub (KL rs)),some (.pub (.int n)),none]:=Zl (UL rfl) rfl;rw[e1];dsimp only;have e2:=Gg (a:=KL rs) (b:=.int n) rs [] none none (by rw[QC];omega);have e3:XH (gN 3) (UO true) (KQ (UB 3)) (gN 4) (UO true) (UB 4) (rs.map Zf) (Kl [some (.pub (KL rs)),some (.pub (.int n)),none]++Ux 2 none) []=some ([]++rs.flatten.map int):=e2;rw[e3];rfl
   refine Kf (Yd h2 (Qa rfl) rfl) ?_;have hls:Wn [.list (rs.flatten.map int)]=some (.int rs.flatten.length):=by unfold Wn;dsimp only;rw[VW];dsimp only;rw[Qp (by omega),HK g.once]
   refine Kv (KF (U0 (K9 (UP (Yu rfl rfl) UU) hls) (Zq rfl K2) Xx)) ?_;rw[Qb];simp
theorem Y8{d:D}:∀{xs:List D}{k i:Nat},(Z7 k xs)[i]?=some d->∃x,xs[i]?=some x/\d=.tuple [.int ((k+i:Nat):Int),x]
 |[],k,i,h=>by cases h
 |x::r,k,0,h=>by cases h;exact⟨x,rfl,rfl⟩
 |x::r,k,i+1,h=>by obtain⟨y,e,q⟩:=Y8 (xs:=r) (k:=k+1) (i:=i) h;exact⟨y,e,by rw[q];congr 4;omega⟩
theorem VR:∀(n:Nat)(l:List Int),l.Nodup->(∀x∈l,0<=x/\x<n)->l.length<=n
 |0,[],_,_=>Qr _
 |0,x::r,_,h=>by have:=h x Qm;omega
 |n+1,l,hn,h=>by
  by_cases hm:(n:Int)∈l
  ·have:=VR n (l.erase (n:Int)) (hn.erase _) λx hx=>by
    have h1:=(List.Nodup.mem_erase_iff hn).mp hx;have h2:=h x h1.2;have h3:=h1.1;omega
   rw[List.length_erase_of_mem hm]at this;omega
  ·have:=VR n l hn λx hx=>by
    have h2:=h x hx;have h3:x≠(n:Int):=λe=>hm (e ▸ hx);omega
   omega
theorem SV{n:Nat}{rs:List (List Int)}(g:V0 n rs):rs.flatten.length<=n:=VR n _ g.once λx hx=>by obtain⟨r,hr,hxr⟩:=Ub.mp hx;exact g.there r hr x hxr
theorem Ao{cs:List Int}(h1:1<=cs.length)(h6:cs.length<=6)(h:∀c∈cs,0<=c/\c<8):Vg [.list (cs.map int)]=some .none:=by
 refine Ro (Z:=[some (.pub (.list (cs.map int))),none,none]) rfl ?_;unfold Sd;have hlen:U8 [.list (cs.map int)]=some (.int cs.length):=by rw[K2,Qb]
 apply Kr;apply Ko
 case h1=>exact ZY (Z1:=[some (.pub (.list (cs.map int))),none,none]) (We (UL rfl) rfl) (ZS (OU UR (Zq rfl hlen) rfl (λ_=>UR) (λ_=>rfl)))
 case h2=>
  intro hh;have a1:(1:Int)<=(cs.length:Int):=by omega
  have a2:(cs.length:Int)<=6:=by omega
  simp[a1,a2]at hh
 case h3=>
  intro _;refine Ky (Kp ?_);apply Zr (λ_ Z=>∃x1 x2,Z=[some (.pub (.list (cs.map int))),x1,x2])
  case h1=>exact Xy (UP (UL rfl) UU) XI
  case h0=>exact⟨_,_,rfl⟩
  case hst=>
   rintro i d Z hi ⟨x1,x2,rfl⟩;obtain⟨x,hx,rfl⟩:=Y8 hi;obtain⟨c,hc,rfl⟩:=Qs.mp (Qo hx);refine⟨_,Kz rfl (U2 (UT (Qa rfl) rfl) (U2 (UT (Qa rfl) rfl) KB)),?_⟩;unfold MV;apply Ko
   case h1=>exact ZS (Yb (Kg (UP (UL rfl) (UP (U0 UR UR K0) UU)) rfl (Pt (h c hc).1 (by have:=(h c hc).2;omega))))
   case h2=>intro hh;cases hh
   case h3=>exact λ_=>Ky (KZ ⟨_,_,rfl⟩)
  case hend=>exact λZ ⟨x1,x2,e⟩=>⟨_,rfl⟩
theorem CM{ls:L3}{n:Nat}(hn:n<=6)(h1:1<=ls.length)(h7:ls.length<=7)(h:∀rs∈ls,V0 n rs):Ve [.list (ls.map KL),.int n]=some .none:=by
 refine Ro (Z:=[some (.pub (.list (ls.map KL))),some (.pub (.int n)),none,none]) rfl ?_;unfold Sa;have hlen:U8 [.list (ls.map KL)]=some (.int ls.length):=by rw[K2,Qb]
 apply Kr;apply Ko
 case h1=>exact ZY (Z1:=[some (.pub (.list (ls.map KL))),some (.pub (.int n)),none,none]) (We (UL rfl) rfl) (ZS (OU UR (Zq rfl hlen) rfl (λ_=>UR) (λ_=>rfl)))
 case h2=>
  intro hh;have a1:(1:Int)<=(ls.length:Int):=by omega
  have a2:(ls.length:Int)<=7:=by omega
  simp[a1,a2]at hh
 case h3=>
  intro _;refine Ky (Kp ?_);apply Zr (λ_ Z=>∃x2 x3,Z=[some (.pub (.list (ls.map KL))),some (.pub (.int n)),x2,x3])
  case h1=>exact Xy (UP (UL rfl) UU) XI
  case h0=>exact⟨_,_,rfl⟩
  case hst=>
   rintro i d Z hi ⟨x1,x2,rfl⟩;obtain⟨x,hx,rfl⟩:=Y8 hi;obtain⟨rs,hrs,rfl⟩:=Qs.mp (Qo hx);refine⟨_,Kz rfl (U2 (UT (Qa rfl) rfl) (U2 (UT (Qa rfl) rfl) KB)),?_⟩;unfold Mp;have hfl:=SV (h rs hrs);apply Ko
   case h1=>exact ZS (Yb (Kg (UP (UL rfl) (UP (UL rfl) UU)) rfl (jy (h rs hrs) hn (by omega))))
   case h2=>intro hh;cases hh
   case h3=>exact λ_=>Ky (KZ ⟨_,_,rfl⟩)
  case hend=>exact λZ ⟨x1,x2,e⟩=>⟨_,rfl⟩
theorem Pr{cs:List Int}{ls:L3}(g:Good cs ls):Ym [U7 cs ls]=some .none:=by
 refine Ro (Z:=[some (.pub (U7 cs ls)),none,none]) rfl ?_;unfold T9;apply Kr;apply Ko
 case h1=>exact ZY (Z1:=[some (.pub (U7 cs ls)),none,none]) (We (UL rfl) rfl) (U0 (Zq rfl rfl) UR X4)
 case h2=>intro hh;cases hh
 case h3=>
  intro _;refine Ky (Kp ?_);have hlen:U8 [.list (cs.map int)]=some (.int (cs.length:Nat)):=by rw[K2,Qb]
  refine Kf (Vr (UL rfl) (Kz rfl (U2 (UT (Qa rfl) rfl) (U2 (UT (Qa rfl) rfl) KB)))) ?_;refine Kf (Vw (Kg (UP (UL rfl) UU) rfl (Ao g.c1 g.c6 g.c7))) ?_;exact Zx (Vw (Kg (UP (UL rfl) (UP (Zq rfl hlen) UU)) rfl (CM g.c6 g.l1 g.l7 g.rk))) ⟨_,rfl⟩
theorem Lj:∀(xs ys:List Int),PyData.eqvAll (xs.map int) (ys.map int)=decide (xs=ys)
 |[],[]=>rfl
 |[],y::ys=>by simp[PyData.eqvAll]
 |x::xs,[]=>by simp[PyData.eqvAll]
 |x::xs,y::ys=>by
  have ih:=Lj xs ys
  show(UE (.int x) (.int y)&&PyData.eqvAll (xs.map int) (ys.map int))=_
  rw[ih];have:UE (.int x) (.int y)=decide (x=y):=rfl;rw[this,Bool.eq_iff_iff];simp
theorem An{xs:List Int}:oNe (.list (xs.map int)) (.list [])=some (!decide (xs=[])):=by
 unfold oNe;have h1:(Uy (xs.map int)).canLay0=true:=CO xs;have h3:(Uy (xs.map int)).depth<=60:=by have:=CN xs;unfold Zf at this;omega
 rw[Qp ⟨h1,rfl,h3⟩]
 congr 2
 exact Lj xs []
theorem Ow{xs:List D}{x:D}(h:xs.getLast?=some x):oIx (.list xs) (.int (-1))=some x:=by
 unfold oIx atI;have hl:xs≠[]:=by rintro rfl;cases h
 have hp:0<xs.length:=List.length_pos_iff.mpr hl;rw[JL]at h
 show(ixN xs.length (-1)).bind _=_
 unfold ixN;rw[QB (by decide),Qp (by omega)];have e2:(-1+(xs.length:Int)).toNat=xs.length-1:=by omega
 simp only[Option.bind_some];rw[e2];exact h
theorem Pe{xs:List Int}{k:Nat}(h:k<xs.length):oIx (.list (xs.map int)) (.int k)=some (.int (xs.getD k 0)):=by refine KU ?_;rw[Qe,Qf h];simp[List.getD,List.getElem?_eq_getElem h]
theorem Nr(ns:List Int)(k:Nat)(hl:ns.length<=1000):∃v,Y4 [.list (ns.map int),.int k]=some (.int v):=by
 have hlen:U8 [.list (ns.map int)]=some (.int ns.length):=by rw[K2,Qb]
 by_cases h:k<ns.length
 ·refine⟨ns.getD k 0,KS (Z:=[some (.pub (.list (ns.map int))),some (.pub (.int k))]) rfl ?_⟩;unfold Wz;apply Kr;apply Ko
  case h1=>exact ZB rfl (Zq rfl hlen) rfl
  case h2=>exact λ_=>Kv (Kj rfl (UL rfl) (Pe h)) (Ws rfl)
  case h3=>
        intro hh;have:¬(k:Int)<(ns.length:Int):=by simpa using hh
        omega
 ·refine⟨0,KS (Z:=[some (.pub (.list (ns.map int))),some (.pub (.int k))]) rfl ?_⟩;unfold Wz;apply Kr;apply Ko
  case h1=>exact ZB rfl (Zq rfl hlen) rfl
  case h2=>
        intro hh;have:(k:Int)<(ns.length:Int):=by simpa using hh
        omega
  case h3=>exact λ_=>Ky (Kp (Kv UR rfl))
noncomputable def tab:List Int:=[1,1,2,0,3,7,1,4,5,6,1]
theorem NS{z:Int}(h0:0<=z)(h1:z<11):oIx (.list (tab.map int)) (.int z)=some (.int (tab.getD z.toNat 0))/\0<=tab.getD z.toNat 0/\tab.getD z.toNat 0<8:=by
 have e:z=0∨z=1∨z=2∨z=3∨z=4∨z=5∨z=6∨z=7∨z=8∨z=9∨z=10:=by omega
 rcases e with rfl|rfl|rfl|rfl|rfl|rfl|rfl|rfl|rfl|rfl|rfl<;>exact⟨rfl,by decide,by decide⟩
structure VQ(n:Nat)(pl:List Int)(j:Nat)(rs:List (List Int)):Prop where
 few:rs.length<=j
 some:∀r∈rs,r≠[]
 there:∀r∈rs,∀t∈r,(0<=t/\t<n)/\pl.getD t.toNat 0<1+(j:Int)
 once:rs.flatten.Nodup
noncomputable def Vm(n:Nat)(pl:List Int)(r:Int):List Int:=((Uw n).filter λk=>decide (pl.getD k 0=r)).map λk:Nat=>(k:Int)
theorem jx(n:Nat)(pl:List Int)(r:Int):(Vm n pl r).Nodup:=by unfold Vm;refine List.Pairwise.map _ (λa b h e=>h (by omega)) ((List.nodup_range).filter _)
theorem Hk{n:Nat}{pl:List Int}{r t:Int}(h:t∈Vm n pl r):(0<=t/\t<n)/\pl.getD t.toNat 0=r:=by
 unfold Vm at h;obtain⟨k,hk,rfl⟩:=Qs.mp h;have hk:=List.mem_filter.mp hk;have h1:=Q7.mp hk.1;have h2:pl.getD k 0=r:=by simpa using hk.2
 exact⟨⟨by omega,by omega⟩,by rw[Qt];exact h2⟩
theorem VQ.add{n:Nat}{pl:List Int}{j:Nat}{rs:List (List Int)}{row:List Int}(g:VQ n pl j rs)(hne:row≠[])(hm:∀t∈row,t∈Vm n pl (1+(j:Int)))(hn:row.Nodup):VQ n pl (j+1) (rs++[row]) where
 few:=by rw[Qj,Q6];have:=g.few;omega
 some:=λr hr=>by
  rcases QR.mp hr with z|z
  ·exact g.some r z
  ·rw[QZ.mp z];exact hne
 there:=λr hr t ht=>by
  rcases QR.mp hr with z|z
  ·have:=g.there r z t ht;exact⟨this.1,by omega⟩
  ·rw[QZ.mp z]at ht;have:=Hk (hm t ht);exact⟨this.1,by omega⟩
 once:=by rw[List.flatten_append,List.flatten_singleton];refine List.nodup_append.mpr ⟨g.once,hn,λa ha b hb e=>?_⟩;subst e;obtain⟨r,hr,har⟩:=Ub.mp ha;have h1:=(g.there r hr a har).2;have h2:=(Hk (hm a hb)).2;omega
theorem VQ.next{n:Nat}{pl:List Int}{j:Nat}{rs:List (List Int)}(g:VQ n pl j rs):VQ n pl (j+1) rs:=
 ⟨by have:=g.few;omega,g.some,λr hr t ht=>⟨(g.there r hr t ht).1,by have:=(g.there r hr t ht).2;omega⟩,g.once⟩
theorem Pd{x:D}{m:Nat}(h:m<=1000):Ki (.list [x]) (.int m)=some (.list (Ux m x)):=by
 rw[Nn ⟨by omega,by omega,by rw[Qt];show 1*m<=_;omega⟩,Qt]
 congr 2
 induction m with
 |zero=>rfl
 |succ m ih=>rw[QU,QM,ih (by omega)];rfl
noncomputable def szG(T A:Nat):List Int:=(T:Int)::(A:Int)::Ux T 11
noncomputable def Yv(T R:Nat):List Int:=Ux T ((R:Int)+1)++[2]
theorem MB{T A:Nat}:(szG T A).length=T+2:=by unfold szG;simp
theorem LU{T R:Nat}:(Yv T R).length=T+1:=by unfold Yv;simp
theorem Fo{T A:Nat}(h1:1<=T)(h2:T<=6)(h3:1<=A)(h4:A<=7):∀x∈szG T A,0<x/\x<18446744073709551616:=λx hx=>by unfold szG at hx;simp only[List.mem_cons,JE]at hx;rcases hx with rfl|rfl|⟨_,rfl⟩<;>omega
theorem DK{T R:Nat}(h:R<=5):∀x∈Yv T R,0<x/\x<18446744073709551616:=λx hx=>by unfold Yv at hx;simp only[List.mem_append,List.mem_singleton,JE]at hx;rcases hx with ⟨_,rfl⟩|rfl<;>omega
theorem Am{T R:Nat}:(Yv T R)[T]?=some 2:=by unfold Yv;simp
theorem Fn{T A k:Nat}(h:k<T):(szG T A)[2+k]?=some 11:=by unfold szG;rw[show 2+k=k+1+1 by omega,Jk,Jk,Qv,Qp h]
def PR(T A R:Nat)(S dz sz:D)(at_ n:Nat)(cs pl:List Int)(ls:L3)(x9 x10:Option Sl)(j:Nat)(Z:UH):Prop:=∃(rs:List (List Int))(x13 x14:Option Sl),
 Z=[some (.pub S),some (.pub (.int at_)),some (.pub (.int (T:Nat))),some (.pub (.int (A:Nat))),some (.pub (.int (R:Nat))),some (.pub sz),some (.pub dz),some (.own (cs.map int)),some (.own (ls.map KL)),x9,x10,some (.pub (.list (pl.map int))),some (.own (rs.map Zf)),x13,x14]/\VQ n pl j rs
theorem qd{T A R:Nat}{S dz sz:D}{at_ n:Nat}{cs pl:List Int}{ls:L3}{v9 v10:D}{j:Nat}{d:D}{Z:UH}{Q:Out->Prop}(hcs:cs.length=n)(hT:T<=6)(hR:R<=5)(hn:n<=T)(hpl:pl.length=T+1)(hlast:pl.getD T 0=0∨pl.getD T 0=1)
  (hj:(ZP 1 ((R:Int)+1))[j]?=some d) (h:PR T A R S dz sz at_ n cs pl ls (some (.pub v9)) (some (.pub v10)) j Z) :
  ∃Z2,gN 13 d Z=some Z2/\Ho Oy Z2 (VL (PR T A R S dz sz at_ n cs pl ls (some (.pub v9)) (some (.pub v10)) (j+1)) Q):=by
 obtain⟨rs,x13,x14,rfl,g⟩:=h;obtain⟨rfl,hlt⟩:=Wc hj;have hj5:j<R:=by omega
 refine⟨_,UT (Qa rfl) rfl,?_⟩;unfold Oy
 have hrd:ZP 0 ((n:Nat):Int)=(Uw n).map λk=>.int (k:Int):=by
  unfold ZP;have:((n:Int)-0).toNat=n:=by omega
  rw[this];apply List.map_congr_left;intro k _;rw[JT]
 have hc:KY (gN 15) (UN oEq (UV 11 (UB 15)) (UB 13)) (UB 15) (ZP 0 ((n:Nat):Int)) (Kl [some (.pub S),some (.pub (.int at_)),some (.pub (.int (T:Nat))),some (.pub (.int (A:Nat))),some (.pub (.int (R:Nat))),some (.pub sz),some (.pub dz),some (.own (cs.map int)),some (.own (ls.map KL)),some (.pub v9),some (.pub v10),some (.pub (.list (pl.map int))),some (.own (rs.map Zf)),some (.pub (.int (1+(j:Int)))),x14]++Ux 1 none) []=some ((Vm n pl (1+(j:Int))).map int):=by
  rw[hrd,V1 (λd=>match d with | .int k=>decide (pl.getD k.toNat 0=1+(j:Int))|_=>false) (λd=>d) (λZ=>∃x,Z=[some (.pub S),some (.pub (.int at_)),some (.pub (.int (T:Nat))),some (.pub (.int (A:Nat))),some (.pub (.int (R:Nat))),some (.pub sz),some (.pub dz),none,none,some (.pub v9),some (.pub v10),some (.pub (.list (pl.map int))),none,some (.pub (.int (1+(j:Int)))),Xe x14,x])]
  ·rw[Ji,List.map_id',List.filter_map];unfold Vm;rw[Q4];rfl
  ·rintro d hm Z ⟨x,rfl⟩;obtain⟨k,hk,rfl⟩:=Qs.mp hm;have hk:=Q7.mp hk;refine⟨_,UT (Qa rfl) rfl,U0 (Kj rfl (UL rfl) (Pe (by omega))) (UL rfl) Xx,λ_=>UL rfl,some (.pub (.int k)),?_⟩;unfold Kl;cases x14 with
   |none=>rfl
   |some sl=>cases sl<;>rfl
  ·exact⟨none,rfl⟩
  ·rw[Qb,Qu,QC];omega
 have hlen:(cs.map int).length=n:=by rw[Qb,hcs]
 refine Kf (Yd (ZT (Xz (UP (De rfl) UU) (by rw[hlen];exact Xv (by omega) (by omega))) hc) (Qa rfl) rfl) ?_;generalize hrow:Vm n pl (1+(j:Int))=row;apply Ko
 case h1=>exact C6 rfl (ZC UU (by decide)) rfl An
 case h2=>
  intro hh;have hne:row≠[]:=by simpa using hh
  have hlx:oIx (.list (pl.map int)) (.int (-1))=some (.int (pl.getD T 0)):=Ow (by rw[JL,Qb,hpl,Qe,J4,Qf (show T<pl.length by omega)];simp[List.getD,List.getElem?_eq_getElem (show T<pl.length by omega)])
  obtain⟨row',hix,hrow'⟩:∃row':List Int,oIx (.list [.list (row.map int),.list (row.map int).reverse]) (.int (pl.getD T 0))=some (Zf row')/\(row'=row∨row'=row.reverse):=by
   rcases hlast with e|e
   ·rw[e];exact⟨row,rfl,.inl rfl⟩
   ·rw[e];exact⟨row.reverse,by show some (Uy (row.map int).reverse)=_;unfold Zf;rw[List.map_reverse],.inr rfl⟩
  have hrl:(rs.map Zf).length<1000000:=by rw[Qb];have:=g.few;omega
  refine Zx (Wa rfl (U0 (ZC (UP (Yu rfl rfl) (UP (EY (UL rfl) UR UR (YV (SB UR))) UU)) (Qa rfl)) (Kj rfl (SB UR) hlx) hix) rfl hrl rfl) ?_;refine KZ ⟨rs++[row'],some (.pub (.int (1+(j:Int)))),some (.pub (.list (row.map int))),by rw[QE];rfl,g.add ?_ ?_ ?_⟩
  ·rcases hrow' with e|e<;>rw[e]
   ·exact hne
   ·exact λz=>hne (List.reverse_eq_nil_iff.mp z)
  ·intro t ht;rw[hrow];rcases hrow' with e|e<;>rw[e]at ht
   ·exact ht
   ·exact List.mem_reverse.mp ht
  ·have hnd:=jx n pl (1+(j:Int));rw[hrow]at hnd;rcases hrow' with e|e<;>rw[e]
   ·exact hnd
   ·exact(List.reverse_perm row).nodup_iff.mpr hnd
 case h3=>exact λ_=>Ky (KZ ⟨rs,_,_,rfl,g.next⟩)
def PQ(T A R:Nat)(S dz sz:D)(at_ n:Nat)(cs:List Int)(i:Nat)(Z:UH):Prop:=∃(ls:L3)(x9 x10 x11 x12 x13 x14:Option Sl),
 Z=[some (.pub S),some (.pub (.int at_)),some (.pub (.int (T:Nat))),some (.pub (.int (A:Nat))),some (.pub (.int (R:Nat))),some (.pub sz),some (.pub dz),some (.own (cs.map int)),some (.own (ls.map KL)),x9,x10,x11,x12,x13,x14]/\ls.length=i/\∀rs∈ls,V0 n rs/\rs.length<=R
theorem jw{T A R:Nat}{ns:List Int}{dz sz:D}{at_ n:Nat}{cs:List Int}{i:Nat}{m:Int}{d:D}{Z:UH}{Q:Out->Prop}(hns:ns.length<=1000)(hT:T<=6)(hR:R<=5)(hcs:cs.length=n)(hn:n<=T)(hm:m<=100)
  (hi:(ZP 0 m)[i]?=some d) (h:PQ T A R (.list (ns.map int)) dz sz at_ n cs i Z) :
  ∃Z2,gN 9 d Z=some Z2/\Ho Ox Z2 (VL (PQ T A R (.list (ns.map int)) dz sz at_ n cs (i+1)) Q):=by
 obtain⟨ls,x9,x10,x11,x12,x13,x14,rfl,hl,hg⟩:=h;obtain⟨rfl,hlt⟩:=Wc hi;refine⟨_,UT (Qa rfl) rfl,?_⟩;unfold Ox;obtain⟨v,hv⟩:=Nr ns (at_+1+i) hns;have ev:((at_:Int)+1+(0+(i:Int)))=((at_+1+i:Nat):Int):=by omega
 rw[←ev]at hv;refine Kf (Kx (Kg (UP (UL rfl) (UP (U0 (U0 (UL rfl) UR K0) (UL rfl) K0) UU)) rfl hv) (Qa rfl) rfl) ?_;obtain⟨r,hF,pl,rfl,hpl,hpb⟩:=PK v (11*(at_:Int)+3*(0+(i:Int))+1) (sizes:=Yv T R) (DK hR) (by rw[LU];omega);have hpl7:pl.length=T+1:=by rw[hpl,LU]
 have hmul:Ki (.list [.int ((R:Int)+1)]) (.int (T:Nat))=some (.list (Ux T (.int ((R:Int)+1)))):=Pd (by omega);have hadd:U1 (.list (Ux T (.int ((R:Int)+1)))) (.list [.int 2])=some (.list ((Yv T R).map int)):=by rw[Xw (by rw[QA];show T+1<=_;omega)];unfold Yv;rw[QE,JF];rfl
 refine Kf (Kx (Kg (UP (UL rfl) (UP (U0 (U0 (U0 UR (UL rfl) (SX (by decide) (by decide))) (U0 UR (UL rfl) (SX (by decide) (by decide))) K0) UR K0) (UP (U0 (U0 (ZC (UP (U0 (UL rfl) UR K0) UU) (Qa rfl)) (UL rfl) hmul) (ZC (UP UR UU) (Qa rfl)) hadd) UU))) rfl hF) (Qa rfl) rfl) ?_;refine Kf (Yd (Vy UU (Qa rfl)) (Qa rfl) rfl) ?_
 have hlast:pl.getD T 0=0∨pl.getD T 0=1:=by
  have e:pl[T]?=some pl[T]:=Qf (by omega);have:=hpb T pl[T] 2 e Am;have e2:pl.getD T 0=pl[T]:=by simp[List.getD,e]
  rw[e2];omega
 apply Kr;apply Zr (PR T A R (.list (ns.map int)) dz sz at_ n cs pl ls (some (.pub (.int (0+(i:Int))))) (some (.pub (.int v))))
 case h1=>exact Dd (UP UR (UP (U0 (UL rfl) UR K0) UU)) (B0 (by omega) (by omega) (by decide) (by decide))
 case h0=>exact⟨[],x13,x14,rfl,⟨Qr _,λ_ h=>(by cases h),λ_ h=>(by cases h),List.nodup_nil⟩⟩
 case hst=>exact λj d Z e h=>qd hcs hT hR hn hpl7 hlast e h
 case hend=>
  rintro Z ⟨rs,y13,y14,rfl,g⟩;refine Kp ?_;have hl5:(ZP 1 ((R:Int)+1)).length=R:=by rw[YW];omega
  rw[hl5]at g;have hll:(ls.map KL).length<1000000:=by rw[Qb];omega
  refine Zx (Wa rfl (Yu rfl rfl) rfl hll rfl) ?_;refine KZ ⟨ls++[rs],some (.pub (.int (0+(i:Int)))),some (.pub (.int v)),some (.pub (.list (pl.map int))),some (.pub (.list (rs.map Zf))),y13,y14,by rw[QE];rfl,by rw[Qj,hl];rfl,λx hx=>?_⟩;rcases QR.mp hx with z|z
  ·exact hg x z
  ·rw[QZ.mp z];exact⟨⟨by have:=g.few;omega,g.some,λr hr t ht=>(g.there r hr t ht).1,g.once⟩,g.few⟩
theorem jR(T A R:Nat){ns:List Int}(hns:ns.length<=1000)(at_:Nat)(hT1:1<=T:=by decide)(hT:T<=6:=by decide)(hA1:1<=A:=by decide)(hA:A<=7:=by decide)(hR:R<=5:=by decide):∃r,WS [.list (ns.map int),.int at_,.int (T:Nat),.int (A:Nat),.int (R:Nat)]=some r/\∃cs ls,r=U7 cs ls/\Good cs ls/\cs.length<=T/\ls.length<=A/\∀rs∈ls,rs.length<=R:=by
 obtain⟨v,hv⟩:=Nr ns at_ hns;obtain⟨r,hF,ds,rfl,hl,hd⟩:=PK v at_ (sizes:=szG T A) (Fo hT1 hT hA1 hA) (by rw[MB];omega);have hl8:ds.length=T+2:=by rw[hl,MB]
 have at':∀(j:Nat)(k z:Int),k=j->(szG T A)[j]?=some z->∃d,oIx (.list (ds.map int)) (.int k)=some (.int d)/\ds[j]?=some d/\0<=d/\d<z:=λj k z hk hz=>by
  subst hk;have hj:j<ds.length:=by rw[hl];exact(Qg.mp hz).1
  have e:ds[j]?=some ds[j]:=Qf hj;obtain⟨p0,p1⟩:=hd j ds[j] z e hz;exact⟨ds[j],KU (by rw[Qe,e];rfl),e,p0,p1⟩
 obtain⟨d0,x0,e0,p0,q0⟩:=at' 0 0 T rfl rfl;obtain⟨d1,x1,e1,p1,q1⟩:=at' 1 1 A rfl rfl;have hmul:Ki (.list [.int 11]) (.int (T:Nat))=some (.list (Ux T (.int 11))):=Pd (by omega);have hadd:U1 (.list [.int (T:Nat),.int (A:Nat)]) (.list (Ux T (.int 11)))=some (.list ((szG T A).map int)):=by rw[Xw (by rw[QA];show 2+T<=_;omega)];unfold szG;rw[Qy,Qy,JF];rfl
 obtain⟨n,hn⟩:∃n:Nat,1+d0=n:=⟨(1+d0).toNat,by omega⟩
 refine X9 (Z:=[some (.pub (.list (ns.map int))),some (.pub (.int at_)),some (.pub (.int (T:Nat))),some (.pub (.int (A:Nat))),some (.pub (.int (R:Nat))),none,none,none,none,none,none,none,none,none,none]) rfl ?_;unfold Ts;refine Kf (Kx (U0 (ZC (UP (UL rfl) (UP (UL rfl) UU)) (Qa rfl)) (U0 (ZC (UP UR UU) (Qa rfl)) (UL rfl) hmul) hadd) (Qa rfl) rfl) ?_;refine Kf (Kx (Kg (UP (Kg (UP (UL rfl) (UP (UL rfl) UU)) rfl hv) (UP (UL rfl) (UP (UL rfl) UU))) rfl hF) (Qa rfl) rfl) ?_
 have hcut:DL.cutD (ds.map int) (some 2) (some (3+d0))=((ds.drop 2).take n).map int:=by
  rw[OT (by decide) (by omega) (by omega)];have:(3+d0).toNat-(2:Int).toNat=n:=by omega
  rw[this];rfl
 have hrowl:((ds.drop 2).take n).length=n:=by rw[QO,Jj,hl8];omega
 have each:∀z∈(ds.drop 2).take n,0<=z/\z<11:=λz hz=>by
  have hz:=List.mem_of_mem_take hz;obtain⟨k,hk,e⟩:=List.getElem_of_mem hz;rw[Jj,hl8]at hk;rw[List.getElem_drop]at e;have e2:ds[2+k]?=some z:=by rw[←e];exact Qf _
  refine hd (2+k) z 11 e2 (Fn ?_);omega
 let cs:List Int:=((ds.drop 2).take n).map λz=>tab.getD z.toNat 0
 have hcl:cs.length=n:=by show(List.map _ _).length=n;rw[Qb,hrowl]
 have hc:∀xs:List (Option Sl),Kl xs=xs->xs.length=15->KY (gN 15) (UO true) (UN oIx (KD (UM (UO (.int 1)) (UM (UO (.int 1)) (UM (UO (.int 2)) (UM (UO (.int 0)) (UM (UO (.int 3)) (UM (UO (.int 7)) (UM (UO (.int 1)) (UM (UO (.int 4)) (UM (UO (.int 5)) (UM (UO (.int 6)) (UM (UO (.int 1)) (UI))))))))))))) (UB 15)) (((ds.drop 2).take n).map int) (Kl xs++Ux 1 none) []=some (cs.map int):=by
  intro xs hx hxl;rw[hx,V1 (λ_=>true) (λd=>match d with | .int z=>.int (tab.getD z.toNat 0)|_=>.none) (λZ=>∃x,Z=xs++[x])]
  ·rw[Uc.mpr (λ_ _=>rfl),Ji,Q4];show _=some ((((ds.drop 2).take n).map λz=>tab.getD z.toNat 0).map int);rw[Q4];rfl
  ·rintro d hm Z ⟨x,rfl⟩;obtain⟨z,hz,rfl⟩:=Qs.mp hm;have ht:=NS (each z hz).1 (each z hz).2;have hset:(xs++[x]).set 15 (some (Sl.pub (.int z)))=xs++[some (.pub (.int z))]:=by rw[List.set_append_right _ _ (by omega),hxl];rfl
   have hget:(xs++[some (Sl.pub (.int z))])[15]?=some (some (Sl.pub (.int z))):=by rw[Qx (by omega),hxl];rfl
   refine⟨_,UT (by rw[Qj,hxl];exact Qa rfl) hset,rfl,λ_=>?_,some (.pub (.int z)),?_⟩
   ·exact U0 (ZC (UP UR (UP UR (UP UR (UP UR (UP UR (UP UR (UP UR (UP UR (UP UR (UP UR (UP UR UU))))))))))) (Qa rfl)) (UL hget) ht.1
   ·unfold Kl at hx⊢;rw[QE,hx];rfl
  ·exact⟨none,rfl⟩
  ·rw[Qb,hrowl,QC];omega
 refine Kf (Yd (ZT (Zl (Wk (UL rfl) (YV UR) (YV (U0 UR (Kj rfl UR x0) K0)) (by rw[Wr,hcut])) ZK) (hc _ rfl rfl)) (Qa rfl) rfl) ?_;refine Kf (Yd (Vy UU (Qa rfl)) (Qa rfl) rfl) ?_;apply Kr;apply Zr (PQ T A R (.list (ns.map int)) (.list (ds.map int)) (.list ((szG T A).map int)) at_ n cs)
 case h1=>exact Xz (UP (U0 UR (Kj rfl UR x1) K0) UU) (Xv (by omega) (by omega))
 case h0=>exact⟨[],_,_,_,_,_,_,rfl,rfl,λ_ h=>by cases h⟩
 case hst=>exact λi d Z e h=>jw hns hT hR hcl (by omega) (by omega) e h
 case hend=>rintro Z ⟨ls,y9,y10,y11,y12,y13,y14,rfl,hll,hg⟩;rw[YW]at hll;refine Kp (Kv (Yp (UP (Yu rfl rfl) (UP (Yu rfl rfl) UU)) (Qa rfl)) ⟨_,rfl,cs,ls,rfl,⟨?_,by omega,by omega,λrs hrs=>(hg rs hrs).2⟩⟩);exact⟨by omega,by omega,λc hc=>by obtain⟨z,hz,rfl⟩:=Qs.mp hc;exact(NS (each z hz).1 (each z hz).2).2,by omega,by omega,λrs hrs=>by rw[hcl];exact(hg rs hrs).1⟩
noncomputable def Zd(t:Int)(rs:List (List Int)):Nat:=if rs.findIdx (λr=>r.contains t)<rs.length then rs.findIdx (λr=>r.contains t)+1 else 0
theorem DJ(a b:Int):UE (.int a) (.int b)=(a==b):=by simp[UE]
theorem Ov(t:Int)(r:List Int):oIn (.int t) (Zf r)=some (r.contains t):=by
 have h1:UC (r.map int)=true:=by
  induction r with
  |nil=>rfl
  |cons x r ih=>rw[Qy];unfold UC;rw[ih];rfl
 unfold oIn Zf;dsimp only;rw[Qp ⟨rfl,h1,JI _⟩]
 congr 1
 rw[List.any_map];clear h1;induction r with
 |nil=>rfl
 |cons x r ih=>
  rw[List.any_cons,ih,List.contains_cons]
  congr 1
  show UE (.int x) (.int t)=(t==x);rw[DJ];exact Bool.eq_iff_iff.2 ⟨λh=>beq_iff_eq.2 (beq_iff_eq.1 h).symm,λh=>beq_iff_eq.2 (beq_iff_eq.1 h).symm⟩
theorem Hj{t:Int}{rs:List (List Int)}{i:Nat}{r:List Int}(hr:rs[i]?=some r)(h:r.contains t=true)(hb:∀j r,j<i->rs[j]?=some r->r.contains t=false):Zd t rs=1+i:=by obtain⟨hi,e⟩:=List.getElem?_eq_some_iff.1 hr;have hf:rs.findIdx (λr=>r.contains t)=i:=(List.findIdx_eq hi).2 ⟨by rw[e];exact h,λj hj=>hb j _ hj (Qf (Nat.lt_trans hj hi))⟩;unfold Zd;rw[hf,Qp hi,Nat.add_comm]
theorem Hi{t:Int}{rs:List (List Int)}(hb:∀j r,j<rs.length->rs[j]?=some r->r.contains t=false):Zd t rs=0:=by
 have hf:rs.findIdx (λr=>r.contains t)=rs.length:=List.findIdx_eq_length.2 λr hr=>by obtain⟨j,hj,e⟩:=List.mem_iff_getElem.1 hr;exact hb j r hj (by rw[Qf hj,e])
 unfold Zd;rw[hf,QB (Jo _)]
theorem qc(t:Int)(rs:List (List Int)):Vd [KL rs,.int t]=some (.int (Zd t rs:Nat)):=by
 refine KS (Z:=[some (.pub (KL rs)),some (.pub (.int t)),none,none]) rfl ?_;unfold T8;apply Kr;apply Zr (λi Z=>(∃x2 x3,Z=[some (.pub (KL rs)),some (.pub (.int t)),x2,x3])/\∀j r,j<i->rs[j]?=some r->r.contains t=false)
 case h1=>exact C4 (UP (UL rfl) UU) A5
 case h0=>exact⟨⟨_,_,rfl⟩,λj r h=>absurd h (J6 _)⟩
 case hst=>
  rintro i d Z hi ⟨⟨x2,x3,rfl⟩,hb⟩;obtain⟨x,hx,rfl⟩:=Y8 hi;rw[Qe]at hx;cases hr:rs[i]? with
  |none=>rw[hr]at hx;cases hx
  |some r=>
   rw[hr]at hx;cases hx;refine⟨_,Kz rfl (U2 (UT (Qa rfl) rfl) (U2 (UT (Qa rfl) rfl) KB)),?_⟩;unfold ML;apply Ko
   case h1=>exact ZB rfl (UL rfl) (Ov t r)
   case h2=>intro hh;refine Kv (UL rfl) (RH ?_);rw[Hj hr hh hb];exact⟨rfl⟩
   case h3=>
    intro hh;refine Ky (KZ ⟨⟨_,_,rfl⟩,λj r' hj hr'=>?_⟩);rcases Nat.lt_succ_iff_lt_or_eq.1 hj with h|rfl
    ·exact hb j r' h hr'
    ·rw[hr]at hr';cases hr';exact hh
 case hend=>rintro Z ⟨⟨x2,x3,rfl⟩,hb⟩;rw[YC,Qb]at hb;refine Kp ?_;rw[Hi hb];exact Kv UR rfl
noncomputable def U5:Option Int->D
 |none=>.none
 |some t=>.int t
noncomputable def Ke(ws:LO):D:=.list (ws.map U5)
structure Deal(cs:List Int)(ls:L3)(ws:LO):Prop where
 len:ws.length=ls.length
 wish:∀(i:Nat) t rs,ws[i]?=some (some t)->ls[i]?=some rs->t∈rs.flatten
 cop:∀(k:Nat) c,cs[k]?=some c->((ws.count (some (k:Int)):Nat):Int)<=c
theorem HJ{t:Int}{rs:List (List Int)}(h:t∈rs.flatten):Zd t rs≠0:=by obtain⟨r,hr,ht⟩:=Ub.mp h;have:rs.findIdx (λr=>r.contains t)<rs.length:=List.findIdx_lt_length_of_exists ⟨r,hr,by simpa using ht⟩;unfold Zd;rw[Qp this];omega
theorem CL(ws:LO):UC (ws.map U5)=true:=Pu λx hx=>by obtain⟨y,_,rfl⟩:=Qs.mp hx;cases y<;>rfl
theorem Ou(a b:Option Int):UE (U5 a) (U5 b)=decide (a=b):=by rw[Bool.eq_iff_iff];cases a<;>cases b<;>simp[U5,UE]
theorem Nj{ws:LO}{k:Int}:Vz (Ke ws) (.int k)=some (.int (ws.count (some k):Nat)):=by
 unfold Ke Vz;dsimp only;rw[if_pos ⟨rfl,CL ws,by simp[UD]⟩]
 congr 3
 induction ws with
 |nil=>rfl
 |cons w r ih=>
  rw[Qy,List.countP_cons,JP,ih]
  congr 1
  have:=Ou w (some k);have e:U5 (some k)=.int k:=rfl;rw[e]at this;rw[this];cases w with
  |none=>simp
  |some z=>simp
theorem CK{f:M (List D)}{k:Nat}{s:D->UH->Option UH}{t:M Bool}{g:M D}{Z Z1:UH}{ds es:List D}(h1:f Z=.ok ds Z1)(h2:KY s t g ds (ZA Z1++Ux k none) []=some es)(h3:es.all flat=true):Rt f k s t g Z=.ok es Z1:=by unfold Rt;rw[h1];dsimp only;rw[h2];dsimp only;rw[if_pos h3]
theorem Pq{cs:List Int}{ls:L3}{rs:List (List Int)}{i:Nat}(hi:ls[i]?=some rs)(hl:rs.flatten.length<64):Yl [U7 cs ls,.int i]=some (.list ((Zs rs.flatten).map int)):=by
 refine KS (Z:=[some (.pub (U7 cs ls)),some (.pub (.int i))]) rfl ?_;unfold Tp;have i1:oIx (U7 cs ls) (.int 1)=some (.list (ls.map KL)):=KU (j:=1) rfl;have i2:oIx (.list (ls.map KL)) (.int i)=some (KL rs):=KU (by rw[Qe,hi];rfl)
 have hs:Su [KL rs,.list []]=some (.list (rs.flatten.map int)):=by
  have e:KL rs=.list ((rs.map λr=>r.map int).map Uy):=by unfold KL;rw[Q4];rfl
  have e2:(rs.map λr=>r.map int).flatten=rs.flatten.map int:=by rw[List.map_flatten]
  rw[e];unfold Su;dsimp only;rw[qp];dsimp only;rw[e2,Qp (by rw[Qb];omega)]
 exact Kv (K9 (UP (K9 (UP (U0 (Kj rfl UR i1) (UL rfl) i2) (UP (ZC UU (Qa rfl)) UU)) hs) UU) (HN hl)) rfl
structure VT(cs:List Int)(ls:L3)(lf:List Int)(ws:LO):Prop where
 wish:∀(i:Nat) t rs,ws[i]?=some (some t)->ls[i]?=some rs->t∈rs.flatten
 len:lf.length=cs.length
 cop:∀(k:Nat) c,cs[k]?=some c->lf[k]?=some (c-((ws.count (some (k:Int)):Nat):Int))/\0<=c-((ws.count (some (k:Int)):Nat):Int)
theorem Hh{ls:L3}{ws:LO}{o:Option Int}{rs:List (List Int)}(h:∀(i:Nat) t rs,ws[i]?=some (some t)->ls[i]?=some rs->t∈rs.flatten)(hi:ls[ws.length]?=some rs)(ho:∀t,o=some t->t∈rs.flatten) :
  ∀(i:Nat) t rs,(ws++[o])[i]?=some (some t)->ls[i]?=some rs->t∈rs.flatten:=by
 intro j t rs' e1 e2;by_cases hj:j<ws.length
 ·rw[Qw hj]at e1;exact h j t rs' e1 e2
 ·by_cases hj2:j=ws.length
  ·subst hj2;rw[hi]at e2;cases e2;rw[Qx (Qr _),Nat.sub_self,List.getElem?_cons_zero]at e1;cases e1;exact ho t rfl
  ·rw[Ja (by rw[Qj,Q6];omega)]at e1;cases e1
theorem VT.none{cs:List Int}{ls:L3}{lf:List Int}{ws:LO}{rs:List (List Int)}(d:VT cs ls lf ws)(hi:ls[ws.length]?=some rs):VT cs ls lf (ws++[Option.none]) where
 wish:=Hh d.wish hi λt e=>by cases e
 len:=d.len
 cop:=λk c e=>by rw[List.count_append];simpa using d.cop k c e
theorem VT.give{cs:List Int}{ls:L3}{lf:List Int}{ws:LO}{rs:List (List Int)}{t v:Int}(d:VT cs ls lf ws)(hi:ls[ws.length]?=some rs)(ht:t∈rs.flatten)(h0:0<=t)(hv:lf[t.toNat]?=some v)(hp:0<v):VT cs ls (lf.set t.toNat (v-1)) (ws++[some t]) where
 wish:=Hh d.wish hi λt' e=>by cases e;exact ht
 len:=by rw[QX];exact d.len
 cop:=λk c e=>by
  obtain⟨h1,h2⟩:=d.cop k c e;rw[List.count_append];by_cases hk:t=(k:Int)
  ·subst hk;rw[Qt]at hv⊢;rw[h1]at hv;cases hv;have hl:k<lf.length:=(Qg.mp h1).1;rw[QD hl];simp only[List.count_singleton_self];refine⟨by congr 1;omega,by omega⟩
  ·have hne:t.toNat≠k:=by omega
   rw[Qq hne];have:List.count (some (k:Int)) [some t]=0:=by rw[List.count_eq_zero];intro z;have:=QZ.mp z;exact hk (QQ this).symm
   rw[this];exact⟨h1,h2⟩
theorem P3{os:LO}{k:Nat}(h:k<os.length):oIx (.list (os.map U5)) (.int k)=some (U5 os[k]):=KU (by rw[Qe,Qf h];rfl)
theorem LS{ws:LO}{o:Option Int}:(ws++[o]).map U5=ws.map U5++[U5 o]:=by rw[QE];rfl
def V7(cs:List Int)(ls:L3)(c s:D)(dg:List Int)(i:Nat)(Z:UH):Prop:=∃(lf:List Int)(ws:LO)(x6 x7 x8:Option Sl),
 Z=[some (.pub (U7 cs ls)),some (.pub c),some (.pub s),some (.own (lf.map int)),some (.pub (.list (dg.map int))),some (.own (ws.map U5)),x6,x7,x8]/\ws.length=i/\VT cs ls lf ws
theorem qb{cs:List Int}{ls:L3}{c s:D}{dg:List Int}{i:Nat}{d:D}{Z:UH}{Q:Out->Prop}(g:Good cs ls)(hdl:dg.length=ls.length)(hd0:∀x∈dg,0<=x)(hi:(ZP 0 ls.length)[i]?=some d)(h:V7 cs ls c s dg i Z) :
  ∃Z2,gN 6 d Z=some Z2/\Ho Oz Z2 (VL (V7 cs ls c s dg (i+1)) Q):=by
 obtain⟨lf,ws,x6,x7,x8,rfl,hw,dl⟩:=h;obtain⟨rfl,hlt⟩:=Wc hi;have hil:i<ls.length:=by omega
 have hls:ls[i]?=some ls[i]:=Qf hil;have gr:=g.rk _ (Qo hls);have hfl:=SV gr;refine⟨_,UT (Qa rfl) rfl,?_⟩;unfold Oz;rw[JT];generalize hrs:ls[i]=rs at *;have hmem:∀t∈Zs rs.flatten,t∈rs.flatten:=λt ht=>(Xb _).mem_iff.mp ht
 have hthere:∀t∈rs.flatten,0<=t/\t<lf.length:=λt ht=>by obtain⟨r,hr,htr⟩:=Ub.mp ht;have:=gr.there r hr t htr;rw[dl.len];exact this
 let L:=(Zs rs.flatten).filter λt=>decide (0<lf.getD t.toNat 0)
 have hc:KY (gN 9) (UN (oIB λi j=>decide (j<i)) (UV 3 (UB 9)) (UO (.int 0))) (UB 9) ((Zs rs.flatten).map int) (ZA [some (.pub (U7 cs ls)),some (.pub c),some (.pub s),some (.own (lf.map int)),some (.pub (.list (dg.map int))),some (.own (ws.map U5)),some (.pub (.int (i:Int))),x7,x8]++Ux 1 none) []=some (L.map int):=by
  rw[V1 (λd=>match d with | .int t=>decide (0<lf.getD t.toNat 0)|_=>false) (λd=>d) (λZ=>∃x y7 y8,Z=[some (.pub (U7 cs ls)),some (.pub c),some (.pub s),some (.pub (.list (lf.map int))),some (.pub (.list (dg.map int))),some (.pub (.list (ws.map U5))),some (.pub (.int (i:Int))),y7,y8,x])]
  ·rw[Ji,List.map_id',List.filter_map];rfl
  ·rintro d hm Z ⟨x,y7,y8,rfl⟩;obtain⟨t,ht,rfl⟩:=Qs.mp hm;obtain⟨h0,h1⟩:=hthere t (hmem t ht);obtain⟨k,rfl⟩:∃k:Nat,t=k:=⟨t.toNat,by omega⟩
   refine⟨_,UT (Qa rfl) rfl,U0 (Kj rfl (UL rfl) (Pe (by omega))) UR rfl,λ_=>UL rfl,some (.pub (.int k)),Xe y7,Xe y8,rfl⟩
  ·exact⟨none,PN x7,PN x8,rfl⟩
  ·rw[Qb,QC,(Xb _).length_eq];have:=g.c6;omega
 have hLl:L.length<=6:=by have:L.length<=(Zs rs.flatten).length:=List.length_filter_le _ _;rw[(Xb _).length_eq]at this;have:=g.c6;omega
 have hadd:U1 (.list (L.map int)) (.list [.none])=some (.list ((L.map some++[none]).map U5)):=by rw[Xw (by rw[Qb];show L.length+1<=_;omega),QE,Q4];rfl
 refine Kf (Kx (U0 (KF (CK (Zl (Kg (UP (UL rfl) (UP (UL rfl) UU)) rfl (Pq (cs:=cs) hls (by have:=g.c6;omega))) ZK) hc (by rw[List.all_map,Q2];exact λ_ _=>rfl))) (ZC (UP UR UU) (Qa rfl)) hadd) (Qa rfl) rfl) ?_;have hol:(L.map some++[none]:LO).length=L.length+1:=by rw[Qj,Qb];rfl
 have hlen:U8 [.list ((L.map some++[none]:LO).map U5)]=some (.int ((L.length+1:Nat):Int)):=by rw[K2,Qb,hol]
 have hdi:dg[i]?=some dg[i]:=Qf (by omega);have hx0:=hd0 _ (Qo hdi);have hix:oIx (.list (dg.map int)) (.int (i:Int))=some (.int dg[i]):=KU (by rw[Qe,hdi];rfl);have hm0:0<=dg[i] % ((L.length+1:Nat):Int):=Int.emod_nonneg _ (by omega);have hm1:dg[i] % ((L.length+1:Nat):Int)<((L.length+1:Nat):Int):=Int.emod_lt_of_pos _ (by omega);obtain⟨k,hk⟩:∃k:Nat,dg[i] % ((L.length+1:Nat):Int)=k:=⟨(dg[i] % ((L.length+1:Nat):Int)).toNat,by omega⟩
 have hkl:k<(L.map some++[none]:LO).length:=by rw[hol];omega
 have hpick:=P3 (os:=L.map some++[none]) hkl;rw[←hk]at hpick;generalize ho:(L.map some++[none]:LO)[k]=o at hpick;refine Kf (Kx (Kj rfl (U0 (Kj rfl (UL rfl) hix) (Zq rfl hlen) (Vx (by omega))) hpick) (Qa rfl) rfl) ?_;have hwl:(ws.map U5).length<1000000:=by rw[Qb];have:=g.l7;omega
 have hls':ls[ws.length]?=some rs:=by rw[hw];exact hls
 cases o with
 |none=>
  apply Kr;apply Ko
  case h1=>exact PL (UL rfl) rfl
  case h2=>intro hh;cases hh
  case h3=>intro _;refine Ky (Kp ?_);refine Zx (Wa rfl (UL rfl) rfl hwl rfl) ?_;exact KZ ⟨lf,ws++[none],_,_,_,by rw[LS (ws:=ws)];rfl,by rw[Qj,hw];rfl,dl.none hls'⟩
 |some t=>
  have htL:t∈L:=by
   have hm:some t∈(L.map some++[none]:LO):=ho ▸ JX hkl;rcases QR.mp hm with z|z
   ·obtain⟨t',h1,h2⟩:=Qs.mp z;cases h2;exact h1
   ·cases QZ.mp z
  obtain⟨htm,htp⟩:=List.mem_filter.mp htL;have htf:=hmem t htm;obtain⟨h0,h1⟩:=hthere t htf;have hv:lf[t.toNat]?=some lf[t.toNat]:=Qf (by omega);have hvd:lf.getD t.toNat 0=lf[t.toNat]:=by simp[List.getD,hv]
  have hpos:0<lf[t.toNat]:=by rw[hvd]at htp;simpa using htp
  have hvx:oIx (.list (lf.map int)) (.int t)=some (.int lf[t.toNat]):=Ev h0 (by rw[Qe,hv];rfl);apply Kr;apply Ko
  case h1=>exact PL (UL rfl) rfl
  case h2=>intro _;refine Zx (SK (U0 (Wl rfl (UL rfl) rfl hvx) UR Yt) rfl (UL rfl) rfl ⟨h0,by rw[Qb];exact h1⟩ rfl) ?_;refine Kp ?_;refine Zx (Wa rfl (UL rfl) rfl hwl rfl) ?_;exact KZ ⟨lf.set t.toNat (lf[t.toNat]-1),ws++[some t],_,_,_,by rw[LS (ws:=ws),←C5];rfl,by rw[Qj,hw];rfl,dl.give hls' htf h0 hv hpos⟩
  case h3=>intro hh;cases hh
theorem qa{cs:List Int}{ls:L3}(g:Good cs ls)(c s:Int):∃r,Xp [U7 cs ls,.int c,.int s]=some r/\∃ws,r=Ke ws/\Deal cs ls ws:=by
 refine X9 (Z:=[some (.pub (U7 cs ls)),some (.pub (.int c)),some (.pub (.int s)),none,none,none,none,none,none]) rfl ?_;unfold Tn;have i0:oIx (U7 cs ls) (.int 0)=some (.list (cs.map int)):=KU (j:=0) rfl;have i1:oIx (U7 cs ls) (.int 1)=some (.list (ls.map KL)):=KU (j:=1) rfl;have hlen:U8 [.list (ls.map KL)]=some (.int ls.length):=by rw[K2,Qb]
 refine Kf (Yd (KR (UP (Kj rfl UR i0) UU) (ZZ (show Xd [.list (cs.map int)]=some (cs.map int)from rfl))) (Qa rfl) rfl) ?_
 have hmul:Ki (.list [.int 61]) (.int ls.length)=some (.list ((Ux ls.length (61:Int)).map int)):=by
  rw[Nn ⟨by omega,by have:=g.l7;omega,by show 1*_<=_;have:=g.l7;omega⟩]
  congr 2
  rw[Qt];generalize ls.length=n;induction n with
  |zero=>rfl
  |succ n ih=>rw[QU,QM,ih,QU,Qy];rfl
 obtain⟨r,hF,dg,rfl,hdl,hdb⟩:=PK c s (sizes:=Ux ls.length (61:Int)) (λx hx=>by rw[(JE.mp hx).2];decide) (by rw[QA];have:=g.l7;omega);rw[QA]at hdl;refine Kf (Kx (Kg (UP (UL rfl) (UP (UL rfl) (UP (U0 (ZC (UP UR UU) (Qa rfl)) (K9 (UP (Kj rfl UR i1) UU) hlen) hmul) UU))) rfl hF) (Qa rfl) rfl) ?_;refine Kf (Yd (Vy UU (Qa rfl)) (Qa rfl) rfl) ?_;apply Kr;apply Zr (V7 cs ls (.int c) (.int s) dg)
 case h1=>exact Xz (UP (K9 (UP (Kj rfl UR i1) UU) hlen) UU) (Xv (by have:=g.l7;omega) (by omega))
 case h0=>exact⟨cs,[],_,_,_,rfl,rfl,⟨λ_ _ _ h=>(by cases h),rfl,λk c e=>by have:=g.c7 c (Qo e);simp only[List.count_nil];exact⟨by rw[e];congr 1;omega,by omega⟩⟩⟩
 case hst=>exact λi d Z e h=>qb g hdl (λx hx=>by obtain⟨j,hj,e⟩:=List.mem_iff_getElem.mp hx;exact(hdb j x 61 (by rw[Qf hj,e]) (by rw[Qv,Qp (by omega)])).1) e h
 case hend=>rintro Z ⟨lf,ws,x6,x7,x8,rfl,hw,dl⟩;rw[YW]at hw;refine Kp (Kv (Yu rfl rfl) ⟨_,rfl,ws,rfl,⟨by omega,dl.wish,λk c e=>by have:=(dl.cop k c e).2;omega⟩⟩)
theorem YS{s:D->UH->Option UH}{t:M Bool}{g:M D}(I:UH->Prop):∀(ds qs:List D)(Z:UH)(es:List D),qs.length=ds.length ->
  (∀(i:Nat) d e,ds[i]?=some d->qs[i]?=some e->∀Z,I Z->∃Z1,s d Z=some Z1/\t Z1=.ok true Z1/\g Z1=.ok e Z1/\I (Kl Z1))->I Z->es.length+ds.length<=1000000->KY s t g ds Z es=some (es++qs)
 |[],[],Z,es,_,_,_,_=>by rw[KY,Jc]
 |d::r,e::q,Z,es,hl,st,h0,hz=>by obtain⟨Z1,e1,e2,e3,h1⟩:=st 0 d e rfl rfl Z h0;rw[QJ]at hz;rw[KY,e1];dsimp only;rw[e2];dsimp only;rw[Qp rfl,e3];dsimp only;rw[if_pos (by omega),YS I r q (Kl Z1) (es++[e]) (by simpa using hl) (λi d' e' x y=>st (i+1) d' e' (by simpa using x) (by simpa using y)) h1 (by rw[List.length_append,List.length_singleton];omega),List.append_assoc];rfl
noncomputable def lng(ls:L3):Nat:=(most (ls.map λrs=>(rs.length:Int))).toNat
noncomputable def Yo(cs:List Int)(ws:LO):List Int:=(Uw cs.length).map λk:Nat=>cs.getD k 0-((ws.count (some (k:Int)):Nat):Int)
theorem Ot{ls:L3}(h:1<=ls.length):most (ls.map λrs=>(rs.length:Int))=(lng ls:Nat):=by
 have hm:most (ls.map λrs=>(rs.length:Int))∈ls.map λrs=>(rs.length:Int):=RI (by rw[Qb];omega)
 obtain⟨rs,_,e⟩:=Qs.mp hm;unfold lng;omega
theorem NR{ls:L3}{rs:List (List Int)}(h:rs∈ls):rs.length<=lng ls:=by have h1:((rs.length:Nat):Int)<=most (ls.map λrs=>(rs.length:Int)):=Ob (Qs.mpr ⟨rs,h,rfl⟩);have h2:=Ot (ls:=ls) (J0 h);omega
theorem P2{ls:L3}{n:Nat}(h1:1<=ls.length)(h:∀rs∈ls,rs.length<=n):lng ls<=n:=by
 have hm:most (ls.map λrs=>(rs.length:Int))∈ls.map λrs=>(rs.length:Int):=RI (by rw[Qb];omega)
 obtain⟨rs,hr,e⟩:=Qs.mp hm;have:=h rs hr;unfold lng;omega
theorem O7(t:Int)(rs:List (List Int)):Zd t rs<=rs.length:=by
 unfold Zd
 split<;>omega
section
variable{cs:List Int}{ls:L3}{ws:LO}
theorem XF:oIx (U7 cs ls) (.int 0)=some (.list (cs.map int)):=KU (j:=0) rfl
theorem Xc:oIx (U7 cs ls) (.int 1)=some (.list (ls.map KL)):=KU (j:=1) rfl
theorem Nu{i:Nat}{rs:List (List Int)}(h:ls[i]?=some rs):oIx (.list (ls.map KL)) (.int i)=some (KL rs):=KU (by rw[Qe,h];rfl)
theorem Hg(rs:List (List Int)):U8 [KL rs]=some (.int rs.length):=by unfold KL;rw[K2,Qb]
theorem A9(g:Good cs ls):Vc [U7 cs ls]=some (.int (lng ls:Nat)):=by
 refine KS (Z:=[some (.pub (U7 cs ls))]) rfl ?_;unfold T7;have hw:=Pr g
 have hc:KY (gN 1) (UO true) (K7 1) (ls.map KL) (Kl [some (.pub (U7 cs ls))]++Ux 1 none) []=some ((ls.map λrs=>(rs.length:Int)).map int):=by
  refine YS (λZ=>∃x,Z=[some (.pub (U7 cs ls)),x]) _ _ _ _ (by rw[Qb,Qb,Qb]) ?_ ⟨none,rfl⟩ (by rw[Qb,QC];have:=g.l7;omega);rintro i d e hd he Z ⟨x,rfl⟩;rw[Qe]at hd;rw[Qe,Qe]at he;cases hl:ls[i]? with
  |none=>rw[hl]at hd;cases hd
  |some rs=>
  rw[hl]at hd he;cases hd;cases he;exact⟨_,UT (Qa rfl) rfl,rfl,Zq rfl (Hg rs),_,rfl⟩
 refine Kf (Vw (Kg (UP (UL rfl) UU) rfl hw)) ?_;refine Kv (K9 (UP (KF (ZT (Zl (Kj rfl UR Xc) ZK) hc)) UU) (OW (by rw[Qb];have:=g.l1;omega))) ?_;rw[Ot g.l1]
theorem km(g:Good cs ls):Va [U7 cs ls,Ke ws]=some (.list ((Yo cs ws).map int)):=by
 refine KS (Z:=[some (.pub (U7 cs ls)),some (.pub (Ke ws))]) rfl ?_;unfold T5;have hw:=Pr g
 have hc:KY (gT 2 (gNC (gN 2) (gNC (gN 3) (gN0)))) (UO true) (UN KP (UB 3) (Vs (UB 1) (UM (UB 2) (UI)))) (Z7 0 (cs.map int)) (Kl [some (.pub (U7 cs ls)),some (.pub (Ke ws))]++Ux 2 none) []=some ((Yo cs ws).map int):=by
  refine YS (λZ=>∃x y,Z=[some (.pub (U7 cs ls)),some (.pub (Ke ws)),x,y]) _ _ _ _ (by unfold Yo;rw[Qb,Qb,Qu,YC,Qb]) ?_ ⟨none,none,rfl⟩ (by rw[YC,Qb,QC];have:=g.c6;omega);rintro i d e hd he Z ⟨x,y,rfl⟩;obtain⟨z,hz,rfl⟩:=Y8 hd;rw[Qe]at hz;cases hci:cs[i]? with
  |none=>rw[hci]at hz;cases hz
  |some c=>
  rw[hci]at hz;cases hz;have hil:i<cs.length:=(Qg.mp hci).1;unfold Yo at he;rw[Qe,Qe,Qf (by rw[Qu];exact hil),List.getElem_range]at he;cases he;rw[QY];have e:cs.getD i 0=c:=by simp[List.getD,hci]
  dsimp only;rw[e];exact⟨_,Kz rfl (U2 (UT (Qa rfl) rfl) (U2 (UT (Qa rfl) rfl) KB)),rfl,U0 (UL rfl) (OV (UL rfl) (UP (UL rfl) UU) Nj) Yt,_,_,rfl⟩
 refine Kf (Vw (Kg (UP (UL rfl) UU) rfl hw)) ?_;exact Kv (KF (ZT (Xy (UP (Kj rfl UR XF) UU) XI) hc)) rfl
end
theorem Ru{a b:Option Int}:oEq (U5 a) (U5 b)=some (decide (a=b)):=by unfold oEq;rw[if_pos ⟨by cases a<;>rfl,by cases b<;>rfl,by cases a<;>simp[U5,UD]⟩,Ou]
theorem NQ{a b:Option Int}:oNe (U5 a) (U5 b)=some (!decide (a=b)):=by unfold oNe;rw[if_pos ⟨by cases a<;>rfl,by cases b<;>rfl,by cases a<;>simp[U5,UD]⟩,Ou]
section
variable{cs:List Int}{ls:L3}{ws:LO}{a:Nat}{o had:Option Int}{rs:List (List Int)}{t:Int}
end
theorem Fm{xs:List D}{a:Nat}(h:a<=xs.length):DL.cutD xs none (some (a:Int))=xs.take a:=by
 unfold DL.cutD HT.sIx;dsimp only;rw[QB (by omega),Qt];have:min a xs.length=a:=by omega
 rw[this];simp
theorem CJ{xs:List D}{a:Nat}(h:a<=xs.length):DL.cutD xs (some (a:Int)) none=xs.drop a:=by
 unfold DL.cutD HT.sIx;dsimp only;rw[QB (by omega),Qt];have:min a xs.length=a:=by omega
 rw[this,List.take_of_length_le (by rw[Jj];omega)]
theorem HI{s:D->UH->Option UH}{t:M Bool}{g:M D}(I:UH->Prop):∀(ds qs:List D)(Z:UH)(es:List D),qs.length=ds.length ->
  (∀(i:Nat) d e,ds[i]?=some d->qs[i]?=some e->∀Z,I Z->∃Z1,s d Z=some Z1/\t Z1=.ok true Z1/\g Z1=.ok e Z1/\I (Kl Z1))->I Z->es.length+ds.length<=1000000->∃Z',YJ s t g ds Z es=some (es++qs,Z')/\I Z'
 |[],[],Z,es,_,_,h0,_=>⟨Z,by rw[YJ,Jc],h0⟩
 |d::r,e::q,Z,es,hl,st,h0,hz=>by obtain⟨Z1,e1,e2,e3,h1⟩:=st 0 d e rfl rfl Z h0;rw[QJ]at hz;obtain⟨Z',e',h'⟩:=HI I r q (Kl Z1) (es++[e]) (by simpa using hl) (λi d' e' x y=>st (i+1) d' e' (by simpa using x) (by simpa using y)) h1 (by rw[List.length_append,List.length_singleton];omega);refine⟨Z',?_,h'⟩;rw[YJ,e1];dsimp only;rw[e2];dsimp only;rw[Qp rfl,e3];dsimp only;rw[Qp (by omega),e',Q9];rfl
theorem Ni{s:D->UH->Option UH}{t:M Bool}{f:M (List D)}{Rd:List D->UH->List D->Option (List D×UH)}(I:UH->Prop):∀(ds:List D)(qs:List (List D))(Z:UH)(es:List D),qs.length=ds.length ->
  (∀(i:Nat) d q,ds[i]?=some d->qs[i]?=some q->∀Z es,I Z->es.length+q.length<=1000000->∃Z1 xs Z2 Z3,s d Z=some Z1/\t Z1=.ok true Z1/\f Z1=.ok xs Z2/\Rd xs (Kl Z2) es=some (es++q,Z3)/\I Z3)->I Z->es.length+qs.flatten.length<=1000000->∃Z',Xa s t f Rd ds Z es=some (es++qs.flatten,Z')/\I Z'
 |[],[],Z,es,_,_,h0,_=>⟨Z,by rw[Xa,List.flatten_nil,Jc],h0⟩
 |d::r,q::qr,Z,es,hl,st,h0,hz=>by rw[QM,Qj]at hz;obtain⟨Z1,xs,Z2,Z3,e1,e2,e3,e4,h1⟩:=st 0 d q rfl rfl Z es h0 (by omega);obtain⟨Z',e',h'⟩:=Ni I r qr Z3 (es++q) (by simpa using hl) (λi d' e' x y=>st (i+1) d' e' (by simpa using x) (by simpa using y)) h1 (by rw[List.length_append];omega);refine⟨Z',?_,h'⟩;rw[Xa,e1];dsimp only;rw[e2];dsimp only;rw[Qp rfl,e3];dsimp only;rw[e4];dsimp only;rw[e',QM,Q9]
noncomputable def X3(i:Nat)(rs:List (List Int)):LP:=rs.flatten.map λt=>((i:Int),t)
noncomputable def ZN(k:Nat):L3->LP
 |[]=>[]
 |rs::ls=>X3 k rs++ZN (k+1) ls
noncomputable def UX(k:Nat):L3->LP
 |[]=>[]
 |rs::ls=>(Zs rs.flatten).map (λt=>((k:Int),t))++UX (k+1) ls
theorem VZ:∀(ls:L3)(k:Nat),(UX k ls).Perm (ZN k ls)
 |[],_=>.nil
 |rs::ls,k=>((Xb rs.flatten).map _).append (VZ ls (k+1))
theorem ON:∀(ls:L3)(k:Nat),∀q∈UX k ls,(k:Int)<=q.1
 |[],_,q,h=>by cases h
 |rs::ls,k,q,h=>by
  rcases QR.mp h with h|h
  ·obtain⟨t,_,rfl⟩:=Qs.mp h;exact QW _
  ·have:=ON ls (k+1) q h;omega
theorem Wd:∀{ls:L3}{k:Nat}{q:Int×Int},q∈UX k ls->∃i rs,ls[i]?=some rs/\q.1=((k+i:Nat):Int)/\q.2∈rs.flatten
 |[],_,q,h=>by cases h
 |rs::ls,k,q,h=>by
  rcases QR.mp h with h|h
  ·obtain⟨t,ht,rfl⟩:=Qs.mp h;exact⟨0,rs,rfl,rfl,(Xb _).mem_iff.mp ht⟩
  ·obtain⟨i,rs',h1,h2,h3⟩:=Wd h;exact⟨i+1,rs',by simpa using h1,by rw[h2];congr 1;omega,h3⟩
theorem OM:∀{ls:L3}{k i:Nat}{rs:List (List Int)}{t:Int},ls[i]?=some rs->t∈rs.flatten->(((k+i:Nat):Int),t)∈UX k ls
 |rs::ls,k,0,rs',t,h,ht=>by cases h;exact Q8 _ (Qs.mpr ⟨t,(Xb _).mem_iff.mpr ht,rfl⟩)
 |rs::ls,k,i+1,rs',t,h,ht=>by have:=OM (ls:=ls) (k:=k+1) (i:=i) (by simpa using h) ht;rw[show k+1+i=k+(i+1)by omega]at this;exact QK _ this
theorem LR{n:Nat}(hn:n<=6):∀(ls:L3)(k:Nat),(∀rs∈ls,∀t∈rs.flatten,0<=t/\t<n)->(UX k ls).Pairwise λx y=>KE x<=KE y
 |[],_,_=>.nil
 |rs::ls,k,h=>by
  refine List.pairwise_append.mpr ⟨?_,LR hn ls (k+1) λrs' hr=>h rs' (Ql _ hr),λx hx y hy=>?_⟩
  ·rw[List.pairwise_map];refine(L6 rs.flatten).imp λ{a b} hab=>?_
   unfold KE;dsimp only;omega
  ·obtain⟨t,ht,rfl⟩:=Qs.mp hx;have h1:=ON ls (k+1) y hy;have h2:=h rs Qm t ((Xb _).mem_iff.mp ht);obtain⟨i,rs',g1,g2,g3⟩:=Wd hy;have h3:=h rs' (Ql _ (Qo g1)) y.2 g3;unfold KE;dsimp only;omega
theorem V0.flat{n:Nat}{rs:List (List Int)}(g:V0 n rs):∀t∈rs.flatten,0<=t/\t<n:=λt ht=>by obtain⟨r,h1,h2⟩:=Ub.mp ht;exact g.there r h1 t h2
section
variable{cs:List Int}{ls:L3}
theorem OL(n:Nat):∀(ls:L3)(k:Nat),(∀rs∈ls,rs.flatten.length<=n)->(ZN k ls).length<=ls.length*n
 |[],_,_=>by simp[ZN]
 |rs::ls,k,h=>by
  have h1:=OL n ls (k+1) λr hr=>h r (Ql _ hr);have h2:=h rs Qm
  show(X3 k rs++ZN (k+1) ls).length<=_
  rw[Qj,QJ,Nat.succ_mul];unfold X3;rw[Qb];omega
theorem A8(g:Good cs ls):Wh (ZN 0 ls)=UX 0 ls:=by
 have hf:∀rs∈ls,∀t∈rs.flatten,0<=t/\t<cs.length:=λrs hr=>(g.rk rs hr).flat
 have ok:∀q∈UX 0 ls,okP q:=λq hq=>by obtain⟨i,rs,h1,h2,h3⟩:=Wd hq;have:=hf rs (Qo h1) q.2 h3;have:=g.c6;exact⟨by omega,by omega⟩
 exact(OP ok ((VZ ls 0).trans (HP _).symm) (LR g.c6 ls 0 hf) (Hs _)).symm
theorem Fl(g:Good cs ls):∀q∈ZN 0 ls,okP q:=λq hq=>by obtain⟨i,rs,h1,h2,h3⟩:=Wd ((VZ ls 0).mem_iff.mpr hq);have:=(g.rk rs (Qo h1)).flat q.2 h3;have:=g.c6;exact⟨by omega,by omega⟩
theorem RC(g:Good cs ls):(ZN 0 ls).length<=42:=by
 have h:=OL 6 ls 0 λrs hr=>QT (SV (g.rk rs hr)) g.c6
 have:=g.l7;omega
theorem Os:∀(ls:L3)(k:Nat),((ls.zipIdx k).map λp=>(X3 p.2 p.1).map Kd).flatten=(ZN k ls).map Kd
 |[],_=>rfl
 |rs::ls,k=>by rw[List.zipIdx_cons,Qy,QM,Os ls (k+1)];show _=(X3 k rs++ZN (k+1) ls).map Kd;rw[QE]
theorem jZ(g:Good cs ls):Vb [U7 cs ls]=some (.list ((UX 0 ls).map Kd)):=by
 refine KS (Z:=[some (.pub (U7 cs ls))]) rfl ?_;unfold T6;refine Kf (Vw (Kg (UP (UL rfl) UU) rfl (Pr g))) ?_
 have hc:∃Z',Xa (gT 2 (gNC (gN 1) (gNC (gN 2) (gN0)))) (UO true) (KQ (UB 2)) (Xa (gN 3) (UO true) (KQ (UB 3)) (YJ (gN 4) (UO true) (Kw (UM (UB 1) (UM (UB 4) (UI)))))) (Z7 0 (ls.map KL)) (Kl [some (.pub (U7 cs ls))]++Ux 4 none) []=some ((ZN 0 ls).map Kd,Z'):=by
  have key:=Ni (s:=gT 2 (gNC (gN 1) (gNC (gN 2) (gN0)))) (t:=UO true) (f:=KQ (UB 2)) (Rd:=Xa (gN 3) (UO true) (KQ (UB 3)) (YJ (gN 4) (UO true) (Kw (UM (UB 1) (UM (UB 4) (UI))))))
   (λZ=>∃x1 x2 x3 x4,Z=[some (.pub (U7 cs ls)),x1,x2,x3,x4]) (Z7 0 (ls.map KL)) ((ls.zipIdx 0).map λp=>(X3 p.2 p.1).map Kd) (Kl [some (.pub (U7 cs ls))]++Ux 4 none) [] (by rw[Qb,List.length_zipIdx,YC,Qb]) ?_ ⟨none,none,none,none,rfl⟩ (by rw[Os,Qb,QC];have:=RC g;omega)
  ·obtain⟨Z',e,_⟩:=key;rw[Os,Ji]at e;exact⟨Z',e⟩
  rintro i d q hd hq Z es ⟨x1,x2,x3,x4,rfl⟩ hlen;obtain⟨z,hz,rfl⟩:=Y8 hd;rw[Qe]at hz;rw[Qe,List.getElem?_zipIdx]at hq;cases hls:ls[i]? with
  |none=>rw[hls]at hz;cases hz
  |some rs=>
  rw[hls]at hz hq;cases hz;cases hq;rw[QY]at *;dsimp only at hlen⊢
  have inner:=Ni (s:=gN 3) (t:=UO true) (f:=KQ (UB 3)) (Rd:=YJ (gN 4) (UO true) (Kw (UM (UB 1) (UM (UB 4) (UI)))))
   (λZ=>∃x3 x4,Z=[some (.pub (U7 cs ls)),some (.pub (.int i)),some (.pub (KL rs)),x3,x4]) (rs.map Zf) (rs.map λr=>r.map λt=>Kd ((i:Int),t)) (Kl [some (.pub (U7 cs ls)),some (.pub (.int i)),some (.pub (KL rs)),x3,x4]) es (by rw[Qb,Qb]) ?_ ⟨Xe x3,Xe x4,rfl⟩ ?_
  ·obtain⟨Z3,e3,y3,y4,h3⟩:=inner;have ef:(rs.map λr=>r.map λt=>Kd ((i:Int),t)).flatten=(X3 i rs).map Kd:=by unfold X3;rw[Q4,List.map_flatten];rfl
   rw[ef]at e3;exact⟨_,_,_,Z3,Kz rfl (U2 (UT (Qa rfl) rfl) (U2 (UT (Qa rfl) rfl) KB)),rfl,Zl (UL rfl) rfl,e3,_,_,_,_,h3⟩
  ·rintro j d q hd hq Z es' ⟨y3,y4,rfl⟩ hlen';rw[Qe]at hd hq;cases hr:rs[j]? with
   |none=>rw[hr]at hd;cases hd
   |some r=>
   rw[hr]at hd hq;cases hd;cases hq
   obtain⟨Z3,e3,z4,h3⟩:=HI (s:=gN 4) (t:=UO true) (g:=Kw (UM (UB 1) (UM (UB 4) (UI)))) (λZ=>∃x4,Z=[some (.pub (U7 cs ls)),some (.pub (.int i)),some (.pub (KL rs)),some (.pub (Zf r)),x4]) (r.map int) (r.map λt=>Kd ((i:Int),t)) (Kl [some (.pub (U7 cs ls)),some (.pub (.int i)),some (.pub (KL rs)),some (.pub (Zf r)),y4]) es' (by rw[Qb,Qb]) (by
    rintro m d e hd he Z ⟨x4,rfl⟩;rw[Qe]at hd he;cases hm:r[m]? with
    |none=>rw[hm]at hd;cases hd
    |some t=>
    rw[hm]at hd he;cases hd;cases he;exact⟨_,UT (Qa rfl) rfl,rfl,Yp (UP (UL rfl) (UP (UL rfl) UU)) (Qa rfl),_,rfl⟩) ⟨Xe y4,rfl⟩ (by rw[Qb]at hlen'⊢;exact hlen')
   exact⟨_,_,_,Z3,UT (Qa rfl) rfl,rfl,Zl (UL rfl) rfl,e3,_,_,h3⟩
  ·have ef:(rs.map λr=>r.map λt=>Kd ((i:Int),t)).flatten=(X3 i rs).map Kd:=by
    unfold X3;rw[Q4,List.map_flatten];rfl
   rw[ef];exact hlen
 obtain⟨Z',hc⟩:=hc;have hs:=Aj (qs:=ZN 0 ls) (by have:=RC g;omega) (Fl g);rw[A8 g]at hs;exact Kv (K9 (UP (KF (BH (Xy (UP (Kj rfl UR Xc) UU) XI) hc)) UU) hs) rfl
end
inductive Ord where|firsts|full|lasts
noncomputable def Ord.tx:Ord->Str
 |.firsts=> "firsts" | .full=> "full" | .lasts=> "lasts"
noncomputable def Ord.isF:Ord->Bool
 |.firsts=>true|_=>false
noncomputable def Ord.isU:Ord->Bool
 |.full=>true|_=>false
theorem Fk(o:Ord):oEq (.str o.tx) (.str "firsts")=some o.isF:=by cases o<;>decide +kernel
theorem NP(o:Ord):oEq (.str o.tx) (.str "full")=some o.isU:=by cases o<;>decide +kernel
theorem jY(o:Ord):W9 [.str o.tx]=some (.bool true):=by
 refine KS (Z:=[some (.pub (.str o.tx))]) rfl ?_;unfold T4;have h:oIn (.str o.tx) (.tuple ((["firsts", "full", "lasts"]:List Str).map UA))=some true:=by cases o<;>decide +kernel
 exact Kv (RF (KF (k:=λd=>Uz (Ku d "str")) (UL rfl)) (λ_=>KF (ZB rfl UR h))) rfl
theorem Au(o:Ord):W8 [.str o.tx]=some .none:=by
 refine Ro (Z:=[some (.pub (.str o.tx))]) rfl ?_;unfold T3;apply Ko
 case h1=>exact ZS (Yb (Kg (UP (UL rfl) UU) rfl (jY o)))
 case h2=>intro h;cases h
 case h3=>exact λ_=>Ky ⟨_,rfl⟩
noncomputable def YZ:Option LO->D
 |none=>.none
 |some ws=>Ke ws
noncomputable def KJ(o:Ord)(old:Option LO)(ts:List Int):D:=.tuple [.str o.tx,YZ old,.list (ts.map int)]
structure YH(n m:Nat)(old:Option LO)(ts:List Int):Prop where
 len:∀ws,old=some ws->ws.length=m
 old:∀ws t,old=some ws->some t∈ws->0<=t/\t<n
 once:ts.Nodup
 there:∀a∈ts,0<=a/\a<m
theorem YH.few{n m:Nat}{old:Option LO}{ts:List Int}(g:YH n m old ts):ts.length<=m:=VR m ts g.once g.there
theorem At{n m:Nat}{old:Option LO}(h1:∀ws,old=some ws->ws.length=m)(h2:∀ws t,old=some ws->some t∈ws->0<=t/\t<n)(hm:m<=1000):W7 [YZ old,.int m,.int n]=some (.bool true):=by
 refine KS (Z:=[some (.pub (YZ old)),some (.pub (.int m)),some (.pub (.int n))]) rfl ?_;unfold T2;apply Kr;cases old with
 |none=>
  apply Ko
  case h1=>exact KF (UL rfl)
  case h2=>exact λ_=>Kv UR (Ws rfl)
  case h3=>intro hh;cases hh
 |some ws=>
  have hl:=h1 ws rfl;have hlen:U8 [Ke ws]=some (.int m):=by unfold Ke;rw[K2,Qb,hl]
  apply Ko
  case h1=>exact KF (UL rfl)
  case h2=>intro hh;cases hh
  case h3=>
   intro _;refine Ky (Kp ?_);apply Kr;apply Ko
   case h1=>exact ZY (Z1:=[some (.pub (Ke ws)),some (.pub (.int m)),some (.pub (.int n))]) (We (UL rfl) rfl) (U0 (Zq rfl hlen) (UL rfl) X4)
   case h2=>intro hh;simp at hh
   case h3=>
    intro _;refine Ky (Kp ?_)
    have hc:KY (gN 3) (UO true) (XT (UZ (λd=>.bool (isNon d)) (UB 3)) (UW 2 ZJ (UM (UB 3) (UM (UB 2) (UI))))) (ws.map U5) (Kl [some (.pub (Ke ws)),some (.pub (.int m)),some (.pub (.int n))]++Ux 1 none) []=some (ws.map λ_=>.bool true):=by
     refine YS (λZ=>∃x,Z=[some (.pub (Ke ws)),some (.pub (.int m)),some (.pub (.int n)),x]) _ _ _ _ (by simp only[Qb]) ?_ ⟨none,rfl⟩ (by rw[Qb,QC];omega);rintro i d e hd he Z ⟨x,rfl⟩;rw[Qe]at hd he;cases hw:ws[i]? with
     |none=>rw[hw]at hd;cases hd
     |some o=>
     rw[hw]at hd he;cases hd;cases he;refine⟨_,UT (Qa rfl) rfl,rfl,?_,_,rfl⟩;cases o with
     |none=>exact N9 (t:=true) (u:=true) (KF (k:=λd=>Uz (isNon d)) (x:=.none) (UL rfl)) (λh=>nomatch h)
     |some t=>have hb:=h2 ws t rfl (Qo hw);exact N9 (t:=false) (u:=true) (KF (k:=λd=>Uz (isNon d)) (x:=.int t) (UL rfl)) (λ_=>Kg (UP (UL rfl) (UP (UL rfl) UU)) rfl (Pt hb.1 hb.2))
    exact Kv (K9 (UP (KF (ZT (Zl (UL rfl) rfl) hc)) UU) (Ps ws)) rfl
theorem jv{m:Nat}{ts:List Int}(h1:ts.Nodup)(h2:∀a∈ts,0<=a/\a<m)(hm:m<=1000):W6 [.list (ts.map int),.int m]=some (.bool true):=by
 refine KS (Z:=[some (.pub (.list (ts.map int))),some (.pub (.int m))]) rfl ?_;unfold TZ;have hl:=VR m ts h1 h2;apply Kr
 have hc:KY (gN 2) (UO true) (UW 2 ZJ (UM (UB 2) (UM (UB 1) (UI)))) (ts.map int) (Kl [some (.pub (.list (ts.map int))),some (.pub (.int m))]++Ux 1 none) []=some (ts.map λ_=>.bool true):=by
  refine YS (λZ=>∃x,Z=[some (.pub (.list (ts.map int))),some (.pub (.int m)),x]) _ _ _ _ (by simp only[Qb]) ?_ ⟨none,rfl⟩ (by rw[Qb,QC];omega);rintro i d e hd he Z ⟨x,rfl⟩;rw[Qe]at hd he;cases hw:ts[i]? with
  |none=>rw[hw]at hd;cases hd
  |some t=>
  rw[hw]at hd he;cases hd;cases he;have hb:=h2 t (Qo hw);exact⟨_,UT (Qa rfl) rfl,rfl,Kg (UP (UL rfl) (UP (UL rfl) UU)) rfl (Pt hb.1 hb.2),_,rfl⟩
 apply Ko
 case h1=>exact ZY (Z1:=[some (.pub (.list (ts.map int))),some (.pub (.int m))]) (We (UL rfl) rfl) (ZS (Yb (K9 (UP (KF (ZT (Zl (UL rfl) ZK) hc)) UU) (Ps ts))))
 case h2=>intro hh;cases hh
 case h3=>
  intro _;refine Ky (Kp ?_);have hs:Wn [.list (ts.map int)]=some (.int ts.length):=by unfold Wn;dsimp only;rw[VW];dsimp only;rw[Qp (by omega),HK h1]
  have hlen:U8 [.list (ts.map int)]=some (.int ts.length):=by rw[K2,Qb]
  refine Kv (KF (U0 (K9 (UP (UL rfl) UU) hs) (Zq rfl hlen) Xx)) ?_;simp
section
variable{cs:List Int}{ls:L3}{o:Ord}{old:Option LO}{ts:List Int}
theorem Fj(g:Good cs ls)(ga:YH cs.length ls.length old ts):W5 [U7 cs ls,KJ o old ts]=some .none:=by
 refine Ro (Z:=[some (.pub (U7 cs ls)),some (.pub (KJ o old ts)),none,none,none,none,none]) rfl ?_;unfold TY;have l7:=g.l7;have c6:=g.c6;have hll:U8 [.list (ls.map KL)]=some (.int ls.length):=by rw[K2,Qb]
 have hlc:U8 [.list (cs.map int)]=some (.int cs.length):=by rw[K2,Qb]
 refine Kf (Vw (Kg (UP (UL rfl) UU) rfl (Pr g))) ?_;apply Kr;apply Ko
 case h1=>exact ZY (Z1:=[some (.pub (U7 cs ls)),some (.pub (KJ o old ts)),none,none,none,none,none]) (We (UL rfl) rfl) (U0 (Zq rfl (show U8 [KJ o old ts]=some (.int 3)from rfl)) UR X4)
 case h2=>intro hh;simp at hh
 case h3=>
  intro _;refine Ky (Kp ?_);refine Kf (Vr (UL rfl) (Kz rfl (U2 (UT (Qa rfl) rfl) (U2 (UT (Qa rfl) rfl) KB)))) ?_;refine Kf (Vr (UL rfl) (Kz rfl (U2 (UT (Qa rfl) rfl) (U2 (UT (Qa rfl) rfl) (U2 (UT (Qa rfl) rfl) KB))))) ?_;refine Kf (Vw (Kg (UP (UL rfl) UU) rfl (Au o))) ?_;apply Kr;apply Ko
  case h1=>exact ZS (Yb (Kg (UP (UL rfl) (UP (Zq rfl hll) (UP (Zq rfl hlc) UU))) rfl (At ga.len ga.old (by omega))))
  case h2=>intro hh;cases hh
  case h3=>
   intro _;refine Ky (Kp ?_);apply Ko
   case h1=>exact ZS (Yb (Kg (UP (UL rfl) (UP (Zq rfl hll) UU)) rfl (jv ga.once ga.there (by omega))))
   case h2=>intro hh;cases hh
   case h3=>exact λ_=>Ky ⟨_,rfl⟩
end
theorem SH{t:Int}{r:List Int}:oIn (.int t) (.list (r.map int))=some (r.contains t):=Ov t r
theorem HH{c s w sz dg x6:Option Sl}{m:Nat}{T:List Int}(hm:0<m):∀(k fuel d:Nat),(∀j,j<k->(((d+j) % m:Nat):Int)∈T)->(((d+k) % m:Nat):Int)∉T->d<m->k<fuel ->
  Y9 (Ss oIn (UB 8) 7) Pf fuel [w,c,s,some (.pub (.int m)),sz,dg,x6,some (.own (T.map int)),some (.pub (.int d))]=.nx [w,c,s,some (.pub (.int m)),sz,dg,x6,some (.own (T.map int)),some (.pub (.int (((d+k) % m:Nat):Int)))]
 |0,fuel+1,d,_,hn,hd,_=>by
  have e0:(d+0) % m=d:=by rw[Uj];exact Nat.mod_eq_of_lt hd
  rw[e0]at hn⊢;have e:(T.contains (d:Int))=false:=by simpa using hn
  rw[Y9,Ln (r:=false) (UL rfl) rfl (by rw[SH,e])];rfl
 |k+1,fuel+1,d,hj,hn,hd,hf=>by
  have h0:=hj 0 (by omega);rw[Uj,Nat.mod_eq_of_lt hd]at h0;have e:(T.contains (d:Int))=true:=by simpa using h0
  rw[Y9,Ln (r:=true) (UL rfl) rfl (by rw[SH,e])];dsimp only;rw[Qp rfl]
  have hst:Pf [w,c,s,some (.pub (.int m)),sz,dg,x6,some (.own (T.map int)),some (.pub (.int d))]=.nx [w,c,s,some (.pub (.int m)),sz,dg,x6,some (.own (T.map int)),some (.pub (.int (((d+1) % m:Nat):Int)))]:=by
   unfold Pf;refine Kx (U0 (U0 (UL rfl) UR K0) (UL rfl) (Vx (by omega))) (Qa rfl) ?_;have e1:((d+1:Nat):Int)=(d:Int)+1:=by omega
   have:((d:Int)+1) % (m:Int)=(((d+1) % m:Nat):Int):=by rw[Int.natCast_emod,e1]
   rw[this];rfl
  rw[hst];dsimp only;have e2:∀j,((d+1) % m+j) % m=(d+(j+1)) % m:=λj=>by rw[Nat.mod_add_mod];congr 1;omega
  have:=HH (c:=c) (s:=s) (w:=w) (sz:=sz) (dg:=dg) (x6:=x6) (T:=T) hm k fuel ((d+1) % m) (λj hjk=>by rw[e2];exact hj (j+1) (by omega)) (by rw[e2];exact hn) (Nat.mod_lt _ hm) (by omega);rw[e2]at this;exact this
theorem Hf:∀(a b:List Int),a.Nodup->(∀x∈a,x∈b)->a.length<=b.length
 |[],_,_,_=>JI _
 |x::a,b,hn,h=>by
  have hx:=h x Qm;have hn':=JM.mp hn
  have:=Hf a (b.erase x) hn'.2 λy hy=>by
   have hne:y≠x:=λe=>hn'.1 (e ▸ hy)
   exact(List.mem_erase_of_ne hne).mpr (h y (Ql _ hy))
  rw[List.length_erase_of_mem hx]at this;have hp:=J0 hx;rw[QJ];omega
theorem A7{m:Nat}{T:List Int}(d:Nat)(hl:T.length<m)(hn:T.Nodup):∃k,k<m/\(∀j,j<k->(((d+j) % m:Nat):Int)∈T)/\(((d+k) % m:Nat):Int)∉T:=by
 have ex:∃k,k<m/\(((d+k) % m:Nat):Int)∉T:=by
  refine Classical.byContradiction λhno=>?_;have all:∀k,k<m->(((d+k) % m:Nat):Int)∈T:=λk hk=>Classical.byContradiction λz=>hno ⟨k,hk,z⟩
  have hsub:∀x:Nat,x<m->((x:Nat):Int)∈T:=λx hx=>by
   have h1:=all ((x+m-d % m) % m) (Nat.mod_lt _ (by omega));have e:(d+(x+m-d % m) % m) % m=x:=by have hdm:d % m<m:=Nat.mod_lt _ (by omega);rw[Nat.add_mod_mod,←Nat.mod_add_mod];rw[show d % m+(x+m-d % m)=x+m by omega,Nat.add_mod_right,Nat.mod_eq_of_lt hx]
   rw[e]at h1;exact h1
  have:=Hf ((Uw m).map λx:Nat=>(x:Int)) T (List.Pairwise.map _ (λa b h e=>h (by omega)) List.nodup_range) (λt ht=>by obtain⟨x,hx,rfl⟩:=Qs.mp ht;exact hsub x (Q7.mp hx));rw[Qb,Qu]at this;omega
 obtain⟨k,hk,hkn⟩:=ex;induction k using Nat.strongRecOn with
 |_ k ih=>
  by_cases h:∀j,j<k->(((d+j) % m:Nat):Int)∈T
  ·exact⟨k,hk,h,hkn⟩
  ·obtain⟨j,hj⟩:=Classical.not_forall.mp h;obtain⟨hj1,hj2⟩:=Classical.not_imp.mp hj;exact ih j hj1 (by omega) hj2
theorem P1{x:D}{m:Nat}(h:m<=1000):Ki (.list [x]) (.int m)=some (.list (Ux m x)):=by
 rw[Nn ⟨by omega,by omega,by show 1*_<=_;omega⟩]
 congr 2
 rw[Qt];clear h;induction m with
 |zero=>rfl
 |succ n ih=>rw[QU,QM,ih,QU];rfl
noncomputable def szA(n m:Nat):List Int:=[3,2,(m:Int)+1]++Ux m ((n:Int)+1)++Ux m (m:Int)
theorem MY(n m:Nat):(szA n m).length=3+m+m:=by unfold szA;rw[Qj,Qj,QA,QA];rfl
theorem DI{n m j:Nat}(h:j<m):(szA n m)[3+j]?=some ((n:Int)+1):=by
 unfold szA;rw[Qw (by rw[Qj,QA];show 3+j<3+m;omega),Qx (by show 3<=3+j;omega)]
 show(Ux m ((n:Int)+1))[3+j-3]?=_
 rw[Nat.add_sub_cancel_left,Qv,Qp h]
theorem Bm{n m j:Nat}(h:j<m):(szA n m)[3+m+j]?=some (m:Int):=by
 unfold szA;have e:([3,2,(m:Int)+1]++Ux m ((n:Int)+1)).length=3+m:=by rw[Qj,QA];rfl
 rw[Qx (by rw[e];omega),e,Nat.add_sub_cancel_left,Qv,Qp h]
section
variable{cs:List Int}{ls:L3}
noncomputable def Re(d:Int):Option Int:=if 0<d then some (d-1)else none
theorem Bl(d:Int):oIx (.list [.none,.int (d-1)]) (.int (if decide (0<d)=true then 1 else 0))=some (U5 (Re d)):=by
 unfold Re;by_cases h:0<d
 ·rw[Q5 h,Qp rfl,Qp h];exact KU (j:=1) rfl
 ·rw[QG h,QB (by decide),QB h];exact KU (j:=0) rfl
theorem Bk(g:Good cs ls)(c s:Int):∃r,WP [U7 cs ls,.int c,.int s]=some r/\∃o old ts,r=KJ o old ts/\YH cs.length ls.length old ts:=by
 refine X9 (Z:=[some (.pub (U7 cs ls)),some (.pub (.int c)),some (.pub (.int s)),none,none,none,none,none,none]) rfl ?_;unfold To;have l7:=g.l7;have l1:=g.l1;have c6:=g.c6;have c1:=g.c1;have hll:U8 [.list (ls.map KL)]=some (.int ls.length):=by rw[K2,Qb]
 have hlc:U8 [.list (cs.map int)]=some (.int cs.length):=by rw[K2,Qb]
 generalize hm:ls.length=m at *;generalize hn:cs.length=n at *;refine Kf (Kx (K9 (UP (Kj rfl UR Xc) UU) hll) (Qa rfl) rfl) ?_;have s1:U1 (.list [.int 3,.int 2,.int ((m:Int)+1)]) (.list (Ux m (.int ((n:Int)+1))))=some (.list (([3,2,(m:Int)+1]++Ux m ((n:Int)+1)).map int)):=by rw[Xw (by rw[QA];show 3+m<=_;omega),QE,JF];rfl
 refine Kf (Kx (U0 (ZC (UP UR (UP UR (UP (U0 (UL rfl) UR K0) UU))) (Qa rfl)) (U0 (ZC (UP (U0 (K9 (UP (Kj rfl UR XF) UU) hlc) UR K0) UU) (Qa rfl)) (UL rfl) (P1 (by omega))) s1) (Qa rfl) rfl) ?_;have s2:U1 (.list (([3,2,(m:Int)+1]++Ux m ((n:Int)+1)).map int)) (.list (Ux m (.int (m:Int))))=some (.list ((szA n m).map int)):=by rw[Xw (by rw[Qb,Qj,QA,QA];show 3+m+m<=_;omega)];unfold szA;rw[QE (l₂:=Ux m (m:Int)),JF (n:=m) (a:=(m:Int))]
 obtain⟨r,hF,dg,rfl,hdl,hdb⟩:=PK c s (sizes:=szA n m) (λx hx=>by
  unfold szA at hx;rcases QR.mp hx with hx|hx
  ·rcases QR.mp hx with hx|hx
   ·have hx:x=3∨x=2∨x=(m:Int)+1:=by simpa using hx
    omega
   ·rw[(JE.mp hx).2];omega
  ·rw[(JE.mp hx).2];omega) (by rw[MY];omega)
 rw[MY]at hdl;refine Kf (Kx (Kg (UP (UL rfl) (UP (UL rfl) (UP (U0 (UL rfl) (U0 (ZC (UP (UL rfl) UU) (Qa rfl)) (UL rfl) (P1 (by omega))) s2) UU))) rfl hF) (Qa rfl) rfl) ?_;have get:∀j,j<3+m+m->∃d,dg[j]?=some d:=λj hj=>⟨dg[j]'(by omega),Qf _⟩
 obtain⟨d0,e0⟩:=get 0 (by omega);obtain⟨d1,e1⟩:=get 1 (by omega);obtain⟨d2,e2⟩:=get 2 (by omega);have b0:=hdb 0 d0 3 e0 rfl;have b1:=hdb 1 d1 2 e1 rfl;have b2:=hdb 2 d2 ((m:Int)+1) e2 rfl;have i0:oIx (.list (dg.map int)) (.int 0)=some (.int d0):=KU (j:=0) (by rw[Qe,e0];rfl);have i1:oIx (.list (dg.map int)) (.int 1)=some (.int d1):=KU (j:=1) (by rw[Qe,e1];rfl);have i2:oIx (.list (dg.map int)) (.int 2)=some (.int d2):=KU (j:=2) (by rw[Qe,e2];rfl);refine Kf (Kx UR (Qa rfl) rfl) ?_
 let ol:List Int:=(dg.drop 3).take m
 have oll:ol.length=m:=by show((dg.drop 3).take m).length=m;rw[QO,Jj];omega
 have olb:∀d∈ol,0<=d/\d<(n:Int)+1:=λd hd=>by
  obtain⟨j,hj,e⟩:=List.mem_iff_getElem.mp hd;have hjm:j<m:=by omega
  refine hdb (3+j) d _ ?_ (DI hjm);have:ol[j]?=some d:=by rw[Qf hj,e]
  show dg[3+j]?=_;rw[←this];show _=((dg.drop 3).take m)[j]?;rw[List.getElem?_take,Qp hjm,List.getElem?_drop]
 have hcut:DL.cutD (dg.map int) (some 3) (some (3+(m:Int)))=ol.map int:=by
  rw[OT (by decide) (by omega) (by omega)];have t1:(3:Int).toNat=3:=rfl;have t2:(3+(m:Int)).toNat-(3:Int).toNat=m:=by omega
  rw[t2,t1]
 have step:Ho (sIf (UN oEq (UV 5 (UO (.int 1))) (UO (.int 1))) (K8 6 (Zt (KQ (ZH (UB 5) (Kb (UO (.int 3)) λx=>U9 (Ys x)) (Kb (UN U1 (UO (.int 3)) (UB 3)) λx=>U9 (Ys x)))) 1 (gN 9) (UO true) (UN oIx (KD (UM (UO .none) (UM (UN KP (UB 9) (UO (.int 1))) (UI)))) (K1 Rl (UM (UZ Uz (K6 (oIB λi j=>decide (j<i)) 9 (UO (.int 0)))) (UI)))))) (sNx))
   [some (.pub (U7 cs ls)),some (.pub (.int c)),some (.pub (.int s)),some (.pub (.int m)),some (.pub (.list (([3,2,(m:Int)+1]++Ux m ((n:Int)+1)).map int))),some (.pub (.list (dg.map int))),some (.pub .none),none,none]
   (λr=>∃old x6,r=.nx [some (.pub (U7 cs ls)),some (.pub (.int c)),some (.pub (.int s)),some (.pub (.int m)),some (.pub (.list (([3,2,(m:Int)+1]++Ux m ((n:Int)+1)).map int))),some (.pub (.list (dg.map int))),x6,none,none] /\
    (x6=some (.pub (YZ old)) ∨ ∃ws,old=some ws/\x6=some (.own (ws.map U5)))/\(∀ws,old=some ws->ws.length=m)/\∀ws t,old=some ws->some t∈ws->0<=t/\t<n):=by
  have hc:∀a b:Option Sl,KY (gN 9) (UO true) (UN oIx (KD (UM (UO .none) (UM (UN KP (UB 9) (UO (.int 1))) (UI)))) (K1 Rl (UM (UZ Uz (K6 (oIB λi j=>decide (j<i)) 9 (UO (.int 0)))) (UI)))) (ol.map int) (Kl [some (.pub (U7 cs ls)),some (.pub (.int c)),some (.pub (.int s)),some (.pub (.int m)),some (.pub (.list (([3,2,(m:Int)+1]++Ux m ((n:Int)+1)).map int))),some (.pub (.list (dg.map int))),some (.pub .none),none,none]++Ux 1 none) []=some ((ol.map Re).map U5):=λ_ _=>by
   refine YS (λZ=>∃x,Z=[some (.pub (U7 cs ls)),some (.pub (.int c)),some (.pub (.int s)),some (.pub (.int m)),some (.pub (.list (([3,2,(m:Int)+1]++Ux m ((n:Int)+1)).map int))),some (.pub (.list (dg.map int))),some (.pub .none),none,none,x]) _ _ _ _ (by simp only[Qb]) ?_ ⟨none,rfl⟩ (by rw[Qb,QC];omega);rintro i d e hd he Z ⟨x,rfl⟩;rw[Qe]at hd;rw[Qe,Qe]at he;cases hw:ol[i]? with
   |none=>rw[hw]at hd;cases hd
   |some z=>
   rw[hw]at hd he;cases hd;cases he;exact⟨_,UT (Qa rfl) rfl,rfl,U0 (ZC (UP UR (UP (U0 (UL rfl) UR Yt) UU)) (Qa rfl)) (K9 (UP (KF (ZB rfl UR rfl)) UU) rfl) (Bl z),_,rfl⟩
  apply Ko
  case h1=>exact U0 (Kj rfl UR i1) UR Xx
  case h2=>
   intro _;refine Zx (Yd (ZT (Zl (Wk (UL rfl) (YV UR) (YV (U0 UR (UL rfl) K0)) (by rw[Wr,hcut])) ZK) (hc none none)) (Qa rfl) rfl) ?_;refine⟨some (ol.map Re),_,rfl,.inr ⟨_,rfl,rfl⟩,λws e=>?_,λws t e ht=>?_⟩
   ·cases e;rw[Qb];exact oll
   ·cases e;obtain⟨d,hd,e⟩:=Qs.mp ht;have:=olb d hd;unfold Re at e;split at e
    ·cases e;omega
    ·cases e
  case h3=>exact λ_=>Ky ⟨none,_,rfl,.inl rfl,(λws e=>by cases e),(λws t e=>by cases e)⟩
 refine Kr (Lb step λr hr=>?_);obtain⟨old,x6,rfl,hx6,hol,hob⟩:=hr;refine Kp ?_;refine Kf (Yd (Vy UU (Qa rfl)) (Qa rfl) rfl) ?_;obtain⟨k2,rfl⟩:∃k:Nat,d2=k:=⟨d2.toNat,by omega⟩
 let tl:List Int:=(dg.drop (3+m)).take k2
 have tll:tl.length=k2:=by show((dg.drop (3+m)).take k2).length=k2;rw[QO,Jj];omega
 have tlb:∀j d,tl[j]?=some d->0<=d/\d<(m:Int):=λj d hj=>by
  have hjl:j<k2:=by have:=(Qg.mp hj).1;omega
  refine hdb (3+m+j) d _ ?_ (Bm (by omega));rw[←hj];show _=((dg.drop (3+m)).take k2)[j]?;rw[List.getElem?_take,Qp hjl,List.getElem?_drop]
 have hcut2:DL.cutD (dg.map int) (some (3+(m:Int))) (some (3+(m:Int)+(k2:Int)))=tl.map int:=by
  rw[OT (by omega) (by omega) (by omega)];have t1:(3+(m:Int)).toNat=3+m:=by omega
  have t2:(3+(m:Int)+(k2:Int)).toNat-(3+(m:Int)).toNat=k2:=by omega
  rw[t2,t1]
 apply Kr;apply Zr (λi Z=>∃(T:List Int)(x8:Option Sl),Z=[some (.pub (U7 cs ls)),some (.pub (.int c)),some (.pub (.int s)),some (.pub (.int m)),some (.pub (.list (([3,2,(m:Int)+1]++Ux m ((n:Int)+1)).map int))),some (.pub (.list (dg.map int))),x6,some (.own (T.map int)),x8]/\T.length=i/\T.Nodup/\∀a∈T,0<=a/\a<(m:Int))
 case h1=>exact Zl (Wk (UL rfl) (YV (U0 UR (UL rfl) K0)) (YV (U0 (U0 UR (UL rfl) K0) (Kj rfl UR i2) K0)) (by rw[Wr,hcut2])) ZK
 case h0=>exact⟨[],_,rfl,rfl,List.nodup_nil,λ_ h=>by cases h⟩
 case hst=>
  rintro i d Z hi ⟨T,x8,rfl,hT,hTn,hTb⟩;rw[Qe]at hi;cases hw:tl[i]? with
  |none=>rw[hw]at hi;cases hi
  |some z=>
  rw[hw]at hi;cases hi;have hz:=tlb i z hw;have hil:i<k2:=by have:=(Qg.mp hw).1;omega
  obtain⟨zz,rfl⟩:∃k:Nat,z=k:=⟨z.toNat,by omega⟩
  refine⟨_,UT (Qa rfl) rfl,?_⟩;unfold MG;obtain⟨k,hk,hk1,hk2⟩:=A7 (m:=m) (T:=T) zz (by omega) hTn;refine Kf (HH (by omega) k 1000 zz hk1 hk2 (by omega) (by omega)) ?_;refine Zx (Wa rfl (UL rfl) rfl (by rw[Qb];omega) rfl) ?_;refine KZ ⟨T++[(((zz+k) % m:Nat):Int)],_,by rw[QE (l₁:=T) (f:=int)];rfl,by rw[Qj,hT];rfl,?_,λa ha=>?_⟩
  ·refine List.nodup_append.mpr ⟨hTn,List.nodup_cons.mpr ⟨(by simp),List.nodup_nil⟩,λa ha b hb e=>?_⟩;rw[QZ.mp hb]at e;exact hk2 (e ▸ ha)
  ·rcases QR.mp ha with h|h
   ·exact hTb a h
   ·rw[QZ.mp h];have:=Nat.mod_lt (zz+k) (show 0<m by omega);exact⟨by omega,by omega⟩
 case hend=>
  rintro Z ⟨T,x8,rfl,hT,hTn,hTb⟩;refine Kp ?_
  obtain⟨o,ho⟩:∃o:Ord,oIx (.list [.str "firsts", .str "full", .str "lasts"]) (.int d0)=some (.str o.tx):=by
   have:d0=0∨d0=1∨d0=2:=by omega
   rcases this with rfl|rfl|rfl
   ·exact⟨.firsts,KU (j:=0) rfl⟩
   ·exact⟨.full,KU (j:=1) rfl⟩
   ·exact⟨.lasts,KU (j:=2) rfl⟩
  have ga:YH n m old T:=⟨hol,hob,hTn,hTb⟩;rcases hx6 with rfl|⟨ws,rfl,rfl⟩
  ·exact Kv (Yp (UP (U0 (ZC (UP UR (UP UR (UP UR UU))) (Qa rfl)) (Kj rfl UR i0) ho) (UP (UL rfl) (UP (Yu rfl rfl) UU))) (Qa rfl)) ⟨_,rfl,o,_,T,rfl,ga⟩
  ·exact Kv (Yp (UP (U0 (ZC (UP UR (UP UR (UP UR UU))) (Qa rfl)) (Kj rfl UR i0) ho) (UP (Yu rfl rfl) (UP (Yu rfl rfl) UU))) (Qa rfl)) ⟨_,rfl,o,some ws,T,rfl,ga⟩
end
theorem DH{op:Int->Int->Option D}{j:Nat}{f:M D}{Z Z1 Z':UH}{a b:Int}{d:D}(h0:Z[j]?=some (some (.pub (.int a))))(h1:f Z=.ok (.int b) Z1)(h2:op a b=some d)(h3:j<Z1.length)(h4:Z1.set j (some (.pub d))=Z'):Xj op j f Z=.nx Z':=by unfold Xj;rw[h0];dsimp only[sB];rw[h1];dsimp only;rw[h2];dsimp only;rw[Qp h3,h4]
theorem mulN{i j:Int}(h : -1000<j/\j<1000):Yi i j=some (.int (i*j)):=by unfold Yi;exact Qp (.inr ⟨by omega,by omega⟩)
theorem RG{b n:Int}(hb : -1000<b/\b<1000)(hn : -1000<=n/\n<=1000):Zp [.int b,.int n]=some (.int (b ^ n.toNat)):=by
 refine KS (Z:=[some (.pub (.int b)),some (.pub (.int n)),none,none]) rfl ?_;unfold TX;refine Kf (Kx UR (Qa rfl) rfl) ?_;apply Kr;apply Zr (λi Z=>∃x3,Z=[some (.pub (.int b)),some (.pub (.int n)),some (.pub (.int (b ^ i))),x3])
 case h1=>exact Xz (UP (UL rfl) UU) (Xv (by omega) (by omega))
 case h0=>exact⟨_,by rw[Int.pow_zero];rfl⟩
 case hst=>rintro i d Z hi ⟨x3,rfl⟩;refine⟨_,UT (Qa rfl) rfl,?_⟩;unfold MM;refine Zx (DH rfl (UL rfl) (mulN hb) (Qa rfl) rfl) ?_;exact KZ ⟨_,by rw[Int.pow_succ];rfl⟩
 case hend=>
  rintro Z ⟨x3,rfl⟩;refine Kp (Kv (UL rfl) ?_);rw[YW]
  congr 4
  omega
noncomputable def Zk:Ord->Int->Int->Int->Int
 |.firsts,b,M,r=>b ^ (M-r).toNat
 |.full,b,M,r=>b ^ M.toNat+b ^ (M-r).toNat
 |.lasts,b,M,r=>b ^ M.toNat-b ^ (r-1).toNat
theorem ju(o:Ord){b M r:Int}(hb : -1000<b/\b<1000)(hM:0<=M/\M<=100)(hr:0<=r/\r<=100):W4 [.str o.tx,.int b,.int M,.int r]=some (.int (Zk o b M r)):=by
 refine KS (Z:=[some (.pub (.str o.tx)),some (.pub (.int b)),some (.pub (.int M)),some (.pub (.int r))]) rfl ?_;unfold TW;have p1:Zp [.int b,.int (M-r)]=some (.int (b ^ (M-r).toNat)):=RG hb ⟨by omega,by omega⟩;have p2:Zp [.int b,.int M]=some (.int (b ^ M.toNat)):=RG hb ⟨by omega,by omega⟩;have p3:Zp [.int b,.int (r-1)]=some (.int (b ^ (r-1).toNat)):=RG hb ⟨by omega,by omega⟩;apply Kr;apply Ko
 case h1=>exact ZB rfl UR (Fk o)
 case h2=>
  intro h;cases o with
  |firsts=>exact Kv (Kg (UP (UL rfl) (UP (U0 (UL rfl) (UL rfl) Yt) UU)) rfl p1) (Ws rfl)
  |full=>cases h
  |lasts=>cases h
 case h3=>
  intro h;refine Ky (Kp ?_);apply Kr;apply Ko
  case h1=>exact ZB rfl UR (NP o)
  case h2=>
   intro h';cases o with
   |full=>exact Kv (U0 (Kg (UP (UL rfl) (UP (UL rfl) UU)) rfl p2) (Kg (UP (UL rfl) (UP (U0 (UL rfl) (UL rfl) Yt) UU)) rfl p1) K0) (Ws rfl)
   |firsts=>cases h
   |lasts=>cases h'
  case h3=>
   intro h';refine Ky (Kp ?_);cases o with
   |firsts=>cases h
   |full=>cases h'
   |lasts=>exact Kv (U0 (Kg (UP (UL rfl) (UP (UL rfl) UU)) rfl p2) (Kg (UP (UL rfl) (UP (U0 (UL rfl) UR Yt) UU)) rfl p3) Yt) rfl
noncomputable def Y7(ts:List Int)(b i r:Int):Int:=if i∈ts then(b-r)*b ^ (ts.length-1-ts.idxOf i)else 0
theorem Gx{n:Nat}:∀{xs:List D},(∀x∈xs,PyData.weight x<=n)->PyData.weightAll xs<=xs.length*(n+1)
 |[],_=>by simp[PyData.weightAll]
 |x::xs,h=>by have h1:=h x Qm;have h2:=Gx (xs:=xs) λy hy=>h y (Ql _ hy);rw[PyData.weightAll,QJ,Nat.succ_mul];omega
theorem qN{i:Int}(h:0<=i/\i<1000):(int i).weight<=10:=by
 simp only[PyData.weight];split
 ·omega
 ·rename_i hne;have h0:i.natAbs≠0:=by intro e;exact hne (by simpa using e)
  have:=(Nat.log2_lt h0 (k:=10)).mpr (by omega);omega
theorem jQ{ts:List Int}(h:∀a∈ts,0<=a/\a<1000)(hl:ts.length<=1000):PyData.layable0 (.list (ts.map int))=true:=by
 unfold PyData.layable0;have h1:(Uy (ts.map int)).canLay0=true:=Pu λx hx=>by obtain⟨y,_,rfl⟩:=Qs.mp hx;rfl
 have h2:(Uy (ts.map int)).depth<=64:=QT (MC (n:=1) (O8 λx hx=>by obtain⟨y,_,rfl⟩:=Qs.mp hx;exact MD y)) (by decide)
 have h3:(Uy (ts.map int)).weight<=2 ^ 20:=by
  have:=Gx (n:=10) (xs:=ts.map int) λx hx=>by obtain⟨y,hy,rfl⟩:=Qs.mp hx;exact qN (h y hy)
  rw[Qb]at this;simp only[PyData.weight];omega
 rw[h1,Q5 h2,Q5 h3];rfl
theorem Bj{ts:List Int}{k:Int}(hb:∀a∈ts,0<=a/\a<1000)(hl:ts.length<=1000)(h:k∈ts):SJ (.list (ts.map int)) [.int k]=some (.int (ts.idxOf k:Nat)):=by unfold SJ;dsimp only;rw[VW];dsimp only;exact Qp ⟨jQ hb hl,h⟩
theorem Bh{t:Int}{r:List Int}:Yg (.int t) (.list (r.map int))=some (!r.contains t):=by unfold Yg;rw[SH];rfl
theorem jt{ts:List Int}{b i r:Int}(hb : -1000<b/\b<1000)(hr : -1000<r/\r<1000)(hl:ts.length<=100)(ht:∀a∈ts,0<=a/\a<1000):W3 [.list (ts.map int),.int b,.int i,.int r]=some (.int (Y7 ts b i r)):=by
 refine KS (Z:=[some (.pub (.list (ts.map int))),some (.pub (.int b)),some (.pub (.int i)),some (.pub (.int r)),none]) rfl ?_;unfold TV Y7;apply Kr;apply Ko
 case h1=>exact ZB rfl (UL rfl) Bh
 case h2=>
  intro h;have:¬i∈ts:=by simpa using h
  rw[QB this];exact Kv UR (Ws rfl)
 case h3=>
  intro h;have hm:i∈ts:=by simpa using h
  rw[Qp hm];refine Ky (Kp ?_);have hi:=List.idxOf_lt_length_of_mem hm;have hlen:U8 [.list (ts.map int)]=some (.int ts.length):=by rw[K2,Qb]
  refine Kf (Kx (U0 (U0 (Zq rfl hlen) UR Yt) (C2 (UL rfl) (UP (UL rfl) UU) (Bj ht (by omega) hm)) Yt) (Qa rfl) rfl) ?_;have hp:=RG (b:=b) (n:=(ts.length:Int)-1-(ts.idxOf i:Nat)) hb ⟨by omega,by omega⟩;have e:((ts.length:Int)-1-(ts.idxOf i:Nat)).toNat=ts.length-1-ts.idxOf i:=by omega
  rw[e]at hp;exact Kv (U0 (U0 (UL rfl) (UL rfl) Yt) (Kg (UP (UL rfl) (UP (UL rfl) UU)) rfl hp) (SX (by omega) (by omega))) rfl
noncomputable def YE(old:Option LO)(i:Nat)(t:Int):Int:=match old with
 |none=>0
 |some ws=>if ws[i]?=some (some t)then 1 else 0
section
variable{cs:List Int}{ls:L3}{o:Ord}{old:Option LO}{ts:List Int}
noncomputable def Ze(ls:L3)(o:Ord)(old:Option LO)(ts:List Int)(i:Nat)(rs:List (List Int))(t:Int):Int:=
 (Zk o (ls.length+1) (lng ls) (Zd t rs)*(ls.length+1)+YE old i t)*((lng ls:Int)+1) ^ ts.length+Y7 ts (lng ls+1) i (Zd t rs)
theorem He{b:Int}(h0:0<=b)(h:b<=8):∀{n k:Nat},n<=k->b ^ n<=8 ^ k:=λ{n k} hk=>by
 have e:b=((b.toNat:Nat):Int):=by omega
 rw[e];have h1:b.toNat ^ n<=8 ^ n:=Nat.pow_le_pow_left (by omega) n;have h2:8 ^ n<=8 ^ k:=Nat.pow_le_pow_right (by omega) hk;have h3:((b.toNat ^ n:Nat):Int)<=((8 ^ k:Nat):Int):=by omega
 rw[Int.natCast_pow,Int.natCast_pow]at h3;exact h3
theorem As(g:Good cs ls)(ga:YH cs.length ls.length old ts){i:Nat}{rs:List (List Int)}(hi:ls[i]?=some rs)(t:Int):X0 [U7 cs ls,KJ o old ts,.int (lng ls:Nat),.int i,.int t]=some (.int (Ze ls o old ts i rs t)):=by
 have l7:=g.l7;have l1:=g.l1;have hL:lng ls<=5:=P2 l1 λrs h=>(g.rk rs h).few;have hrk:Zd t rs<=5:=by have:=O7 t rs;have:=(g.rk rs (Qo hi)).few;omega
 have htl:=ga.few;have hlt:i<ls.length:=(Qg.mp hi).1;refine KS (Z:=[some (.pub (U7 cs ls)),some (.pub (KJ o old ts)),some (.pub (.int (lng ls:Nat))),some (.pub (.int i)),some (.pub (.int t)),none,none,none,none,none,none,none,none]) rfl ?_;unfold TU Ze;refine Kf (Vr (UL rfl) (Kz rfl (U2 (UT (Qa rfl) rfl) (U2 (UT (Qa rfl) rfl) (U2 (UT (Qa rfl) rfl) KB))))) ?_;refine Kf (Kx (Kj rfl UR Xc) (Qa rfl) rfl) ?_;refine Kf (Kx (Kg (UP (Kj rfl (UL rfl) (Nu hi)) (UP (UL rfl) UU)) rfl (qc t rs)) (Qa rfl) rfl) ?_;have hll:U8 [.list (ls.map KL)]=some (.int ls.length):=by rw[K2,Qb]
 have htl':U8 [.list (ts.map int)]=some (.int ts.length):=by rw[K2,Qb]
 refine Kf (Kx (U0 (Zq rfl hll) UR K0) (Qa rfl) rfl) ?_
 have hk:∀Z:UH,Z[6]?=some (some (.pub (YZ old)))->Z[3]?=some (some (.pub (.int i)))->Z[4]?=some (some (.pub (.int t))) ->
   mIf (KW (UZ (λd=>!isNon d) (UB 6)) (UN oEq (UV 6 (UB 3)) (UB 4))) (UO (int 1)) (UO (.int 0)) Z=.ok (.int (YE old i t)) Z:=λZ r6 r3 r4=>by
  cases old with
  |none=>exact P7 (RE (KF (UL r6))) UR
  |some ws=>
   have hw:ws.length=ls.length:=ga.len ws rfl;have hwi:ws[i]?=some ws[i]:=Qf (by omega);have hx:oIx (.list (ws.map U5)) (.int i)=some (U5 ws[i]):=P3 (by omega)
   have ht:(KW (UZ (λd=>!isNon d) (UB 6)) (UN oEq (UV 6 (UB 3)) (UB 4))) Z=.ok (decide (ws[i]=some t)) Z:=
    RD (KF (UL r6)) (U0 (Kj r6 (UL r3) hx) (UL r4) (Ru (b:=some t)))
   rw[GR ht UR UR]
   congr 1
   unfold YE;dsimp only;rw[hwi];by_cases h:ws[i]=some t
   ·rw[Q5 h,Qp rfl,Qp (by rw[h])]
   ·rw[QG h,QB (by decide),QB (λe=>h (QQ e))]
 refine Kf (Kx (hk _ rfl rfl rfl) (Qa rfl) rfl) ?_;have h1:=ju o (b:=(ls.length:Int)+1) (M:=(lng ls:Nat)) (r:=(Zd t rs:Nat)) ⟨by omega,by omega⟩ ⟨by omega,by omega⟩ ⟨by omega,by omega⟩;have h2:=RG (b:=(lng ls:Int)+1) (n:=(ts.length:Nat)) ⟨by omega,by omega⟩ ⟨by omega,by omega⟩;have h3:=jt (ts:=ts) (b:=(lng ls:Int)+1) (i:=i) (r:=(Zd t rs:Nat)) ⟨by omega,by omega⟩ ⟨by omega,by omega⟩ (by omega) (λa ha=>by have:=ga.there a ha;omega);rw[Qt]at h2;refine Kf (Kx (U0 (U0 (Kg (UP (UL rfl) (UP (UL rfl) (UP (UL rfl) (UP (UL rfl) UU)))) rfl h1) (UL rfl) (XJ (by omega) (by omega))) (UL rfl) K0) (Qa rfl) rfl) ?_;have hp:((lng ls:Int)+1) ^ ts.length<=8 ^ 7:=He (by omega) (by omega) (by omega);have hp0:0<=((lng ls:Int)+1) ^ ts.length:=Int.pow_nonneg (by omega);exact Kv (U0 (U0 (UL rfl) (Kg (UP (U0 (UL rfl) UR K0) (UP (Zq rfl htl') UU)) rfl h2) (XJ (by omega) (by omega))) (Kg (UP (UL rfl) (UP (U0 (UL rfl) UR K0) (UP (UL rfl) (UP (UL rfl) UU)))) rfl h3) K0) rfl
end
theorem Pp{s:D->UH->Option UH}{t:M Bool}{g:M D}(I:UH->Prop):∀(ds:List D)(qs:List (Option D))(Z:UH)(es:List D),qs.length=ds.length ->
  (∀(i:Nat) d e,ds[i]?=some d->qs[i]?=some e->∀Z,I Z->∃Z1,s d Z=some Z1/\t Z1=.ok e.isSome Z1/\(∀x,e=some x->g Z1=.ok x Z1)/\I (Kl Z1))->I Z->es.length+ds.length<=1000000->KY s t g ds Z es=some (es++qs.filterMap id)
 |[],[],Z,es,_,_,_,_=>by rw[KY];simp
 |d::r,e::q,Z,es,hl,st,h0,hz=>by
  obtain⟨Z1,e1,e2,e3,h1⟩:=st 0 d e rfl rfl Z h0;rw[QJ]at hz;have ih:=λes' hz'=>Pp I r q (Kl Z1) es' (by simpa using hl) (λi d' e' x y=>st (i+1) d' e' (by simpa using x) (by simpa using y)) h1 hz'
  rw[KY,e1];dsimp only;rw[e2];dsimp only;cases e with
  |none=>rw[if_neg (show ¬(none:Option D).isSome=true by simp),ih es (by omega)];rfl
  |some x=>rw[Qp (show(some x).isSome=true from rfl),e3 x rfl];dsimp only;rw[Qp (by omega),ih (es++[x]) (by rw[Qj,Q6];omega),Q9];rfl
noncomputable def YL(W:Nat->List (List Int)->Int->Int):Nat->L3->LO->LO
 |k,rs::ls,o::r=>(o.map (W k rs))::YL W (k+1) ls r
 |_,_,_=>[]
noncomputable def Ye(l:LO):Int:=(l.filterMap id).sum
theorem Hd{o:Option Int}{l:LO}:Ye (o::l)=o.getD 0+Ye l:=by
 cases o with
 |none=>show Ye l=0+Ye l;omega
 |some x=>show(x::l.filterMap id).sum=_;rw[J7];rfl
section
variable{cs:List Int}{ls:L3}{o:Ord}{old:Option LO}{ts:List Int}{ws:LO}
noncomputable def U4(ls:L3)(o:Ord)(old:Option LO)(ts:List Int)(a t:Int):Int:=Ze ls o old ts a.toNat (ls.getD a.toNat []) t
noncomputable def Zb(V:Int->Int->Int)(q:Int×Int):D:=.tuple [.int q.1,.int q.2,.int (V q.1 q.2)]
theorem Go(g:Good cs ls)(ga:YH cs.length ls.length old ts):Xs [U7 cs ls,KJ o old ts]=some (.list ((UX 0 ls).map (Zb (U4 ls o old ts)))):=by
 refine KS (Z:=[some (.pub (U7 cs ls)),some (.pub (KJ o old ts)),none]) rfl ?_;unfold TR;refine Kf (Vw (Kg (UP (UL rfl) (UP (UL rfl) UU)) rfl (Fj g ga))) ?_;refine Kf (Kx (Kg (UP (UL rfl) UU) rfl (A9 g)) (Qa rfl) rfl) ?_;have few:(UX 0 ls).length<=42:=by rw[(VZ ls 0).length_eq];exact RC g
 have hc:KY (gT 2 (gNC (gN 3) (gNC (gN 4) (gN0)))) (UO true) (Kw (UM (UB 3) (UM (UB 4) (UM (UW 5 X0 (UM (UB 0) (UM (UB 1) (UM (UB 2) (UM (UB 3) (UM (UB 4) (UI))))))) (UI))))) ((UX 0 ls).map Kd) (Kl [some (.pub (U7 cs ls)),some (.pub (KJ o old ts)),some (.pub (.int (lng ls:Nat)))]++Ux 2 none) []=some ((UX 0 ls).map (Zb (U4 ls o old ts))):=by
  refine YS (λZ=>∃x y,Z=[some (.pub (U7 cs ls)),some (.pub (KJ o old ts)),some (.pub (.int (lng ls:Nat))),x,y]) _ _ _ _ (by simp only[Qb]) ?_ ⟨none,none,rfl⟩ (by rw[Qb,QC];omega);rintro i d e hd he Z ⟨x,y,rfl⟩;rw[Qe]at hd he;cases hw:(UX 0 ls)[i]? with
  |none=>rw[hw]at hd;cases hd
  |some q=>
  rw[hw]at hd he;cases hd;cases he;obtain⟨a,t⟩:=q;obtain⟨j,rs,hj,ha,ht⟩:=Wd (Qo hw);have ha:a=(j:Int):=by rw[QY]at ha;exact ha
  subst ha;have hv:U4 ls o old ts j t=Ze ls o old ts j rs t:=by unfold U4;rw[Qt,Qn,hj];rfl
  refine⟨_,Kz rfl (U2 (UT (Qa rfl) rfl) (U2 (UT (Qa rfl) rfl) KB)),rfl,?_,_,_,rfl⟩;unfold Zb;dsimp only;rw[hv];exact Yp (UP (UL rfl) (UP (UL rfl) (UP (Kg (UP (UL rfl) (UP (UL rfl) (UP (UL rfl) (UP (UL rfl) (UP (UL rfl) UU))))) rfl (As g ga hj t)) UU))) (Qa rfl)
 exact Kv (KF (ZT (Zl (Kg (UP (UL rfl) UU) rfl (jZ g)) ZK) hc)) rfl
end
section
variable{cs:List Int}{ls:L3}{ws:LO}
theorem kj(g:Good cs ls):WQ [U7 cs ls]=some (.int (lng ls:Nat)):=by
 refine KS (Z:=[some (.pub (U7 cs ls))]) rfl ?_;unfold Tq
 have hc:KY (gN 1) (UO true) (K7 1) (ls.map KL) (Kl [some (.pub (U7 cs ls))]++Ux 1 none) []=some ((ls.map λrs=>(rs.length:Int)).map int):=by
  refine YS (λZ=>∃x,Z=[some (.pub (U7 cs ls)),x]) _ _ _ _ (by rw[Qb,Qb,Qb]) ?_ ⟨none,rfl⟩ (by rw[Qb,QC];have:=g.l7;omega);rintro i d e hd he Z ⟨x,rfl⟩;rw[Qe]at hd;rw[Qe,Qe]at he;cases hl:ls[i]? with
  |none=>rw[hl]at hd;cases hd
  |some rs=>
  rw[hl]at hd he;cases hd;cases he;exact⟨_,UT (Qa rfl) rfl,rfl,Zq rfl (Hg rs),_,rfl⟩
 refine Kv (K9 (UP (KF (ZT (Zl (Kj rfl UR Xc) ZK) hc)) UU) (OW (by rw[Qb];have:=g.l1;omega))) ?_;rw[Ot g.l1]
theorem js{i:Nat}{rs:List (List Int)}(h:ls[i]?=some rs)(t:Int):WR [U7 cs ls,.int i,.int t]=some (.int (Zd t rs:Nat)):=by
 refine KS (Z:=[some (.pub (U7 cs ls)),some (.pub (.int i)),some (.pub (.int t)),none,none]) rfl ?_;unfold Tr;apply Kr;apply Zr (λi' Z=>(∃x2 x3,Z=[some (.pub (U7 cs ls)),some (.pub (.int i)),some (.pub (.int t)),x2,x3])/\∀j r,j<i'->rs[j]?=some r->r.contains t=false)
 case h1=>exact Xy (UP (U0 (Kj rfl UR Xc) (UL rfl) (Nu h)) UU) XI
 case h0=>exact⟨⟨_,_,rfl⟩,λj r h=>absurd h (J6 _)⟩
 case hst=>
  rintro k d Z hi ⟨⟨x2,x3,rfl⟩,hb⟩;obtain⟨x,hx,rfl⟩:=Y8 hi;rw[Qe]at hx;cases hr:rs[k]? with
  |none=>rw[hr]at hx;cases hx
  |some r=>
   rw[hr]at hx;cases hx;refine⟨_,Kz rfl (U2 (UT (Qa rfl) rfl) (U2 (UT (Qa rfl) rfl) KB)),?_⟩;unfold MI;apply Ko
   case h1=>exact ZB rfl (UL rfl) (Ov t r)
   case h2=>
    intro hh;refine Kv (U0 (UL rfl) UR K0) (RH ?_);rw[Hj hr hh hb];refine⟨?_⟩
    congr 2
    omega
   case h3=>
    intro hh;refine Ky (KZ ⟨⟨_,_,rfl⟩,λj r' hj e=>?_⟩);rcases JU.mp hj with hj|rfl
    ·exact hb j r' hj e
    ·rw[hr]at e;cases e;exact hh
 case hend=>rintro Z ⟨⟨x2,x3,rfl⟩,hb⟩;refine Kp (Kv UR ?_);rw[Hi (λj r hj e=>hb j r (by rw[YC,Qb];exact hj) e)];rfl
end
section
variable{cs:List Int}{ls:L3}{ws us:LO}
theorem ix_c{t:Int}(h0:0<=t)(h:t<cs.length):oIx (.list (cs.map int)) (.int t)=some (.int (cs.getD t.toNat 0)):=by
 have e:t=((t.toNat:Nat):Int):=by omega
 rw[e];refine KU ?_;rw[Qe,Qf (by omega),Qn,Qt,Qf (by omega)];rfl
theorem qM{t:Int}{fl:List Int}:Yg (.int t) (.list ((Zs fl).map int))=some (!fl.contains t):=by
 have e:(Zs fl).contains t=fl.contains t:=by rw[Bool.eq_iff_iff];simp only[List.contains_iff_mem];exact(Xb fl).mem_iff
 unfold Yg;rw[SH,e];rfl
theorem Nq(i:Int):ZI [.int i]=some (.bool true):=by refine KS (Z:=[some (.pub (.int i))]) rfl ?_;unfold Wy;exact Kv (RF (KF (k:=λd=>Uz (Ku d "int")) (UL rfl)) (λ_=>OB (KF (k:=λd=>Uz (Ku d "bool")) (UL rfl)))) rfl
end
theorem Oq{f g:M Bool}{Z:UH}{t u:Bool}(h1:f Z=.ok t Z)(h2:t=true->g Z=.ok u Z)(h3:t=false->u=false):KW f g Z=.ok u Z:=by
 have:=Ma h1 h2;cases t with
 |true=>exact this
 |false=>rw[h3 rfl];exact this
theorem Gw(i:Int):ZI [.int i]=some (.bool true):=by refine KS (Z:=[some (.pub (.int i))]) rfl ?_;unfold Wy;exact Kv (RF (KF (k:=λd=>Uz (Ku d "int")) (UL rfl)) (λ_=>OB (KF (k:=λd=>Uz (Ku d "bool")) (UL rfl)))) rfl
theorem DG{j:Nat}{f:M (List D)}{Z Z1 Z':UH}{ds0 ds es:List D}(h0:Z[j]?=some (some (.own ds0)))(h1:f Z=.ok es Z1)(h2:Z1[j]?=some (some (.own ds)))(h3:ds.length+es.length<=1000000)(h4:Z1.set j (some (.own (ds++es)))=Z'):XN j f Z=.nx Z':=by unfold XN;rw[Lu h0];dsimp only;unfold sB;rw[h1];dsimp only;rw[Lu h2];dsimp only;rw[Qp h3,h4]
theorem LQ:∀(a b:L3)(k:Nat),UX k (a++b)=UX k a++UX (k+a.length) b
 |[],b,k=>rfl
 |rs::a,b,k=>by show _++UX (k+1) (a++b)=_;rw[LQ a b (k+1)];show _=(_++UX (k+1) a)++UX (k+(a.length+1)) b;rw[Q9,show k+1+a.length=k+(a.length+1)by omega]
theorem Bg{n:Nat}(ls:L3)(k:Nat)(h:∀rs∈ls,rs.flatten.length<=n):(UX k ls).length<=ls.length*n:=by rw[(VZ ls k).length_eq];exact OL n ls k h
section
variable{cs:List Int}{ls:L3}{o:Ord}{old:Option LO}{ts:List Int}
theorem jP(g:Good cs ls):XU [U7 cs ls]=some (.list ((UX 0 ls).map Kd)):=by
 have l7:=g.l7;have c6:=g.c6;refine KS (Z:=[some (.pub (U7 cs ls)),none,none]) rfl ?_;unfold Tj;refine Kf (Yd (Vy UU (Qa rfl)) (Qa rfl) rfl) ?_;apply Kr;apply Zr (λi Z=>∃x2,Z=[some (.pub (U7 cs ls)),some (.own ((UX 0 (ls.take i)).map Kd)),x2])
 case h1=>exact Xz (UP (K9 (UP (Kj rfl UR Xc) UU) K2) UU) (Xv (by rw[Qb];omega) (by omega))
 case h0=>exact⟨_,rfl⟩
 case hst=>
  rintro i d Z hi ⟨x2,rfl⟩;obtain⟨rfl,hlt⟩:=Wc hi;rw[Qb]at hlt;have hls:ls[i]?=some ls[i]:=Qf (by omega);have gr:=g.rk _ (Qo hls);have hfl:=SV gr;refine⟨_,UT (Qa rfl) rfl,?_⟩;unfold MJ;rw[JT];have hw:=Pq (cs:=cs) hls (by omega)
  have hc:KY (gN 3) (UO true) (Kw (UM (UB 2) (UM (UB 3) (UI)))) ((Zs ls[i].flatten).map int) (Kl [some (.pub (U7 cs ls)),some (.own ((UX 0 (ls.take i)).map Kd)),some (.pub (.int i))]++Ux 1 none) []=some ((Zs ls[i].flatten).map λt=>Kd ((i:Int),t)):=by
   have hsl:(Zs ls[i].flatten).length<=6:=by rw[(Xb _).length_eq];omega
   refine(YS (λZ=>∃x,Z=[some (Sl.pub (U7 cs ls)),none,some (Sl.pub (.int i)),x]) _ ((Zs ls[i].flatten).map λt=>Kd ((i:Int),t)) _ _ (by rw[Qb,Qb]) ?_ ⟨none,rfl⟩ (by rw[Qb,QC];omega)).trans (by rw[Ji]);rintro j d e hd he Z ⟨x,rfl⟩;rw[Qe]at hd he;cases z:(Zs ls[i].flatten)[j]? with
   |none=>rw[z]at hd;cases hd
   |some t=>rw[z]at hd he;cases hd;cases he;exact⟨_,UT (Qa rfl) rfl,rfl,Yp (UP (UL rfl) (UP (UL rfl) UU)) (Qa rfl),_,rfl⟩
  have ha:(UX 0 (ls.take i)).length<=42:=by
   have:=Bg (n:=6) (ls.take i) 0 λrs hrs=>by have:=SV (g.rk rs (List.mem_of_mem_take hrs));omega
   rw[QO]at this;have:min i ls.length<=7:=by omega
   omega
  refine Zx (DG rfl (ZT (Zl (Kg (UP (UL rfl) (UP (UL rfl) UU)) rfl hw) ZK) hc) rfl ?_ rfl) (KZ ⟨some (.pub (.int i)),?_⟩)
  ·rw[Qb,Qb,(Xb _).length_eq];omega
  ·have e:UX 0 (ls.take (i+1))=UX 0 (ls.take i)++(Zs ls[i].flatten).map λt=>((i:Int),t):=by
    rw[List.take_succ_eq_append_getElem (by omega),LQ,QO,JQ (by omega),QY];show _++((Zs ls[i].flatten).map (λt=>((i:Int),t))++[])=_;rw[Jc]
   rw[e,QE,Q4];rfl
 case hend=>rintro Z ⟨x2,rfl⟩;rw[YW,Qb];refine Kp (Kv (Yu rfl rfl) ?_);rw[show((ls.length:Int)-0).toNat=ls.length by omega,Jy]
theorem HG{ts:List Int}{b a r x:Int}(hn:(ts++[x]).Nodup):Y7 (ts++[x]) b a r=Y7 ts b a r*b+if x=a then b-r else 0:=by
 have hx:x∉ts:=λz=>(List.nodup_append.mp hn).2.2 x z x (List.mem_singleton.mpr rfl) rfl;unfold Y7
 by_cases h:a∈ts
 ·have hxa:¬x=a:=λe=>hx (e ▸ h)
  have hlt:=List.idxOf_lt_length_of_mem h;rw[Qp (Q8 _ h),Qp h,QB hxa,List.idxOf_append,Qp h,Qj,Q6,show ts.length+1-1-ts.idxOf a=(ts.length-1-ts.idxOf a)+1 by omega,Int.pow_succ,Int.add_zero,Int.mul_assoc]
 ·rw[QB h,Int.zero_mul,JT];by_cases e:x=a
  ·subst e;rw[if_pos (by simp),if_pos rfl,List.idxOf_append,if_neg h,List.length_append,List.length_singleton,List.idxOf_cons_self,show ts.length+1-1-(0+ts.length)=0 by omega,Int.pow_zero,Int.mul_one]
  ·rw[if_neg (by simp[h];exact λz=>e z.symm),if_neg e]
noncomputable def pwL(b:Int)(n:Nat):List Int:=(Uw (n+1)).map λj:Nat=>b ^ j
theorem MX{b:Int}{n j:Nat}(h:j<=n):(pwL b n)[j]?=some (b ^ j):=by unfold pwL;rw[Qe,QS (by omega)];rfl
theorem MW{b:Int}{n:Nat}:(pwL b n).length=n+1:=by unfold pwL;rw[Qb,Qu]
theorem Bf{b:Int}{n:Nat}:pwL b (n+1)=pwL b n++[b ^ n*b]:=by unfold pwL;rw[List.range_succ,QE,←Int.pow_succ];rfl
theorem PZ{b:Int}{n:Nat}{k:Int}(h0:0<=k)(h:k<=n):oIx (.list ((pwL b n).map int)) (.int k)=some (.int (b ^ k.toNat)):=by
 have e:k=((k.toNat:Nat):Int):=by omega
 rw[e];refine KU ?_;rw[Qe,MX (by omega)];rfl
theorem Be{ws:LO}{i:Nat}{t:Int}(h:i<ws.length):oEq (U5 ws[i]) (.int t)=some (decide (ws[i]=some t)):=Ru (b:=some t)
noncomputable def Ord.isL:Ord->Bool
 |.lasts=>true
 |_=>false
theorem Fi(o:Ord):oEq (.str o.tx) (.str "lasts")=some o.isL:=by cases o<;>decide +kernel
theorem jO(g:Good cs ls)(ga:YH cs.length ls.length old ts){i:Nat}{rs:List (List Int)}(hi:ls[i]?=some rs){t:Int}(ht:t∈rs.flatten):XX [U7 cs ls,KJ o old ts,.int i,.int t]=some (.int (Ze ls o old ts i rs t)):=by
 have l7:=g.l7;have l1:=g.l1;have hL:lng ls<=5:=P2 l1 λrs h=>(g.rk rs h).few;have hrs:rs∈ls:=Qo hi;have hrl:=NR hrs;have hrk:Zd t rs<=lng ls:=by have:=O7 t rs;omega
 have hrp:1<=Zd t rs:=by have:=HJ ht;omega
 have htl:=ga.few;have hlt:i<ls.length:=(Qg.mp hi).1;refine KS (Z:=[some (.pub (U7 cs ls)),some (.pub (KJ o old ts)),some (.pub (.int i)),some (.pub (.int t)),none,none,none,none,none,none,none,none,none,none,none]) rfl ?_;unfold Tl;refine Kf (Vr (UL rfl) (Kz rfl (U2 (UT (Qa rfl) rfl) (U2 (UT (Qa rfl) rfl) (U2 (UT (Qa rfl) rfl) KB))))) ?_;have hll:U8 [.list (ls.map KL)]=some (.int ls.length):=by rw[K2,Qb]
 refine Kf (Kx (U0 (K9 (UP (Kj rfl UR Xc) UU) hll) UR K0) (Qa rfl) rfl) ?_;refine Kf (Kx (Kg (UP (UL rfl) UU) rfl (kj g)) (Qa rfl) rfl) ?_;refine Kf (Kx (Kg (UP (UL rfl) (UP (UL rfl) (UP (UL rfl) UU))) rfl (js hi t)) (Qa rfl) rfl) ?_;refine Kf (Yd (Vy (UP UR UU) (Qa rfl)) (Qa rfl) rfl) ?_
 let S0:Option Sl:=some (.pub (U7 cs ls))
 let S1:Option Sl:=some (.pub (KJ o old ts))
 let S2:Option Sl:=some (.pub (.int i))
 let S3:Option Sl:=some (.pub (.int t))
 let S4:Option Sl:=some (.pub (.str o.tx))
 let S5:Option Sl:=some (.pub (YZ old))
 let S6:Option Sl:=some (.pub (.list (ts.map int)))
 let b:Int:=(ls.length:Int)+1
 let M:Nat:=lng ls
 let r:Nat:=Zd t rs
 let S7:Option Sl:=some (.pub (.int b))
 let S8:Option Sl:=some (.pub (.int (M:Int)))
 let S9:Option Sl:=some (.pub (.int (r:Int)))
 apply Kr;apply Zr (λj Z=>∃x11,Z=[S0,S1,S2,S3,S4,S5,S6,S7,S8,S9,some (.own ((pwL b j).map int)),x11,none,none,none])
 case h1=>exact Xz (UP (UL rfl) UU) (Xv (by omega) (by omega))
 case h0=>exact⟨_,rfl⟩
 case hst=>
  rintro j d Z hj ⟨x11,rfl⟩;refine⟨_,UT (Qa rfl) rfl,?_⟩;unfold MH;obtain⟨_,hjl⟩:=Wc hj
  have hlast:oIx (.list ((pwL b j).map int)) (.int (-1))=some (.int (b ^ j)):=Ow (by
   rw[JL,Qb,MW,Qe,J4,MX (Qr j)]
   rfl)
  refine Zx (Wa rfl (U0 (Wl rfl (SB UR) rfl hlast) (UL rfl) (XJ (by omega) (by omega))) rfl (by rw[Qb,MW];omega) rfl) (KZ ⟨some (.pub d),?_⟩);rw[Bf,QE];rfl
 case hend=>
  rintro Z ⟨x11,rfl⟩;have er:(ZP 0 (M:Int)).length=M:=by rw[YW];omega
  rw[er];refine Kp ?_
  let S10:Option Sl:=some (.own ((pwL b M).map int))
  have e1:((M:Int)-(r:Int)).toNat=M-r:=by omega
  have p1:oIx (.list ((pwL b M).map int)) (.int ((M:Int)-(r:Int)))=some (.int (b ^ (M-r))):=by rw[PZ (by omega) (by omega),e1]
  have p2:oIx (.list ((pwL b M).map int)) (.int (M:Int))=some (.int (b ^ M)):=by rw[PZ (by omega) (by omega)];rfl
  have p3:oIx (.list ((pwL b M).map int)) (.int ((r:Int)-1))=some (.int (b ^ (r-1))):=by rw[PZ (by omega) (by omega),show((r:Int)-1).toNat=r-1 by omega]
  refine Kf (Z1:=[S0,S1,S2,S3,S4,S5,S6,S7,S8,S9,S10,x11,some (.pub (.int (b ^ (M-r)))),none,none]) (Kx (Wl rfl (U0 (UL rfl) (UL rfl) Yt) rfl p1) (Qa rfl) rfl) ?_
  have eo:Zk o b M r=match o with | .firsts=>b ^ (M-r) | .full=>b ^ (M-r)+b ^ M | .lasts=>b ^ M-b ^ (r-1):=by
   cases o with
   |firsts=>show b ^ ((M:Int)-(r:Int)).toNat=_;rw[e1]
   |full=>show b ^ ((M:Int)).toNat+b ^ ((M:Int)-(r:Int)).toNat=_;rw[e1,Int.add_comm];rfl
   |lasts=>show b ^ ((M:Int)).toNat-b ^ ((r:Int)-1).toNat=_;rw[show((r:Int)-1).toNat=r-1 by omega];rfl
  have done:∀w:Int,w=Zk o b M r->Ho (UQ (U3 12 (UN Ki (UB 12) (UB 7)))
    (UQ (sIf (KW (UZ (λd=>!isNon d) (UB 5)) (UN oEq (UV 5 (UB 2)) (UB 3)))
    (U3 12 (UN U1 (UB 12) (UO (.int 1))))
    (sNx))
    (UQ (U3 13 (UO (.int 0)))
    (UQ (Kq (KQ (UB 6)) (gN 14) Pg)
    (UY (UN U1 (UB 12) (UB 13))))))) [S0,S1,S2,S3,S4,S5,S6,S7,S8,S9,S10,x11,some (.pub (.int w)),none,none] (λo'=>o'=.rt (.int (Ze ls o old ts i rs t))):=by
   rintro w rfl;refine Kf (Z1:=[S0,S1,S2,S3,S4,S5,S6,S7,S8,S9,S10,x11,some (.pub (.int (Zk o b M r*b))),none,none]) (Kx (U0 (UL rfl) (UL rfl) (XJ (by omega) (by omega))) (Qa rfl) rfl) ?_
   have rest:∀v:Int,v=Zk o b M r*b+YE old i t->Ho (UQ (U3 13 (UO (.int 0)))
    (UQ (Kq (KQ (UB 6)) (gN 14) Pg)
    (UY (UN U1 (UB 12) (UB 13))))) [S0,S1,S2,S3,S4,S5,S6,S7,S8,S9,S10,x11,some (.pub (.int v)),none,none] (λo'=>o'=.rt (.int (Ze ls o old ts i rs t))):=by
    intro v hv;refine Kf (Kx UR (Qa rfl) rfl) ?_;apply Kr;apply Zr (λj Z=>∃x14,Z=[S0,S1,S2,S3,S4,S5,S6,S7,S8,S9,S10,x11,some (.pub (.int (v*((M:Int)+1) ^ j))),some (.pub (.int (Y7 (ts.take j) ((M:Int)+1) i r))),x14])
    case h1=>exact Zl (UL rfl) ZK
    case h0=>exact⟨none,by rw[Int.pow_zero,Int.mul_one];rfl⟩
    case hst=>
     rintro j d Z hj ⟨x14,rfl⟩;rw[Qe]at hj;cases hz:ts[j]? with
     |none=>rw[hz]at hj;cases hj
     |some a=>
     rw[hz]at hj;cases hj;have hjl:j<ts.length:=(Qg.mp hz).1;have ha:ts[j]=a:=(Qg.mp hz).2;have hts:ts.take (j+1)=ts.take j++[a]:=by rw[List.take_succ_eq_append_getElem hjl,ha]
     have hnd:(ts.take j++[a]).Nodup:=by rw[←hts];exact List.Nodup.sublist (List.take_sublist _ _) ga.once
     refine⟨_,UT (Qa rfl) rfl,?_⟩;unfold Pg;refine Kf (Z1:=[S0,S1,S2,S3,S4,S5,S6,S7,S8,S9,S10,x11,some (.pub (.int (v*((M:Int)+1) ^ (j+1)))),some (.pub (.int (Y7 (ts.take j) ((M:Int)+1) i r))),some (.pub (.int a))]) (Kx (U0 (UL rfl) (U0 (UL rfl) UR K0) (XJ (by omega) (by omega))) (Qa rfl) (by rw[Int.mul_assoc,←Int.pow_succ];rfl)) ?_;refine Kf (Z1:=[S0,S1,S2,S3,S4,S5,S6,S7,S8,S9,S10,x11,some (.pub (.int (v*((M:Int)+1) ^ (j+1)))),some (.pub (.int (Y7 (ts.take j) ((M:Int)+1) i r*((M:Int)+1)))),some (.pub (.int a))]) (Kx (U0 (UL rfl) (U0 (UL rfl) UR K0) (XJ (by omega) (by omega))) (Qa rfl) rfl) ?_;refine Ko (ZB rfl (UL rfl) Xx) (λhh=>?_) (λhh=>?_)
     ·have e:a=(i:Int):=by simpa using hh
      refine Zx (Kx (U0 (U0 (U0 (UL rfl) (UL rfl) K0) UR K0) (UL rfl) Yt) (Qa rfl) rfl) (KZ ⟨some (.pub (.int a)),?_⟩);rw[hts,HG hnd,Qp e];have:Y7 (ts.take j) ((M:Int)+1) i r*((M:Int)+1)+(M:Int)+1-(r:Int)=Y7 (ts.take j) ((M:Int)+1) i r*((M:Int)+1)+((M:Int)+1-(r:Int)):=by omega
      rw[←this];rfl
     ·have e:¬a=(i:Int):=by simpa using hh
      refine Ky (KZ ⟨some (.pub (.int a)),?_⟩);rw[hts,HG hnd,QB e,Int.add_zero]
    case hend=>rintro Z ⟨x14,rfl⟩;refine Kp (Kv (U0 (UL rfl) (UL rfl) K0) ?_);rw[Qb,Jy,hv];rfl
   have hkk:KW (UZ (λd=>!isNon d) (UB 5)) (UN oEq (UV 5 (UB 2)) (UB 3)) [S0,S1,S2,S3,S4,S5,S6,S7,S8,S9,S10,x11,some (.pub (.int (Zk o b M r*b))),none,none]=.ok (decide (YE old i t=1)) [S0,S1,S2,S3,S4,S5,S6,S7,S8,S9,S10,x11,some (.pub (.int (Zk o b M r*b))),none,none]:=by
    cases old with
    |none=>exact RE (KF (k:=λd=>!isNon d) (x:=PyData.none) (UL rfl))
    |some ws=>
     have hw:ws.length=ls.length:=ga.len ws rfl;have hwi:ws[i]?=some ws[i]:=Qf (by omega);have hx:oIx (.list (ws.map U5)) (.int i)=some (U5 ws[i]):=P3 (by omega)
     have e:decide (YE (some ws) i t=1)=decide (ws[i]=some t):=by
      refine decide_eq_decide.mpr ?_
      show(if ws[i]?=some (some t)then(1:Int)else 0)=1 ↔ _
      rw[hwi];by_cases z:ws[i]=some t
      ·rw[if_pos (by rw[z])];simp[z]
      ·rw[if_neg (λy=>z (Option.some.inj y))];simp[z]
     rw[e];exact RD (KF (k:=λd=>!isNon d) (x:=YZ (some ws)) (UL rfl)) (U0 (Kj rfl (UL rfl) hx) (UL rfl) (Be (by omega)))
   apply Kr;refine Ko hkk (λhh=>?_) (λhh=>?_)
   ·have e:YE old i t=1:=by simpa using hh
    exact Zx (Kx (U0 (UL rfl) UR K0) (Qa rfl) rfl) (Kp (rest _ (by rw[e])))
   ·have e:YE old i t=0:=by
     have hn:¬YE old i t=1:=by simpa using hh
     unfold YE at hn⊢;split at hn
     ·rfl
     ·split at hn
      ·exact absurd rfl hn
      ·rename_i hz;rw[QB hz]
    exact Ky (Kp (rest _ (by rw[e,Int.add_zero])))
  have f2:=Fi o;apply Kr;refine Ko (ZB rfl UR (NP o)) (λhh=>?_) (λhh=>?_)
  ·cases o with
   |full=>refine Zx (Kx (U0 (UL rfl) (Wl rfl (UL rfl) rfl p2) K0) (Qa rfl) rfl) (Kp ?_);apply Kr;exact Ko (b:=false) (ZB rfl UR f2) (λz=>by cases z) λ_=>Ky (Kp (done _ eo.symm))
   |firsts=>cases hh
   |lasts=>cases hh
  ·refine Ky (Kp ?_);apply Kr;refine Ko (ZB rfl UR f2) (λh2=>?_) (λh2=>?_)
   ·cases o with
    |lasts=>exact Zx (Kx (U0 (Wl rfl (UL rfl) rfl p2) (Wl rfl (U0 (UL rfl) UR Yt) rfl p3) Yt) (Qa rfl) rfl) (Kp (done _ eo.symm))
    |firsts=>cases h2
    |full=>cases h2
   ·cases o with
    |firsts=>exact Ky (Kp (done _ eo.symm))
    |full=>cases hh
    |lasts=>cases h2
end
theorem HF{α β:Type}{f:α->β}(hf:∀a b,f a=f b->a=b){l:List α}(h:l.Nodup):(l.map f).Nodup:=by unfold List.Nodup at h⊢;rw[List.pairwise_map];exact h.imp λhne e=>hne (hf _ _ e)
noncomputable def pk(q:Int×Int):List Key:=[.inl q.1,.inl q.2]
theorem NO{a b:Int×Int}(h:pk a=pk b):a=b:=by unfold pk at h;injection h with h1 h2;injection h2 with h2 _;injection h1 with h1;injection h2 with h2;exact Prod.ext h1 h2
theorem LN{i1 i2:Nat}{g:M D}{V:Int×Int->D}(I:UH->Prop):∀(qs:LP)(acc:List (List Key×D))(Z:UH),I Z ->
  (∀q∈qs,∀Z,I Z->∃Z',g ((Z.set i1 (some (.pub (.int q.1)))).set i2 (some (.pub (.int q.2))))=.ok (V q) Z'/\YF Z'=true/\I Z')->acc.length+qs.length<=1000000->(acc.map (·.1)++qs.map pk).Nodup ->
  XG i1 i2 g (qs.map Kd) acc Z=some (acc++qs.map λq=>(pk q,V q))
 |[],acc,Z,_,_,_,_=>by rw[Ug,XG,Ug,Jc]
 |q::r,acc,Z,h0,st,hl,hn=>by
  obtain⟨Z',e1,e2,e3⟩:=st q Qm Z h0;rw[QJ]at hl
  have hk:Rb acc (pk q)=true:=by
   unfold Rb;rw[Q2];intro p hp;refine Q5 λz=>?_
   exact(List.nodup_append.mp hn).2.2 p.1 (Qs.mpr ⟨p,hp,rfl⟩) (pk q) (Qs.mpr ⟨q,Qm,rfl⟩) z
  have ih:=LN I r (acc++[(pk q,V q)]) Z' e3 (λq' hq=>st q' (Ql _ hq)) (by rw[Qj,Q6];omega) (by rw[QE,Q9];exact hn);rw[Qy];show XG i1 i2 g (.tuple [.int q.1,.int q.2]::r.map Kd) acc Z=_;rw[XG]
  show(match g ((Z.set i1 (some (.pub (.int q.1)))).set i2 (some (.pub (.int q.2))))with
   |.ok v Z'=>if acc.length<1000000/\Rb acc (pk q)=true/\YF Z'=true then XG i1 i2 g (r.map Kd) (acc++[(pk q,v)]) Z' else none
   |.bad=>none)=_
  rw[e1];dsimp only;rw[Qp ⟨by omega,hk,e2⟩,ih,Q9];rfl
noncomputable def wtD(V:Int->Int->Int)(qs:LP):D:=V2 (qs.map λq=>(pk q,.int (V q.1 q.2)))
theorem NN(V:Int->Int->Int)(qs:LP):wtD V qs=.dict ((.bool true,.none)::qs.map λq=>(Kd q,.int (V q.1 q.2))):=by
 unfold wtD V2 pdD
 congr 2
 rw[Q4,Q4,Q4,List.zip_map',List.map_congr_left];intro q _;rfl
theorem DF{V:Int->Int->Int}{qs:LP}:Rc (wtD V qs)=some (qs.map Kd):=by rw[NN];show some ((qs.map λq=>(Kd q,int (V q.1 q.2))).map (·.1))=_;rw[Q4];rfl
theorem NM{V:Int->Int->Int}{qs:LP}{q:Int×Int}(h:q∈qs):So (wtD V qs) (Kd q)=some (.int (V q.1 q.2)):=by
 rw[NN]
 show((qs.map λq=>(Kd q,int (V q.1 q.2))).find? λp=>decide (kOf p.1=some (pk q))).map (·.2)=_
 have key:∀(l:LP),q∈l->(l.map λq=>(Kd q,int (V q.1 q.2))).find? (λp=>decide (kOf p.1=some (pk q)))=some (Kd q,.int (V q.1 q.2)):=by
  intro l;induction l with
  |nil=>intro h;cases h
  |cons a r ih=>
   intro h;rw[Qy];by_cases e:a=q
   ·subst e;exact List.find?_cons_of_pos (Q5 rfl)
   ·rw[List.find?_cons_of_neg (by
     intro z;have z:kOf (Kd a)=some (pk q):=Qa z;have z:some (pk a)=some (pk q):=z;exact e (NO (QQ z)))]
    exact ih ((QP.mp h).resolve_left λz=>e z.symm)
 rw[key qs h];rfl
theorem DE{f:M D}{Z Z1:UH}{x:D}{r:List D}(h1:f Z=.ok x Z1)(h2:Rc x=some r):RQ f Z=.ok r Z1:=by unfold RQ;exact KR h1 (ZZ h2)
theorem Nh:∀(ls:L3)(k:Nat),(∀rs∈ls,rs.flatten.Nodup)->(UX k ls).Nodup
 |[],_,_=>List.nodup_nil
 |rs::ls,k,h=>by
  show((Zs rs.flatten).map (λt=>((k:Int),t))++UX (k+1) ls).Nodup
  rw[List.nodup_append];refine⟨?_,Nh ls (k+1) λr hr=>h r (Ql _ hr),λa ha b hb e=>?_⟩
  ·exact HF (λx y e=>(Prod.mk.inj e).2) ((Xb _).nodup_iff.mpr (h rs Qm))
  ·subst e;obtain⟨t,_,rfl⟩:=Qs.mp ha;have:=ON ls (k+1) _ hb;simp at this;omega
section
variable{cs:List Int}{ls:L3}{o:Ord}{old:Option LO}{ts:List Int}
theorem DD(g:Good cs ls):(UX 0 ls).length<=42:=by rw[(VZ ls 0).length_eq];exact RC g
theorem jX(g:Good cs ls)(ga:YH cs.length ls.length old ts):WN [U7 cs ls,KJ o old ts]=some (wtD (U4 ls o old ts) (UX 0 ls)):=by
 refine KS (Z:=[some (.pub (U7 cs ls)),some (.pub (KJ o old ts)),none,none,none]) rfl ?_;unfold Th
 constructor;have hf:KQ (UW 1 XU (UM (UB 0) (UI))) [some (.pub (U7 cs ls)),some (.pub (KJ o old ts)),none,none,none]=.ok ((UX 0 ls).map Kd) [some (.pub (U7 cs ls)),some (.pub (KJ o old ts)),none,none,none]:=Zl (Kg (UP (UL rfl) UU) rfl (jP g)) ZK
 have h42:=DD g
 have hp:=LN (i1:=3) (i2:=4) (g:=UW 4 XX (UM (UB 0) (UM (UB 1) (UM (UB 3) (UM (UB 4) (UI)))))) (V:=λq=>.int (U4 ls o old ts q.1 q.2))
  (λZ=>∃x y,Z=[some (.pub (U7 cs ls)),some (.pub (KJ o old ts)),none,x,y]) (UX 0 ls) [] [some (.pub (U7 cs ls)),some (.pub (KJ o old ts)),none,none,none] ⟨_,_,rfl⟩ (λq hq Z ⟨x,y,e⟩=>by
   subst e;obtain⟨i,rs,h1,h2,h3⟩:=Wd hq;rw[QY]at h2;refine⟨[some (.pub (U7 cs ls)),some (.pub (KJ o old ts)),none,some (.pub (.int q.1)),some (.pub (.int q.2))],?_,rfl,_,_,rfl⟩;have hw:=jO (o:=o) g ga h1 h3
   have e:U4 ls o old ts q.1 q.2=Ze ls o old ts i rs q.2:=by
    unfold U4;rw[h2,Qt]
    congr 1
    simp[List.getD,h1]
   rw[e];refine Kg (UP (UL rfl) (UP (UL rfl) (UP (UL rfl) (UP (UL rfl) UU)))) rfl ?_;rw[h2];exact hw) (by rw[QC];omega) (by
   show((UX 0 ls).map pk).Nodup
   exact HF (λa b e=>NO e) (Nh ls 0 λrs hrs=>(g.rk rs hrs).once))
 unfold Wv;rw[Qp ⟨rfl,rfl,Qa rfl,Qa rfl⟩,hf];dsimp only;rw[Qp (show YF _=true from rfl),hp];rfl
end
noncomputable def KN(tm:Int)(as ps:List Int):D:=.tuple [.int tm,.list (as.map int),.list (ps.map int)]
noncomputable def Vl(ps cs:List Int):List Int:=(ps.zip cs).map λp=>p.1*p.2
theorem HE:∀(ps cs:List Int),Vl ps cs=Vl cs ps
 |[],cs=>by cases cs<;>rfl
 |_::_,[]=>rfl
 |p::ps,c::cs=>by have ih:=HE ps cs;unfold Vl at ih⊢;rw[J5,J5,Qy,Qy,ih,Int.mul_comm]
noncomputable def Vq(cs as ps:List Int):Int:=as.sum+(Vl ps cs).sum
section
variable{cs:List Int}{ls:L3}{tm:Int}{as ps:List Int}
theorem GB:oIx (KN tm as ps) (.int 1)=some (.list (as.map int)):=KU (j:=1) rfl
theorem GA:oIx (KN tm as ps) (.int 2)=some (.list (ps.map int)):=KU (j:=2) rfl
end
theorem Mo{cs:List Int}{ls:L3}(g:Good cs ls):∀q∈UX 0 ls,(0<=q.1/\q.1<ls.length)/\0<=q.2/\q.2<cs.length:=λq hq=>by obtain⟨i,rs,h1,h2,h3⟩:=Wd hq;have:=(g.rk rs (Qo h1)).flat q.2 h3;have:=(Qg.mp h1).1;omega
theorem Mn{ns:List Int}{k:Int}(h0:0<=k)(h1:k<ns.length):oIx (.list (ns.map int)) (.int k)=some (.int (ns.getD k.toNat 0)):=by
 obtain⟨j,rfl⟩:∃j:Nat,k=j:=⟨k.toNat,by omega⟩
 rw[Qt];exact Pe (by omega)
section
variable{cs:List Int}{ls:L3}{o:Ord}{old:Option LO}{ts:List Int}
theorem Pk(g:Good cs ls)(ga:YH cs.length ls.length old ts){q:Int×Int}(hq:q∈UX 0 ls):0<=U4 ls o old ts q.1 q.2/\U4 ls o old ts q.1 q.2<18446744073709551616:=by
 obtain⟨i,rs,h1,h2,h3⟩:=Wd hq;have l7:=g.l7;have l1:=g.l1;have hL:lng ls<=5:=P2 l1 λrs h=>(g.rk rs h).few;have hrl:=NR (Qo h1);have hr1:1<=Zd q.2 rs:=by have:=HJ h3;omega
 have hr2:Zd q.2 rs<=lng ls:=by have:=O7 q.2 rs;omega
 have htl:=ga.few
 have e:U4 ls o old ts q.1 q.2=Ze ls o old ts i rs q.2:=by
  unfold U4;rw[h2,QY,Qt]
  congr 1
  simp[List.getD,h1]
 rw[e];unfold Ze;have pw:∀{b:Int}{n k:Nat},1<=b->b<=8->n<=k->1<=b ^ n/\b ^ n<=8 ^ k:=λ{b n k} h0 h8 hk=>⟨Int.pow_pos h0,He (by omega) h8 hk⟩
 have hb1:(1:Int)<=(ls.length:Int)+1:=by omega
 have hb8:(ls.length:Int)+1<=8:=by omega
 have hM1:(1:Int)<=(lng ls:Int)+1:=by omega
 have hM8:(lng ls:Int)+1<=8:=by omega
 have a1:=pw hb1 hb8 (n:=lng ls) (k:=5) hL;have a2:=pw hb1 hb8 (n:=((lng ls:Int)-(Zd q.2 rs:Nat)).toNat) (k:=5) (by omega);have a3:=pw hb1 hb8 (n:=((Zd q.2 rs:Nat)-1:Int).toNat) (k:=5) (by omega)
 have a4:((ls.length:Int)+1) ^ ((Zd q.2 rs:Nat)-1:Int).toNat<=((ls.length:Int)+1) ^ lng ls:=by
  have:((Zd q.2 rs:Nat)-1:Int).toNat<=lng ls:=by omega
  obtain⟨k,hk⟩:=Nat.exists_eq_add_of_le this;rw[hk,Int.pow_add];have:=(pw hb1 hb8 (n:=k) (k:=5) (by omega)).1;have hm:=Int.mul_le_mul_of_nonneg_left this (show 0<=((ls.length:Int)+1) ^ ((Zd q.2 rs:Nat)-1:Int).toNat by omega);rw[Int.mul_one]at hm;exact hm
 have b1:0<=Zk o (ls.length+1) (lng ls) (Zd q.2 rs)/\Zk o (ls.length+1) (lng ls) (Zd q.2 rs)<=65536:=by
  cases o with
  |firsts=>show 0<=_ ^ _/\_ ^ _<=65536;omega
  |full=>show 0<=_ ^ ((lng ls:Int)).toNat+_ ^ _/\_ ^ ((lng ls:Int)).toNat+_ ^ _<=65536;rw[Qt];omega
  |lasts=>show 0<=_ ^ ((lng ls:Int)).toNat-_ ^ _/\_ ^ ((lng ls:Int)).toNat-_ ^ _<=65536;rw[Qt];omega
 have b2:0<=YE old i q.2/\YE old i q.2<=1:=by
  unfold YE;split
  ·omega
  ·split<;>omega
 have b3:=pw hM1 hM8 (n:=ts.length) (k:=7) (by omega)
 have b4:0<=Y7 ts ((lng ls:Int)+1) i (Zd q.2 rs)/\Y7 ts ((lng ls:Int)+1) i (Zd q.2 rs)<=8*8 ^ 7:=by
  unfold Y7;split
  ·have b5:=pw hM1 hM8 (n:=ts.length-1-ts.idxOf (i:Int)) (k:=7) (by omega);refine⟨Int.mul_nonneg (by omega) (by omega),?_⟩;exact Int.mul_le_mul (by omega) b5.2 (by omega) (by decide)
  ·exact⟨by omega,by decide⟩
 have c1:0<=Zk o (ls.length+1) (lng ls) (Zd q.2 rs)*(ls.length+1)+YE old i q.2/\Zk o (ls.length+1) (lng ls) (Zd q.2 rs)*(ls.length+1)+YE old i q.2<=600000:=by have d1:0<=Zk o (ls.length+1) (lng ls) (Zd q.2 rs)*((ls.length:Int)+1):=Int.mul_nonneg b1.1 (by omega);have d2:Zk o (ls.length+1) (lng ls) (Zd q.2 rs)*((ls.length:Int)+1)<=65536*8:=Int.mul_le_mul b1.2 hb8 (by omega) (by decide);omega
 have d3:0<=(Zk o (ls.length+1) (lng ls) (Zd q.2 rs)*(ls.length+1)+YE old i q.2)*((lng ls:Int)+1) ^ ts.length:=Int.mul_nonneg c1.1 (by omega);have d4:(Zk o (ls.length+1) (lng ls) (Zd q.2 rs)*(ls.length+1)+YE old i q.2)*((lng ls:Int)+1) ^ ts.length<=600000*8 ^ 7:=Int.mul_le_mul c1.2 b3.2 (by omega) (by decide);omega
end
structure OkP(n m:Nat)(V:Int->Int->Int)(qs:LP)(tm:Int)(as ps:List Int):Prop where
 t0:0<=tm
 la:as.length=m
 lp:ps.length=n
 aa:∀a∈as,0<=a
 pp:∀p∈ps,0<=p
 le:∀q∈qs,tm*V q.1 q.2<=as.getD q.1.toNat 0+ps.getD q.2.toNat 0
theorem jN{cs:List Int}{ls:L3}{tm:Int}{as ps:List Int}(g:Good cs ls):WL [U7 cs ls,KN tm as ps]=some (.int (Vq cs as ps)):=by
 refine KS (Z:=[some (.pub (U7 cs ls)),some (.pub (KN tm as ps))]) rfl ?_;unfold Te;have c6:=g.c6
 have hc:KY (gT 2 (gNC (gN 2) (gNC (gN 3) (gN0)))) (UO true) (UN Ki (UB 2) (UB 3)) (Yq (cs.map int) (ps.map int)) (Kl [some (.pub (U7 cs ls)),some (.pub (KN tm as ps))]++Ux 2 none) []=some ((Vl cs ps).map int):=by
  rw[A6,V1 (λ_=>true) (λd=>match d with | .tuple [.int a,.int b]=>.int (a*b)|_=>.none) (λZ=>∃x y,Z=[some (.pub (U7 cs ls)),some (.pub (KN tm as ps)),x,y])]
  ·rw[Uc.mpr (λ_ _=>rfl),Ji,Q4];unfold Vl;rw[Q4];rfl
  ·rintro d hm Z ⟨x,y,rfl⟩;obtain⟨p,hp,rfl⟩:=Qs.mp hm;have:=g.c7 p.1 (List.of_mem_zip hp).1;exact⟨_,Kz rfl (U2 (UT (Qa rfl) rfl) (U2 (UT (Qa rfl) rfl) KB)),rfl,λ_=>U0 (UL rfl) (UL rfl) (SX (by omega) (by omega)),_,_,rfl⟩
  ·exact⟨none,none,rfl⟩
  ·rw[Qb,QC,JN];omega
 refine Kv (U0 (K9 (UP (Kj rfl UR GB) UU) OS) (K9 (UP (KF (ZT (Eu (UP (Kj rfl UR XF) (UP (Kj rfl UR GA) UU)) rfl) hc)) UU) OS) K0) ?_;unfold Vq;rw[HE]
noncomputable def pairsOf:Nat->LO->LP
 |_,[]=>[]
 |k,some t::r=>((k:Int),t)::pairsOf (k+1) r
 |k,none::r=>pairsOf (k+1) r
noncomputable def Xg:Nat->LO->List (Option D)
 |_,[]=>[]
 |k,o::r=>(o.map λt=>Kd ((k:Int),t))::Xg (k+1) r
theorem PD:∀(k:Nat)(ws:LO),(Xg k ws).filterMap id=(pairsOf k ws).map Kd
 |_,[]=>rfl
 |k,some t::r=>by
  have ih:=PD (k+1) r
  show(some (Kd ((k:Int),t))::Xg (k+1) r).filterMap id=_
  rw[Jn];show _::_=_;rw[ih];rfl
 |k,none::r=>by
  have ih:=PD (k+1) r
  show((none:Option D)::Xg (k+1) r).filterMap id=_
  rw[Jn];exact ih
theorem Ng:∀(k:Nat)(ws:LO),(Xg k ws).length=ws.length
 |_,[]=>rfl
 |k,_::r=>by rw[Xg,QJ,QJ,Ng]
theorem HD:∀(k i:Nat)(ws:LO),(Xg k ws)[i]?=ws[i]?.map λo=>o.map λt=>Kd (((k+i:Nat):Int),t)
 |_,_,[]=>by simp[Xg]
 |k,0,o::r=>by simp[Xg]
 |k,i+1,o::r=>by rw[Xg,Jk,Jk,HD (k+1) i r,show k+1+i=k+(i+1)by omega]
theorem Nt:∀{k:Nat}{ws:LO}{q:Int×Int},q∈pairsOf k ws->∃i:Nat,ws[i]?=some (some q.2)/\q.1=((k+i:Nat):Int)
 |k,some t::r,q,h=>by
  rcases QP.mp h with rfl|h
  ·exact⟨0,rfl,rfl⟩
  ·obtain⟨i,h1,h2⟩:=Nt (k:=k+1) h;exact⟨i+1,by simpa using h1,by rw[h2];congr 1;omega⟩
 |k,none::r,q,h=>by obtain⟨i,h1,h2⟩:=Nt (k:=k+1) h;exact⟨i+1,by simpa using h1,by rw[h2];congr 1;omega⟩
theorem HA{W:Nat->List (List Int)->Int->Int}{V:Int->Int->Int}:∀(ls:L3)(ws:LO)(k:Nat),ws.length=ls.length->(∀(i:Nat) rs t,ls[i]?=some rs->V (((k+i:Nat):Int)) t=W (k+i) rs t)->((pairsOf k ws).map λq=>V q.1 q.2).sum=Ye (YL W k ls ws)
 |[],[],_,_,_=>rfl
 |rs::ls,o::ws,k,hl,h=>by
  have ih:=HA (W:=W) (V:=V) ls ws (k+1) (by simpa using hl) (λi rs' t e=>by have:=h (i+1) rs' t (by simpa using e);rw[show k+(i+1)=k+1+i by omega]at this;exact this);rw[YL,Hd,←ih];cases o with
  |none=>show((pairsOf (k+1) ws).map λq=>V q.1 q.2).sum=0+_;omega
  |some t=>
   show(V (k:Int) t::(pairsOf (k+1) ws).map λq=>V q.1 q.2).sum=W k rs t+_
   rw[J7];have:=h 0 rs t rfl;rw[Uj]at this;rw[this]
noncomputable def pz(ps:List Int)(ws:LO):Int:=(ws.map λo=>match o with|some t=>ps.getD t.toNat 0|none=>0).sum
noncomputable def K4(n:Nat)(f:Nat->Int):Int:=((Uw n).map f).sum
theorem VY{n:Nat}{f:Nat->Int}:K4 (n+1) f=K4 n f+f n:=by unfold K4;rw[List.range_succ,QE,List.sum_append];simp
theorem LM{f h:Nat->Int}:∀(n:Nat),K4 n (λk=>f k+h k)=K4 n f+K4 n h
 |0=>rfl
 |n+1=>by rw[VY,VY,VY,LM n];omega
theorem Pc{f h:Nat->Int}:∀(n:Nat),(∀k,k<n->f k<=h k)->K4 n f<=K4 n h
 |0,_=>QW _
 |n+1,e=>by
  have h1:=Pc n λk hk=>e k (by omega)
  have h2:=e n (by omega);rw[VY,VY];omega
theorem O6:∀(n:Nat)(f:Nat->Int),(∀k,k<n->f k=0)->K4 n f=0
 |0,_,_=>rfl
 |n+1,f,e=>by rw[VY,O6 n f λk hk=>e k (by omega),e n (by omega)];rfl
theorem LK{p:Nat->Int}{j:Nat}:∀(n:Nat),j<n->K4 n (λk=>if k=j then p k else 0)=p j
 |n+1,h=>by
  rw[VY];by_cases e:n=j
  ·subst e;rw[Qp rfl,O6 n _ λk hk=>QB (by omega)];omega
  ·rw[QB e,LK n (by omega)];omega
theorem Nf{f h:Nat->Int}{n:Nat}(e:∀k,k<n->f k=h k):K4 n f=K4 n h:=JO (Pc n λk hk=>by rw[e k hk];exact QW _) (Pc n λk hk=>by rw[e k hk];exact QW _)
theorem O5{ps:List Int}{n:Nat}:∀(ws:LO),(∀t,some t∈ws->0<=t/\t<n)->pz ps ws=K4 n λk=>((ws.count (some (k:Int)):Nat):Int)*ps.getD k 0
 |[],_=>by rw[O6 n _ λk _=>by simp];rfl
 |o::ws,h=>by
  have ih:=O5 (ps:=ps) ws λt ht=>h t (Ql _ ht)
  cases o with
  |none=>
   show((0:Int)::(ws.map λo=>match o with|some t=>ps.getD t.toNat 0|none=>0)).sum=_
   rw[J7];unfold pz at ih;rw[ih,JT];exact Nf λk _=>by rw[List.count_cons];simp
  |some t=>
   have ht:=h t Qm
   show(ps.getD t.toNat 0::(ws.map λo=>match o with|some t=>ps.getD t.toNat 0|none=>0)).sum=_
   rw[J7];unfold pz at ih;rw[ih,←LK (p:=λk=>ps.getD k 0) (j:=t.toNat) n (by omega),←LM];refine Nf λk _=>?_;rw[JP]
   by_cases e:k=t.toNat
   ·subst e;have:(some t==some ((t.toNat:Nat):Int))=true:=by simp;omega
    rw[Qp rfl,Qp this,Int.natCast_add,Int.add_mul];omega
   ·have:¬(some t==some ((k:Nat):Int))=true:=by simp;omega
    rw[QB e,QB this,JT,Uj]
theorem HC:∀(ps cs:List Int),ps.length=cs.length->(Vl ps cs).sum=K4 cs.length λk=>cs.getD k 0*ps.getD k 0
 |ps,cs,h=>by
  unfold K4 Vl
  congr 1
  apply List.ext_getElem?;intro i;rw[Qe,Qe];by_cases hi:i<cs.length
  ·rw[QS hi];have h1:ps[i]?=some ps[i]:=Qf (by omega);have h2:cs[i]?=some cs[i]:=Qf hi;have hz:(ps.zip cs)[i]?=some (ps[i],cs[i]):=List.getElem?_zip_eq_some.mpr ⟨h1,h2⟩;rw[hz];simp only[Option.map_some,Qn,h1,h2,JW,Int.mul_comm]
  ·rw[Ja (l:=ps.zip cs) (by rw[JN];omega),Ja (l:=Uw cs.length) (by rw[Qu];omega)];rfl
section
variable{cs:List Int}{ls:L3}{o:Ord}{old:Option LO}{ts:List Int}{ws:LO}
theorem RK(g:Good cs ls)(dl:Deal cs ls ws):Yz [wtD (U4 ls o old ts) (UX 0 ls),Ke ws]=some (.int (Ye (YL (Ze ls o old ts) 0 ls ws))):=by
 refine KS (Z:=[some (.pub (wtD (U4 ls o old ts) (UX 0 ls))),some (.pub (Ke ws)),none]) rfl ?_;unfold Tg;have hwl:ws.length<=7:=by have:=dl.len;have:=g.l7;omega
 let S0:Option Sl:=some (.pub (wtD (U4 ls o old ts) (UX 0 ls)))
 let S1:Option Sl:=some (.pub (Ke ws))
 have hc:KY (gT 2 (gNC (gN 3) (gNC (gN 4) (gN0)))) (UZ (λd=>!isNon d) (UB 4)) (Kw (UM (UB 3) (UM (UB 4) (UI)))) (Z7 0 (ws.map U5)) (Kl [S0,S1,none]++Ux 2 none) []=some ((pairsOf 0 ws).map Kd):=by
  rw[←PD];refine(Pp (λZ=>∃x y,Z=[S0,S1,none,x,y]) _ (Xg 0 ws) _ _ (by rw[Ng,YC,Qb]) ?_ ⟨none,none,rfl⟩ (by rw[YC,Qb,QC];omega)).trans (by rw[Ji]);rintro i d e hd he Z ⟨x,y,rfl⟩;obtain⟨z,hz,rfl⟩:=Y8 hd;rw[Qe]at hz;rw[HD]at he;cases hwi:ws[i]? with
  |none=>rw[hwi]at hz;cases hz
  |some w=>
  rw[hwi]at hz he;cases hz;cases he;refine⟨_,Kz rfl (U2 (UT (Qa rfl) rfl) (U2 (UT (Qa rfl) rfl) KB)),?_,?_,_,_,rfl⟩
  ·cases w with
   |none=>exact KF (k:=λd=>!isNon d) (x:=PyData.none) (UL rfl)
   |some t=>exact KF (k:=λd=>!isNon d) (x:=int t) (UL rfl)
  ·intro v hv;cases w with
   |none=>cases hv
   |some t=>cases hv;exact Yp (UP (UL rfl) (UP (UL rfl) UU)) (Qa rfl)
 refine Kf (Z1:=[S0,S1,some (.own ((pairsOf 0 ws).map Kd))]) (Yd (ZT (Xy (UP (UL rfl) UU) rfl) hc) (Qa rfl) rfl) ?_;have hpl:(pairsOf 0 ws).length<=7:=by have:((Xg 0 ws).filterMap id).length<=(Xg 0 ws).length:=Jf _ _;rw[PD,Ng,Qb]at this;omega
 have hc2:KY (gN 3) (UO true) (UN So (UB 0) (UB 3)) ((pairsOf 0 ws).map Kd) (Kl [S0,S1,some (.pub (.list ((pairsOf 0 ws).map Kd)))]++Ux 1 none) []=some (((pairsOf 0 ws).map λq=>U4 ls o old ts q.1 q.2).map int):=by
  refine(YS (λZ=>∃x,Z=[S0,S1,some (.pub (.list ((pairsOf 0 ws).map Kd))),x]) _ (((pairsOf 0 ws).map λq=>U4 ls o old ts q.1 q.2).map int) _ _ (by rw[Qb,Qb,Qb]) ?_ ⟨none,rfl⟩ (by rw[Qb,QC];omega)).trans (by rw[Ji]);rintro i d e hd he Z ⟨x,rfl⟩;rw[Qe]at hd he;rw[Qe]at he;cases hz:(pairsOf 0 ws)[i]? with
  |none=>rw[hz]at hd;cases hd
  |some q=>
  rw[hz]at hd he;cases hd;cases he;have hq:=Qo hz;obtain⟨j,h1,h2⟩:=Nt hq;have hjl:j<ls.length:=by have:=(Qg.mp h1).1;have:=dl.len;omega
  have hj:ls[j]?=some ls[j]:=Qf hjl;have hm:q∈UX 0 ls:=by have:=OM (k:=0) hj (dl.wish j q.2 _ h1 hj);rw[←h2]at this;exact this
  exact⟨_,UT (Qa rfl) rfl,rfl,U0 (UL rfl) (UL rfl) (NM hm),_,rfl⟩
 refine Kv (K9 (UP (KF (ZT (Zl (Yu rfl rfl) ZK) hc2)) UU) OS) ?_
 rw[HA (W:=Ze ls o old ts) ls ws 0 dl.len λi rs t e=>by
  unfold U4;rw[Qt,QY]
  congr 1
  simp[List.getD,e]]
end
theorem DC{xs:List D}{k:Nat}(h:k<=xs.length):DL.cutD xs none (some (k:Int))=xs.take k:=by unfold DL.cutD;rw[HT.DZ,HT.BX,Uh,Nat.sub_zero,JQ h]
structure Stp where
 a:Nat
 b:Nat
 g:Int
 w:Option Nat
abbrev Tab:=List (Int×List Stp)
noncomputable def ent(T:Tab)(p:Nat):Int×List Stp:=T.getD p (0,[])
noncomputable def Yr(W T:Tab)(s:Stp):Tab:=if(ent T s.b).1<(ent W s.a).1+s.g then T.set s.b ((ent W s.a).1+s.g,(ent W s.a).2++[s])else T
noncomputable def Pb(W:Tab)(S:List Stp):Tab:=S.foldl (Yr W) W
noncomputable def KO(n:Nat)(S:List Stp):Nat->Tab
 |0=>Ux n (0,[])
 |t+1=>Pb (KO n S t) S
theorem jU{T:Tab}{p:Nat}{x:Int×List Stp}(h:p<T.length):ent (T.set p x) p=x:=by unfold ent;rw[Qn,QD h];rfl
theorem Nd{T:Tab}{p q:Nat}{x:Int×List Stp}(h:p≠q):ent (T.set p x) q=ent T q:=by unfold ent;rw[Qn,Qq h,←Qn]
theorem BE(W T:Tab)(s:Stp):(Yr W T s).length=T.length:=by
 unfold Yr;split
 ·rw[QX]
 ·rfl
structure SA(W T:Tab)(S:List Stp):Prop where
 len:T.length=W.length
 up:∀p,(ent W p).1<=(ent T p).1
 how:∀p,ent T p=ent W p ∨ ∃s∈S,s.b=p/\ent T p=((ent W s.a).1+s.g,(ent W s.a).2++[s])/\(ent W p).1<(ent T p).1
theorem jT{W T:Tab}{S:List Stp}{s:Stp}(hs:s∈S)(hb:s.b<W.length)(k:SA W T S):SA W (Yr W T s) S/\(∀p,(ent T p).1<=(ent (Yr W T s) p).1)/\(ent W s.a).1+s.g<=(ent (Yr W T s) s.b).1:=by
 have hbT:s.b<T.length:=by rw[k.len];exact hb
 unfold Yr;split
 ·rename_i h;have self:=jU (x:=((ent W s.a).1+s.g,(ent W s.a).2++[s])) hbT;refine⟨⟨by rw[QX];exact k.len,λp=>?_,λp=>?_⟩,λp=>?_,by rw[self];exact QW _⟩
  ·by_cases z:s.b=p
   ·subst z;rw[self];have:=k.up s.b;show _<=(ent W s.a).1+s.g;omega
   ·rw[Nd z];exact k.up p
  ·by_cases z:s.b=p
   ·subst z;right;exact⟨s,hs,rfl,self,by rw[self];have:=k.up s.b;show _<(ent W s.a).1+s.g;omega⟩
   ·rw[Nd z];exact k.how p
  ·by_cases z:s.b=p
   ·subst z;rw[self];show _<=(ent W s.a).1+s.g;omega
   ·rw[Nd z];exact QW _
 ·rename_i h;exact⟨k,λp=>QW _,by omega⟩
theorem Ge{W:Tab}{S:List Stp}(hS:∀s∈S,s.b<W.length):∀(R:List Stp)(T:Tab),(∀s∈R,s∈S)->SA W T S->SA W (R.foldl (Yr W) T) S/\(∀p,(ent T p).1<=(ent (R.foldl (Yr W) T) p).1)/\∀s∈R,(ent W s.a).1+s.g<=(ent (R.foldl (Yr W) T) s.b).1
 |[],T,_,k=>⟨k,λ_=>QW _,λs h=>by cases h⟩
 |s::R,T,hR,k=>by
  obtain⟨k1,u1,c1⟩:=jT (hR s Qm) (hS s (hR s Qm)) k;obtain⟨k2,u2,c2⟩:=Ge hS R (Yr W T s) (λx hx=>hR x (Ql _ hx)) k1;refine⟨k2,λp=>JS (u1 p) (u2 p),λx hx=>?_⟩;rcases QP.mp hx with rfl|hx
  ·exact JS c1 (u2 x.b)
  ·exact c2 x hx
theorem Gn{W:Tab}{S:List Stp}(hS:∀s∈S,s.b<W.length):SA W (Pb W S) S/\∀s∈S,(ent W s.a).1+s.g<=(ent (Pb W S) s.b).1:=by obtain⟨k,_,c⟩:=Ge hS S W (λ_ h=>h) ⟨rfl,λ_=>QW _,λ_=>.inl rfl⟩;exact⟨k,c⟩
section
variable{n:Nat}{S:List Stp}(hS:∀s∈S,s.a<n/\s.b<n)
include hS
theorem SZ:∀t,(KO n S t).length=n
 |0=>by unfold KO;rw[QA]
 |t+1=>by unfold KO;rw[(Gn (λs h=>by rw[SZ t];exact(hS s h).2)).1.len,SZ t]
theorem VX(t:Nat):SA (KO n S t) (KO n S (t+1)) S/\∀s∈S,(ent (KO n S t) s.a).1+s.g<=(ent (KO n S (t+1)) s.b).1:=
 Gn (λs h=>by rw[SZ hS t];exact(hS s h).2)
theorem SU(p:Nat):ent (KO n S 0) p=(0,[]):=by
 unfold ent KO;rw[Qn,Qv]
 split<;>rfl
theorem RJ:∀t,(∀p,(ent (KO n S t) p).2.length<=t)/\(∀p,0<t->ent (KO n S t) p≠ent (KO n S (t-1)) p->(ent (KO n S t) p).2.length=t)
 |0=>⟨λp=>by rw[SU hS];exact Qr _,λp h=>absurd h (Jo _)⟩
 |t+1=>by
  obtain⟨h1,h2⟩:=RJ t;obtain⟨k,c⟩:=VX hS t
  have key:∀p,ent (KO n S (t+1)) p≠ent (KO n S t) p->(ent (KO n S (t+1)) p).2.length=t+1:=λp hne=>by
   rcases k.how p with e|⟨s,hs,hb,e,lt⟩
   ·exact absurd e hne
   ·rw[e,Qj,Q6]
    congr 1
    cases t with
    |zero=>rw[SU hS];rfl
    |succ t=>
     refine h2 s.a (Ui t) λz=>?_
     obtain⟨k0,c0⟩:=VX hS t;have:=c0 s hs;rw[J4]at z;rw[e,z,←hb]at lt;exact absurd lt (by show ¬_<(ent (KO n S t) s.a).1+s.g;omega)
  refine⟨λp=>?_,λp _ hne=>key p (by rw[J4]at hne;exact hne)⟩;by_cases z:ent (KO n S (t+1)) p=ent (KO n S t) p
  ·rw[z];exact Nat.le_succ_of_le (h1 p)
  ·rw[key p z];exact Qr _
end
inductive Walk(S:List Stp):Nat->List Stp->Prop where
 |nil (p:Nat):Walk S p []
 |snoc {w:List Stp} {s:Stp} (hs:s∈S) (h:Walk S s.a w):Walk S s.b (w++[s])
noncomputable def Kk(w:List Stp):Int:=(w.map Stp.g).sum
theorem LJ:Kk []=0:=rfl
theorem Wp(u v:List Stp):Kk (u++v)=Kk u+Kk v:=by unfold Kk;rw[QE,List.sum_append]
theorem SS(s:Stp):Kk [s]=s.g:=by unfold Kk;simp
section
variable{n:Nat}{S:List Stp}(hS:∀s∈S,s.a<n/\s.b<n)
include hS
theorem SO:∀t p,Walk S p (ent (KO n S t) p).2/\Kk (ent (KO n S t) p).2=(ent (KO n S t) p).1
 |0,p=>by rw[SU hS];exact⟨.nil p,rfl⟩
 |t+1,p=>by
  rcases(VX hS t).1.how p with e|⟨s,hs,hb,e,_⟩
  ·rw[e];exact SO t p
  ·obtain⟨h1,h2⟩:=SO t s.a;rw[e,←hb];exact⟨.snoc hs h1,by rw[Wp,SS,h2]⟩
theorem O4{t u:Nat}(h:t<=u)(p:Nat):(ent (KO n S t) p).1<=(ent (KO n S u) p).1:=by
 induction h with
 |refl=>exact QW _
 |step _ ih=>exact JS ih ((VX hS _).1.up p)
theorem BD{p:Nat}{w:List Stp}(h:Walk S p w):∀(t:Nat),w.length<=t->Kk w<=(ent (KO n S t) p).1:=by
 induction h with
 |nil p=>intro t _;have:=O4 hS (JI t) p;rw[SU hS]at this;exact this
 |@snoc w s hs h ih=>
  intro t hl;rw[Qj,Q6]at hl;obtain⟨u,rfl⟩:∃u,t=u+1:=⟨t-1,by omega⟩
  have:=ih u (by omega);have:=(VX hS u).2 s hs;rw[Wp,SS];omega
theorem qL{t:Nat}(h0:0<t)(h:∀p,p<n->(ent (KO n S t) p).2.length≠t):∀s∈S,(ent (KO n S t) s.a).1+s.g<=(ent (KO n S t) s.b).1:=λs hs=>by
 obtain⟨u,rfl⟩:∃u,t=u+1:=⟨t-1,by omega⟩
 have e:ent (KO n S (u+1)) s.a=ent (KO n S u) s.a:=Classical.byContradiction λz=>h s.a (hS s hs).1 ((RJ hS (u+1)).2 s.a h0 z);rw[e]
 exact(VX hS u).2 s hs
end
inductive Path(S:List Stp):Nat->List Stp->Nat->Prop where
 |nil (p:Nat):Path S p [] p
 |cons {s:Stp} {w:List Stp} {p:Nat} (hs:s∈S) (h:Path S s.b w p):Path S s.a (s::w) p
section
variable{S:List Stp}
theorem Path.append{q m p:Nat}{u v:List Stp}(h1:Path S q u m)(h2:Path S m v p):Path S q (u++v) p:=by
 induction h1 with
 |nil p=>exact h2
 |cons hs h ih=>exact .cons hs (ih h2)
theorem Path.split{p:Nat}{v:List Stp}:∀{u:List Stp}{q:Nat},Path S q (u++v) p->∃m,Path S q u m/\Path S m v p
 |[],q,h=>⟨q,.nil q,h⟩
 |s::u,q,h=>by
  cases h with
  |cons hs h=>obtain⟨m,h1,h2⟩:=Path.split (u:=u) h;exact⟨m,.cons hs h1,h2⟩
theorem Path.mem{q p:Nat}{w:List Stp}(h:Path S q w p):∀s∈w,s∈S:=by
 induction h with
 |nil p=>intro s h;cases h
 |cons hs h ih=>
  intro s hm;rcases QP.mp hm with rfl|hm
  ·exact hs
  ·exact ih s hm
theorem Walk.path{p:Nat}{w:List Stp}(h:Walk S p w):∃q,Path S q w p:=by
 induction h with
 |nil p=>exact⟨p,.nil p⟩
 |snoc hs h ih=>obtain⟨q,hq⟩:=ih;exact⟨q,hq.append (.cons hs (.nil _))⟩
theorem Path.walk{p:Nat}:∀{w:List Stp}{q:Nat},Path S q w p->∀{u:List Stp},Walk S q u->Walk S p (u++w)
 |[],q,h,u,hu=>by cases h;rw[Jc];exact hu
 |s::w,q,h,u,hu=>by
  cases h with
  |cons hs h=>have:=Path.walk h (Walk.snoc hs hu);rw[Q9]at this;exact this
theorem Path.head{q p:Nat}{s:Stp}{w:List Stp}(h:Path S q (s::w) p):q=s.a:=by cases h;rfl
theorem Path.step{q p:Nat}{s:Stp}{w:List Stp}(h:Path S q (s::w) p):s∈S/\Path S s.b w p:=by cases h with|cons hs h=>exact⟨hs,h⟩
theorem Path.at{q p:Nat}{w:List Stp}(h:Path S q w p){i:Nat}{s:Stp}(hi:w[i]?=some s):Path S q (w.take i) s.a/\Path S q (w.take (i+1)) s.b/\Path S s.b (w.drop (i+1)) p:=by
 have hl:i<w.length:=(Qg.mp hi).1
 have e:w.drop i=s::w.drop (i+1):=by
  rw[Jb hl]
  congr 1
  exact(Qg.mp hi).2
 have h':Path S q (w.take i++w.drop i) p:=by rw[JK];exact h
 obtain⟨m,h1,h2⟩:=h'.split;rw[e]at h2;have hm:=h2.head;subst hm;obtain⟨hs,h3⟩:=h2.step;refine⟨h1,?_,h3⟩;rw[JJ,hi];exact h1.append (.cons hs (.nil _))
theorem Path.next{q p:Nat}{w:List Stp}(h:Path S q w p){i:Nat}{s t:Stp}(hi:w[i]?=some s)(hj:w[i+1]?=some t):t.a=s.b:=by obtain⟨_,_,h3⟩:=h.at hi;have hl:i+1<w.length:=(Qg.mp hj).1;rw[Jb hl]at h3;rw[←(Qg.mp hj).2];exact h3.head.symm
structure Op(w:List Stp)(i j:Nat):Prop where
 ij:i<=j
 jl:j<w.length
 same:∀s t,w[i]?=some s->w[j]?=some t->s.a=t.b
 first:∀j'<j,∀i' ≤ j',∀s t,w[i']?=some s->w[j']?=some t->s.a≠t.b
def Mm(w:List Stp):Prop:=∀j<w.length,∀i ≤ j,∀s t,w[i]?=some s->w[j]?=some t->s.a≠t.b
theorem Bd{n:Nat}(hS:∀s∈S,s.a<n/\s.b<n){q p:Nat}{w:List Stp}(h:Path S q w p)(hl:n<=w.length)(h0:0<n):¬Mm w:=λhn=>by
 obtain⟨s0,w0,rfl⟩:∃s0 w0,w=s0::w0:=by
  cases w with
  |nil=>rw[QC]at hl;omega
  |cons a b=>exact⟨a,b,rfl⟩
 let P:List Nat:=s0.a::(s0::w0).map Stp.b
 have key:∀k l:Nat,k<l->∀x y:Nat,P[k]?=some x->P[l]?=some y->x≠y:=λk l hkl x y hx hy=>by
  obtain⟨l,rfl⟩:∃m,l=m+1:=⟨l-1,by omega⟩
  have hy:((s0::w0).map Stp.b)[l]?=some y:=hy;rw[Qe]at hy;cases ht:(s0::w0)[l]? with
  |none=>rw[ht]at hy;cases hy
  |some t=>
  rw[ht]at hy;cases hy;have hll:l<(s0::w0).length:=(Qg.mp ht).1;obtain⟨s,hs⟩:∃s,(s0::w0)[k]?=some s:=⟨_,Qf (by omega)⟩
  have hxs:x=s.a:=by
   cases k with
   |zero=>cases hs;cases hx;rfl
   |succ k=>
    have hx:((s0::w0).map Stp.b)[k]?=some x:=hx;rw[Qe]at hx;obtain⟨r,hr⟩:∃r,(s0::w0)[k]?=some r:=⟨_,Qf (by omega)⟩
    rw[hr]at hx;cases hx;exact(h.next hr hs).symm
  rw[hxs];exact hn l hll k (by omega) s t hs ht
 have nd:P.Nodup:=by rw[List.nodup_iff_pairwise_ne,List.pairwise_iff_getElem];intro k l hk hl2 hkl;exact key k l hkl _ _ (Qf hk) (Qf hl2)
 have bound:∀x∈P,x<n:=λx hx=>by
  rcases QP.mp hx with rfl|hx
  ·exact(hS s0 h.step.1).1
  ·obtain⟨s,hs,rfl⟩:=Qs.mp hx;exact(hS s (h.mem s hs)).2
 have le:P.length<=n:=by
  have:=List.Nodup.length_le_of_subset nd (l₂:=Uw n) λx hx=>Q7.mpr (bound x hx)
  rwa[Qu]at this
 have:P.length=(s0::w0).length+1:=by show((s0::w0).map Stp.b).length+1=_;rw[Qb]
 omega
theorem qK{n:Nat}(hS:∀s∈S,s.a<n/\s.b<n)(h0:0<n){p:Nat}(hw:(ent (KO n S n) p).2.length=n){i j:Nat}(r:Op (ent (KO n S n) p).2 i j) :
  ∃x,Path S x (((ent (KO n S n) p).2.take (j+1)).drop i) x/\0<Kk (((ent (KO n S n) p).2.take (j+1)).drop i):=by
 obtain⟨hwk,hg⟩:=SO hS n p;generalize hW:(ent (KO n S n) p).2=w at hw r hwk hg⊢;obtain⟨q,hp⟩:=hwk.path;have hij:=r.ij;have hjl:=r.jl;obtain⟨s,hs⟩:∃s,w[i]?=some s:=⟨_,Qf (by omega)⟩
 obtain⟨t,ht⟩:∃t,w[j]?=some t:=⟨_,Qf hjl⟩
 have hst:=r.same s t hs ht;obtain⟨a1,a2,a3⟩:=hp.at hs;obtain⟨b1,b2,b3⟩:=hp.at ht;have e1:w.take (j+1)=w.take i++(w.take (j+1)).drop i:=by have:=(JK i (w.take (j+1))).symm;rw[List.take_take,JQ (by omega)]at this;exact this
 rw[e1]at b2;obtain⟨m,c1,c2⟩:=b2.split
 have hm:m=s.a:=by
  have e2:(w.take (j+1)).drop i=s::(w.take (j+1)).drop (i+1):=by
   rw[Jb (by rw[QO];omega)]
   congr 1
   rw[List.getElem_take];exact(Qg.mp hs).2
  rw[e2]at c2;exact c2.head
 subst hm;rw[←hst]at c2 b3;refine⟨s.a,c2,?_⟩;have hsh:Path S q (w.take i++w.drop (j+1)) p:=a1.append b3;have hshw:=hsh.walk (u:=[]) (.nil q);rw[Ji]at hshw;have hlen:(w.take i++w.drop (j+1)).length<=n-1:=by rw[Qj,QO,Jj];omega
 have most:=BD hS hshw (n-1) hlen;have hgw:Kk w=Kk (w.take i)+Kk ((w.take (j+1)).drop i)+Kk (w.drop (j+1)):=by rw[←Wp,←e1,←Wp,JK]
 rw[Wp]at most
 have lt:(ent (KO n S (n-1)) p).1<(ent (KO n S n) p).1:=by
  obtain⟨k,_⟩:=VX hS (n-1);rw[Nat.sub_add_cancel h0]at k;rcases k.how p with e|⟨_,_,_,_,lt⟩
  ·have:=(RJ hS (n-1)).1 p;rw[←e,hW,hw]at this;omega
  ·exact lt
 omega
theorem jH{q p:Nat}{w:List Stp}(h:Path S q w p){i j:Nat}(r:Op w i j):(((w.take (j+1)).drop i).map Stp.a).Nodup:=by
 rw[List.nodup_iff_pairwise_ne,List.pairwise_iff_getElem];intro k l hk hl hkl;have hij:=r.ij;have hjl:=r.jl;simp only[Qb,Jj,QO]at hk hl;simp only[JY,List.getElem_drop,List.getElem_take];obtain⟨m,rfl⟩:∃m,l=m+1:=⟨l-1,by omega⟩
 have e1:w[i+m]?=some w[i+m]:=Qf (by omega);have e2:w[i+m+1]?=some w[i+(m+1)]:=Qf (by omega);have e3:w[i+k]?=some w[i+k]:=Qf (by omega);rw[h.next e1 e2];exact r.first (i+m) (by omega) (i+k) (by omega) _ _ e3 e1
end
noncomputable def Kc(f:Int×Int->Int)(i:Nat):Option Int->Int
 |none=>0
 |some t=>f ((i:Int),t)
noncomputable def plF(n:Nat):Option Int->Nat
 |none=>n
 |some t=>t.toNat
noncomputable def Zi(n b:Nat):Option Int:=if b=n then none else some (b:Int)
noncomputable def Km(f:Int×Int->Int)(k:Nat):LO->Int
 |[]=>0
 |o::r=>Kc f k o+Km f (k+1) r
theorem LI(f:Int×Int->Int){o':Option Int}:∀{d:LO}{k i:Nat}{o:Option Int},d[i]?=some o->Km f k (d.set i o')=Km f k d+Kc f (k+i) o'-Kc f (k+i) o
 |[],_,_,_,h=>by cases h
 |x::d,k,0,o,h=>by cases h;show Kc f k o'+Km f (k+1) d=Kc f k x+Km f (k+1) d+Kc f k o'-Kc f k x;omega
 |x::d,k,i+1,o,h=>by rw[List.set_cons_succ];unfold Km;rw[LI f (d:=d) (k:=k+1) (i:=i) (o:=o) (by simpa using h),show k+1+i=k+(i+1)by omega];omega
theorem Hz{o' x:Option Int}:∀{d:LO}{i:Nat}{o:Option Int},d[i]?=some o->(((d.set i o').count x:Nat):Int)=(d.count x:Nat)+(if o'=x then 1 else 0)-(if o=x then 1 else 0)
 |[],_,_,h=>by cases h
 |y::d,0,o,h=>by cases h;rw[List.set_cons_zero,JP,JP];by_cases h1:o'=x<;>by_cases h2:y=x<;>simp[h1,h2]<;>omega
 |y::d,i+1,o,h=>by have ih:=Hz (o':=o') (x:=x) (d:=d) (i:=i) (o:=o) (by simpa using h);rw[List.set_cons_succ,JP,JP];omega
structure Zh(cs:List Int)(qs:LP)(m:Nat)(ws:LO):Prop where
 len:ws.length=m
 wish:∀(i:Nat) t,ws[i]?=some (some t)->((i:Int),t)∈qs
 cop:∀(k:Nat) c,cs[k]?=some c->((ws.count (some (k:Int)):Nat):Int)<=c
structure ZR(n m:Nat)(qs:LP):Prop where
 nd:qs.Nodup
 lo:∀q∈qs,0<=q.1/\q.1<m/\0<=q.2/\q.2<n
inductive IsSt(cs:List Int)(f:Int×Int->Int)(qs:LP)(ws:LO):Stp->Prop where
 |mv {i:Nat} {o o':Option Int} (h:ws[i]?=some o) (hne:o'≠o) (hq:∀t,o'=some t->((i:Int),t)∈qs):IsSt cs f qs ws ⟨plF cs.length o,plF cs.length o',Kc f i o'-Kc f i o,some i⟩
 |left {t:Nat} {c:Int} (h:cs[t]?=some c) (hl:((ws.count (some (t:Int)):Nat):Int)<c):IsSt cs f qs ws ⟨t,cs.length,0,none⟩
 |give {t:Nat} (h:t<cs.length):IsSt cs f qs ws ⟨cs.length,t,0,none⟩
noncomputable def app(n:Nat)(d:LO)(s:Stp):LO:=match s.w with
 |some i=>d.set i (Zi n s.b)
 |none=>d
noncomputable def nIn(t:Nat)(R:List Stp):Nat:=(R.filter λs=>s.w.isSome&&s.b==t).length
noncomputable def Xl(t:Nat)(R:List Stp):Nat:=(R.filter λs=>s.w.isSome&&s.a==t).length
section
variable{cs:List Int}{f:Int×Int->Int}{qs:LP}{m:Nat}{ws:LO}
theorem Wg(hp:ZR cs.length m qs){i:Nat}{o:Option Int}(h:∀t,o=some t->((i:Int),t)∈qs):Zi cs.length (plF cs.length o)=o:=by
 cases o with
 |none=>unfold Zi plF;rw[Qp rfl]
 |some t=>
  have:=hp.lo _ (h t rfl)
  show(if t.toNat=cs.length then none else some ((t.toNat:Nat):Int))=some t
  rw[QB (by omega)]
  congr 1
  omega
theorem Pa(hp:ZR cs.length m qs){i:Nat}{o:Option Int}{t:Nat}(ht:t<cs.length)(h:∀t,o=some t->((i:Int),t)∈qs):plF cs.length o=t ↔ o=some (t:Int):=by
 cases o with
 |none=>exact⟨λe=>by have e:cs.length=t:=e;omega,λe=>by cases e⟩
 |some u=>
  have:=hp.lo _ (h u rfl);show u.toNat=t ↔ _;constructor
  ·intro e;congr 1;omega
  ·intro e;cases e;omega
theorem Pj(hp:ZR cs.length m qs)(hd:Zh cs qs m ws):∀(R:List Stp)(d:LO),(∀s∈R,IsSt cs f qs ws s)->(R.map Stp.a).Nodup->(∀s∈R,∀i,s.w=some i->d[i]?=ws[i]?)->d.length=ws.length->(∀(i:Nat) t,d[i]?=some (some t)->((i:Int),t)∈qs) ->
  Km f 0 (R.foldl (app cs.length) d)=Km f 0 d+Kk R/\(R.foldl (app cs.length) d).length=ws.length/\(∀(i:Nat) t,(R.foldl (app cs.length) d)[i]?=some (some t)->((i:Int),t)∈qs) /\
  ∀t,t<cs.length->(((R.foldl (app cs.length) d).count (some (t:Int)):Nat):Int)=(d.count (some (t:Int)):Nat)+(nIn t R:Nat)-(Xl t R:Nat)
 |[],d,_,_,_,hl,hq=>⟨by show _=_+Kk [];rw[LJ];show Km f 0 d=_;omega,hl,hq,λt _=>by show((d.count _:Nat):Int)=_+((0:Nat):Int)-((0:Nat):Int);omega⟩
 |s::R,d,hR,hn,ha,hl,hq=>by
  rw[Qy,JM]at hn;have hgc:Kk (s::R)=s.g+Kk R:=by show Kk ([s]++R)=_;rw[Wp,SS]
  rw[JH,hgc];cases hR s Qm with
  |@mv i o o' h hne hq'=>
   have hdi:d[i]?=some o:=(ha _ Qm i rfl).trans h;have ho:∀t,o=some t->((i:Int),t)∈qs:=λt e=>hd.wish i t (by rw[h,e])
   have hil:i<d.length:=(Qg.mp hdi).1;have eapp:app cs.length d ⟨plF cs.length o,plF cs.length o',Kc f i o'-Kc f i o,some i⟩=d.set i o':=by show d.set i (Zi cs.length (plF cs.length o'))=_;rw[Wg hp hq']
   rw[eapp]
   obtain⟨k1,k2,k3,k4⟩:=Pj hp hd R (d.set i o') (λs hs=>hR s (Ql _ hs)) hn.2 (λs hs j hj=>by
    have hji:i≠j:=λz=>by
     subst z;cases hR s (Ql _ hs)with
     |@mv i2 o2 o2' h2 _ _=>cases hj;rw[h]at h2;cases h2;exact hn.1 (Qs.mpr ⟨_,hs,rfl⟩)
     |left _ _=>cases hj
     |give _=>cases hj
    rw[Qq hji];exact ha s (Ql _ hs) j hj) (by rw[QX];exact hl) (λj t e=>by
    by_cases z:i=j
    ·subst z;rw[QD hil]at e;cases e;exact hq' t rfl
    ·rw[Qq z]at e;exact hq j t e)
   refine⟨?_,k2,k3,λt ht=>?_⟩
   ·rw[k1,LI f hdi,QY];show _=Km f 0 d+((Kc f i o'-Kc f i o)+Kk R);omega
   ·rw[k4 t ht,Hz hdi]
    have e1:(if o'=some (t:Int)then(1:Int)else 0)=if plF cs.length o'=t then 1 else 0:=by
     by_cases z:o'=some (t:Int)
     ·rw[Qp z,Qp ((Pa hp ht hq').mpr z)]
     ·rw[QB z,QB (λy=>z ((Pa hp ht hq').mp y))]
    have e2:(if o=some (t:Int)then(1:Int)else 0)=if plF cs.length o=t then 1 else 0:=by
     by_cases z:o=some (t:Int)
     ·rw[Qp z,Qp ((Pa hp ht ho).mpr z)]
     ·rw[QB z,QB (λy=>z ((Pa hp ht ho).mp y))]
    have e3:∀(x:Nat),((nIn t (⟨plF cs.length o,plF cs.length o',Kc f i o'-Kc f i o,some i⟩::R):Nat):Int)=(if plF cs.length o'=t then 1 else 0)+(nIn t R:Nat):=λx=>by
     unfold nIn;rw[List.filter_cons];by_cases z:plF cs.length o'=t
     ·rw[if_pos z,if_pos (by simp[z]),List.length_cons];omega
     ·rw[if_neg z,if_neg (by simp[z])];omega
    have e4:∀(x:Nat),((Xl t (⟨plF cs.length o,plF cs.length o',Kc f i o'-Kc f i o,some i⟩::R):Nat):Int)=(if plF cs.length o=t then 1 else 0)+(Xl t R:Nat):=λx=>by
     unfold Xl;rw[List.filter_cons];by_cases z:plF cs.length o=t
     ·rw[if_pos z,if_pos (by simp[z]),List.length_cons];omega
     ·rw[if_neg z,if_neg (by simp[z])];omega
    rw[e1,e2,e3 0,e4 0];omega
  |left _ _=>obtain⟨k1,k2,k3,k4⟩:=Pj hp hd R d (λs hs=>hR s (Ql _ hs)) hn.2 (λs hs=>ha s (Ql _ hs)) hl hq;refine⟨?_,k2,k3,k4⟩;show Km f 0 (R.foldl _ d)=Km f 0 d+(0+Kk R);rw[k1];omega
  |give _=>obtain⟨k1,k2,k3,k4⟩:=Pj hp hd R d (λs hs=>hR s (Ql _ hs)) hn.2 (λs hs=>ha s (Ql _ hs)) hl hq;refine⟨?_,k2,k3,k4⟩;show Km f 0 (R.foldl _ d)=Km f 0 d+(0+Kk R);rw[k1];omega
theorem NL(t:Nat):∀R:List Stp,nIn t R<=(R.map Stp.b).count t
 |[]=>Qr _
 |s::R=>by
  have ih:=NL t R;unfold nIn at ih⊢;rw[List.filter_cons,Qy,JP];split
  ·rename_i h;rw[Jp]at h;rw[QJ,Qp h.2];omega
  ·omega
theorem Bc(hp:ZR cs.length m qs)(hd:Zh cs qs m ws){R:List Stp}(hR:∀s∈R,IsSt cs f qs ws s)(hn:(R.map Stp.a).Nodup)(hb:(R.map Stp.b).Perm (R.map Stp.a)):Zh cs qs m (R.foldl (app cs.length) ws)/\Km f 0 (R.foldl (app cs.length) ws)=Km f 0 ws+Kk R:=by
 obtain⟨k1,k2,k3,k4⟩:=Pj hp hd R ws hR hn (λs hs i e=>rfl) rfl hd.wish;refine⟨⟨by rw[k2];exact hd.len,k3,λt c hc=>?_⟩,k1⟩;have ht:t<cs.length:=(Qg.mp hc).1;rw[k4 t ht];have h0:=hd.cop t c hc;have h1:(R.map Stp.a).count t<=1:=List.nodup_iff_count.mp hn t;have h2:=NL t R;rw[hb.count_eq]at h2;by_cases z:nIn t R=0
 ·omega
 ·have hin:nIn t R=1:=by omega
  have hmem:t∈R.map Stp.a:=List.count_pos_iff.mp (by omega);obtain⟨s,hs,hst⟩:=Qs.mp hmem;cases hR s hs with
  |@mv i o o' h hne hq'=>
   have:1<=Xl t R:=by unfold Xl;exact List.length_pos_iff.mpr (List.ne_nil_of_mem (List.mem_filter.mpr ⟨hs,by simpa using hst⟩))
   omega
  |@left u c' h hl=>have hst:u=t:=hst;subst hst;rw[h]at hc;cases hc;omega
  |@give u h=>have hst:cs.length=t:=hst;omega
end
theorem DB{S:List Stp}{q p:Nat}{w:List Stp}(h:Path S q w p):w.map Stp.a++[p]=q::w.map Stp.b:=by
 induction h with
 |nil p=>rfl
 |cons hs h ih=>rw[Qy,Qy,List.cons_append,ih]
theorem qJ{S:List Stp}{x:Nat}{w:List Stp}(h:Path S x w x):(w.map Stp.b).Perm (w.map Stp.a):=by have e:=DB h;have p1:(w.map Stp.a++[x]).Perm (x::w.map Stp.a):=List.perm_append_comm;rw[e]at p1;exact List.Perm.cons_inv p1
noncomputable def Zz(f:Int×Int->Int)(V:Nat->Int)(qs:LP)(i:Int):Int:=qs.foldl (λa q=>if q.1=i then max a (f q-V q.2.toNat)else a) 0
theorem PB(f:Int×Int->Int)(V:Nat->Int)(i:Int):∀(qs:LP)(a:Int),a<=qs.foldl (λa q=>if q.1=i then max a (f q-V q.2.toNat)else a) a /\
  (∀q∈qs,q.1=i->f q-V q.2.toNat<=qs.foldl (λa q=>if q.1=i then max a (f q-V q.2.toNat)else a) a) /\
  ∀B,a<=B->(∀q∈qs,q.1=i->f q-V q.2.toNat<=B)->qs.foldl (λa q=>if q.1=i then max a (f q-V q.2.toNat)else a) a<=B
 |[],a=>⟨QW _,(λq h=>by cases h),λB h _=>h⟩
 |q::qs,a=>by
  rw[JH];obtain⟨h1,h2,h3⟩:=PB f V i qs (if q.1=i then max a (f q-V q.2.toNat)else a);have hb:a<=(if q.1=i then max a (f q-V q.2.toNat)else a):=by split<;>omega
  refine⟨JS hb h1,λp hp e=>?_,λB ha hB=>h3 B ?_ λp hp=>hB p (Ql _ hp)⟩
  ·rcases QP.mp hp with rfl|hp
   ·rw[Qp e]at h1⊢;omega
   ·exact h2 p hp e
  ·have:=hB q Qm;split
   ·rename_i e;have:=this e;omega
   ·exact ha
theorem Hy{f:Int×Int->Int}{ps:List Int}:∀(ws:LO)(k:Nat)(A:Nat->Int),(∀(j:Nat) o,ws[j]?=some o->A (k+j)=Kc f (k+j) o-(match o with|some t=>ps.getD t.toNat 0|none=>0))->((List.range' k ws.length).map A).sum=Km f k ws-pz ps ws
 |[],k,A,_=>by show(0:Int)=0-0;omega
 |o::ws,k,A,h=>by
  rw[QJ,List.range'_succ,Qy,J7,Hy ws (k+1) A λj o' e=>by have:=h (j+1) o' (by simpa using e);rw[show k+1+j=k+(j+1)by omega];exact this];have h0:=h 0 o rfl;rw[Uj]at h0;rw[h0];cases o with
  |none=>show Kc f k none-0+(Km f (k+1) ws-pz ps ws)=Kc f k none+Km f (k+1) ws-(0+pz ps ws);omega
  |some t=>show Kc f k (some t)-ps.getD t.toNat 0+(Km f (k+1) ws-pz ps ws)=Kc f k (some t)+Km f (k+1) ws-(ps.getD t.toNat 0+pz ps ws);omega
section
variable{cs:List Int}{f:Int×Int->Int}{qs:LP}{m:Nat}{ws:LO}{S:List Stp}
theorem IsSt.lt(hp:ZR cs.length m qs)(hd:Zh cs qs m ws){s:Stp}(h:IsSt cs f qs ws s):s.a<cs.length+1/\s.b<cs.length+1:=by
 have key:∀{i:Nat}{o:Option Int},(∀t,o=some t->((i:Int),t)∈qs)->plF cs.length o<cs.length+1:=λ{i o} h=>by
  cases o with
  |none=>exact Ua _
  |some t=>have:=hp.lo _ (h t rfl);show t.toNat<_;omega
 cases h with
 |mv h hne hq=>exact⟨key λt e=>hd.wish _ t (by rw[h,e]),key hq⟩
 |left h hl=>have:=(Qg.mp h).1;exact⟨J8 this,Ua _⟩
 |give h=>exact⟨Ua _,J8 h⟩
theorem Bb{V:Nat->Int}(still:∀s∈S,V s.a+s.g<=V s.b){q p:Nat}{w:List Stp}(h:Path S q w p):V q+Kk w<=V p:=by
 induction h with
 |nil p=>rw[LJ];omega
 |@cons s w p hs h ih=>
  have:=still s hs;have e:Kk (s::w)=s.g+Kk w:=by show Kk ([s]++w)=_;rw[Wp,SS]
  omega
theorem LH(hp:ZR cs.length m qs)(hd:Zh cs qs m ws)(hin:∀s∈S,IsSt cs f qs ws s)(hall:∀s,IsSt cs f qs ws s->s∈S){V:Nat->Int}(hV:∀p,V p=(ent (KO (cs.length+1) S (cs.length+1)) p).1)
  (still:∀p,p<cs.length+1->(ent (KO (cs.length+1) S (cs.length+1)) p).2.length≠cs.length+1) :
  OkP cs.length m (λa b=>f (a,b)) qs 1 ((Uw m).map λi:Nat=>Zz f V qs (i:Int)) ((Uw cs.length).map V)/\Vq cs ((Uw m).map λi:Nat=>Zz f V qs (i:Int)) ((Uw cs.length).map V)=Km f 0 ws:=by
 have hS:∀s∈S,s.a<cs.length+1/\s.b<cs.length+1:=λs hs=>(hin s hs).lt hp hd;have st:∀s∈S,V s.a+s.g<=V s.b:=λs hs=>by rw[hV,hV];exact qL hS (Ui _) still s hs
 have v0:∀p,0<=V p:=λp=>by have:=O4 hS (JI (cs.length+1)) p;rw[SU hS]at this;rw[hV];exact this
 have vn:V cs.length=0:=by
  obtain⟨hw,hg⟩:=SO hS (cs.length+1) cs.length;obtain⟨q,hq⟩:=hw.path;have h1:=Bb st hq;rw[hg,←hV]at h1;have h2:=v0 q;by_cases z:q=cs.length
  ·rw[z]at h1 h2;omega
  ·have hql:q<cs.length:=by
    cases hw2:(ent (KO (cs.length+1) S (cs.length+1)) cs.length).2 with
    |nil=>rw[hw2]at hq;cases hq;exact absurd rfl z
    |cons s w=>rw[hw2]at hq;have:=(hS s hq.step.1).1;rw[←hq.head]at this;omega
   have h3:=st _ (hall _ (.give hql));have h3:V cs.length+0<=V q:=h3;have:=v0 cs.length;omega
 have psD:∀k,k<cs.length->((Uw cs.length).map V).getD k 0=V k:=λk hk=>by rw[Qn,Qe,QS hk];rfl
 have ask:∀(i:Nat) o,ws[i]?=some o->Zz f V qs (i:Int)=Kc f i o-(match o with|some t=>((Uw cs.length).map V).getD t.toNat 0|none=>0):=λi o h=>by
  obtain⟨a1,a2,a3⟩:=PB f V (i:Int) qs 0;cases o with
  |none=>
   have:Zz f V qs (i:Int)<=0:=a3 0 (QW _) λq hq e=>by have h1:=st _ (hall _ (.mv (f:=f) h (o':=some q.2) (by intro z;cases z) λt et=>by cases et;rw[←e];exact hq));have h1:V cs.length+(f ((i:Int),q.2)-0)<=V q.2.toNat:=h1;rw[←e]at h1;have:f (q.1,q.2)=f q:=rfl;omega
   show Zz f V qs (i:Int)=0-0;have:0<=Zz f V qs (i:Int):=a1;omega
  |some t=>
   have hq:=hd.wish i t h;have hb:=hp.lo _ hq;have hup:=st _ (hall _ (.mv (f:=f) h (o':=none) (by intro z;cases z) λt et=>by cases et));have hup:V t.toNat+(0-f ((i:Int),t))<=V cs.length:=hup;show Zz f V qs (i:Int)=f ((i:Int),t)-((Uw cs.length).map V).getD t.toNat 0;rw[psD t.toNat (by omega)];have lo:f ((i:Int),t)-V t.toNat<=Zz f V qs (i:Int):=a2 _ hq rfl
   have hi:Zz f V qs (i:Int)<=f ((i:Int),t)-V t.toNat:=a3 _ (by omega) λq hq e=>by
    by_cases z:q.2=t
    ·have:q=((i:Int),t):=by rw[←e,←z]
     rw[this];exact QW _
    ·have h1:=st _ (hall _ (.mv (f:=f) h (o':=some q.2) (by intro y;cases y;exact z rfl) λt et=>by cases et;rw[←e];exact hq));have h1:V t.toNat+(f ((i:Int),q.2)-f ((i:Int),t))<=V q.2.toNat:=h1;have:f (((i:Int)),q.2)=f q:=by rw[←e]
     omega
   omega
 refine⟨⟨by decide,by rw[Qb,Qu],by rw[Qb,Qu],λa ha=>?_,λp hp'=>?_,λq hq=>?_⟩,?_⟩
 ·obtain⟨i,_,rfl⟩:=Qs.mp ha;exact(PB f V (i:Int) qs 0).1
 ·obtain⟨i,_,rfl⟩:=Qs.mp hp';exact v0 i
 ·have hb:=hp.lo q hq;rw[psD q.2.toNat (by omega),Qn,Qe,QS (by omega)];have h2:=(PB f V q.1 qs 0).2.1 q hq rfl;show 1*f q<=Zz f V qs ((q.1.toNat:Nat):Int)+V q.2.toNat;have e:((q.1.toNat:Nat):Int)=q.1:=by omega
  rw[e];have h2:f q-V q.2.toNat<=Zz f V qs q.1:=h2;omega
 ·unfold Vq;rw[List.range_eq_range' (n:=m),←hd.len,Hy (f:=f) (ps:=(Uw cs.length).map V) ws 0 (λi:Nat=>Zz f V qs (i:Int)) λj o e=>by rw[QY];exact ask j o e];have hth:∀t,some t∈ws->0<=t/\t<cs.length:=λt ht=>by obtain⟨i,hi⟩:=List.mem_iff_getElem?.mp ht;have:=hp.lo _ (hd.wish i t hi);exact⟨this.2.2.1,this.2.2.2⟩
  rw[O5 ws hth,HC _ _ (by rw[Qb,Qu])]
  have e:K4 cs.length (λk=>cs.getD k 0*((Uw cs.length).map V).getD k 0)=K4 cs.length λk=>((ws.count (some (k:Int)):Nat):Int)*((Uw cs.length).map V).getD k 0:=Nf λk hk=>by
   rw[psD k hk];have hc:cs[k]?=some (cs.getD k 0):=by rw[Qn,Qf hk];rfl
   have hle:=hd.cop k _ hc;by_cases z:((ws.count (some (k:Int)):Nat):Int)=cs.getD k 0
   ·rw[z]
   ·have h1:=st _ (hall _ (.left (f:=f) (qs:=qs) hc (by omega)));have h1:V k+0<=V cs.length:=h1;have:=v0 k;have hz:V k=0:=by omega
    rw[hz,Int.mul_zero,Int.mul_zero]
  rw[e];omega
end
noncomputable def Y1:Option Nat->D
 |some i=>.int i
 |none=>.none
noncomputable def Ka(s:Stp):D:=.tuple [.int s.a,.int s.b,.int s.g,Y1 s.w]
noncomputable def ZQ(x:Int×List Stp):D:=.tuple [.int x.1,.list (x.2.map Ka)]
noncomputable def US(V:Int->Int->Int)(q:Int×Int):Int:=V q.1 q.2
noncomputable def Zj(n:Nat)(f:Int×Int->Int)(ws:LO):List Stp:=(Uw ws.length).filterMap λi=>match ws.getD i none with
 |none=>none
 |some t=>some ⟨t.toNat,n, -(Kc f i (some t)),some i⟩
noncomputable def K5(n:Nat)(f:Int×Int->Int)(qs:LP)(ws:LO):List Stp:=qs.filterMap λq=>if ws.getD q.1.toNat none≠some q.2 then some ⟨plF n (ws.getD q.1.toNat none),q.2.toNat,f q-Kc f q.1.toNat (ws.getD q.1.toNat none),some q.1.toNat⟩else none
noncomputable def ZV(cs:List Int)(ws:LO):List Stp:=(Uw cs.length).filterMap λt=>if 0<cs.getD t 0-((ws.count (some (t:Int)):Nat):Int)then some ⟨t,cs.length,0,none⟩else none
noncomputable def ZU(n:Nat):List Stp:=(Uw n).map λt=>⟨n,t,0,none⟩
noncomputable def Yn(cs:List Int)(f:Int×Int->Int)(qs:LP)(ws:LO):List Stp:=Zj cs.length f ws++K5 cs.length f qs ws++(ZV cs ws++ZU cs.length)
theorem BC{m j:Nat}{h h':Nat->Int}(hj:j<m)(e:∀i,i≠j->h' i=h i):(((Uw m).map h).map int).set j (.int (h' j))=((Uw m).map h').map int:=by
 apply List.ext_getElem?;intro i;by_cases z:j=i
 ·subst z;rw[QD (by rw[Qb,Qb,Qu];exact hj),Qe,Qe,QS hj];rfl
 ·rw[Qq z,Qe,Qe,Qe,Qe];by_cases hi:i<m
  ·rw[QS hi];show some (int (h i))=some (int (h' i));rw[e i λy=>z y.symm]
  ·rw[Ja (by rw[Qu];omega)];rfl
theorem LG{m:Nat}{h:Nat->Int}{j:Nat}(hj:j<m):oIx (.list (((Uw m).map h).map int)) (.int (j:Int))=some (.int (h j)):=KU (by rw[Qe,Qe,QS hj];rfl)
section
variable{cs:List Int}{ls:L3}{ws:LO}{V:Int->Int->Int}{qs:LP}
theorem jG{n:Nat}{o:Option Int}(h:∀t,o=some t->0<=t):XZ [.int n,U5 o]=some (.int (plF n o)):=by
 refine KS (Z:=[some (.pub (.int n)),some (.pub (U5 o))]) rfl ?_;unfold TN;cases o with
 |none=>exact Kv (N8 (KF (k:=isNon) (x:=PyData.none) (UL rfl)) (UL rfl)) rfl
 |some t=>refine Kv (P7 (KF (k:=isNon) (x:=int t) (UL rfl)) (UL rfl)) ?_;have:=h t rfl;show Out.rt (.int t)=Out.rt (.int ((t.toNat:Nat):Int));rw[show((t.toNat:Nat):Int)=t by omega]
noncomputable def Z6(V:Int->Int->Int)(ws:LO)(qs:LP)(i:Nat):Int:=match ws.getD i none with
 |none=>0
 |some t=>if((i:Int),t)∈qs then V i t else 0
theorem OD{k:Int}(h0:0<=k)(h1:k<ws.length):oIx (Ke ws) (.int k)=some (U5 (ws.getD k.toNat none)):=by
 obtain⟨j,rfl⟩:∃j:Nat,k=j:=⟨k.toNat,by omega⟩
 refine KU ?_;rw[Qe,Qt,Qn,Qf (by omega)];rfl
theorem LF{i:Nat}{o:Option Int}(h:ws[i]?=some o):ws.getD i none=o:=by rw[Qn,h];rfl
theorem BB(hp:ZR cs.length ws.length qs)(hd:Zh cs qs ws.length ws)(hm:ws.length<=1000)(hq1:qs.length<=1000):W1 [.int (cs.length:Nat),.list (qs.map (Zb V)),Ke ws]=some (.list ((Zj cs.length (US V) ws++K5 cs.length (US V) qs ws).map Ka)):=by
 refine KS (Z:=[some (.pub (.int (cs.length:Nat))),some (.pub (.list (qs.map (Zb V)))),some (.pub (Ke ws)),none,none,none,none,none]) rfl ?_;unfold TM;have hlen:U8 [Ke ws]=some (.int ws.length):=by show U8 [.list (ws.map U5)]=_;rw[K2,Qb]
 have pos:∀i t,ws.getD i none=some t->i<ws.length/\((i:Int),t)∈qs:=λi t e=>by
  by_cases hi:i<ws.length
  ·rw[Qn,Qf hi]at e;exact⟨hi,hd.wish i t (by rw[Qf hi];exact congrArg some e)⟩
  ·rw[Qn,Ja (by omega)]at e;cases e
 refine Kf (Yd (Mz (n:=ws.length) (ZC (UP UR UU) (Qa rfl)) (Zq rfl hlen) hm) (Qa rfl) rfl) ?_;apply Kr;apply Zr (λk Z=>∃x4 x5 x6,Z=[some (.pub (.int (cs.length:Nat))),some (.pub (.list (qs.map (Zb V)))),some (.pub (Ke ws)),some (.own (((Uw ws.length).map (Z6 V ws (qs.take k))).map int)),x4,x5,x6,none])
 case h1=>exact Zl (UL rfl) ZK
 case h0=>
  refine⟨none,none,none,?_⟩
  have e:((Uw ws.length).map (Z6 V ws (qs.take 0))).map int=Ux ws.length (.int 0):=by
   rw[List.eq_replicate_iff];refine⟨by rw[Qb,Qb,Qu],λb hb=>?_⟩;obtain⟨x,hx,rfl⟩:=Qs.mp hb;obtain⟨i,_,rfl⟩:=Qs.mp hx;unfold Z6;split
   ·rfl
   ·rw[if_neg (by rw[List.take_zero];simp)]
  rw[e];rfl
 case hst=>
  rintro k d Z hk ⟨x4,x5,x6,rfl⟩;rw[Qe]at hk;cases hq:qs[k]? with
  |none=>rw[hq]at hk;cases hk
  |some q=>
  rw[hq]at hk;cases hk;have hb:=hp.lo q (Qo hq);refine⟨_,Kz rfl (U2 (UT (Qa rfl) rfl) (U2 (UT (Qa rfl) rfl) (U2 (UT (Qa rfl) rfl) KB))),?_⟩;unfold Mq;have hta:qs.take (k+1)=qs.take k++[q]:=by rw[JJ,hq];rfl
  apply Ko
  case h1=>exact U0 (Kj rfl (UL rfl) (OD hb.1 hb.2.1)) (UL rfl) (Ru (b:=some q.2))
  case h2=>
   intro hh;have hh:ws.getD q.1.toNat none=some q.2:=Qa hh;refine Zx (SK (UL rfl) rfl (UL rfl) rfl ⟨hb.1,by rw[Qb,Qb,Qu];exact hb.2.1⟩ rfl) (KZ ⟨some (.pub (.int q.1)),some (.pub (.int q.2)),some (.pub (.int (V q.1 q.2))),?_⟩)
   have e:=BC (m:=ws.length) (j:=q.1.toNat) (h:=Z6 V ws (qs.take k)) (h':=Z6 V ws (qs.take (k+1))) (by omega) λi hne=>by
    unfold Z6;cases ws.getD i none with
    |none=>rfl
    |some t=>
     dsimp only;rw[hta];by_cases z:((i:Int),t)∈qs.take k
     ·rw[Qp z,Qp (Q8 _ z)]
     ·rw[QB z,QB];intro y;rcases QR.mp y with y|y
      ·exact z y
      ·have:=QZ.mp y;rw[←this]at hne;exact hne (by show i=((i:Int)).toNat;rw[Qt])
   have ev:Z6 V ws (qs.take (k+1)) q.1.toNat=V q.1 q.2:=by
    unfold Z6;rw[hh];have ei:((q.1.toNat:Nat):Int)=q.1:=by omega
    dsimp only;rw[ei,if_pos (by rw[hta];exact List.mem_append_right _ (by simp))]
   rw[ev]at e;rw[←e];rfl
  case h3=>
   intro hh;have hh:¬ws.getD q.1.toNat none=some q.2:=Je hh;refine Ky (KZ ⟨some (.pub (.int q.1)),some (.pub (.int q.2)),some (.pub (.int (V q.1 q.2))),?_⟩)
   have e:(Uw ws.length).map (Z6 V ws (qs.take (k+1)))=(Uw ws.length).map (Z6 V ws (qs.take k)):=List.map_congr_left λi _=>by
    unfold Z6;cases hw:ws.getD i none with
    |none=>rfl
    |some t=>
     dsimp only;rw[hta];by_cases z:((i:Int),t)∈qs.take k
     ·rw[Qp z,Qp (Q8 _ z)]
     ·rw[QB z,QB];intro y;rcases QR.mp y with y|y
      ·exact z y
      ·have y:=QZ.mp y;rw[←y]at hh;exact hh (by show ws.getD ((i:Int)).toNat none=some t;rw[Qt];exact hw)
   rw[e];rfl
 case hend=>
  rintro Z ⟨x4,x5,x6,rfl⟩;refine Kp ?_;have hth:qs.take (qs.map (Zb V)).length=qs:=by rw[Qb,Jy]
  rw[hth]
  have hadE:∀i,Z6 V ws qs i=Kc (US V) i (ws.getD i none):=λi=>by
   unfold Z6;cases hw:ws.getD i none with
   |none=>rfl
   |some t=>exact Qp (pos i t hw).2
  have hc:∀y4 y5 y6 y7:Option Sl,KY (gT 2 (gNC (gN 8) (gNC (gN 9) (gN0)))) (UZ (λd=>!isNon d) (UB 9)) (Kw (UM (UB 9) (UM (UB 0) (UM (ZX (UV 3 (UB 8))) (UM (UB 8) (UI)))))) (Z7 0 (ws.map U5)) ([some (.pub (.int (cs.length:Nat))),some (.pub (.list (qs.map (Zb V)))),some (.pub (Ke ws)),some (.pub (.list (((Uw ws.length).map (Z6 V ws qs)).map int))),y4,y5,y6,y7]++Ux 2 none) []=some ((Zj cs.length (US V) ws).map Ka):=by
   intro y4 y5 y6 y7
   have em:(Zj cs.length (US V) ws).map Ka=((Uw ws.length).map λi=>(match ws.getD i none with|none=>none|some t=>some (Ka ⟨t.toNat,cs.length, -(Kc (US V) i (some t)),some i⟩):Option D)).filterMap id:=by
    unfold Zj;rw[List.map_filterMap,List.filterMap_map]
    congr 1
    funext i;dsimp only[Function.comp,id];cases ws.getD i none<;>rfl
   rw[em];refine Pp (λZ=>∃z4 z5 z6 z7 x y,Z=[some (.pub (.int (cs.length:Nat))),some (.pub (.list (qs.map (Zb V)))),some (.pub (Ke ws)),some (.pub (.list (((Uw ws.length).map (Z6 V ws qs)).map int))),z4,z5,z6,z7,x,y]) _ _ _ _ (by rw[Qb,Qu,YC,Qb]) ?_ ⟨y4,y5,y6,y7,none,none,rfl⟩ (by rw[YC,Qb,QC];omega);rintro i d e hdd he Z ⟨z4,z5,z6,z7,x,y,rfl⟩;obtain⟨z,hz,rfl⟩:=Y8 hdd;rw[Qe]at hz;cases hw:ws[i]? with
   |none=>rw[hw]at hz;cases hz
   |some o=>
   rw[hw]at hz;cases hz;have hil:i<ws.length:=(Qg.mp hw).1;have hg:=LF hw;rw[Qe,QS hil]at he;have he:some (match ws.getD i none with|none=>none|some t=>some (Ka ⟨t.toNat,cs.length, -(Kc (US V) i (some t)),some i⟩):Option D)=some e:=he;rw[hg]at he;cases he;rw[QY];refine⟨_,Kz rfl (U2 (UT (Qa rfl) rfl) (U2 (UT (Qa rfl) rfl) KB)),?_,?_,_,_,_,_,_,_,rfl⟩
   ·cases o with
    |none=>exact KF (k:=λd=>!isNon d) (x:=PyData.none) (UL rfl)
    |some t=>exact KF (k:=λd=>!isNon d) (x:=int t) (UL rfl)
   ·intro v hv;cases o with
    |none=>cases hv
    |some t=>
     cases hv;have hb:=hp.lo _ (pos i t hg).2;have et:((t.toNat:Nat):Int)=t:=by have:=hb.2.2.1;omega
     show _=Res.ok (PyData.tuple [.int ((t.toNat:Nat):Int),.int ((cs.length:Nat):Int),.int (-(Kc (US V) i (some t))),.int (i:Nat)]) _;rw[et,show Kc (US V) i (some t)=Z6 V ws qs i by rw[hadE,hg]];exact Yp (UP (UL rfl) (UP (UL rfl) (UP (SB (Kj rfl (UL rfl) (LG hil))) (UP (UL rfl) UU)))) (Qa rfl)
  have nlS:∀S:List Stp,(S.map Ka).all nl0=true:=λS=>Q2.mpr λd hd=>by obtain⟨s,_,rfl⟩:=Qs.mp hd;obtain⟨a,b,g,w⟩:=s;cases w<;>rfl
  have hcl:∀x4 x5 x6:Option Sl,X8 (Zt (YO (UM (UB 2) (UI))) 2 (gT 2 (gNC (gN 8) (gNC (gN 9) (gN0)))) (UZ (λd=>!isNon d) (UB 9)) (Kw (UM (UB 9) (UM (UB 0) (UM (ZX (UV 3 (UB 8))) (UM (UB 8) (UI))))))) [some (.pub (.int (cs.length:Nat))),some (.pub (.list (qs.map (Zb V)))),some (.pub (Ke ws)),some (.own (((Uw ws.length).map (Z6 V ws qs)).map int)),x4,x5,x6,none]=.ok ((Zj cs.length (US V) ws).map Ka) [some (.pub (.int (cs.length:Nat))),some (.pub (.list (qs.map (Zb V)))),some (.pub (Ke ws)),some (.own (((Uw ws.length).map (Z6 V ws qs)).map int)),x4,x5,x6,none]:=λx4 x5 x6=>
   CP (Z':=ZA [some (.pub (.int (cs.length:Nat))),some (.pub (.list (qs.map (Zb V)))),some (.pub (Ke ws)),some (.own (((Uw ws.length).map (Z6 V ws qs)).map int)),x4,x5,x6,none]) (ZT (Xy (UP (UL rfl) UU) XI) (hc _ _ _ _)) (nlS _)
  refine Kf (Yd (hcl _ _ _) (Qa rfl) rfl) ?_;apply Kr;apply Zr (λk Z=>∃x4 x5 x6,Z=[some (.pub (.int (cs.length:Nat))),some (.pub (.list (qs.map (Zb V)))),some (.pub (Ke ws)),some (.own (((Uw ws.length).map (Z6 V ws qs)).map int)),x4,x5,x6,some (.own ((Zj cs.length (US V) ws++K5 cs.length (US V) (qs.take k) ws).map Ka))])
  case h1=>exact Zl (UL rfl) ZK
  case h0=>exact⟨_,_,_,by rw[J9];show _=[_,_,_,_,_,_,_,some (Sl.own ((Zj cs.length (US V) ws++[]).map Ka))];rw[Jc];rfl⟩
  case hst=>
   rintro k d Z hk ⟨x4,x5,x6,rfl⟩;rw[Qe]at hk;cases hq:qs[k]? with
   |none=>rw[hq]at hk;cases hk
   |some q=>
   rw[hq]at hk;cases hk;have hb:=hp.lo q (Qo hq);have hta:qs.take (k+1)=qs.take k++[q]:=by rw[JJ,hq];rfl
   have hkl:k<qs.length:=(Qg.mp hq).1
   have hsz:((Zj cs.length (US V) ws++K5 cs.length (US V) (qs.take k) ws).map Ka).length<1000000:=by
    rw[Qb,Qj];have h1:(Zj cs.length (US V) ws).length<=ws.length:=by unfold Zj;have:=Jf (λi=>match ws.getD i none with|none=>none|some t=>some (⟨t.toNat,cs.length, -(Kc (US V) i (some t)),some i⟩:Stp)) (Uw ws.length);rw[Qu]at this;exact this
    have h2:(K5 cs.length (US V) (qs.take k) ws).length<=qs.length:=by unfold K5;refine QT (Jf _ _) ?_;rw[QO];omega
    omega
   refine⟨_,Kz rfl (U2 (UT (Qa rfl) rfl) (U2 (UT (Qa rfl) rfl) (U2 (UT (Qa rfl) rfl) KB))),?_⟩;unfold Mr;have e2:∀r:List Stp,K5 cs.length (US V) [q] ws=r->K5 cs.length (US V) (qs.take (k+1)) ws=K5 cs.length (US V) (qs.take k) ws++r:=λr hr=>by rw[hta];unfold K5 at hr⊢;rw[List.filterMap_append,hr]
   apply Ko
   case h1=>exact U0 (Kj rfl (UL rfl) (OD hb.1 hb.2.1)) (UL rfl) (NQ (b:=some q.2))
   case h2=>
    intro hh;have hh:¬ws.getD q.1.toNat none=some q.2:=by simpa using hh
    have hpl:XZ [.int (cs.length:Nat),U5 (ws.getD q.1.toNat none)]=some (.int (plF cs.length (ws.getD q.1.toNat none))):=jG λt e=>by have:=hp.lo _ (pos _ t e).2;exact this.2.2.1
    refine Zx (Wa rfl (Yp (UP (Kg (UP (UL rfl) (UP (Kj rfl (UL rfl) (OD hb.1 hb.2.1)) UU)) rfl hpl) (UP (UL rfl) (UP (U0 (UL rfl) (Wl rfl (UL rfl) rfl (show oIx _ (.int q.1)=some (.int (Z6 V ws qs q.1.toNat))from by have:=LG (m:=ws.length) (h:=Z6 V ws qs) (j:=q.1.toNat) (by omega);rw[show((q.1.toNat:Nat):Int)=q.1 by omega]at this;exact this)) Yt) (UP (UL rfl) UU)))) (Qa rfl)) rfl hsz rfl) (KZ ⟨some (.pub (.int q.1)),some (.pub (.int q.2)),some (.pub (.int (V q.1 q.2))),?_⟩);have er:K5 cs.length (US V) [q] ws=[⟨plF cs.length (ws.getD q.1.toNat none),q.2.toNat,US V q-Kc (US V) q.1.toNat (ws.getD q.1.toNat none),some q.1.toNat⟩]:=by unfold K5;rw[Jn,Qp hh];rfl
    rw[e2 _ er,←Q9,QE (l₂:=[_])];show _=[_,_,_,_,_,_,_,some (Sl.own (_++[PyData.tuple [_,.int ((q.2.toNat:Nat):Int),.int (US V q-Kc (US V) q.1.toNat (ws.getD q.1.toNat none)),.int ((q.1.toNat:Nat):Int)]]))];rw[show((q.2.toNat:Nat):Int)=q.2 by omega,show((q.1.toNat:Nat):Int)=q.1 by omega,←hadE];rfl
   case h3=>
    intro hh;have hh:ws.getD q.1.toNat none=some q.2:=by simpa using hh
    refine Ky (KZ ⟨some (.pub (.int q.1)),some (.pub (.int q.2)),some (.pub (.int (V q.1 q.2))),?_⟩);have er:K5 cs.length (US V) [q] ws=[]:=by unfold K5;rw[List.filterMap_cons,if_neg (by rw[hh];simp)];rfl
    rw[e2 _ er,Jc];rfl
  case hend=>rintro Z ⟨x4,x5,x6,rfl⟩;rw[hth];exact Kp (Kv (Yu rfl rfl) rfl)
end
section
variable{cs:List Int}{ls:L3}{ws:LO}{V:Int->Int->Int}{qs:LP}
theorem BA(g:Good cs ls)(hm:ws.length=ls.length):W0 [U7 cs ls,Ke ws]=some (.list ((ZV cs ws++ZU cs.length).map Ka)):=by
 refine KS (Z:=[some (.pub (U7 cs ls)),some (.pub (Ke ws)),none,none,none]) rfl ?_;unfold TL;have c6:=g.c6;have hlc:U8 [.list (cs.map int)]=some (.int cs.length):=by rw[K2,Qb]
 refine Kf (Kx (K9 (UP (Kj rfl UR XF) UU) hlc) (Qa rfl) rfl) ?_;refine Kf (Kx (Kg (UP (UL rfl) (UP (UL rfl) UU)) rfl (km g)) (Qa rfl) rfl) ?_;have hll:(Yo cs ws).length=cs.length:=by unfold Yo;rw[Qb,Qu]
 have hc:KY (gT 2 (gNC (gN 5) (gNC (gN 6) (gN0)))) (K6 (oIB λi j=>decide (j<i)) 6 (UO (.int 0))) (Kw (UM (UB 5) (UM (UB 2) (UM (UO (.int 0)) (UM (UO .none) (UI)))))) (Z7 0 ((Yo cs ws).map int)) (Kl [some (.pub (U7 cs ls)),some (.pub (Ke ws)),some (.pub (.int cs.length)),some (.pub (.list ((Yo cs ws).map int))),none]++Ux 2 none) []=some ((ZV cs ws).map Ka):=by
  have em:(ZV cs ws).map Ka=((Uw cs.length).map λt=>(if 0<cs.getD t 0-((ws.count (some (t:Int)):Nat):Int)then some (Ka ⟨t,cs.length,0,none⟩)else none:Option D)).filterMap id:=by
   unfold ZV;rw[List.map_filterMap,List.filterMap_map]
   congr 1
   funext i;dsimp only[Function.comp,id]
   split<;>rfl
  rw[em];refine Pp (λZ=>∃x y,Z=[some (.pub (U7 cs ls)),some (.pub (Ke ws)),some (.pub (.int cs.length)),some (.pub (.list ((Yo cs ws).map int))),none,x,y]) _ _ _ _ (by rw[Qb,Qu,YC,Qb,hll]) ?_ ⟨none,none,rfl⟩ (by rw[YC,Qb,hll,QC];omega);rintro i d e hd he Z ⟨x,y,rfl⟩;obtain⟨z,hz,rfl⟩:=Y8 hd;rw[Qe]at hz
  have hil:i<cs.length:=by
   rw[←hll];cases hw:(Yo cs ws)[i]? with
   |none=>rw[hw]at hz;cases hz
   |some v=>exact(Qg.mp hw).1
  have hlv:(Yo cs ws)[i]?=some (cs.getD i 0-((ws.count (some (i:Int)):Nat):Int)):=by unfold Yo;rw[Qe,QS hil];rfl
  rw[hlv]at hz;cases hz;rw[Qe,QS hil]at he;cases he;rw[QY];refine⟨_,Kz rfl (U2 (UT (Qa rfl) rfl) (U2 (UT (Qa rfl) rfl) KB)),?_,?_,_,_,rfl⟩
  ·have e:(if 0<cs.getD i 0-((ws.count (some (i:Int)):Nat):Int)then some (Ka ⟨i,cs.length,0,none⟩)else none:Option D).isSome=decide (0<cs.getD i 0-((ws.count (some (i:Int)):Nat):Int)):=by
    by_cases h:0<cs.getD i 0-((ws.count (some (i:Int)):Nat):Int)
    ·rw[Qp h,Q5 h];rfl
    ·rw[QB h,QG h];rfl
   rw[e];exact ZB rfl UR rfl
  ·intro v hv;dsimp only at hv;split at hv
   ·cases hv;exact Yp (UP (UL rfl) (UP (UL rfl) (UP UR (UP UR UU)))) (Qa rfl)
   ·cases hv
 refine Kf (Yd (ZT (Xy (UP (UL rfl) UU) XI) hc) (Qa rfl) rfl) ?_;have hrl:(ZP 0 (cs.length:Int)).length=cs.length:=by rw[YW];omega
 have hc2:∀x4:Option Sl,KY (gN 5) (UO true) (Kw (UM (UB 2) (UM (UB 5) (UM (UO (.int 0)) (UM (UO .none) (UI)))))) (ZP 0 (cs.length:Int)) (Kl [some (.pub (U7 cs ls)),some (.pub (Ke ws)),some (.pub (.int cs.length)),some (.pub (.list ((Yo cs ws).map int))),x4]++Ux 1 none) []=some ((ZU cs.length).map Ka):=λx4=>by refine YS (λZ=>∃z x,Z=[some (.pub (U7 cs ls)),some (.pub (Ke ws)),some (.pub (.int cs.length)),some (.pub (.list ((Yo cs ws).map int))),z,x]) _ _ _ _ (by unfold ZU;rw[Qb,Qb,Qu,hrl]) ?_ ⟨_,none,rfl⟩ (by rw[hrl,QC];omega);rintro i d e hd he Z ⟨z,x,rfl⟩;obtain⟨rfl,hlt⟩:=Wc hd;unfold ZU at he;rw[Qe,Qe,QS (by omega)]at he;cases he;rw[JT];exact⟨_,UT (Qa rfl) rfl,rfl,Yp (UP (UL rfl) (UP (UL rfl) (UP UR (UP UR UU)))) (Qa rfl),_,_,rfl⟩
 have h1:(ZV cs ws).length<=cs.length:=by unfold ZV;have:=Jf (λt=>if 0<cs.getD t 0-((ws.count (some (t:Int)):Nat):Int)then some (⟨t,cs.length,0,none⟩:Stp)else none) (Uw cs.length);rw[Qu]at this;exact this
 have h2:(ZU cs.length).length=cs.length:=by unfold ZU;rw[Qb,Qu]
 refine Kv (U0 (Yu rfl rfl) (KF (ZT (Xz (UP (UL rfl) UU) (Xv (by omega) (by omega))) (hc2 _))) (Xw (by rw[Qb,Qb];omega))) ?_;rw[QE]
theorem Gv(g:Good cs ls)(hm:ws.length=ls.length)(hp:ZR cs.length ws.length qs)(hd:Zh cs qs ws.length ws)(hq1:qs.length<=1000):Y6 [U7 cs ls,.list (qs.map (Zb V)),Ke ws]=some (.list ((Yn cs (US V) qs ws).map Ka)):=by
 refine KS (Z:=[some (.pub (U7 cs ls)),some (.pub (.list (qs.map (Zb V)))),some (.pub (Ke ws))]) rfl ?_;unfold TK;have c6:=g.c6;have l7:=g.l7;have hlc:U8 [.list (cs.map int)]=some (.int (cs.length:Nat)):=by rw[K2,Qb]
 have h1:(Zj cs.length (US V) ws).length<=ws.length:=by unfold Zj;have:=Jf (λi=>match ws.getD i none with|none=>none|some t=>some (⟨t.toNat,cs.length, -(Kc (US V) i (some t)),some i⟩:Stp)) (Uw ws.length);rw[Qu]at this;exact this
 have h2:(K5 cs.length (US V) qs ws).length<=qs.length:=by unfold K5;exact Jf _ _
 have h3:(ZV cs ws).length<=cs.length:=by unfold ZV;have:=Jf (λt=>if 0<cs.getD t 0-((ws.count (some (t:Int)):Nat):Int)then some (⟨t,cs.length,0,none⟩:Stp)else none) (Uw cs.length);rw[Qu]at this;exact this
 have h4:(ZU cs.length).length=cs.length:=by unfold ZU;rw[Qb,Qu]
 refine Kv (U0 (Kg (UP (K9 (UP (Kj rfl UR XF) UU) hlc) (UP (UL rfl) (UP (UL rfl) UU))) rfl (BB hp hd (by omega) hq1)) (Kg (UP (UL rfl) (UP (UL rfl) UU)) rfl (BA g hm)) (Xw (by rw[Qb,Qb,Qj,Qj];omega))) ?_;unfold Yn;rw[QE (l₁:=Zj cs.length (US V) ws++K5 cs.length (US V) qs ws)]
theorem VE{m:Nat}{f:Int×Int->Int}(hp:ZR cs.length m qs)(hd:Zh cs qs m ws):∀s∈Yn cs f qs ws,IsSt cs f qs ws s:=λs hs=>by
 have gt:∀{i:Nat}{o:Option Int},i<ws.length->ws.getD i none=o->ws[i]?=some o:=λ{i o} hi e=>by rw[Qn,Qf hi]at e;rw[Qf hi];exact congrArg some e
 unfold Yn at hs;rcases QR.mp hs with hs|hs
 ·rcases QR.mp hs with hs|hs
  ·unfold Zj at hs;obtain⟨i,hi,e⟩:=Jm.mp hs;have hi:=Q7.mp hi;cases hw:ws.getD i none with
   |none=>rw[hw]at e;cases e
   |some t=>
    rw[hw]at e;have e:=QQ e;subst e;have:=IsSt.mv (cs:=cs) (f:=f) (qs:=qs) (gt hi hw) (o':=none) (by intro z;cases z) (λt e=>by cases e);have e2:Kc f i none-Kc f i (some t) = -(Kc f i (some t)):=by show 0-_=_;omega
    rw[e2]at this;exact this
  ·unfold K5 at hs;obtain⟨q,hq,e⟩:=Jm.mp hs;have hb:=hp.lo q hq;split at e
   ·rename_i hne;have e:=QQ e;subst e;have hi:q.1.toNat<ws.length:=by rw[hd.len];omega
    have ei:((q.1.toNat:Nat):Int)=q.1:=by omega
    have:=IsSt.mv (cs:=cs) (f:=f) (qs:=qs) (gt hi rfl) (o':=some q.2) (λz=>hne z.symm) (λt e=>by cases e;rw[ei];exact hq);have e2:Kc f q.1.toNat (some q.2)=f q:=by show f (((q.1.toNat:Nat):Int),q.2)=_;rw[ei]
    rw[e2]at this;exact this
   ·cases e
 ·rcases QR.mp hs with hs|hs
  ·unfold ZV at hs;obtain⟨t,ht,e⟩:=Jm.mp hs;have ht:=Q7.mp ht;split at e
   ·rename_i hl;have e:=QQ e;subst e;exact .left (c:=cs.getD t 0) (by rw[Qn,Qf ht];rfl) (by omega)
   ·cases e
  ·unfold ZU at hs;obtain⟨t,ht,rfl⟩:=Qs.mp hs;exact .give (Q7.mp ht)
theorem Hx{m:Nat}{f:Int×Int->Int}(hp:ZR cs.length m qs)(hd:Zh cs qs m ws):∀s,IsSt cs f qs ws s->s∈Yn cs f qs ws:=λs hs=>by
 unfold Yn;cases hs with
 |@mv i o o' h hne hq=>
  have hi:i<ws.length:=(Qg.mp h).1;have hg:=LF h;refine Q8 _ ?_;cases o' with
  |none=>
   refine Q8 _ ?_;cases o with
   |none=>exact absurd rfl hne
   |some t=>unfold Zj;refine Jm.mpr ⟨i,Q7.mpr hi,?_⟩;rw[hg];show some (⟨t.toNat,cs.length, -(Kc f i (some t)),some i⟩:Stp)=some ⟨t.toNat,cs.length,0-Kc f i (some t),some i⟩;rw[show(0:Int)-Kc f i (some t) = -(Kc f i (some t))by omega]
  |some t=>refine QK _ ?_;have hqt:=hq t rfl;have hb:=hp.lo _ hqt;unfold K5;refine Jm.mpr ⟨((i:Int),t),hqt,?_⟩;dsimp only;rw[Qt,hg,Qp (λz=>hne z.symm)];rfl
 |@left t c h hl=>
  refine QK _ (Q8 _ ?_);have ht:t<cs.length:=(Qg.mp h).1;unfold ZV;refine Jm.mpr ⟨t,Q7.mpr ht,?_⟩;have e:cs.getD t 0=c:=by rw[Qn,h];rfl
  rw[e,Qp (by omega)]
 |@give t h=>refine QK _ (QK _ ?_);unfold ZU;exact Qs.mpr ⟨t,Q7.mpr h,rfl⟩
end
theorem Ml{W:Tab}{p:Nat}(h:p<W.length):oIx (.list (W.map ZQ)) (.int (p:Int))=some (ZQ (ent W p)):=by refine KU ?_;unfold ent;rw[Qe,Qn,Qf h];rfl
theorem Bz{W:Tab}{S:List Stp}(hS:∀s∈S,s.a<W.length/\s.b<W.length)(hW:∀p,(ent W p).2.length<=1000)(hl:W.length<=1000):WZ [.list (W.map ZQ),.list (S.map Ka)]=some (.list ((Pb W S).map ZQ)):=by
 refine KS (Z:=[some (.pub (.list (W.map ZQ))),some (.pub (.list (S.map Ka))),none,none,none,none,none,none,none,none]) rfl ?_;unfold TJ;refine Kf (Yd (Pl rfl (show Xd [.list (W.map ZQ)]=some (W.map ZQ)from rfl)) (Qa rfl) rfl) ?_;apply Kr;apply Zr (λk Z=>∃x3 x4 x5 x6 x7 x8 x9,Z=[some (.pub (.list (W.map ZQ))),some (.pub (.list (S.map Ka))),some (.own (((S.take k).foldl (Yr W) W).map ZQ)),x3,x4,x5,x6,x7,x8,x9])
 case h1=>exact Zl (UL rfl) ZK
 case h0=>exact⟨_,_,_,_,_,_,_,rfl⟩
 case hst=>
  rintro k d Z hk ⟨x3,x4,x5,x6,x7,x8,x9,rfl⟩;rw[Qe]at hk;cases hq:S[k]? with
  |none=>rw[hq]at hk;cases hk
  |some s=>
  rw[hq]at hk;cases hk;have hs:=hS s (Qo hq);have hta:S.take (k+1)=S.take k++[s]:=by rw[JJ,hq];rfl
  have hfl:(S.take (k+1)).foldl (Yr W) W=Yr W ((S.take k).foldl (Yr W) W) s:=by rw[hta,List.foldl_append];rfl
  have hTl:∀(R:List Stp)(T:Tab),(R.foldl (Yr W) T).length=T.length:=λR=>by
   induction R with
   |nil=>intro T;rfl
   |cons x R ih=>intro T;rw[JH,ih,BE]
  generalize hT:(S.take k).foldl (Yr W) W=T at hfl⊢;have hTlen:T.length=W.length:=by rw[←hT,hTl]
  refine⟨_,UT (Qa rfl) rfl,?_⟩;unfold MU;refine Kf (Vr (UL rfl) (Kz rfl (U2 (UT (Qa rfl) rfl) (U2 (UT (Qa rfl) rfl) (U2 (UT (Qa rfl) rfl) (U2 (UT (Qa rfl) rfl) KB)))))) ?_;refine Kf (Vr (Kj rfl (UL rfl) (Ml hs.1)) (Kz rfl (U2 (UT (Qa rfl) rfl) (U2 (UT (Qa rfl) rfl) KB)))) ?_;have i0:oIx (ZQ (ent T s.b)) (.int 0)=some (.int (ent T s.b).1):=KU (j:=0) rfl;apply Ko
  case h1=>exact U0 (U0 (UL rfl) (UL rfl) K0) (U0 (Wl rfl (UL rfl) rfl (Ml (by rw[hTlen];exact hs.2))) UR i0) rfl
  case h2=>
   intro hh;have hh:(ent T s.b).1<(ent W s.a).1+s.g:=Qa hh;have hadd:U1 (.list ((ent W s.a).2.map Ka)) (.list [Ka s])=some (.list (((ent W s.a).2++[s]).map Ka)):=by rw[Xw (by rw[Qb];have:=hW s.a;show _+1<=_;omega),QE];rfl
   refine Zx (SK (Yp (UP (U0 (UL rfl) (UL rfl) K0) (UP (U0 (UL rfl) (ZC (UP (UL rfl) UU) (Qa rfl)) hadd) UU)) (Qa rfl)) rfl (UL rfl) rfl ⟨Int.natCast_nonneg _,by rw[Qb,hTlen];have:=hs.2;omega⟩ rfl) (KZ ⟨some (.pub (Ka s)),some (.pub (.int s.a)),some (.pub (.int s.b)),some (.pub (.int s.g)),some (.pub (Y1 s.w)),some (.pub (.int (ent W s.a).1)),some (.pub (.list ((ent W s.a).2.map Ka))),?_⟩);rw[hfl];unfold Yr;rw[Qp hh,List.map_set];show [_,_,some (Sl.own ((T.map ZQ).set ((s.b:Int)).toNat _)),_,_,_,_,_,_,_]=_;rw[Qt];rfl
  case h3=>intro hh;have hh:¬(ent T s.b).1<(ent W s.a).1+s.g:=Je hh;refine Ky (KZ ⟨some (.pub (Ka s)),some (.pub (.int s.a)),some (.pub (.int s.b)),some (.pub (.int s.g)),some (.pub (Y1 s.w)),some (.pub (.int (ent W s.a).1)),some (.pub (.list ((ent W s.a).2.map Ka))),?_⟩);rw[hfl];unfold Yr;rw[QB hh];rfl
 case hend=>rintro Z ⟨x3,x4,x5,x6,x7,x8,x9,rfl⟩;refine Kp (Kv (Yu rfl rfl) ?_);rw[Qb,Jy];rfl
theorem Hw{n:Nat}{S:List Stp}(hS:∀s∈S,s.a<n/\s.b<n)(hn:n<=100):Xr [.int (n:Nat),.list (S.map Ka)]=some (.list ((KO n S n).map ZQ)):=by
 refine KS (Z:=[some (.pub (.int (n:Nat))),some (.pub (.list (S.map Ka))),none,none]) rfl ?_;unfold TH;have hmul:Ki (.list [.tuple [.int 0,.list []]]) (.int (n:Nat))=some (.list ((KO n S 0).map ZQ)):=by rw[Pd (by omega)];unfold KO;rw[JF];rfl
 refine Kf (Kx (U0 (ZC (UP (Yp (UP UR (UP (ZC UU (Qa rfl)) UU)) (Qa rfl)) UU) (Qa rfl)) (UL rfl) hmul) (Qa rfl) rfl) ?_;apply Kr;apply Zr (λk Z=>k<=n/\∃x3,Z=[some (.pub (.int (n:Nat))),some (.pub (.list (S.map Ka))),some (.pub (.list ((KO n S k).map ZQ))),x3])
 case h1=>exact Xz (UP (UL rfl) UU) (Xv (by omega) (by omega))
 case h0=>exact⟨JI _,_,rfl⟩
 case hst=>rintro k d Z hk ⟨_,x3,rfl⟩;obtain⟨rfl,hlt⟩:=Wc hk;refine⟨_,UT (Qa rfl) rfl,?_⟩;unfold MT;have hl:=SZ hS k;have hlo:=Bz (W:=KO n S k) (S:=S) (by rw[hl];exact hS) (λp=>QT ((RJ hS k).1 p) (by omega)) (by rw[hl];omega);exact Zx (Kx (Kg (UP (UL rfl) (UP (UL rfl) UU)) rfl hlo) (Qa rfl) rfl) (KZ ⟨by omega,_,rfl⟩)
 case hend=>rintro Z ⟨_,x3,rfl⟩;refine Kp (Kv (UL rfl) ?_);rw[YW,show((n:Int)-0).toNat=n by omega]
theorem Fh{xs:List D}{i j:Nat}(hij:i<=j)(hj:j<=xs.length):DL.cutD xs (some (i:Int)) (some (j:Int))=(xs.take j).drop i:=by unfold DL.cutD HT.sIx;dsimp only;rw[QB (by omega),QB (by omega),Qt,Qt,JQ hj,JQ (show i<=xs.length by omega),List.drop_take]
theorem kh{w:List Stp}(hl:w.length<=1000):∃d,WY [.list (w.map Ka)]=some d/\∃r,d=.list (r.map Ka)/\((Mm w/\r=[]) ∨ ∃i j,Op w i j/\r=(w.take (j+1)).drop i):=by
 refine X9 (Z:=[some (.pub (.list (w.map Ka))),none,none,none]) rfl ?_;unfold TF;apply Kr;apply Zr (λk Z=>(∃x1 x2 x3,Z=[some (.pub (.list (w.map Ka))),x1,x2,x3])/\∀j'<k,∀i' ≤ j',∀s t,w[i']?=some s->w[j']?=some t->s.a≠t.b)
 case h1=>exact Xy (UP (UL rfl) UU) XI
 case h0=>exact⟨⟨_,_,_,rfl⟩,λj' h=>absurd h (J6 _)⟩
 case hst=>
  rintro k d Z hk ⟨⟨x1,x2,x3,rfl⟩,hb⟩;obtain⟨z,hz,rfl⟩:=Y8 hk;rw[Qe]at hz;cases ht:w[k]? with
  |none=>rw[ht]at hz;cases hz
  |some t=>
  rw[ht]at hz;cases hz;have hkl:k<w.length:=(Qg.mp ht).1;rw[QY];refine⟨_,Kz rfl (U2 (UT (Qa rfl) rfl) (U2 (UT (Qa rfl) rfl) KB)),?_⟩;unfold MR;apply Zr (λl Z=>(∃x3,Z=[some (.pub (.list (w.map Ka))),some (.pub (.int (k:Nat))),some (.pub (Ka t)),x3])/\∀i'<l,∀s,w[i']?=some s->s.a≠t.b)
  case h1=>exact Xz (UP (U0 (UL rfl) UR K0) UU) (Xv (by omega) (by omega))
  case h0=>exact⟨⟨_,rfl⟩,λi' h=>absurd h (J6 _)⟩
  case hst=>
   rintro l d Z hl2 ⟨⟨x3,rfl⟩,hc⟩;obtain⟨rfl,hlt⟩:=Wc hl2;have hlk:l<=k:=by omega
   obtain⟨s,hs⟩:∃s,w[l]?=some s:=⟨_,Qf (by omega)⟩
   refine⟨_,UT (Qa rfl) rfl,?_⟩;have zl:(0:Int)+(l:Int)=l:=by omega
   rw[zl];unfold MS;have il:oIx (.list (w.map Ka)) (.int (l:Int))=some (Ka s):=KU (by rw[Qe,hs];rfl);have i0:oIx (Ka s) (.int 0)=some (.int s.a):=KU (j:=0) rfl;have i1:oIx (Ka t) (.int 1)=some (.int t.b):=KU (j:=1) rfl;apply Ko
   case h1=>exact U0 (U0 (Kj rfl (UL rfl) il) UR i0) (Kj rfl UR i1) Xx
   case h2=>
    intro hh;have hh:(s.a:Int)=(t.b:Int):=Qa hh;have hcut:YK (.list (w.map Ka)) (some (l:Int)) (some ((k:Int)+1))=some (.list (((w.take (k+1)).drop l).map Ka)):=by rw[Wr,show((k:Int)+1)=((k+1:Nat):Int)by omega,Fh (by omega) (by rw[Qb];omega),List.map_drop,Ue]
    refine Kv (Wk (UL rfl) (YV (UL rfl)) (YV (U0 (UL rfl) UR K0)) hcut) (RH (RH (Ws ⟨_,rfl,_,rfl,.inr ⟨l,k,⟨hlk,hkl,λs' t' e1 e2=>?_,hb⟩,rfl⟩⟩)));rw[hs]at e1;rw[ht]at e2;cases e1;cases e2;omega
   case h3=>
    intro hh;have hh:¬(s.a:Int)=(t.b:Int):=Je hh;refine Ky (KZ ⟨⟨_,rfl⟩,λi' hi' s' e=>?_⟩);rcases JU.mp hi' with hi'|rfl
    ·exact hc i' hi' s' e
    ·rw[hs]at e;cases e;omega
  case hend=>
   rintro Z ⟨⟨x3,rfl⟩,hc⟩;refine KZ ⟨⟨_,_,_,rfl⟩,λj' hj' i' hi' s' t' e1 e2=>?_⟩;rcases JU.mp hj' with hj'|rfl
   ·exact hb j' hj' i' hi' s' t' e1 e2
   ·rw[ht]at e2;cases e2;exact hc i' (by rw[YW];omega) s' e1
 case hend=>rintro Z ⟨⟨x1,x2,x3,rfl⟩,hb⟩;refine Kp (Kv (ZC UU (Qa rfl)) ⟨_,rfl,[],rfl,.inl ⟨λj hj=>hb j (by rw[YC,Qb];exact hj),rfl⟩⟩)
noncomputable def Z9(n:Nat)(s:Stp):Option (Nat×Option Int):=s.w.map λi=>(i,Zi n s.b)
noncomputable def Kn(p:Nat×Option Int):D:=.tuple [.int (p.1:Nat),U5 p.2]
noncomputable def rot(b:Nat)(r:List Stp):List Stp:=r.drop b++r.take b
theorem OK(b:Nat)(r:List Stp):(rot b r).Perm r:=by unfold rot;have:=List.perm_append_comm (l₁:=r.drop b) (l₂:=r.take b);rw[JK]at this;exact this
theorem jS{n:Nat}{r:List Stp}(hl:r.length<=1000):∃b,b<=r.length/\((∃s,r[b]?=some s/\s.a=n)∨(b=0/\∀s∈r,s.a≠n))/\XY [.int (n:Nat),.list (r.map Ka)]=some (.list (((rot b r).filterMap (Z9 n)).map Kn)):=by
 have key:∃d,XY [.int (n:Nat),.list (r.map Ka)]=some d/\∃b,b<=r.length/\((∃s,r[b]?=some s/\s.a=n)∨(b=0/\∀s∈r,s.a≠n))/\d=.list (((rot b r).filterMap (Z9 n)).map Kn):=by
  refine X9 (Z:=[some (.pub (.int (n:Nat))),some (.pub (.list (r.map Ka))),none,none,none,none,none,none,none,none]) rfl ?_;unfold TD;refine Kf (Kx UR (Qa rfl) rfl) ?_;apply Kr;apply Zr (λk Z=>∃(b:Nat)(x3 x4:Option Sl),Z=[some (.pub (.int (n:Nat))),some (.pub (.list (r.map Ka))),some (.pub (.int (b:Nat))),x3,x4,none,none,none,none,none]/\b<=r.length/\((∃s,r[b]?=some s/\s.a=n)∨(b=0/\∀s∈r.take k,s.a≠n)))
  case h1=>exact Xy (UP (UL rfl) UU) XI
  case h0=>exact⟨0,_,_,rfl,JI _,.inr ⟨rfl,λs h=>by rw[J9]at h;cases h⟩⟩
  case hst=>
   rintro k d Z hk ⟨b,x3,x4,rfl,hbl,hb⟩;obtain⟨z,hz,rfl⟩:=Y8 hk;rw[Qe]at hz;cases ht:r[k]? with
   |none=>rw[ht]at hz;cases hz
   |some t=>
   rw[ht]at hz;cases hz;have hkl:k<r.length:=(Qg.mp ht).1;rw[QY];refine⟨_,Kz rfl (U2 (UT (Qa rfl) rfl) (U2 (UT (Qa rfl) rfl) KB)),?_⟩;unfold MP;have i0:oIx (Ka t) (.int 0)=some (.int t.a):=KU (j:=0) rfl;apply Ko
   case h1=>exact U0 (Kj rfl UR i0) (UL rfl) Xx
   case h2=>intro hh;have hh:(t.a:Int)=(n:Int):=Qa hh;exact Zx (Kx (UL rfl) (Qa rfl) rfl) (KZ ⟨k,_,_,rfl,by omega,.inl ⟨t,ht,by omega⟩⟩)
   case h3=>
    intro hh;have hh:¬(t.a:Int)=(n:Int):=Je hh;refine Ky (KZ ⟨b,_,_,rfl,hbl,?_⟩);rcases hb with hb|⟨hb,hc⟩
    ·exact .inl hb
    ·refine .inr ⟨hb,λs hs=>?_⟩;rw[JJ,ht]at hs;rcases QR.mp hs with hs|hs
     ·exact hc s hs
     ·rw[QZ.mp hs];omega
  case hend=>
   rintro Z ⟨b,x3,x4,rfl,hbl,hb⟩;refine Kp ?_;have hb':(∃s,r[b]?=some s/\s.a=n)∨(b=0/\∀s∈r,s.a≠n):=by rw[YC,Qb,Jy]at hb;exact hb
   refine Kf (Yd (Vy UU (Qa rfl)) (Qa rfl) rfl) ?_;have c1:YK (.list (r.map Ka)) (some (b:Int)) none=some (.list ((r.drop b).map Ka)):=by rw[Wr,CJ (by rw[Qb];exact hbl),List.map_drop]
   have c2:YK (.list (r.map Ka)) none (some (b:Int))=some (.list ((r.take b).map Ka)):=by rw[Wr,Fm (by rw[Qb];exact hbl),Ue]
   have c3:U1 (.list ((r.drop b).map Ka)) (.list ((r.take b).map Ka))=some (.list ((rot b r).map Ka)):=by rw[Xw (by rw[Qb,Qb,Jj,QO];omega)];unfold rot;rw[QE]
   apply Kr;apply Zr (λk Z=>∃x6 x7 x8 x9,Z=[some (.pub (.int (n:Nat))),some (.pub (.list (r.map Ka))),some (.pub (.int (b:Nat))),x3,x4,some (.own ((((rot b r).take k).filterMap (Z9 n)).map Kn)),x6,x7,x8,x9])
   case h1=>exact Zl (U0 (Wk (UL rfl) (YV (UL rfl)) UR c1) (Wk (UL rfl) UR (YV (UL rfl)) c2) c3) ZK
   case h0=>exact⟨_,_,_,_,rfl⟩
   case hst=>
    rintro k d Z hk ⟨x6,x7,x8,x9,rfl⟩;rw[Qe]at hk;cases hq:(rot b r)[k]? with
    |none=>rw[hq]at hk;cases hk
    |some s=>
    rw[hq]at hk;cases hk;have hkl:k<(rot b r).length:=(Qg.mp hq).1;have hrl:(rot b r).length=r.length:=(OK b r).length_eq;have hta:(rot b r).take (k+1)=(rot b r).take k++[s]:=by rw[JJ,hq];rfl
    refine⟨_,Kz rfl (U2 (UT (Qa rfl) rfl) (U2 (UT (Qa rfl) rfl) (U2 (UT (Qa rfl) rfl) (U2 (UT (Qa rfl) rfl) KB)))),?_⟩;unfold MQ;have hsz:((((rot b r).take k).filterMap (Z9 n)).map Kn).length<1000000:=by rw[Qb];have:=Jf (Z9 n) ((rot b r).take k);rw[QO]at this;omega
    cases hw:s.w with
    |none=>
     apply Ko
     case h1=>exact KF (k:=λd=>!isNon d) (x:=Y1 none) (UL rfl)
     case h2=>intro hh;cases hh
     case h3=>
      intro _;refine Ky (KZ ⟨some (.pub (.int s.a)),some (.pub (.int s.b)),some (.pub (.int s.g)),some (.pub (Y1 none)),?_⟩);rw[hta,List.filterMap_append];have:[s].filterMap (Z9 n)=[]:=by unfold Z9;rw[Jn,hw];rfl
      rw[this,Jc];rfl
    |some i=>
     apply Ko
     case h1=>exact KF (k:=λd=>!isNon d) (x:=Y1 (some i)) (UL rfl)
     case h3=>intro hh;cases hh
     case h2=>
      intro _
      have htest:∀Z:UH,Z[7]?=some (some (.pub (.int (s.b:Int))))->Z[0]?=some (some (.pub (.int (n:Int))))->mIf (K6 oEq 7 (UB 0)) (UO .none) (UB 7) Z=.ok (U5 (Zi n s.b)) Z:=λZ h7 h0=>by
       unfold Zi;by_cases z:s.b=n
       ·rw[Qp z];exact N8 (ZB h7 (UL h0) (by rw[Xx,Q5 (by rw[z])])) UR
       ·rw[QB z];exact P7 (ZB h7 (UL h0) (by rw[Xx,QG (by omega)])) (UL h7)
      refine Zx (Wa rfl (Yp (UP (UL rfl) (UP (htest _ rfl rfl) UU)) (Qa rfl)) rfl hsz rfl) (KZ ⟨some (.pub (.int s.a)),some (.pub (.int s.b)),some (.pub (.int s.g)),some (.pub (Y1 (some i))),?_⟩);rw[hta,List.filterMap_append];have:[s].filterMap (Z9 n)=[(i,Zi n s.b)]:=by unfold Z9;rw[Jn,hw];rfl
      rw[this,QE];rfl
   case hend=>rintro Z ⟨x6,x7,x8,x9,rfl⟩;refine Kp (Kv (Yu rfl rfl) ⟨_,rfl,b,hbl,hb',?_⟩);rw[Qb,Jy]
 obtain⟨d,e,b,h1,h2,rfl⟩:=key;exact⟨b,h1,h2,e⟩
theorem O3(n:Nat):∀(R:List Stp)(d:LO),(R.filterMap (Z9 n)).foldl (λd p=>d.set p.1 p.2) d=R.foldl (app n) d
 |[],d=>rfl
 |s::R,d=>by
  rw[JH,Jn];unfold Z9 app;cases s.w with
  |none=>exact O3 n R d
  |some i=>exact O3 n R (d.set i (Zi n s.b))
theorem By{ws:LO}{tk:List (Nat×Option Int)}(h:∀p∈tk,p.1<ws.length):W2 [Ke ws,.list (tk.map Kn)]=some (Ke (tk.foldl (λd p=>d.set p.1 p.2) ws)):=by
 refine KS (Z:=[some (.pub (Ke ws)),some (.pub (.list (tk.map Kn))),none,none,none]) rfl ?_;unfold TQ;refine Kf (Yd (Pl rfl (show Xd [Ke ws]=some (ws.map U5)from rfl)) (Qa rfl) rfl) ?_
 have hlen:∀(R:List (Nat×Option Int))(d:LO),(R.foldl (λd p=>d.set p.1 p.2) d).length=d.length:=λR=>by
  induction R with
  |nil=>intro d;rfl
  |cons p R ih=>intro d;rw[JH,ih,QX]
 apply Kr;apply Zr (λk Z=>∃x3 x4,Z=[some (.pub (Ke ws)),some (.pub (.list (tk.map Kn))),some (.own (((tk.take k).foldl (λd p=>d.set p.1 p.2) ws).map U5)),x3,x4])
 case h1=>exact Zl (UL rfl) ZK
 case h0=>exact⟨_,_,rfl⟩
 case hst=>
  rintro k d Z hk ⟨x3,x4,rfl⟩;rw[Qe]at hk;cases hq:tk[k]? with
  |none=>rw[hq]at hk;cases hk
  |some p=>
  rw[hq]at hk;cases hk;have hpl:=h p (Qo hq);have hta:tk.take (k+1)=tk.take k++[p]:=by rw[JJ,hq];rfl
  refine⟨_,Kz rfl (U2 (UT (Qa rfl) rfl) (U2 (UT (Qa rfl) rfl) KB)),?_⟩;unfold MK;refine Zx (SK (UL rfl) rfl (UL rfl) rfl ⟨Int.natCast_nonneg _,by rw[Qb,hlen];omega⟩ rfl) (KZ ⟨some (.pub (.int (p.1:Nat))),some (.pub (U5 p.2)),?_⟩);rw[hta,List.foldl_append];show [_,_,some (Sl.own ((((tk.take k).foldl (λd p=>d.set p.1 p.2) ws).map U5).set ((p.1:Int)).toNat (U5 p.2))),_,_]=[_,_,some (Sl.own ((((tk.take k).foldl (λd p=>d.set p.1 p.2) ws).set p.1 p.2).map U5)),_,_];rw[Qt,List.map_set]
 case hend=>rintro Z ⟨x3,x4,rfl⟩;refine Kp (Kv (Yu rfl rfl) ?_);rw[Qb,Jy];rfl
def Wi(cs:List Int)(f:Int×Int->Int)(qs:LP)(ws:LO):Prop:=∀p,p<cs.length+1->(ent (KO (cs.length+1) (Yn cs f qs ws) (cs.length+1)) p).2.length≠cs.length+1
structure VM(cs:List Int)(f:Int×Int->Int)(qs:LP)(ws:LO)(r:List Stp)(b:Nat):Prop where
 rnd:∃x,Path (Yn cs f qs ws) x r x
 nd:(r.map Stp.a).Nodup
 pos:0<Kk r
 bl:b<=r.length
 bat:(∃s,r[b]?=some s/\s.a=cs.length)∨(b=0/\∀s∈r,s.a≠cs.length)
noncomputable def K3(n b:Nat)(r:List Stp):List (Nat×Option Int):=(rot b r).filterMap (Z9 n)
theorem SN(s:Stp)(R:List Stp):Kk (s::R)=s.g+Kk R:=by show Kk ([s]++R)=_;rw[Wp,SS]
theorem Bx{u v:List Stp}(h:u.Perm v):Kk u=Kk v:=by
 induction h with
 |nil=>rfl
 |cons x _ ih=>rw[SN,SN,ih]
 |swap x y l=>rw[SN,SN,SN,SN];omega
 |trans _ _ ih1 ih2=>rw[ih1,ih2]
theorem Bw{R:List Stp}(h:∀s∈R,s.g=0):Kk R=0:=by
 induction R with
 |nil=>rfl
 |cons s R ih=>
  have e:Kk (s::R)=s.g+Kk R:=by show Kk ([s]++R)=_;rw[Wp,SS]
  rw[e,h s Qm,ih λx hx=>h x (Ql _ hx)];rfl
section
variable{cs:List Int}{ls:L3}{ws:LO}{V:Int->Int->Int}{qs:LP}{f:Int×Int->Int}{m:Nat}
theorem VM.does(hp:ZR cs.length m qs)(hd:Zh cs qs m ws){r:List Stp}{b:Nat}(h:VM cs f qs ws r b):Zh cs qs m ((K3 cs.length b r).foldl (λd p=>d.set p.1 p.2) ws)/\Km f 0 ((K3 cs.length b r).foldl (λd p=>d.set p.1 p.2) ws)=Km f 0 ws+Kk r/\K3 cs.length b r≠[]/\∀p∈K3 cs.length b r,p.1<ws.length:=by
 obtain⟨x,hx⟩:=h.rnd;have hin:∀s∈r,IsSt cs f qs ws s:=λs hs=>VE hp hd s (hx.mem s hs);have pr:=OK b r;have hinR:∀s∈rot b r,IsSt cs f qs ws s:=λs hs=>hin s (pr.mem_iff.mp hs);have ndR:((rot b r).map Stp.a).Nodup:=(pr.map Stp.a).nodup_iff.mpr h.nd;have pbR:((rot b r).map Stp.b).Perm ((rot b r).map Stp.a):=((pr.map Stp.b).trans (qJ hx)).trans (pr.map Stp.a).symm
 obtain⟨h1,h2⟩:=Bc hp hd hinR ndR pbR;unfold K3;rw[O3];refine⟨h1,by rw[h2,Bx pr],λz=>?_,λp hpm=>?_⟩
 ·have:Kk r=0:=Bw λs hs=>by
   have hw:Z9 cs.length s=none:=by have:=List.filterMap_eq_nil_iff.mp z s (pr.mem_iff.mpr hs);exact this
   cases hin s hs with
   |mv _ _ _=>cases hw
   |left _ _=>rfl
   |give _=>rfl
  have:=h.pos;omega
 ·obtain⟨s,hs,e⟩:=Jm.mp hpm;cases hinR s hs with
  |@mv i o o' hw _ _=>cases e;exact(Qg.mp hw).1
  |left _ _=>cases e
  |give _=>cases e
theorem Nc(g:Good cs ls)(hm:ws.length=ls.length)(hp:ZR cs.length ws.length qs)(hd:Zh cs qs ws.length ws)(hq1:qs.length<=500):∃d,Y5 [U7 cs ls,.list (qs.map (Zb V)),Ke ws]=some d/\((d=.list []/\Wi cs (US V) qs ws) ∨ ∃r b,d=.list ((K3 cs.length b r).map Kn)/\VM cs (US V) qs ws r b):=by
 refine X9 (Z:=[some (.pub (U7 cs ls)),some (.pub (.list (qs.map (Zb V)))),some (.pub (Ke ws)),none,none,none]) rfl ?_;unfold TC;have c6:=g.c6;have l7:=g.l7;have hlc:U8 [.list (cs.map int)]=some (.int cs.length):=by rw[K2,Qb]
 have hS:∀s∈Yn cs (US V) qs ws,s.a<cs.length+1/\s.b<cs.length+1:=λs hs=>(VE hp hd s hs).lt hp hd;have hwd:=Hw hS (by omega)
 have hsteps:=Gv (V:=V) g hm hp hd (by omega);refine Kf (Kx (K9 (UP (Kj rfl UR XF) UU) hlc) (Qa rfl) rfl) ?_;have hadd:U1 (.int (cs.length:Int)) (.int 1)=some (.int ((cs.length+1:Nat):Int)):=by rw[K0];rfl
 apply Kr;apply Zr (λk Z=>(∃x4 x5,Z=[some (.pub (U7 cs ls)),some (.pub (.list (qs.map (Zb V)))),some (.pub (Ke ws)),some (.pub (.int cs.length)),x4,x5])/\∀p<k,(ent (KO (cs.length+1) (Yn cs (US V) qs ws) (cs.length+1)) p).2.length≠cs.length+1)
 case h1=>exact Zl (Kg (UP (U0 (UL rfl) UR hadd) (UP (Kg (UP (UL rfl) (UP (UL rfl) (UP (UL rfl) UU))) rfl hsteps) UU)) rfl hwd) ZK
 case h0=>exact⟨⟨_,_,rfl⟩,λp h=>absurd h (J6 _)⟩
 case hst=>
  rintro k d Z hk ⟨⟨x4,x5,rfl⟩,hb⟩;rw[Qe]at hk;cases hq:(KO (cs.length+1) (Yn cs (US V) qs ws) (cs.length+1))[k]? with
  |none=>rw[hq]at hk;cases hk
  |some e=>
  rw[hq]at hk;cases hk;have he:ent (KO (cs.length+1) (Yn cs (US V) qs ws) (cs.length+1)) k=e:=by unfold ent;rw[Qn,hq];rfl
  refine⟨_,Kz rfl (U2 (UT (Qa rfl) rfl) (U2 (UT (Qa rfl) rfl) KB)),?_⟩;unfold MN;have hlw:U8 [.list (e.2.map Ka)]=some (.int e.2.length):=by rw[K2,Qb]
  apply Ko
  case h1=>exact U0 (Zq rfl hlw) (U0 (UL rfl) UR hadd) Xx
  case h2=>
   intro hh;have hh:((e.2.length:Nat):Int)=((cs.length+1:Nat):Int):=Qa hh;have hlen:e.2.length=cs.length+1:=by omega
   obtain⟨d,hrw,r,rfl,hr⟩:=kh (w:=e.2) (by omega);have hwk:=SO hS (cs.length+1) k;rw[he]at hwk;obtain⟨q,hpath⟩:=hwk.1.path;rcases hr with ⟨hno,rfl⟩|⟨i,j,hra,rfl⟩
   ·exact absurd hno (Bd hS hpath (by omega) (Ui _))
   ·have hlr:((e.2.take (j+1)).drop i).length<=1000:=by rw[Jj,QO];omega
    obtain⟨b,hbl,hbat,hway⟩:=jS (n:=cs.length) hlr;have hrg:=qK hS (Ui _) (p:=k) (by rw[he];exact hlen) (by rw[he];exact hra);rw[he]at hrg;obtain⟨x,hx,hgp⟩:=hrg;exact Kv (Kg (UP (UL rfl) (UP (Kg (UP (UL rfl) UU) rfl hrw) UU)) rfl hway) (RH (Ws ⟨_,rfl,.inr ⟨_,b,rfl,⟨⟨x,hx⟩,jH hpath hra,hgp,hbl,hbat⟩⟩⟩))
  case h3=>
   intro hh;have hh:¬((e.2.length:Nat):Int)=((cs.length+1:Nat):Int):=Je hh;refine Ky (KZ ⟨⟨_,_,rfl⟩,λp hpk=>?_⟩);rcases JU.mp hpk with hpk|rfl
   ·exact hb p hpk
   ·rw[he];omega
 case hend=>rintro Z ⟨⟨x4,x5,rfl⟩,hb⟩;refine Kp (Kv (ZC UU (Qa rfl)) ⟨_,rfl,.inl ⟨rfl,λp hpn=>hb p ?_⟩⟩);rw[Qb,SZ hS];exact hpn
theorem Mk{M:Int}(hM0:0<=M)(hM:∀q∈qs,f q<=M):∀(ws:LO)(k:Nat),(∀(i:Nat) t,ws[i]?=some (some t)->(((k+i:Nat):Int),t)∈qs)->Km f k ws<=ws.length*M
 |[],k,_=>by show(0:Int)<=((0:Nat):Int)*M;rw[show(((0:Nat)):Int)=0 from rfl,Int.zero_mul];exact QW _
 |o::ws,k,h=>by
  have ih:=Mk hM0 hM ws (k+1) λi t e=>by have:=h (i+1) t (by simpa using e);rw[show k+1+i=k+(i+1)by omega];exact this
  have h0:Kc f k o<=M:=by
   cases o with
   |none=>exact hM0
   |some t=>exact hM _ (by have:=h 0 t rfl;rw[Uj]at this;exact this)
  rw[QJ];show Kc f k o+Km f (k+1) ws<=_;rw[show(((ws.length+1:Nat)):Int)=(ws.length:Int)+1 by omega,Int.add_mul,Int.one_mul];omega
theorem Hv(g:Good cs ls)(hm:m=ls.length)(hp:ZR cs.length m qs)(hq1:qs.length<=500){M:Int}(hM0:0<=M)(hM:∀q∈qs,US V q<=M):∀(N:Nat)(ws:LO)(d:D),Zh cs qs m ws->((d=.list []/\Wi cs (US V) qs ws) ∨ ∃r b,d=.list ((K3 cs.length b r).map Kn)/\VM cs (US V) qs ws r b) ->
  (m*M-Km (US V) 0 ws<N)->∃ws',Zh cs qs m ws'/\Wi cs (US V) qs ws'/\Y9 (SI (UB 3)) Ph N [some (.pub (U7 cs ls)),some (.pub (.list (qs.map (Zb V)))),some (.pub (Ke ws)),some (.pub d)]=.nx [some (.pub (U7 cs ls)),some (.pub (.list (qs.map (Zb V)))),some (.pub (Ke ws')),some (.pub (.list []))]
 |0,ws,d,hd,_,hN=>by have:=Mk hM0 hM ws 0 (λi t e=>by rw[QY];exact hd.wish i t e);rw[hd.len]at this;exact absurd hN (by omega)
 |N+1,ws,d,hd,hg,hN=>by
  rcases hg with ⟨rfl,hst⟩|⟨r,b,rfl,hgr⟩
  ·refine⟨ws,hd,hst,?_⟩;unfold Y9;rw[Pv (ds:=[]) (UL rfl)];rfl
  ·obtain⟨h1,h2,h3,h4⟩:=hgr.does hp hd;generalize hws':(K3 cs.length b r).foldl (λd p=>d.set p.1 p.2) ws=ws' at h1 h2;have hbe:=By h4;rw[hws']at hbe;obtain⟨d',hgw,hg'⟩:=Nc (V:=V) (ws:=ws') g (by rw[h1.len,hm]) (by rw[h1.len];exact hp) (by rw[h1.len];exact h1) hq1;obtain⟨ws2,k1,k2,k3⟩:=Hv g hm hp hq1 hM0 hM N ws' d' h1 hg' (by have:=hgr.pos;omega);refine⟨ws2,k1,k2,?_⟩;unfold Y9;rw[Pv (ds:=(K3 cs.length b r).map Kn) (UL rfl)]
   have hne:(!((K3 cs.length b r).map Kn).isEmpty)=true:=by
    cases hw:K3 cs.length b r with
    |nil=>exact absurd hw h3
    |cons _ _=>rfl
   dsimp only;rw[Qp hne];have hb:Ho Ph [some (.pub (U7 cs ls)),some (.pub (.list (qs.map (Zb V)))),some (.pub (Ke ws)),some (.pub (.list ((K3 cs.length b r).map Kn)))] (λo=>o=.nx [some (.pub (U7 cs ls)),some (.pub (.list (qs.map (Zb V)))),some (.pub (Ke ws')),some (.pub d')]):=by unfold Ph;refine Kf (Kx (Kg (UP (UL rfl) (UP (UL rfl) UU)) rfl hbe) (Qa rfl) rfl) ?_;exact Zx (Kx (Kg (UP (UL rfl) (UP (UL rfl) (UP (UL rfl) UU))) rfl hgw) (Qa rfl) rfl) rfl
   rw[hb.out];exact k3
theorem qI(g:Good cs ls)(hp:ZR cs.length ls.length qs)(hq1:qs.length<=500){M:Int}(hM0:0<=M)(hM:∀q∈qs,US V q<=M)(hF:ls.length*M<10 ^ 60):∃d,WX [U7 cs ls,.list (qs.map (Zb V))]=some d/\∃ws,d=Ke ws/\Zh cs qs ls.length ws/\Wi cs (US V) qs ws:=by
 refine X9 (Z:=[some (.pub (U7 cs ls)),some (.pub (.list (qs.map (Zb V)))),none,none]) rfl ?_;unfold TB;have l7:=g.l7;have hll:U8 [.list (ls.map KL)]=some (.int (ls.length:Nat)):=by rw[K2,Qb]
 let ws0:LO:=Ux ls.length none
 have hmul:Ki (.list [.none]) (.int (ls.length:Nat))=some (Ke ws0):=by rw[Pd (by omega)];show _=some (Uy ((Ux ls.length none).map U5));rw[JF];rfl
 have hd0:Zh cs qs ls.length ws0:=⟨by show(Ux _ _).length=_;rw[QA],(λi t h=>by
  have h:(Ux ls.length (none:Option Int))[i]?=some (some t):=h;rw[Qv]at h;split at h
  ·cases h
  ·cases h),λk c e=>by
  have h0:ws0.count (some (k:Int))=0:=List.count_eq_zero.mpr λh=>by cases (JE.mp h).2
  rw[h0];have:=g.c7 c (Qo e)
  show(0:Int)<=c
  omega⟩
 refine Kf (Kx (U0 (ZC (UP UR UU) (Qa rfl)) (K9 (UP (Kj rfl UR Xc) UU) hll) hmul) (Qa rfl) rfl) ?_;obtain⟨d',hgw,hg'⟩:=Nc (V:=V) (ws:=ws0) g hd0.len (by rw[hd0.len];exact hp) (by rw[hd0.len];exact hd0) hq1;refine Kf (Kx (Kg (UP (UL rfl) (UP (UL rfl) (UP (UL rfl) UU))) rfl hgw) (Qa rfl) rfl) ?_
 have h0:∀(n k:Nat),Km (US V) k (Ux n none)=0:=λn=>by
  induction n with
  |zero=>intro k;rfl
  |succ n ih=>intro k;rw[QU];show 0+Km (US V) (k+1) (Ux n none)=0;rw[ih];rfl
 have hfu:ls.length*M-Km (US V) 0 ws0<(X2:Nat):=by
  have e:Km (US V) 0 ws0=0:=h0 _ _;have e2:((X2:Nat):Int)=10 ^ 60:=by unfold X2;rfl
  rw[e,e2];omega
 obtain⟨ws',k1,k2,k3⟩:=Hv g rfl hp hq1 hM0 hM X2 ws0 d' hd0 hg' hfu;refine Kf k3 ?_;exact Kv (UL rfl) ⟨_,rfl,ws',rfl,k1,k2⟩
end
section
variable{cs:List Int}{ls:L3}
end
section
variable{cs:List Int}{ls:L3}{as ps:List Int}
theorem Mj(g:Good cs ls):(UX 0 ls).length<=42:=by rw[(VZ ls 0).length_eq];exact RC g
end
theorem LD{f:Int×Int->Int}{ps:List Int}:∀(ws:LO)(as:List Int)(k:Nat),as.length=ws.length->(∀a∈as,0<=a)->(∀(i:Nat) t,ws[i]?=some (some t)->f (((k+i:Nat):Int),t)<=as.getD i 0+ps.getD t.toNat 0)->Km f k ws<=as.sum+pz ps ws
 |[],[],k,_,_,_=>by show(0:Int)<=0+0;omega
 |o::ws,a::as,k,hl,ha,h=>by
  have ih:=LD (f:=f) (ps:=ps) ws as (k+1) (by simpa using hl) (λx hx=>ha x (List.mem_cons_of_mem _ hx)) λi t e=>by have:=h (i+1) t (by simpa using e);rw[show k+1+i=k+(i+1)by omega];simpa using this
  have h0:=ha a Qm;rw[J7];cases o with
  |none=>show 0+Km f (k+1) ws<=a+as.sum+(0+pz ps ws);omega
  |some t=>
   have h1:=h 0 t rfl;have h1:f ((k:Int),t)<=a+ps.getD t.toNat 0:=by simpa using h1
   show f ((k:Int),t)+Km f (k+1) ws<=a+as.sum+(ps.getD t.toNat 0+pz ps ws);omega
 |[],_::_,_,hl,_,_=>by cases hl
 |_::_,[],_,hl,_,_=>by cases hl
section
variable{cs:List Int}{ls:L3}{ws:LO}{qs:LP}{f:Int×Int->Int}{m:Nat}{as ps:List Int}
theorem Bv(hp:ZR cs.length m qs)(hd:Zh cs qs m ws)(ok:OkP cs.length m (λa b=>f (a,b)) qs 1 as ps):Km f 0 ws<=Vq cs as ps:=by
 have h1:=LD (f:=f) (ps:=ps) ws as 0 (by rw[ok.la,hd.len]) ok.aa λi t e=>by have:=ok.le _ (hd.wish i t e);rw[QY];have e1:((i:Int)).toNat=i:=Qt i;rw[Int.one_mul]at this;dsimp only at this;rw[e1]at this;exact this
 have hth:∀t,some t∈ws->0<=t/\t<cs.length:=λt ht=>by obtain⟨i,hi⟩:=List.mem_iff_getElem?.mp ht;have:=hp.lo _ (hd.wish i t hi);exact⟨this.2.2.1,this.2.2.2⟩
 rw[O5 ws hth]at h1;unfold Vq;rw[HC _ _ ok.lp]
 have h2:K4 cs.length (λk=>((ws.count (some (k:Int)):Nat):Int)*ps.getD k 0)<=K4 cs.length λk=>cs.getD k 0*ps.getD k 0:=Pc _ λk hk=>by
  have hc:cs[k]?=some (cs.getD k 0):=by rw[Qn,Qf hk];rfl
  have hk2:0<=ps.getD k 0:=by rw[Qn,Qf (by rw[ok.lp];exact hk)];exact ok.pp _ (JX _)
  exact Int.mul_le_mul_of_nonneg_right (hd.cop k _ hc) hk2
 omega
theorem HB(hp:ZR cs.length m qs)(hd:Zh cs qs m ws)(st:Wi cs f qs ws){us:LO}(hu:Zh cs qs m us):Km f 0 us<=Km f 0 ws:=by obtain⟨ok,e⟩:=LH hp hd (VE hp hd) (Hx hp hd) (V:=λp=>(ent (KO (cs.length+1) (Yn cs f qs ws) (cs.length+1)) p).1) (λ_=>rfl) st;have:=Bv hp hu ok;rw[e]at this;exact this
end
section
variable{cs:List Int}{ls:L3}{ws:LO}{qs:LP}{V:Int->Int->Int}
noncomputable def prW(cs:List Int)(f:Int×Int->Int)(qs:LP)(ws:LO)(p:Nat):Int:=(ent (KO (cs.length+1) (Yn cs f qs ws) (cs.length+1)) p).1
theorem Bu(g:Good cs ls)(hp:ZR cs.length ls.length qs)(hd:Zh cs qs ls.length ws)(hq1:qs.length<=500):WW [U7 cs ls,.list (qs.map (Zb V)),Ke ws]=some (.list (((Uw cs.length).map (prW cs (US V) qs ws)).map int)):=by
 refine KS (Z:=[some (.pub (U7 cs ls)),some (.pub (.list (qs.map (Zb V)))),some (.pub (Ke ws)),none,none]) rfl ?_;unfold Tz;have c6:=g.c6;have hS:∀s∈Yn cs (US V) qs ws,s.a<cs.length+1/\s.b<cs.length+1:=λs hs=>(VE hp hd s hs).lt hp hd;have hlc:U8 [.list (cs.map int)]=some (.int cs.length):=by rw[K2,Qb]
 have has:Y6 [U7 cs ls,.list (qs.map (Zb V)),Ke ws]=some (.list ((Yn cs (US V) qs ws).map Ka)):=Gv g hd.len (by rw[hd.len];exact hp) (by rw[hd.len];exact hd) (by omega);have hwd:=Hw hS (by omega);generalize hT:KO (cs.length+1) (Yn cs (US V) qs ws) (cs.length+1)=T at hwd;have hTl:T.length=cs.length+1:=by rw[←hT];exact SZ hS _
 refine Kf (Kx (K9 (UP (Kj rfl UR XF) UU) hlc) (Qa rfl) rfl) ?_;refine Kf (Kx (Kg (UP (U0 (UL rfl) UR K0) (UP (Kg (UP (UL rfl) (UP (UL rfl) (UP (UL rfl) UU))) rfl has) UU)) rfl hwd) (Qa rfl) rfl) ?_
 have hcd:DL.cutD (T.map ZQ) none (some (cs.length:Int))=(T.take cs.length).map ZQ:=by
  have h2:HT.sIx (T.map ZQ).length (T.map ZQ).length (some (cs.length:Int))=cs.length:=by rw[Qb,hTl];unfold HT.sIx;simp;omega
  unfold DL.cutD;rw[h2,show HT.sIx (T.map ZQ).length 0 none=0 from rfl,Uh,Nat.sub_zero,Ue]
 have hcut:YK (.list (T.map ZQ)) none (some (cs.length:Int))=some (.list ((T.take cs.length).map ZQ)):=by rw[Wr,hcd]
 have hc:KY (gT 2 (gNC (gN 5) (gNC (gN 6) (gN0)))) (UO true) (UB 5) ((T.take cs.length).map ZQ) (Kl [some (.pub (U7 cs ls)),some (.pub (.list (qs.map (Zb V)))),some (.pub (Ke ws)),some (.pub (.int cs.length)),some (.pub (.list (T.map ZQ)))]++Ux 2 none) []=some ([]++((Uw cs.length).map (prW cs (US V) qs ws)).map int):=by
  refine YS (λZ=>∃x y,Z=[some (.pub (U7 cs ls)),some (.pub (.list (qs.map (Zb V)))),some (.pub (Ke ws)),some (.pub (.int cs.length)),some (.pub (.list (T.map ZQ))),x,y]) _ _ _ _ ?_ ?_ ⟨none,none,rfl⟩ ?_
  ·rw[Qb,Qb,Qb,QO,Qu];omega
  ·rintro i d e hd' he Z ⟨x,y,rfl⟩;rw[Qe,Qe]at he;have hil:i<cs.length:=by have:=(Qg.mp hd').1;rw[Qb,QO]at this;omega
   rw[QS hil]at he;cases he;rw[Qe,List.getElem?_take_of_lt hil,Qf (by omega)]at hd';cases hd';have hv:prW cs (US V) qs ws i=T[i].1:=by unfold prW ent;rw[hT,Qn,Qf (by omega)];rfl
   rw[hv];exact⟨_,Kz rfl (U2 (UT (Qa rfl) rfl) (U2 (UT (Qa rfl) rfl) KB)),rfl,UL rfl,_,_,rfl⟩
  ·rw[QC,Qb,QO];omega
 exact Kv (KF (ZT (Zl (Wk (UL rfl) UR (YV (UL rfl)) hcut) ZK) hc)) rfl
theorem DA{n m:Nat}(hp:ZR n m qs)(hm:m<=1000)(P:Nat->Int):WV [.int (m:Nat),.list (qs.map (Zb V)),.list (((Uw n).map P).map int)]=some (.list (((Uw m).map λi:Nat=>Zz (US V) P qs (i:Int)).map int)):=by
 refine KS (Z:=[some (.pub (.int (m:Nat))),some (.pub (.list (qs.map (Zb V)))),some (.pub (.list (((Uw n).map P).map int))),none,none,none,none]) rfl ?_;unfold Tx;refine Kf (Yd (Mz (n:=m) (ZC (UP UR UU) (Qa rfl)) (UL rfl) hm) (Qa rfl) rfl) ?_;apply Kr;apply Zr (λk Z=>∃x4 x5 x6,Z=[some (.pub (.int (m:Nat))),some (.pub (.list (qs.map (Zb V)))),some (.pub (.list (((Uw n).map P).map int))),some (.own (((Uw m).map λi:Nat=>Zz (US V) P (qs.take k) (i:Int)).map int)),x4,x5,x6])
 case h1=>exact Zl (UL rfl) ZK
 case h0=>
  refine⟨none,none,none,?_⟩
  have e:(Ux m (int 0))=((Uw m).map λi:Nat=>Zz (US V) P (qs.take 0) (i:Int)).map int:=by
   rw[Q4];apply List.ext_getElem
   ·rw[QA,Qb,Qu]
   ·intro i h1 h2;rw[List.getElem_replicate,JY];rfl
  rw[←e];rfl
 case hst=>
  rintro k d Z hk ⟨x4,x5,x6,rfl⟩;rw[Qe]at hk;cases hq:qs[k]? with
  |none=>rw[hq]at hk;cases hk
  |some q=>
  rw[hq]at hk;cases hk;have hb:=hp.lo q (Qo hq);obtain⟨⟨a,ha⟩,⟨t,ht⟩⟩:(∃a:Nat,q.1=a)/\∃t:Nat,q.2=t:=⟨⟨q.1.toNat,by omega⟩,⟨q.2.toNat,by omega⟩⟩
  have ham:a<m:=by omega
  have htn:t<n:=by omega
  refine⟨_,Kz rfl (U2 (UT (Qa rfl) rfl) (U2 (UT (Qa rfl) rfl) (U2 (UT (Qa rfl) rfl) KB))),?_⟩;unfold Ms;have h1:oIx (.list (((Uw m).map λi:Nat=>Zz (US V) P (qs.take k) (i:Int)).map int)) (.int q.1)=some (.int (Zz (US V) P (qs.take k) (a:Int))):=by rw[ha];exact KU (by rw[Qe,Qe,QS ham];rfl)
  have h2:oIx (.list (((Uw n).map P).map int)) (.int q.2)=some (.int (P t)):=by rw[ht];exact KU (by rw[Qe,Qe,QS htn];rfl)
  refine Zx (SK (K9 (UP (Wl rfl (UL rfl) rfl h1) (UP (U0 (UL rfl) (Kj rfl (UL rfl) h2) Yt) UU)) Lc) rfl (UL rfl) rfl ⟨hb.1,by rw[Qb,Qb,Qu];exact hb.2.1⟩ rfl) (KZ ⟨some (.pub (.int q.1)),some (.pub (.int q.2)),some (.pub (.int (V q.1 q.2))),?_⟩);have e:∀i:Nat,Zz (US V) P (qs.take (k+1)) (i:Int)=if q.1=(i:Int)then max (Zz (US V) P (qs.take k) (i:Int)) (US V q-P q.2.toNat)else Zz (US V) P (qs.take k) (i:Int):=λi=>by unfold Zz;rw[List.take_add_one,hq,List.foldl_append];rfl
  have e2:((((Uw m).map λi:Nat=>Zz (US V) P (qs.take k) (i:Int)).map int).set q.1.toNat (.int (if V q.1 q.2-P t > Zz (US V) P (qs.take k) (a:Int)then V q.1 q.2-P t else Zz (US V) P (qs.take k) (a:Int))))=((Uw m).map λi:Nat=>Zz (US V) P (qs.take (k+1)) (i:Int)).map int:=by
   apply List.ext_getElem
   ·rw[QX,Qb,Qb,Qb,Qb]
   ·intro i h1 h2;have hi:i<m:=by rw[Qb,Qb,Qu]at h2;exact h2
    rw[List.getElem_set,JY,JY,JY,JY,List.getElem_range,e];by_cases hia:a=i
    ·subst hia;rw[Qp (by omega),Qp ha,show q.2.toNat=t by omega]
     congr 1
     show _=max _ (V q.1 q.2-P t)
     split<;>omega
    ·rw[QB (by omega),QB (by omega)]
  rw[←e2];rfl
 case hend=>rintro Z ⟨x4,x5,x6,rfl⟩;refine Kp (Kv (Yu rfl rfl) ?_);rw[Qb,Jy]
noncomputable abbrev Yj(m:Nat)(f:Int×Int->Int)(P:Nat->Int)(qs:LP):List Int:=(Uw m).map λi:Nat=>Zz f P qs (i:Int)
theorem Gd(g:Good cs ls)(hp:ZR cs.length ls.length qs)(hd:Zh cs qs ls.length ws)(hq1:qs.length<=500):Xq [U7 cs ls,.list (qs.map (Zb V)),Ke ws]=some (KN 1 (Yj ls.length (US V) (prW cs (US V) qs ws) qs) ((Uw cs.length).map (prW cs (US V) qs ws))):=by
 refine KS (Z:=[some (.pub (U7 cs ls)),some (.pub (.list (qs.map (Zb V)))),some (.pub (Ke ws)),none]) rfl ?_;unfold Tw;have l7:=g.l7;have hll:U8 [.list (ls.map KL)]=some (.int ls.length):=by rw[K2,Qb]
 refine Kf (Kx (Kg (UP (UL rfl) (UP (UL rfl) (UP (UL rfl) UU))) rfl (Bu g hp hd hq1)) (Qa rfl) rfl) ?_;exact Kv (Yp (UP UR (UP (Kg (UP (K9 (UP (Kj rfl UR Xc) UU) hll) (UP (UL rfl) (UP (UL rfl) UU))) rfl (DA hp (by omega) _)) (UP (UL rfl) UU))) (Qa rfl)) rfl
theorem SY(g:Good cs ls):ZR cs.length ls.length (UX 0 ls) where
 nd:=Nh ls 0 λrs hr=>(g.rk rs hr).once
 lo:=λq hq=>by have:=Mo g q hq;exact⟨this.1.1,this.1.2,this.2.1,this.2.2⟩
theorem kg{o:Ord}{old:Option LO}{ts:List Int}(g:Good cs ls)(ga:YH cs.length ls.length old ts):∃ws,WU [U7 cs ls,KJ o old ts]=some (.tuple [Ke ws,KN 1 (Yj ls.length (US (U4 ls o old ts)) (prW cs (US (U4 ls o old ts)) (UX 0 ls) ws) (UX 0 ls)) ((Uw cs.length).map (prW cs (US (U4 ls o old ts)) (UX 0 ls) ws))])/\Zh cs (UX 0 ls) ls.length ws/\Wi cs (US (U4 ls o old ts)) (UX 0 ls) ws:=by have hq:=Mj g;have l7:=g.l7;obtain⟨d,hb,ws,rfl,hd,hst⟩:=qI (V:=U4 ls o old ts) g (SY g) (by omega) (M:=18446744073709551616) (by decide) (λq hq=>Int.le_of_lt (Pk g ga hq).2) (by omega);refine⟨ws,?_,hd,hst⟩;refine KS (Z:=[some (.pub (U7 cs ls)),some (.pub (KJ o old ts)),none,none]) rfl ?_;unfold Tv;refine Kf (Kx (Kg (UP (UL rfl) (UP (UL rfl) UU)) rfl (Go g ga)) (Qa rfl) rfl) ?_;refine Kf (Kx (Kg (UP (UL rfl) (UP (UL rfl) UU)) rfl hb) (Qa rfl) rfl) ?_;exact Kv (Yp (UP (UL rfl) (UP (Kg (UP (UL rfl) (UP (UL rfl) (UP (UL rfl) UU))) rfl (Gd g (SY g) hd (by omega))) UU)) (Qa rfl)) rfl
end
section
variable{cs:List Int}{ls:L3}{ws:LO}
theorem jF{o:Ord}{old:Option LO}{ts:List Int}(g:Good cs ls)(ga:YH cs.length ls.length old ts)(hd:Zh cs (UX 0 ls) ls.length ws):∃d,WT [U7 cs ls,KJ o old ts,Ke ws]=some d/\((d=.tuple [.str "best", KN 1 (Yj ls.length (US (U4 ls o old ts)) (prW cs (US (U4 ls o old ts)) (UX 0 ls) ws) (UX 0 ls)) ((Uw cs.length).map (prW cs (US (U4 ls o old ts)) (UX 0 ls) ws))]/\Wi cs (US (U4 ls o old ts)) (UX 0 ls) ws) ∨ ∃r b,d=.tuple [.str "way", .list ((K3 cs.length b r).map Kn)]/\VM cs (US (U4 ls o old ts)) (UX 0 ls) ws r b):=by
 have hq:=Mj g;have hp:=SY g;obtain⟨d,hw,hcase⟩:=Nc (V:=U4 ls o old ts) g hd.len (by rw[hd.len];exact hp) (by rw[hd.len];exact hd) (by omega);refine X9 (Z:=[some (.pub (U7 cs ls)),some (.pub (KJ o old ts)),some (.pub (Ke ws)),none,none]) rfl ?_;unfold Tu;refine Kf (Kx (Kg (UP (UL rfl) (UP (UL rfl) UU)) rfl (Go g ga)) (Qa rfl) rfl) ?_;refine Kf (Kx (Kg (UP (UL rfl) (UP (UL rfl) (UP (UL rfl) UU))) rfl hw) (Qa rfl) rfl) ?_;apply Kr;rcases hcase with ⟨rfl,hst⟩|⟨r,b,rfl,hg⟩
 ·refine Ko (b:=false) (Z1:=[some (.pub (U7 cs ls)),some (.pub (KJ o old ts)),some (.pub (Ke ws)),some (.pub (.list ((UX 0 ls).map (Zb (U4 ls o old ts))))),some (.pub (.list []))]) (Pv (ds:=[]) (UL rfl)) (λz=>by cases z) λ_=>Ky (Kp ?_)
  exact Kv (Yp (UP UR (UP (Kg (UP (UL rfl) (UP (UL rfl) (UP (UL rfl) UU))) rfl (Gd g hp hd (by omega))) UU)) (Qa rfl)) ⟨_,rfl,.inl ⟨rfl,hst⟩⟩
 ·have hne:=(hg.does hp hd).2.2.1;refine Ko (b:=true) (Z1:=[some (.pub (U7 cs ls)),some (.pub (KJ o old ts)),some (.pub (Ke ws)),some (.pub (.list ((UX 0 ls).map (Zb (U4 ls o old ts))))),some (.pub (.list ((K3 cs.length b r).map Kn)))]) ?_ (λ_=>?_) (λz=>by cases z)
  ·refine(Pv (ds:=(K3 cs.length b r).map Kn) (UL rfl)).trans ?_;cases hwr:K3 cs.length b r with
   |nil=>exact absurd hwr hne
   |cons x xs=>rfl
  ·exact Kv (Yp (UP UR (UP (UL rfl) UU)) (Qa rfl)) (Ws ⟨_,rfl,.inr ⟨r,b,rfl,hg⟩⟩)
end
def PP(cs:List Int)(ws:LO)(t:Nat):Prop:=∃c,cs[t]?=some c/\((ws.count (some (t:Int)):Nat):Int)<c
structure WayQ(cs:List Int)(qs:LP)(ws:LO)(W:List (Nat×Option Int)):Prop where
 ne:W≠[]
 mv:∀p∈W,∃o,ws[p.1]?=some o/\p.2≠o/\∀t,p.2=some t->((p.1:Int),t)∈qs
 nd:(W.map Prod.fst).Nodup
 lnk:∀(k:Nat) p q,W[k]?=some p->W[k+1]?=some q->p.2≠none/\ws[q.1]?=some p.2
 fin:∀p q,W.head?=some p->W.getLast?=some q->q.2=none∨ws[p.1]?=some q.2 ∨ ∃t:Nat,q.2=some (t:Int)/\PP cs ws t
section
variable{cs:List Int}{f:Int×Int->Int}{qs:LP}{m:Nat}{ws:LO}
structure Ra(cs:List Int)(ws:LO)(z:Nat)(W:List (Nat×Option Int)):Prop where
 nd:(W.map Prod.fst).Nodup
 lnk:∀(k:Nat) p q,W[k]?=some p->W[k+1]?=some q->p.2≠none/\ws[q.1]?=some p.2
 fin:∀q,W.getLast?=some q->q.2=Zi cs.length z∨(z=cs.length/\∃t:Nat,q.2=some (t:Int)/\PP cs ws t)
def NK(cs:List Int)(ws:LO)(a z:Nat)(R:List Stp)(W:List (Nat×Option Int)):Prop:=
 (W=[]/\((R=[]/\a=z)∨(z=cs.length/\PP cs ws a/\a<cs.length)))∨((∃p,W.head?=some p/\ws[p.1]?=some (Zi cs.length a))/\Ra cs ws z W)
theorem OY(hp:ZR cs.length m qs){R:List Stp}(hR:∀s∈R,IsSt cs f qs ws s){p:Nat×Option Int}(h:p∈R.filterMap (Z9 cs.length)):∃s∈R,s.w=some p.1/\∃o,ws[p.1]?=some o/\p.2≠o/\(∀t,p.2=some t->((p.1:Int),t)∈qs)/\s.a=plF cs.length o:=by
 obtain⟨s,hs,e⟩:=Jm.mp h;refine⟨s,hs,?_⟩;cases hR s hs with
 |@mv i o o' hw hne hq=>cases e;exact⟨rfl,o,hw,by rw[Wg hp hq];exact hne,by rw[Wg hp hq];exact hq,rfl⟩
 |left _ _=>cases e
 |give _=>cases e
theorem Ra.cons(hp:ZR cs.length m qs){i:Nat}{o':Option Int}{R:List Stp}{z:Nat}(hq:∀t,o'=some t->((i:Int),t)∈qs)(hn:∀s∈R,s.a≠cs.length)(hf:∀s,R.head?=some s->s.a=plF cs.length o')(hne:R≠[]∨plF cs.length o'=z){W:List (Nat×Option Int)}(h:NK cs ws (plF cs.length o') z R W)(hi:i∉W.map Prod.fst)(hRW:W≠[]->R≠[]):Ra cs ws z ((i,o')::W):=by
 rcases h with ⟨rfl,h⟩|⟨⟨p,hp1,hp2⟩,h⟩
 ·refine⟨by simp,λk p q _ h2=>by simp at h2,λq hq'=>?_⟩;have:q=(i,o'):=by simpa using hq'.symm
  subst this;rcases h with ⟨rfl,e⟩|⟨e1,hl,hlt⟩
  ·exact .inl (by rw[←e,Wg hp hq])
  ·refine .inr ⟨e1,_,?_,hl⟩;cases o' with
   |none=>exact absurd hlt (Jo _)
   |some t=>
    have:=hp.lo _ (hq t rfl);show some t=some ((t.toNat:Nat):Int)
    congr 1
    have h2:0<=t:=this.2.2.1;omega
 ·have hW:W≠[]:=λz=>by rw[z]at hp1;cases hp1
  obtain⟨s,hs⟩:∃s,R.head?=some s:=by
   cases R with
   |nil=>exact absurd rfl (hRW hW)
   |cons s r=>exact⟨s,rfl⟩
  have hs':s∈R:=List.mem_of_mem_head? hs;have no:o'≠none:=λe=>by have:=hn s hs';rw[hf s hs,e]at this;exact this rfl
  rw[Wg hp hq]at hp2;refine⟨?_,λk p' q' h1 h2=>?_,λq hq'=>?_⟩
  ·rw[Qy,JM];exact⟨hi,h.nd⟩
  ·cases k with
   |zero=>
    rw[List.getElem?_cons_zero]at h1;rw[Jk]at h2;cases h1;have:W[0]?=some p:=by rw[←List.head?_eq_getElem?];exact hp1
    rw[this]at h2;cases h2;exact⟨no,hp2⟩
   |succ k=>rw[Jk]at h1 h2;exact h.lnk k p' q' h1 h2
  ·refine h.fin q ?_;rw[←hq'];cases W with
   |nil=>exact absurd rfl hW
   |cons x r=>rfl
theorem OX(hp:ZR cs.length m qs)(hd:Zh cs qs m ws):∀(R:List Stp)(a z:Nat){S:List Stp},Path S a R z->(∀s∈R,IsSt cs f qs ws s)->(R.map Stp.a).Nodup->(∀s∈R,s.a≠cs.length)->NK cs ws a z R (R.filterMap (Z9 cs.length))
 |[],a,z,S,h,_,_,_=>by cases h;exact .inl ⟨rfl,.inl ⟨rfl,rfl⟩⟩
 |s::R,a,z,S,h,hR,hn,ha=>by
  obtain⟨rfl,h'⟩:a=s.a/\Path S s.b R z:=⟨h.head,h.step.2⟩
  have hR':∀t∈R,IsSt cs f qs ws t:=λt ht=>hR t (Ql _ ht);have ha':∀t∈R,t.a≠cs.length:=λt ht=>ha t (Ql _ ht);rw[Qy,JM]at hn;have ih:=OX hp hd R s.b z h' hR' hn.2 ha'
  have hf:∀t,R.head?=some t->t.a=s.b:=λt ht=>by
   cases R with
   |nil=>cases ht
   |cons t' R=>cases ht;exact h'.head.symm
  have hnil:R=[]->s.b=z:=λe=>by subst e;generalize s.b=q at h';cases h';rfl
  have hsa:=ha s Qm;cases hR s Qm with
  |@mv i o o' hw hne hq=>
   refine .inr ⟨⟨(i,o'),?_,?_⟩,?_⟩
   ·show some ((i,Zi cs.length (plF cs.length o')):Nat×Option Int)=_;rw[Wg hp hq]
   ·show ws[i]?=some (Zi cs.length (plF cs.length o));rw[Wg hp (i:=i) (λt e=>hd.wish i t (by rw[hw,e]))];exact hw
   ·have e:((⟨plF cs.length o,plF cs.length o',Kc f i o'-Kc f i o,some i⟩:Stp)::R).filterMap (Z9 cs.length)=(i,o')::R.filterMap (Z9 cs.length):=by
     show(i,Zi cs.length (plF cs.length o'))::_=_
     rw[Wg hp hq]
    rw[e];refine Ra.cons hp hq ha' hf ?_ ih (λhm=>?_) (λhne' z=>hne' (by rw[z];rfl))
    ·cases R with
     |nil=>right;exact hnil rfl
     |cons _ _=>left;exact List.cons_ne_nil _ _
    ·obtain⟨p,hpm,e1⟩:=Qs.mp hm;obtain⟨t,ht,hw',o2,ho2,_,_,ea⟩:=OY hp hR' hpm;rw[e1,hw]at ho2;cases ho2;exact hn.1 (Qs.mpr ⟨t,ht,ea⟩)
  |@left t c h1 h2=>
   have hR0:R=[]:=by
    cases R with
    |nil=>rfl
    |cons t' R=>exact absurd h'.head.symm (ha' _ Qm)
   have hz:cs.length=z:=hnil hR0;subst hR0;exact .inl ⟨rfl,.inr ⟨hz.symm,⟨c,h1,h2⟩,(Qg.mp h1).1⟩⟩
  |give _=>exact absurd rfl hsa
theorem VM.way(hp:ZR cs.length m qs)(hd:Zh cs qs m ws){r:List Stp}{b:Nat}(h:VM cs f qs ws r b):WayQ cs qs ws (K3 cs.length b r):=by
 obtain⟨x,hx⟩:=h.rnd;have hin:∀s∈r,IsSt cs f qs ws s:=λs hs=>VE hp hd s (hx.mem s hs);have pr:=OK b r;have hR:∀s∈rot b r,IsSt cs f qs ws s:=λs hs=>hin s (pr.mem_iff.mp hs);have nd:((rot b r).map Stp.a).Nodup:=(pr.map Stp.a).nodup_iff.mpr h.nd;have hne:=(h.does hp hd).2.2.1
 obtain⟨y,p1,p2⟩:=Path.split (u:=r.take b) (v:=r.drop b) (by rw[JK];exact hx);have hP:Path (Yn cs f qs ws) y (rot b r) y:=p2.append p1;have mvW:∀p∈K3 cs.length b r,∃o,ws[p.1]?=some o/\p.2≠o/\∀t,p.2=some t->((p.1:Int),t)∈qs:=λp hpm=>by obtain⟨_,_,_,o,h1,h2,h3,_⟩:=OY hp hR hpm;exact⟨o,h1,h2,h3⟩
 unfold K3 at hne mvW⊢;generalize hRR:rot b r=R at *;rcases h.bat with ⟨s,hs,hsn⟩|⟨rfl,hno⟩
 ·-- the round comes by nothing
  obtain⟨hb,hs'⟩:=Qg.mp hs;obtain⟨R',rfl⟩:∃R',R=s::R':=by refine⟨r.drop (b+1)++r.take b,?_⟩;rw[←hRR];unfold rot;rw[Jb hb,hs'];rfl
  obtain⟨rfl,hP'⟩:y=s.a/\Path (Yn cs f qs ws) s.b R' y:=⟨hP.head,hP.step.2⟩
  rw[Qy,JM]at nd;have hR':∀t∈R',IsSt cs f qs ws t:=λt ht=>hR t (Ql _ ht);have ha':∀t∈R',t.a≠cs.length:=λt ht e=>nd.1 (Qs.mpr ⟨t,ht,by rw[e,hsn]⟩)
  have pc:=OX hp hd R' s.b s.a hP' hR' nd.2 ha'
  have hf:∀t,R'.head?=some t->t.a=s.b:=λt ht=>by
   cases R' with
   |nil=>cases ht
   |cons t' R'=>cases ht;exact hP'.head.symm
  have hnil:R'=[]->s.b=s.a:=λe=>by subst e;generalize s.b=q at hP';generalize s.a=q2 at hP';cases hP';rfl
  have un:Zi cs.length cs.length=none:=Qp rfl;cases hR s Qm with
  |@mv i o o' hw hne' hq=>
   have e:((⟨plF cs.length o,plF cs.length o',Kc f i o'-Kc f i o,some i⟩:Stp)::R').filterMap (Z9 cs.length)=(i,o')::R'.filterMap (Z9 cs.length):=by
    show(i,Zi cs.length (plF cs.length o'))::_=_
    rw[Wg hp hq]
   rw[e]at hne mvW⊢
   have P:=Ra.cons hp hq ha' hf (by
    cases R' with
    |nil=>right;exact hnil rfl
    |cons _ _=>left;exact List.cons_ne_nil _ _) pc (λhm=>by obtain⟨p,hpm,e1⟩:=Qs.mp hm;obtain⟨t,ht,hw',o2,ho2,_,_,ea⟩:=OY hp hR' hpm;rw[e1,hw]at ho2;cases ho2;exact nd.1 (Qs.mpr ⟨t,ht,ea⟩)) (λhne' z=>hne' (by rw[z];rfl))
   refine⟨hne,mvW,P.nd,P.lnk,λp q _ hq'=>?_⟩;have hsn:plF cs.length o=cs.length:=hsn;rcases P.fin q hq' with e|⟨_,t,e,hl⟩
   ·exact .inl (by rw[e,hsn,un])
   ·exact .inr (.inr ⟨t,e,hl⟩)
  |@left t c h1 h2=>have:=(Qg.mp h1).1;have hsn:t=cs.length:=hsn;omega
  |@give t ht=>
   have e:((⟨cs.length,t,0,none⟩:Stp)::R').filterMap (Z9 cs.length)=R'.filterMap (Z9 cs.length):=rfl;rw[e]at hne mvW⊢;rcases pc with ⟨z,_⟩|⟨_,P⟩
   ·exact absurd z hne
   ·refine⟨hne,mvW,P.nd,P.lnk,λp q _ hq'=>?_⟩;rcases P.fin q hq' with e|⟨_,t,e,hl⟩
    ·exact .inl (by rw[e];exact un)
    ·exact .inr (.inr ⟨t,e,hl⟩)
 ·-- no step is from nothing
  have ha:∀t∈R,t.a≠cs.length:=λt ht=>hno t (pr.mem_iff.mp ht);have pc:=OX hp hd R y y hP hR nd ha
  have hy:y≠cs.length:=by
   cases R with
   |nil=>exact absurd rfl hne
   |cons t R=>rw[hP.head];exact ha _ Qm
  rcases pc with ⟨z,_⟩|⟨⟨p0,hp0,hw0⟩,P⟩
  ·exact absurd z hne
  ·refine⟨hne,mvW,P.nd,P.lnk,λp q hp' hq'=>?_⟩;rw[hp0]at hp';cases hp';rcases P.fin q hq' with e|⟨e,_⟩
   ·exact .inr (.inl (by rw[hw0,e]))
   ·exact absurd e hy
end
section
variable{cs:List Int}{ls:L3}{ws:LO}{o:Ord}{old:Option LO}{ts:List Int}
theorem kf(g:Good cs ls)(dl:Deal cs ls ws):WO [U7 cs ls,Ke ws]=some (.bool true):=by
 refine KS (Z:=[some (.pub (U7 cs ls)),some (.pub (Ke ws)),none,none]) rfl ?_;unfold Ti;have l7:=g.l7;have hl:=dl.len;have hll:U8 [.list (ls.map KL)]=some (.int ls.length):=by rw[K2,Qb]
 have hul:U8 [Ke ws]=some (.int ws.length):=by unfold Ke;rw[K2,Qb]
 have hne:oNe (.int ws.length) (.int ls.length)=some false:=by rw[X4,hl];simp
 apply Kr;apply Ko
 case h1=>exact ZY (ZS (Yb (KF (k:=λd=>Uz (Ku d "list")) (x:=Ke ws) (UL rfl)))) (U0 (Zq rfl hul) (K9 (UP (Kj rfl UR Xc) UU) hll) hne)
 case h2=>intro h;cases h
 case h3=>
  intro _;refine Ky (Kp ?_);apply Kr;apply Zr (λi Z=>∃x2 x3,Z=[some (.pub (U7 cs ls)),some (.pub (Ke ws)),x2,x3])
  case h1=>exact Xy (UP (UL rfl) UU) XI
  case h0=>exact⟨_,_,rfl⟩
  case hst=>
   rintro i d Z hi ⟨x2,x3,rfl⟩;obtain⟨z,hz,rfl⟩:=Y8 hi;rw[Qe]at hz;cases hwi:ws[i]? with
   |none=>rw[hwi]at hz;cases hz
   |some o=>
   rw[hwi]at hz;cases hz;have hil:i<ls.length:=by have:=(Qg.mp hwi).1;omega
   have hls:ls[i]?=some ls[i]:=Qf hil;rw[QY];refine⟨_,Kz rfl (U2 (UT (Qa rfl) rfl) (U2 (UT (Qa rfl) rfl) KB)),?_⟩;unfold Mw;cases o with
   |none=>
    apply Kr;apply Ko
    case h1=>exact RE (KF (k:=λd=>!isNon d) (x:=PyData.none) (UL rfl))
    case h2=>intro h;cases h
    case h3=>
     intro _;refine Ky (Kp ?_);apply Ko
     case h1=>exact RE (KF (k:=λd=>!isNon d) (x:=PyData.none) (UL rfl))
     case h2=>intro h;cases h
     case h3=>exact λ_=>Ky (KZ ⟨_,_,rfl⟩)
   |some t=>
    have htm:=dl.wish i t _ hwi hls;have gr:=g.rk ls[i] (Qo hls);have ht:=gr.flat t htm;have hfl:(ls[i]).flatten.length<64:=by have:=VR cs.length _ gr.once gr.flat;have:=g.c6;omega
    apply Kr;apply Ko
    case h1=>exact RD (KF (k:=λd=>!isNon d) (x:=int t) (UL rfl)) (ZY (ZS (Yb (Kg (UP (UL rfl) UU) rfl (Nq t)))) (ZB rfl (Kg (UP (UL rfl) (UP (UL rfl) UU)) rfl (Pq hls hfl)) qM))
    case h2=>intro h;simp[htm]at h
    case h3=>
     intro _;refine Ky (Kp ?_);apply Ko
     case h1=>exact RD (KF (k:=λd=>!isNon d) (x:=int t) (UL rfl)) (U0 (OV (UL rfl) (UP (UL rfl) UU) Nj) (U0 (Kj rfl UR XF) (UL rfl) (ix_c ht.1 ht.2)) rfl)
     case h2=>
      intro h;have h:=Qa h;obtain⟨k,rfl⟩:∃k:Nat,t=k:=⟨t.toNat,by omega⟩
      have hc:=dl.cop k (cs.getD k 0) (by rw[Qn,Qf (show k<cs.length by omega)];rfl);rw[Qt]at h;omega
     case h3=>exact λ_=>Ky (KZ ⟨_,_,rfl⟩)
  case hend=>rintro Z ⟨x2,x3,rfl⟩;exact Kp (Kv UR rfl)
theorem SL(h:Zh cs (UX 0 ls) ls.length ws):Deal cs ls ws where
 len:=h.len
 wish:=λi t rs hw hrs=>by
  obtain⟨i',rs',h1,h2,h3⟩:=Wd (h.wish i t hw);have h2:(i:Int)=((0+i':Nat):Int):=h2;have hii:i=i':=by omega
  subst hii;rw[hrs]at h1;cases h1;exact h3
 cop:=h.cop
theorem OC(ls:L3):∀(ws:LO)(l2:L3)(k:Nat),(∀(j:Nat) rs,l2[j]?=some rs->ls.getD (k+j) []=rs)->ws.length=l2.length->Km (US (U4 ls o old ts)) k ws=Ye (YL (Ze ls o old ts) k l2 ws)
 |[],[],_,_,_=>rfl
 |[],_::_,_,_,h=>by cases h
 |_::_,[],_,_,h=>by cases h
 |x::ws,rs::l2,k,hj,hl=>by
  have ih:=OC ls ws l2 (k+1) (λj r h=>by rw[show k+1+j=k+(j+1)by omega];exact hj (j+1) r h) (by simpa using hl);show Kc _ k x+Km _ (k+1) ws=Ye (x.map (Ze ls o old ts k rs)::YL _ (k+1) l2 ws);rw[Hd,ih]
  congr 1
  cases x with
  |none=>rfl
  |some t=>show U4 ls o old ts (k:Int) t=Ze ls o old ts k rs t;unfold U4;rw[Qt,show ls.getD k []=rs from hj 0 rs rfl]
theorem Mi{M:Int}(h0:0<=M):∀(w:List Stp),(∀s∈w,s.g<=M)->Kk w<=w.length*M
 |[],_=>by show(0:Int)<=0*M;omega
 |s::w,h=>by
  have ih:=Mi h0 w λx hx=>h x (Ql _ hx);have h1:=h s Qm
  show(List.sum (s.g::w.map Stp.g))<=((w.length+1:Nat):Int)*M
  rw[J7,Int.natCast_add,Int.add_mul];have:(w.map Stp.g).sum=Kk w:=rfl;omega
theorem Hu(g:Good cs ls)(ga:YH cs.length ls.length old ts){i:Nat}{x:Option Int}(h:∀t,x=some t->((i:Int),t)∈UX 0 ls):0<=Kc (US (U4 ls o old ts)) i x/\Kc (US (U4 ls o old ts)) i x<18446744073709551616:=by
 cases x with
 |none=>exact⟨QW 0,by show(0:Int)<_;omega⟩
 |some t=>exact Pk g ga (h t rfl)
theorem Dy(g:Good cs ls)(ga:YH cs.length ls.length old ts)(hd:Zh cs (UX 0 ls) ls.length ws){s:Stp}(h:IsSt cs (US (U4 ls o old ts)) (UX 0 ls) ws s):s.g<=18446744073709551616:=by
 cases h with
 |@mv i x x' h hne hq=>
  have h1:=Hu (o:=o) g ga hq;have h2:=Hu (o:=o) g ga (i:=i) (x:=x) λt e=>hd.wish i t (by rw[h,e])
  show _-_<=_;omega
 |left h hl=>show(0:Int)<=_;omega
 |give h=>show(0:Int)<=_;omega
theorem Bt(g:Good cs ls)(ga:YH cs.length ls.length old ts)(hd:Zh cs (UX 0 ls) ls.length ws)(p:Nat):0<=prW cs (US (U4 ls o old ts)) (UX 0 ls) ws p/\prW cs (US (U4 ls o old ts)) (UX 0 ls) ws p<=7*18446744073709551616:=by
 have hp:=SY g;have hS:∀s∈Yn cs (US (U4 ls o old ts)) (UX 0 ls) ws,s.a<cs.length+1/\s.b<cs.length+1:=λs hs=>(VE hp hd s hs).lt hp hd;have c6:=g.c6;constructor
 ·have:=O4 hS (JI (cs.length+1)) p;rw[SU hS]at this;exact this
 ·obtain⟨hw,hg⟩:=SO hS (cs.length+1) p;have hlen:=(RJ hS (cs.length+1)).1 p;obtain⟨q,hpath⟩:=hw.path;have:=Mi (M:=18446744073709551616) (by decide) _ λs hs=>Dy g ga hd (VE hp hd s (hpath.mem s hs))
  unfold prW;rw[←hg];omega
theorem LV(g:Good cs ls)(ga:YH cs.length ls.length old ts){P:Nat->Int}(h0:∀p,0<=P p)(i:Int):∀(qs:LP),(∀q∈qs,q∈UX 0 ls)->∀a:Int,0<=a->a<=18446744073709551616->0<=qs.foldl (λa q=>if q.1=i then max a (US (U4 ls o old ts) q-P q.2.toNat)else a) a/\qs.foldl (λa q=>if q.1=i then max a (US (U4 ls o old ts) q-P q.2.toNat)else a) a<=18446744073709551616
 |[],_,a,h1,h2=>⟨h1,h2⟩
 |q::qs,hq,a,h1,h2=>by have hb:=Pk (o:=o) g ga (hq q Qm);have hb:US (U4 ls o old ts) q<18446744073709551616:=hb.2;have hp:=h0 q.2.toNat;rw[JH];refine LV g ga h0 i qs (λx hx=>hq x (Ql _ hx)) _ ?_ ?_<;>split<;>omega
theorem LC{n:Nat}{xs:List Int}(hl:xs.length=n)(hn:n<=1000):XV [.list (xs.map int),.int n]=some (.bool true):=by
 refine KS (Z:=[some (.pub (.list (xs.map int))),some (.pub (.int n))]) rfl ?_;unfold Tk;have hne:oNe (.int (xs.map int).length) (.int n)=some false:=by rw[X4,List.length_map,hl];simp
 apply Kr;refine Ko (b:=false) (Z1:=[some (.pub (.list (xs.map int))),some (.pub (.int n))]) (ZY (ZS (Yb (KF (k:=λd=>Uz (Ku d "list")) (x:=Uy (xs.map int)) (UL rfl)))) (U0 (Zq rfl K2) (UL rfl) hne)) (λz=>by cases z) λ_=>Ky (Kp ?_)
 have hc:KY (gN 2) (UO true) (UW 1 ZI (UM (UB 2) (UI))) (xs.map int) (Kl [some (.pub (.list (xs.map int))),some (.pub (.int n))]++Ux 1 none) []=some ([]++(xs.map λ_=>true).map Uz):=by
  refine YS (λZ=>∃x,Z=[some (.pub (.list (xs.map int))),some (.pub (.int n)),x]) _ _ _ _ (by rw[Qb,Qb,Qb]) ?_ ⟨none,rfl⟩ (by rw[QC,Qb];omega);rintro i d e hd he Z ⟨x,rfl⟩;rw[Qe]at hd he;rw[Qe]at he;cases hx:xs[i]? with
  |none=>rw[hx]at hd;cases hd
  |some t=>
  rw[hx]at hd he;cases hd;cases he;exact⟨_,UT (Qa rfl) rfl,rfl,Kg (UP (UL rfl) UU) rfl (Nq t),_,rfl⟩
 refine Kv (K9 (UP (KF (ZT (Zl (UL rfl) ZK) hc)) UU) La) ?_;have:xs.all (id ∘ λ_=>true)=true:=Q2.mpr λ_ _=>rfl
 rw[List.all_map,this]
theorem Dx{V:Int->Int->Int}{qs:LP}{as ps:List Int}(g:Good cs ls)(hq:∀q∈qs,(0<=q.1/\q.1<ls.length)/\0<=q.2/\q.2<cs.length)(hV:∀q∈qs,0<=V q.1 q.2/\V q.1 q.2<18446744073709551616)(ok:OkP cs.length ls.length V qs 1 as ps):WM [U7 cs ls,wtD V qs,KN 1 as ps]=some (.bool true):=by
 refine KS (Z:=[some (.pub (U7 cs ls)),some (.pub (wtD V qs)),some (.pub (KN 1 as ps)),none,none]) rfl ?_;unfold Tf;have l1:=g.l1;have c6:=g.c6;have l7:=g.l7;have hal:=ok.la;have hpl:=ok.lp;have i0:oIx (KN 1 as ps) (.int 0)=some (.int 1):=KU (j:=0) rfl;have i1:oIx (KN 1 as ps) (.int 1)=some (.list (as.map int)):=KU (j:=1) rfl;have i2:oIx (KN 1 as ps) (.int 2)=some (.list (ps.map int)):=KU (j:=2) rfl;have hll:U8 [.list (ls.map KL)]=some (.int ls.length):=by rw[K2,Qb]
 have hlc:U8 [.list (cs.map int)]=some (.int cs.length):=by rw[K2,Qb]
 apply Kr;refine Ko (b:=false) (Z1:=[some (.pub (U7 cs ls)),some (.pub (wtD V qs)),some (.pub (KN 1 as ps)),none,none]) (ZY (ZS (Yb (KF (k:=λd=>Uz (Ku d "tuple")) (x:=KN 1 as ps) (UL rfl)))) (U0 (Zq rfl B2) UR (by rw[X4];rfl))) (λz=>by cases z) λ_=>Ky (Kp ?_)
 apply Kr;refine Ko (b:=false) (Z1:=[some (.pub (U7 cs ls)),some (.pub (wtD V qs)),some (.pub (KN 1 as ps)),none,none]) (ZY (ZS (Yb (Kg (UP (Kj rfl UR i0) UU) rfl (Nq 1)))) (U0 (Kj rfl UR i0) UR rfl)) (λz=>by cases z) λ_=>Ky (Kp ?_)
 apply Kr;refine Ko (b:=false) (Z1:=[some (.pub (U7 cs ls)),some (.pub (wtD V qs)),some (.pub (KN 1 as ps)),none,none]) (ZY (ZS (Yb (Kg (UP (Kj rfl UR i1) (UP (K9 (UP (Kj rfl UR Xc) UU) hll) UU)) rfl (LC hal (by omega))))) (ZS (Yb (Kg (UP (Kj rfl UR i2) (UP (K9 (UP (Kj rfl UR XF) UU) hlc) UU)) rfl (LC hpl (by omega)))))) (λz=>by cases z) λ_=>Ky (Kp ?_)
 have hadd:U1 (.list (as.map int)) (.list (ps.map int))=some (.list ((as++ps).map int)):=by rw[QE];exact Xw (by rw[Qb,Qb];omega)
 have hne:0<(as++ps).length:=by rw[Qj];omega
 have hmin:0<=YN (as++ps):=by
  rcases QR.mp (O9 hne)with h|h
  ·exact ok.aa _ h
  ·exact ok.pp _ h
 have hlt:oIB (λi j=>decide (i<j)) (.int (YN (as++ps))) (.int 0)=some false:=by show some (decide (YN (as++ps)<0))=_;rw[QG (by omega)]
 apply Kr;refine Ko (b:=false) (Z1:=[some (.pub (U7 cs ls)),some (.pub (wtD V qs)),some (.pub (KN 1 as ps)),none,none]) (U0 (K9 (UP (U0 (Kj rfl UR i1) (Kj rfl UR i2) hadd) UU) (CQ hne)) UR hlt) (λz=>by cases z) λ_=>Ky (Kp ?_)
 apply Kr;apply Zr (λj Z=>∃x y,Z=[some (.pub (U7 cs ls)),some (.pub (wtD V qs)),some (.pub (KN 1 as ps)),x,y])
 case h1=>exact DE (UL rfl) DF
 case h0=>exact⟨none,none,rfl⟩
 case hst=>
  rintro j d Z hj ⟨x,y,rfl⟩;rw[Qe]at hj;cases hz:qs[j]? with
  |none=>rw[hz]at hj;cases hj
  |some q=>
  rw[hz]at hj;cases hj;have hqm:=Qo hz;have hin:=hq q hqm;have hv:=hV q hqm;have hle:=ok.le q hqm;have hcmp:oIB (λi j=>decide (i<j)) (.int (as.getD q.1.toNat 0+ps.getD q.2.toNat 0)) (.int (1*V q.1 q.2))=some false:=by show some (decide (_<1*V q.1 q.2))=_;rw[QG (by omega)]
  refine⟨_,Kz rfl (U2 (UT (Qa rfl) rfl) (U2 (UT (Qa rfl) rfl) KB)),?_⟩;unfold Mv;exact Ko (b:=false) (Z1:=[some (.pub (U7 cs ls)),some (.pub (wtD V qs)),some (.pub (KN 1 as ps)),some (.pub (.int q.1)),some (.pub (.int q.2))]) (U0 (U0 (U0 (Kj rfl UR i1) (UL rfl) (Mn hin.1.1 (by omega))) (U0 (Kj rfl UR i2) (UL rfl) (Mn hin.2.1 (by omega))) K0) (U0 (Kj rfl UR i0) (U0 (UL rfl) (Yp (UP (UL rfl) (UP (UL rfl) UU)) (Qa rfl)) (NM hqm)) (XJ (by omega) (by omega))) hcmp) (λz=>by cases z) λ_=>Ky (KZ ⟨_,_,rfl⟩)
 case hend=>rintro Z ⟨x,y,rfl⟩;exact Kp (Kv UR rfl)
end
section
variable{cs:List Int}{ls:L3}{ws:LO}
theorem jE(g:Good cs ls):WK [U7 cs ls,Ke ws]=some (.list ((Yo cs ws).map int)):=by
 refine KS (Z:=[some (.pub (U7 cs ls)),some (.pub (Ke ws))]) rfl ?_;unfold Td;have c6:=g.c6;have hlc:U8 [.list (cs.map int)]=some (.int cs.length):=by rw[K2,Qb]
 have hc:KY (gN 2) (UO true) (UN KP (UN oIx (UV 0 (UO (.int 0))) (UB 2)) (Vs (UB 1) (UM (UB 2) (UI)))) (ZP 0 cs.length) (Kl [some (.pub (U7 cs ls)),some (.pub (Ke ws))]++Ux 1 none) []=some ((Yo cs ws).map int):=by
  refine YS (λZ=>∃x,Z=[some (.pub (U7 cs ls)),some (.pub (Ke ws)),x]) _ _ _ _ (by rw[Qb,Yo,Qb,Qu,YW];omega) ?_ ⟨none,rfl⟩ (by rw[YW,QC];omega);rintro j d e hj he Z ⟨x,rfl⟩;obtain⟨rfl,hjl⟩:=Wc hj;have hj':j<cs.length:=by omega
  rw[JT];have he':e=.int (cs[j]-((ws.count (some (j:Int)):Nat):Int)):=by unfold Yo at he;rw[Q4,Qe,QS hj']at he;cases he;show int (cs.getD j 0-_)=_;rw[Qn,Qf hj'];rfl
  subst he';have hix:oIx (.list (cs.map int)) (.int (j:Int))=some (.int cs[j]):=KU (by rw[Qe,Qf hj'];rfl);exact⟨_,UT (Qa rfl) rfl,rfl,U0 (U0 (Kj rfl UR XF) (UL rfl) hix) (OV (UL rfl) (UP (UL rfl) UU) Nj) Yt,_,rfl⟩
 exact Kv (KF (ZT (Xz (UP (K9 (UP (Kj rfl UR XF) UU) hlc) UU) (Xv (by omega) (by omega))) hc)) rfl
theorem qH{tk:List (Nat×Option Int)}(h:∀p∈tk,p.1<ws.length):WI [Ke ws,.list (tk.map Kn)]=some (Ke (tk.foldl (λd p=>d.set p.1 p.2) ws)):=by
 refine KS (Z:=[some (.pub (Ke ws)),some (.pub (.list (tk.map Kn))),none,none,none]) rfl ?_;unfold Tb;refine Kf (Yd (Pl rfl (show Xd [Ke ws]=some (ws.map U5)from rfl)) (Qa rfl) rfl) ?_
 have hlen:∀(R:List (Nat×Option Int))(d:LO),(R.foldl (λd p=>d.set p.1 p.2) d).length=d.length:=λR=>by
  induction R with
  |nil=>intro d;rfl
  |cons p R ih=>intro d;rw[JH,ih,QX]
 apply Kr;apply Zr (λk Z=>∃x3 x4,Z=[some (.pub (Ke ws)),some (.pub (.list (tk.map Kn))),some (.own (((tk.take k).foldl (λd p=>d.set p.1 p.2) ws).map U5)),x3,x4])
 case h1=>exact Zl (UL rfl) ZK
 case h0=>exact⟨_,_,rfl⟩
 case hst=>
  rintro k d Z hk ⟨x3,x4,rfl⟩;rw[Qe]at hk;cases hq:tk[k]? with
  |none=>rw[hq]at hk;cases hk
  |some p=>
  rw[hq]at hk;cases hk;have hpl:=h p (Qo hq);have hta:tk.take (k+1)=tk.take k++[p]:=by rw[JJ,hq];rfl
  refine⟨_,Kz rfl (U2 (UT (Qa rfl) rfl) (U2 (UT (Qa rfl) rfl) KB)),?_⟩;unfold Mu;refine Zx (SK (UL rfl) rfl (UL rfl) rfl ⟨Int.natCast_nonneg _,by rw[Qb,hlen];omega⟩ rfl) (KZ ⟨some (.pub (.int (p.1:Nat))),some (.pub (U5 p.2)),?_⟩);rw[hta,List.foldl_append];show [_,_,some (Sl.own ((((tk.take k).foldl (λd p=>d.set p.1 p.2) ws).map U5).set ((p.1:Int)).toNat (U5 p.2))),_,_]=[_,_,some (Sl.own ((((tk.take k).foldl (λd p=>d.set p.1 p.2) ws).set p.1 p.2).map U5)),_,_];rw[Qt,List.map_set]
 case hend=>rintro Z ⟨x3,x4,rfl⟩;refine Kp (Kv (Yu rfl rfl) ?_);rw[Qb,Jy];rfl
theorem Ba(g:Good cs ls)(hd:Zh cs (UX 0 ls) ls.length ws){W:List (Nat×Option Int)}(hW:WayQ cs (UX 0 ls) ws W):WJ [U7 cs ls,Ke ws,.list (W.map Kn)]=some (.bool true):=by
 have l7:=g.l7;have hl:=hd.len
 let S0:Option Sl:=some (.pub (U7 cs ls))
 let S1:Option Sl:=some (.pub (Ke ws))
 let S2:Option Sl:=some (.pub (.list (W.map Kn)))
 refine KS (Z:=[S0,S1,S2,none,none,none,none,none]) rfl ?_;unfold Tc
 have hWl:W.length<=7:=by
  have h1:=VR ws.length (W.map λp=>((p.1:Nat):Int)) (by
   have e:(W.map λp=>((p.1:Nat):Int))=(W.map Prod.fst).map λn:Nat=>(n:Int):=by rw[Q4];rfl
   rw[e];exact List.Pairwise.map _ (λa b h e=>h (by omega)) hW.nd) (λa ha=>by
   obtain⟨p,hp,rfl⟩:=Qs.mp ha;obtain⟨o,ho,_⟩:=hW.mv p hp;have:=(Qg.mp ho).1
   omega)
  rw[Qb]at h1;omega
 have hlen1:U8 [Ke ws]=some (.int ws.length):=by unfold Ke;rw[K2,Qb]
 have hlen2:U8 [.list (W.map Kn)]=some (.int W.length):=by rw[K2,Qb]
 apply Kr
 refine Ko (b:=false) (Z1:=[S0,S1,S2,none,none,none,none,none]) (ZY (We (UL rfl) rfl) (ZB rfl (ZC UU (Qa rfl)) (by
  rw[EZ];cases hW':W with
  |nil=>exact absurd hW' hW.ne
  |cons x r=>rfl))) (λz=>by cases z) λ_=>Ky (Kp ?_)
 apply Kr;apply Zr (λ_ Z=>∃x3 x4 x5 x6,Z=[S0,S1,S2,x3,x4,x5,x6,none])
 case h1=>exact Xy (UP (UL rfl) UU) XI
 case h0=>exact⟨_,_,_,_,rfl⟩
 case hst=>
  rintro k d Z hk ⟨x3,x4,x5,x6,rfl⟩;obtain⟨x,hx,rfl⟩:=Y8 hk;rw[QY];rw[Qe]at hx;cases hp:W[k]? with
  |none=>rw[hp]at hx;cases hx
  |some p=>
  rw[hp]at hx;cases hx;obtain⟨o,ho,hne,hq⟩:=hW.mv p (Qo hp);obtain⟨hpl,hpo⟩:=Qg.mp ho;have hkl:k<W.length:=(Qg.mp hp).1;refine⟨_,Kz rfl (U2 (UT (Qa rfl) rfl) (U2 (UT (Qa rfl) rfl) KB)),?_⟩;unfold Mt
  let S3:Option Sl:=some (.pub (.int (k:Nat)))
  let S4:Option Sl:=some (.pub (Kn p))
  let S5:Option Sl:=some (.pub (.int (p.1:Nat)))
  let S6:Option Sl:=some (.pub (U5 p.2))
  have t0:oIx (Kn p) (.int 0)=some (.int (p.1:Nat)):=rfl;have t1:oIx (Kn p) (.int 1)=some (U5 p.2):=rfl;apply Kr;refine Ko (b:=false) (Z1:=[S0,S1,S2,S3,S4,x5,x6,none]) (ZY (We (UL rfl) rfl) (ZY (U0 (Zq rfl (show U8 [Kn p]=some (.int 2)from rfl)) UR (by rw[X4];rfl)) (ZS (Yb (t:=true) (Kg (UP (Kj rfl UR t0) UU) rfl (Gw _)))))) (λz=>by cases z) λ_=>Ky (Kp ?_)
  refine Kf (Z1:=[S0,S1,S2,S3,S4,S5,S6,none]) (Vr (UL rfl) (Kz rfl (U2 (UT (Qa rfl) rfl) (U2 (UT (Qa rfl) rfl) KB)))) ?_
  let R:UH:=[S0,S1,S2,S3,S4,S5,S6,none]
  have hcut:DL.cutD (W.map Kn) none (some ((k:Nat):Int))=(W.take k).map Kn:=by rw[DC (by rw[Qb];omega),Ue]
  have hcp:KY (gN 8) (UO true) (UV 8 (UO (.int 0))) ((W.take k).map Kn) (Kl R++Ux 1 none) []=some (((W.take k).map λp=>((p.1:Nat):Int)).map int):=by
   refine YS (λZ=>∃x,Z=R++[x]) _ _ _ _ (by rw[Qb,Qb,Qb]) ?_ ⟨none,rfl⟩ (by rw[Qb,QO,QC];omega);rintro j d e hj he Z ⟨x,rfl⟩;rw[Qe]at hj he;rw[Qe]at he;cases hqj:(W.take k)[j]? with
   |none=>rw[hqj]at hj;cases hj
   |some q=>
   rw[hqj]at hj he;cases hj;cases he;exact⟨_,UT (Qa rfl) rfl,rfl,Kj rfl UR (show oIx (Kn q) (.int 0)=some (.int (q.1:Nat))from rfl),_,rfl⟩
  have hnot:((W.take k).map λp=>((p.1:Nat):Int)).contains ((p.1:Nat):Int)=false:=by
   rw[Bool.eq_false_iff];intro hc;have hm:((p.1:Nat):Int)∈(W.take k).map λp=>((p.1:Nat):Int):=by simpa using hc
   obtain⟨q,hq1,e⟩:=Qs.mp hm;have e:q.1=p.1:=by omega
   obtain⟨j,hj⟩:=List.mem_iff_getElem?.mp hq1;have hjk:j<k:=by have:=(Qg.mp hj).1;rw[QO]at this;omega
   rw[List.getElem?_take_of_lt hjk]at hj;have nd:=hW.nd;have h1:(W.map Prod.fst)[j]?=some p.1:=by rw[Qe,hj,←e];rfl
   have h2:(W.map Prod.fst)[k]?=some p.1:=by rw[Qe,hp];rfl
   obtain⟨l1,e1⟩:=Qg.mp h1;obtain⟨l2,e2⟩:=Qg.mp h2;have:=(List.getElem_inj nd).mp (e1.trans e2.symm);omega
  apply Kr;refine Ko (b:=false) (Z1:=R) (ZY (ZB rfl UR (by rw[Rp,QG (by omega)])) (ZY (ZB rfl (Zq rfl hlen1) (by rw[Rp,QG (by omega)])) (ZB rfl (KF (ZT (Zl (Wk (UL rfl) UR (YV (UL rfl)) Wr) ZK) (by rw[hcut];exact hcp))) (by rw[SH,hnot])))) (λz=>by cases z) λ_=>Ky (Kp ?_)
  have hix1:oIx (Ke ws) (.int ((p.1:Nat):Int))=some (U5 o):=KU (by rw[Qe,ho];rfl)
  have hlast:p.2=none->¬((k:Int)+1<W.length):=λe hlt=>by
   have hk1:k+1<W.length:=by omega
   exact(hW.lnk k p W[k+1] hp (Qf hk1)).1 e
  apply Kr;refine Ko (b:=false) (Z1:=R) (ZY ?_ (ZB rfl (Kj rfl (UL rfl) hix1) (by rw[Ru,QG hne]))) (λz=>by cases z) λ_=>Ky (Kp ?_)
  ·cases h2:p.2 with
   |none=>exact RD (KF (k:=isNon) (x:=U5 p.2) (UL rfl) |>.trans (by rw[h2];rfl)) (U0 (U0 (UL rfl) UR K0) (Zq rfl hlen2) (by rw[Rp,QG (hlast h2)]))
   |some t=>exact RE (KF (k:=isNon) (x:=U5 p.2) (UL rfl) |>.trans (by rw[h2];rfl))
  have nn:UZ (λd=>!isNon d) (UB 6) R=.ok (!isNon (U5 p.2)) R:=PL (UL rfl) rfl;apply Kr;refine Ko (b:=false) (Z1:=R) (Oq nn (λz=>?_) λ_=>rfl) (λz=>by cases z) λ_=>Ky (Kp ?_)
  ·cases h2:p.2 with
   |none=>rw[h2]at z;cases z
   |some t=>exact ZS (Yb (t:=true) (Kg (UP (UL rfl) UU) rfl (by rw[h2];exact Gw t)))
  apply Kr;refine Ko (b:=false) (Z1:=R) (Oq nn (λz=>?_) λ_=>rfl) (λz=>by cases z) λ_=>Ky (Kp ?_)
  ·cases h2:p.2 with
   |none=>rw[h2]at z;cases z
   |some t=>
    obtain⟨i,rs,hi,e1,e2⟩:=Wd (hq t h2);have e1:p.1=i:=by have:((p.1:Nat):Int)=((0+i:Nat):Int):=e1;omega
    subst e1;have hfl:rs.flatten.length<64:=by have:=SV (g.rk rs (Qo hi));have:=g.c6;omega
    exact ZB rfl (Kg (UP (UL rfl) (UP (UL rfl) UU)) rfl (Pq hi hfl)) (by
     rw[h2];show Yg (.int t) _=_;have h:=SH (t:=t) (r:=Zs rs.flatten);have hm:(Zs rs.flatten).contains t=true:=by simpa using(Xb rs.flatten).mem_iff.mpr e2
     rw[hm]at h;unfold Yg;rw[h];rfl)
  refine Ko (b:=false) (Z1:=R) (Oq (t:=decide ((0:Int)<k)) (ZB rfl UR rfl) (λz=>?_) λ_=>rfl) (λz=>by cases z) λ_=>Ky (KZ ⟨_,_,_,_,rfl⟩)
  have hk0:0<k:=by have:=Qa z;omega
  obtain⟨j,rfl⟩:∃j,k=j+1:=⟨k-1,by omega⟩
  have hj:j<W.length:=by omega
  obtain⟨_,hlk⟩:=hW.lnk j W[j] p (Qf hj) hp;rw[ho]at hlk;have hlk:=QQ hlk
  have hixj:oIx (.list (W.map Kn)) (.int (((j+1:Nat):Int)-1))=some (Kn W[j]):=by
   have e:(((j+1:Nat):Int)-1)=((j:Nat):Int):=by omega
   rw[e];exact KU (by rw[Qe,Qf hj];rfl)
  exact U0 (Kj rfl (UL rfl) hix1) (U0 (Kj rfl (U0 (UL rfl) UR Yt) hixj) UR (show oIx (Kn W[j]) (.int 1)=some (U5 W[j].2)from rfl)) (by rw[NQ,Q5 hlk];rfl)
 case hend=>
  rintro Z ⟨x3,x4,x5,x6,rfl⟩;refine Kp ?_
  obtain⟨p0,r0,hW0⟩:∃p r,W=p::r:=by
   cases hW':W with
   |nil=>exact absurd hW' hW.ne
   |cons x r=>exact⟨x,r,rfl⟩
  have hpos:0<W.length:=by rw[hW0,QJ];omega
  let q:=W[W.length-1]
  have hq:W[W.length-1]?=some q:=Qf (by omega);have hgl:W.getLast?=some q:=by rw[JL];exact hq
  have hhd:W.head?=some p0:=by rw[hW0];rfl
  have hixq:oIx (.list (W.map Kn)) (.int (-1))=some (Kn q):=Ow (by rw[List.getLast?_map,hgl];rfl);have hix0:oIx (.list (W.map Kn)) (.int 0)=some (Kn p0):=KU (j:=0) (by rw[hW0];rfl)
  let S7:Option Sl:=some (.pub (U5 q.2))
  refine Kf (Z1:=[S0,S1,S2,x3,x4,x5,x6,S7]) (Kx (U0 (Kj rfl (SB UR) hixq) UR (show oIx (Kn q) (.int 1)=some (U5 q.2)from rfl)) (Qa rfl) rfl) ?_;obtain⟨o0,ho0,_⟩:=hW.mv p0 (by rw[hW0];exact Qm);have hixd:oIx (Ke ws) (.int ((p0.1:Nat):Int))=some (U5 o0):=KU (by rw[Qe,ho0];rfl);have tq:UZ isNon (UB 7) [S0,S1,S2,x3,x4,x5,x6,S7]=.ok (isNon (U5 q.2)) [S0,S1,S2,x3,x4,x5,x6,S7]:=KF (k:=isNon) (UL rfl);have tw:K6 oEq 7 (UV 1 (UN oIx (UV 2 (UO (.int 0))) (UO (.int 0)))) [S0,S1,S2,x3,x4,x5,x6,S7]=.ok (decide (q.2=o0)) [S0,S1,S2,x3,x4,x5,x6,S7]:=ZB rfl (Kj rfl (U0 (Kj rfl UR hix0) UR (show oIx (Kn p0) (.int 0)=some (.int (p0.1:Nat))from rfl)) hixd) Ru;apply Kr;refine Ko (GS tq λ_=>tw) (λ_=>Kv UR (Ws rfl)) λz=>Ky (Kp ?_);rw[Bool.or_eq_false_iff]at z;rcases hW.fin p0 q hhd hgl with e|e|⟨t,e,c,hc,hlt⟩
  ·rw[e]at z;cases z.1
  ·rw[ho0]at e;have e:=QQ e;have:=Je z.2;exact absurd e.symm this
  ·have htl:=(Qg.mp hc).1
   have hixl:oIx (.list ((Yo cs ws).map int)) (.int ((t:Nat):Int))=some (.int (c-((ws.count (some (t:Int)):Nat):Int))):=KU (by
    unfold Yo;rw[Qe,Qe,QS htl];show some (int (cs.getD t 0-_))=_;rw[Qn,hc]
    rfl)
   refine Kv (KF (U0 (U0 (Kg (UP (UL rfl) (UP (UL rfl) UU)) rfl (jE g)) (UL rfl) (by rw[e];exact hixl)) UR (by rw[Rp,Q5 (by omega)]))) rfl
end
section
variable{cs:List Int}{ls:L3}{o:Ord}{old:Option LO}{ts:List Int}{ws:LO}
theorem C9(du:Deal cs ls ws):Zh cs (UX 0 ls) ls.length ws:=⟨du.len,λi t h=>by
 have hil:i<ls.length:=by have:=(Qg.mp h).1;have:=du.len;omega
 have hrs:ls[i]?=some ls[i]:=Qf hil;have:=OM (k:=0) hrs (du.wish i t _ h hrs);rwa[QY]at this,du.cop⟩
theorem C8(g:Good cs ls)(ga:YH cs.length ls.length old ts)(hdq:Zh cs (UX 0 ls) ls.length ws)(hst:Wi cs (US (U4 ls o old ts)) (UX 0 ls) ws) :
  WH [U7 cs ls,wtD (U4 ls o old ts) (UX 0 ls),Ke ws,KN 1 (Yj ls.length (US (U4 ls o old ts)) (prW cs (US (U4 ls o old ts)) (UX 0 ls) ws) (UX 0 ls)) ((Uw cs.length).map (prW cs (US (U4 ls o old ts)) (UX 0 ls) ws))]=some (.bool true):=by
 have l7:=g.l7;have c6:=g.c6;have l1:=g.l1;have hp:=SY g;obtain⟨ok,hcl⟩:=LH hp hdq (VE hp hdq) (Hx hp hdq) (V:=prW cs (US (U4 ls o old ts)) (UX 0 ls) ws) (λ_=>rfl) hst;have dl:=SL hdq;rw[OC ls ws ls 0 (λj rs h=>by rw[QY,Qn,h];rfl) dl.len]at hcl;have hpr:=Bt (o:=o) g ga hdq;have rp:∀t∈(Uw cs.length).map (prW cs (US (U4 ls o old ts)) (UX 0 ls) ws),0<=t/\t<=200000000000000000000:=λt ht=>by obtain⟨p,_,rfl⟩:=Qs.mp ht;have:=hpr p;omega
 have ra:∀t∈Yj ls.length (US (U4 ls o old ts)) (prW cs (US (U4 ls o old ts)) (UX 0 ls) ws) (UX 0 ls),0<=t/\t<=200000000000000000000:=λt ht=>by obtain⟨p,_,rfl⟩:=Qs.mp ht;have:=LV (o:=o) g ga (λp=>(hpr p).1) (p:Int) (UX 0 ls) (λq h=>h) 0 (QW 0) (by decide);unfold Zz;omega
 have la:(Yj ls.length (US (U4 ls o old ts)) (prW cs (US (U4 ls o old ts)) (UX 0 ls) ws) (UX 0 ls)).length=ls.length:=ok.la;have lp:((Uw cs.length).map (prW cs (US (U4 ls o old ts)) (UX 0 ls) ws)).length=cs.length:=ok.lp;have ok:OkP cs.length ls.length (U4 ls o old ts) (UX 0 ls) 1 (Yj ls.length (US (U4 ls o old ts)) (prW cs (US (U4 ls o old ts)) (UX 0 ls) ws) (UX 0 ls)) ((Uw cs.length).map (prW cs (US (U4 ls o old ts)) (UX 0 ls) ws)):=ok;have hcl:Vq cs (Yj ls.length (US (U4 ls o old ts)) (prW cs (US (U4 ls o old ts)) (UX 0 ls) ws) (UX 0 ls)) ((Uw cs.length).map (prW cs (US (U4 ls o old ts)) (UX 0 ls) ws))=_:=hcl;generalize Yj ls.length (US (U4 ls o old ts)) (prW cs (US (U4 ls o old ts)) (UX 0 ls) ws) (UX 0 ls)=as at *;generalize (Uw cs.length).map (prW cs (US (U4 ls o old ts)) (UX 0 ls) ws)=ps at *;have hix0:oIx (KN 1 as ps) (.int 0)=some (.int 1):=rfl;have hixa:oIx (KN 1 as ps) (.int 1)=some (.list (as.map int)):=rfl;have hixp:oIx (KN 1 as ps) (.int 2)=some (.list (ps.map int)):=rfl;have hadd:U1 (.list (as.map int)) (.list (ps.map int))=some (.list ((as++ps).map int)):=by rw[Xw (by rw[Qb,Qb];omega),QE]
 have hne:0<(as++ps).length:=by rw[Qj];omega
 have hmm:=RI hne
 have hmr:most (as++ps)<=200000000000000000000:=by
  rcases QR.mp hmm with h|h
  ·exact(ra _ h).2
  ·exact(rp _ h).2
 have hcmp:oIB (λi j=>decide (j<=i)) (.int (most (as++ps))) (.int ((10:Int) ^ (40:Int).toNat))=some false:=by
  show some (decide ((10:Int) ^ (40:Int).toNat<=most (as++ps)))=_;rw[QG];have:(200000000000000000000:Int)<(10:Int) ^ (40:Int).toNat:=by decide +kernel
  omega
 refine KS (Z:=[some (.pub (U7 cs ls)),some (.pub (wtD (U4 ls o old ts) (UX 0 ls))),some (.pub (Ke ws)),some (.pub (KN 1 as ps))]) rfl ?_;unfold Ta;have hlet:=Dx g (Mo g) (λq hq=>Pk (o:=o) g ga hq) ok;have heq:oEq (.int (Vq cs as ps)) (.int (Ye (YL (Ze ls o old ts) 0 ls ws)))=some true:=by rw[Xx,hcl];simp
 apply Kr;refine Ko (b:=false) (ZY (ZS (Yb (Kg (UP (UL rfl) (UP (UL rfl) UU)) rfl (kf g dl)))) (ZS (Yb (Kg (UP (UL rfl) (UP (UL rfl) (UP (UL rfl) UU))) rfl hlet)))) (λz=>by cases z) λ_=>Ky (Kp ?_)
 apply Kr
 first
  |refine Ko (b:=false) (ZY (U0 (Kj rfl UR hix0) UR (by rw[X4];rfl)) (U0 (K9 (UP (U0 (Kj rfl UR hixa) (Kj rfl UR hixp) hadd) UU) (OW hne)) (U0 UR UR (M5 ⟨by decide,by decide,by decide⟩)) hcmp)) (λz=>by cases z) λ_=>Ky (Kp ?_)
  |refine Ko (b:=false) (U0 (Kj rfl UR hix0) UR (by rw[X4];rfl)) (λz=>by cases z) λ_=>Ky (Kp ?_)
 exact Kv (KF (U0 (Kg (UP (UL rfl) (UP (UL rfl) UU)) rfl (jN g)) (Kg (UP (UL rfl) (UP (UL rfl) UU)) rfl (RK g dl)) heq)) rfl
end
section
variable{cs:List Int}{ls:L3}
theorem qG(g:Good cs ls):Deal cs ls (Ux ls.length none) where
 len:=QA
 wish:=λi t rs e _=>by rw[Qv]at e;split at e<;>cases e
 cop:=λk c e=>by have:=g.c7 c (Qo e);rw[List.count_eq_zero.mpr (λh=>by have:=(JE.mp h).2;cases this)];omega
theorem C7:∀ns:List Int,ns.length<=63->WG [.list (ns.map int)]=some (.bool true):=by
 intro ns hns;refine KS (Z:=[some (.pub (.list (ns.map int))),none,none,none,none,none,none,none,none,none]) rfl ?_;unfold V9;obtain⟨r,hr,cs,ls,rfl,g,_⟩:=jR 5 6 4 (ns:=ns) (by omega) 1;have l7:=g.l7;have c6:=g.c6;refine Kf (Kx (Kg (UP (UL rfl) (UP UR (UP UR (UP UR (UP UR UU))))) rfl hr) (Qa rfl) rfl) ?_;obtain⟨v,hv⟩:=Nr ns 0 (by omega);obtain⟨r,ha,o,old,ts,rfl,ga⟩:=Bk g v 5;have hp:=SY g;refine Kf (Kx (Kg (UP (UL rfl) (UP (Kg (UP (UL rfl) (UP UR UU)) rfl hv) (UP UR UU))) rfl ha) (Qa rfl) rfl) ?_;refine Kf (Kx (Kg (UP (UL rfl) (UP (UL rfl) UU)) rfl (jX g ga)) (Qa rfl) rfl) ?_;obtain⟨wb,hbd,hdb,hsb⟩:=kg (o:=o) g ga;have dlb:=SL hdb;have hix:∀d:D,oIx (.tuple [Ke wb,d]) (.int 0)=some (Ke wb):=λd=>KU (j:=0) rfl;refine Kf (Kx (Kg (UP (UL rfl) (UP (U0 (Kg (UP (UL rfl) (UP (UL rfl) UU)) rfl hbd) UR (hix _)) UU)) rfl (RK g dlb)) (Qa rfl) rfl) ?_
 let sm:LO->Int:=λus=>Ye (YL (Ze ls o old ts) 0 ls us)
 have tot:∀us,Zh cs (UX 0 ls) ls.length us->Km (US (U4 ls o old ts)) 0 us=sm us:=λus hu=>OC ls us ls 0 (λj rs h=>by rw[QY,Qn,h];rfl) (SL hu).len
 let S0:Option Sl:=some (.pub (.list (ns.map int)))
 let S1:Option Sl:=some (.pub (U7 cs ls))
 let S2:Option Sl:=some (.pub (KJ o old ts))
 let S3:Option Sl:=some (.pub (wtD (U4 ls o old ts) (UX 0 ls)))
 let S4:Option Sl:=some (.pub (.int (sm wb)))
 have hm:U8 [.list (ls.map KL)]=some (.int ls.length):=by rw[K2,Qb]
 have hn:Ki (.list [.none]) (.int ls.length)=some (Ke (Ux ls.length none)):=by rw[P1 (by omega)];show _=some (Uy ((Ux ls.length none).map U5));rw[JF];rfl
 let R:UH:=[S0,S1,S2,S3,S4,none,none,none,none,none]
 have hmap:∀cl:List Int,∃es:List D,es.length=cl.length/\(∀e∈es,∃us,e=Ke us/\Deal cs ls us)/\∀(i:Nat) d e,(cl.map int)[i]?=some d->es[i]?=some e->Xp [U7 cs ls,d,.int 31]=some e:=by
  intro cl;induction cl with
  |nil=>exact⟨[],rfl,λe h=>(by cases h),λi d e h=>by simp at h⟩
  |cons c r ih=>
   obtain⟨es,e1,e2,e3⟩:=ih;obtain⟨q,hq,us,rfl,du⟩:=qa g c 31;refine⟨Ke us::es,by rw[QJ,e1,QJ],λe he=>?_,λi d e h1 h2=>?_⟩
   ·rcases QP.mp he with rfl|he
    ·exact⟨us,rfl,du⟩
    ·exact e2 e he
   ·cases i with
    |zero=>cases h1;cases h2;exact hq
    |succ i=>exact e3 i d e (by simpa using h1) (by simpa using h2)
 have hcut:DL.cutD (ns.map int) (some 8) (some 11)=((ns.drop 8).take 3).map int:=by
  have:DL.cutD (ns.map int) (some 8) (some 11)=((ns.map int).drop (min 8 (ns.map int).length)).take (min 11 (ns.map int).length-min 8 (ns.map int).length):=by
   unfold DL.cutD
   first|rfl|simp
  rw[this,Qb,Ue,List.map_drop];by_cases h8:8<=ns.length
  ·rw[JQ h8];by_cases h11:11<=ns.length
   ·rw[JQ h11]
   ·rw[Nat.min_eq_right (by omega),List.take_of_length_le (by rw[Jj,Qb];exact Qr _),List.take_of_length_le (by rw[Jj,Qb];omega)]
  ·rw[Nat.min_eq_right (a:=8) (by omega),Nat.min_eq_right (a:=11) (by omega),List.drop_of_length_le (i:=ns.length) (by rw[Qb];exact Qr _),List.drop_of_length_le (i:=8) (by rw[Qb];omega),List.take_nil,List.take_nil]
 obtain⟨es,e1,e2,e3⟩:=hmap ((ns.drop 8).take 3);have hel:es.length<=3:=by rw[e1,QO];omega
 have hc:KY (gN 10) (UO true) (UW 3 Xp (UM (UB 1) (UM (UB 10) (UM (UO (.int 31)) (UI))))) (DL.cutD (ns.map int) (some 8) (some 11)) (Kl R++Ux 1 none) []=some es:=by rw[hcut];refine(YS (λZ=>∃x,Z=R++[x]) _ es _ _ (by rw[Qb];exact e1) ?_ ⟨none,rfl⟩ (by rw[Qb,←e1,QC];omega)).trans (by rw[Ji]);rintro i d e hd he Z ⟨x,rfl⟩;exact⟨_,UT (Qa rfl) rfl,rfl,Kg (UP (UL rfl) (UP (UL rfl) (UP UR UU))) rfl (e3 i d e hd he),_,rfl⟩
 have hst:∀e∈Ke (Ux ls.length none)::es,∃us,e=Ke us/\Deal cs ls us:=λe he=>by
  rcases QP.mp he with rfl|he
  ·exact⟨_,rfl,qG g⟩
  ·exact e2 e he
 refine Kf (Kx (U0 (ZC (UP (U0 (ZC (UP UR UU) (Qa rfl)) (K9 (UP (Kj rfl UR Xc) UU) hm) hn) UU) (Qa rfl)) (KF (ZT (Zl (Wk (UL rfl) (YV UR) (YV UR) Wr) ZK) hc)) (Xw (by show 1+es.length<=_;omega))) (Qa rfl) rfl) ?_;have eqB:oEq (.str "best") (.str "way")=some false:=by decide +kernel
 have eqW:oEq (.str "way") (.str "way")=some true:=by decide +kernel
 have neB:oNe (.str "best") (.str "way")=some true:=by decide +kernel
 have neW:oNe (.str "way") (.str "way")=some false:=by decide +kernel
 have i0:∀(s:Str)(x:D),oIx (.tuple [.str s,x]) (.int 0)=some (.str s):=λs x=>rfl;have i1:∀(s:Str)(x:D),oIx (.tuple [.str s,x]) (.int 1)=some x:=λs x=>rfl
 let S5:Option Sl:=some (.pub (.list ([Ke (Ux ls.length none)]++es)))
 let Told:LO->D->Prop:=λus d=>(∃x,d=.tuple [.str "way", x])∨(d=.tuple [.str "best", KN 1 (Yj ls.length (US (U4 ls o old ts)) (prW cs (US (U4 ls o old ts)) (UX 0 ls) us) (UX 0 ls)) ((Uw cs.length).map (prW cs (US (U4 ls o old ts)) (UX 0 ls) us))]/\Wi cs (US (U4 ls o old ts)) (UX 0 ls) us)
 apply Kr;apply Zr (λ_ Z=>∃y6 y7 y8 y9,Z=[S0,S1,S2,S3,S4,S5,y6,y7,y8,y9])
 case h1=>exact Zl (UL rfl) ZK
 case h0=>exact⟨_,_,_,_,rfl⟩
 case hst=>
  rintro i d Z hi ⟨y6,y7,y8,y9,rfl⟩;obtain⟨us,rfl,du⟩:=hst d (Qo hi);refine⟨_,UT (Qa rfl) rfl,?_⟩;unfold ME;refine Kf (Kx (Yp (UP UR (UP UR UU)) (Qa rfl)) (Qa rfl) rfl) ?_;apply Kr;apply Zr (λ_ Z=>∃ws d y8 y9,Z=[S0,S1,S2,S3,S4,S5,some (.pub (Ke ws)),some (.pub d),y8,y9]/\Zh cs (UX 0 ls) ls.length ws/\Told ws d)
  case h1=>exact Xz (UP UR UU) (Xv (by decide) (by decide))
  case h0=>exact⟨us,_,_,_,rfl,C9 du,.inl ⟨_,rfl⟩⟩
  case hst=>
   rintro j d Z hj ⟨ws,d,y8,y9,rfl,hd,ht⟩;refine⟨_,UT (Qa rfl) rfl,?_⟩;unfold MF;rcases ht with ⟨x,rfl⟩|⟨rfl,hs⟩
   ·refine Ko (b:=true) (U0 (Kj rfl UR (i0 _ _)) UR eqW) (λ_=>?_) λz=>by cases z
    obtain⟨d,hb,h⟩:=jF (o:=o) g ga hd;refine Kf (Kx (Kg (UP (UL rfl) (UP (UL rfl) (UP (KF (Pl rfl (show Xd [Ke ws]=some (ws.map U5)from rfl))) UU))) rfl hb) (Qa rfl) rfl) ?_;rcases h with ⟨rfl,hs⟩|⟨r,b,rfl,hg⟩
    ·exact Ko (b:=false) (U0 (Kj rfl UR (i0 _ _)) UR eqB) (λz=>by cases z) λ_=>Ky (KZ ⟨ws,_,_,_,rfl,hd,.inr ⟨rfl,hs⟩⟩)
    ·obtain⟨hd2,htot,hne,hlt⟩:=hg.does hp hd;have hw:=hg.way hp hd;have hpos:=hg.pos;rw[tot _ hd,tot _ hd2]at htot;refine Ko (b:=true) (U0 (Kj rfl UR (i0 _ _)) UR eqW) (λ_=>?_) λz=>by cases z
     apply Kr;refine Ko (b:=false) (ZS (Yb (Kg (UP (UL rfl) (UP (UL rfl) (UP (Kj rfl UR (i1 _ _)) UU))) rfl (Ba g hd hw)))) (λz=>by cases z) λ_=>Ky (Kp ?_)
     refine Kf (Kx (Kg (UP (UL rfl) (UP (Kj rfl UR (i1 _ _)) UU)) rfl (qH hlt)) (Qa rfl) rfl) ?_;apply Kr;refine Ko (b:=false) (U0 (Kg (UP (UL rfl) (UP (UL rfl) UU)) rfl (RK g (SL hd2))) (Kg (UP (UL rfl) (UP (UL rfl) UU)) rfl (RK g (SL hd))) (by rw[Rp,QG (by show ¬sm _<=sm _;omega)])) (λz=>by cases z) λ_=>Ky (Kp ?_)
     exact Zx (Kx (UL rfl) (Qa rfl) rfl) (KZ ⟨_,_,_,_,rfl,hd2,.inl ⟨_,rfl⟩⟩)
   ·exact Ko (b:=false) (U0 (Kj rfl UR (i0 _ _)) UR eqB) (λz=>by cases z) λ_=>Ky (KZ ⟨ws,_,_,_,rfl,hd,.inr ⟨rfl,hs⟩⟩)
  case hend=>
   rintro Z ⟨ws,d,y8,y9,rfl,hd,ht⟩;refine Kp ?_;rcases ht with ⟨x,rfl⟩|⟨rfl,hs⟩
   ·exact Ko (b:=false) (U0 (Kj rfl UR (i0 _ _)) UR neW) (λz=>by cases z) λ_=>Ky (KZ ⟨_,_,_,_,rfl⟩)
   ·refine Ko (b:=true) (U0 (Kj rfl UR (i0 _ _)) UR neB) (λ_=>?_) λz=>by cases z
    have h1:=HB hp hd hs hdb;have h2:=HB hp hdb hsb hd;rw[tot _ hd,tot _ hdb]at h1 h2;apply Kr;refine Ko (b:=false) (ZS (Yb (Kg (UP (UL rfl) (UP (UL rfl) (UP (UL rfl) (UP (Kj rfl UR (i1 _ _)) UU)))) rfl (C8 g ga hd hs)))) (λz=>by cases z) λ_=>Ky (Kp ?_)
    exact Ko (b:=false) (U0 (Kg (UP (UL rfl) (UP (UL rfl) UU)) rfl (RK g (SL hd))) (UL rfl) (by
     rw[X4];show some (!decide (sm ws=sm wb))=_;rw[Q5 (by omega)]
     rfl)) (λz=>by cases z) λ_=>Ky (KZ ⟨_,_,_,_,rfl⟩)
 case hend=>rintro Z ⟨y6,y7,y8,y9,rfl⟩;exact Kp (Kv UR rfl)
end
end W
open PySem PySem.W PyProof.Rows
set_option maxRecDepth 100000 in
set_option maxHeartbeats 0 in
theorem PySem.Challenge.cw_wishdeal_k44_whole_bettered_until_best_holds : PySem.Challenge.rw_wishdeal_k44_whole_bettered_until_best.Holds := by
 w_on;o_law
 refine holds_open (q:=W.q0) (loose:=[]) (Xt:=λs=>xlAt W.q0 [] s&&recOk [] s) (XP:=XL W.q0 []) (Yf:=Hook.obs .none) (Ya:=Hook.val .none) (YP:=Hook.says .none) (N:=5408) (d:=W.d_cg) (kwd:=[])
  W.Fe (Hook.of .none) (Hook.keeps .none) (λs e=>xl_of s (Bool.and_eq_true_iff.mp e).1) XL.keeps (by rfl) (by rfl) (by rfl)
  (λs e=>recFacts_of (Bool.and_eq_true_iff.mp e).2) (by rfl) (by assumption) (by decide +kernel) ⟨rfl,rfl,rfl,rfl,rfl,by decide +kernel⟩ ?hw (W.walk W.C7)
 case hw=>w_witness2


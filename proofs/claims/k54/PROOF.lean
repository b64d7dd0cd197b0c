import PyProof.Rows.All
import Wide.All
import OpenK.AllK
import Wide.FinOn
import Lean
import PyProof.EqAt
import PyProof.EqKinds
import PyProof.TupleCall
import PyProof.EnumMake
import PyProof.ZipIter
import PyProof.ExcClass2
import PyProof.ExcInit
import PyProof.ExcBaseAll.ValueError
import PyProof.FString2
import PyProof.ExcArgsOwn
import PyProof.InstStoreFacts
import ObjForm.Fk.InstStore
import ObjForm.Fk.InstLoad
import PyProof.StationsW
import PyProof.RulesAs
import PyProof.NsDelKeeps
import OpenK.KMore
import PyProof.IsiBase
import OpenK.KNot
import PyProof.Rows.RuleN_isinstance
import PyProof.NeData
import PyProof.P3In
import PyProof.StrWalks
import PyProof.ConsumeWalk
import PyProof.SliceStr2
import PyProof.MeetsStr
import KE.KItem
import KE.KUnpack
import KE.KRevSl
import PyProof.Rows.SetFrom
import PyProof.SetRoads
import PyProof.Rows.Range3
import PyProof.CallType
import PyProof.Rows.CallKwBuiltin
import PyProof.Rows.MinMaxN
import PyProof.SumWalkG
import PyProof.Rows.SeqMore
import PyProof.Rows.SortWalk
import PyProof.Rows.SumAny
import PyProof.Rows.SeqMore2
import KE.KSortTup
import PyProof.Rows.SortShellK
import PyProof.ReprRoads
import PyProof.ReprBulk
import PyProof.CallFns
import PyProof.NeKinds
import PyProof.Rows.StrJoinMade
import PyProof.StrCalls
import KE.KIntText
import PyProof.ReprDict
import PyProof.DictIter
import PyProof.Rows.DictUnroll
import PySem.Challenge.RW_wishdeal_k54_whole_levels_and_counts
set_option Elab.async false
set_option linter.all false
set_option maxRecDepth 100000
set_option maxHeartbeats 4000000
theorem Qa:type_of% @of_decide_eq_true:=@of_decide_eq_true
theorem Qb:type_of% @List.length_map:=@List.length_map
theorem Qd:type_of% @List.getElem?_map:=@List.getElem?_map
theorem Qe:type_of% @List.getElem?_eq_getElem:=@List.getElem?_eq_getElem
theorem Qf:type_of% @PySem.wpAny_bind:=@PySem.wpAny_bind
theorem Qg:type_of% @List.getD_eq_getElem?_getD:=@List.getD_eq_getElem?_getD
theorem Qh:type_of% @List.getElem?_eq_some_iff:=@List.getElem?_eq_some_iff
theorem Qi:type_of% @PySem.Heap.lt_size:=@PySem.Heap.lt_size
theorem Qj:type_of% @List.mem_cons_of_mem:=@List.mem_cons_of_mem
theorem Qk:type_of% @PySem.Heap.get?_push_of_some:=@PySem.Heap.get?_push_of_some
theorem Ql:type_of% @List.length_append:=@List.length_append
theorem Qm:type_of% @if_pos:=@if_pos
theorem Qn:type_of% @PySem.wpAny_pure:=@PySem.wpAny_pure
theorem Qo:type_of% @List.mem_cons_self:=@List.mem_cons_self
theorem Qp:type_of% @List.length_range:=@List.length_range
theorem Qq:type_of% @List.mem_of_getElem?:=@List.mem_of_getElem?
theorem Qr:type_of% @List.getElem?_append_right:=@List.getElem?_append_right
theorem Qs:type_of% @List.getElem?_set_ne:=@List.getElem?_set_ne
theorem Qt:type_of% @PySem.PassesOwn.never:=@PySem.PassesOwn.never
theorem Qu:type_of% @Int.toNat_natCast:=@Int.toNat_natCast
theorem Qv:type_of% @List.mem_map:=@List.mem_map
theorem Qw:type_of% @List.getElem?_append_left:=@List.getElem?_append_left
theorem Qx:type_of% @Nat.le_refl:=@Nat.le_refl
theorem Qy:type_of% @if_neg:=@if_neg
theorem Qz:type_of% @List.map_cons:=@List.map_cons
theorem QA:type_of% @List.getElem?_replicate:=@List.getElem?_replicate
theorem QB:type_of% @List.getElem?_eq_none:=@List.getElem?_eq_none
theorem QC:type_of% @List.map_append:=@List.map_append
theorem QD:type_of% @List.length_replicate:=@List.length_replicate
theorem QE:type_of% @PySem.Heap.get?_push_size:=@PySem.Heap.get?_push_size
theorem QF:type_of% @List.getElem?_set_self:=@List.getElem?_set_self
theorem QG:type_of% @List.length_cons:=@List.length_cons
theorem QH:type_of% @List.size_toArray:=@List.size_toArray
theorem QI:type_of% @List.mem_append_right:=@List.mem_append_right
theorem QJ:type_of% @Nat.lt_of_lt_of_le:=@Nat.lt_of_lt_of_le
theorem QK:type_of% @PySem.wpAny_loadPart_at:=@PySem.wpAny_loadPart_at
theorem QL:type_of% @List.flatten_cons:=@List.flatten_cons
theorem QM:type_of% @PySem.wpAny_mono:=@PySem.wpAny_mono
theorem QN:type_of% @decide_eq_false:=@decide_eq_false
theorem QO:type_of% @Nat.le_trans:=@Nat.le_trans
theorem QP:type_of% @Nat.zero_add:=@Nat.zero_add
theorem QQ:type_of% @List.length_nil:=@List.length_nil
theorem QR:type_of% @List.replicate_succ:=@List.replicate_succ
theorem QS:type_of% @List.getElem?_range:=@List.getElem?_range
theorem QT:type_of% @Nat.ne_of_lt:=@Nat.ne_of_lt
theorem QU:type_of% @List.mem_cons:=@List.mem_cons
theorem QW:type_of% @Int.le_refl:=@Int.le_refl
theorem QX:type_of% @List.mem_append:=@List.mem_append
theorem QY:type_of% @Option.some.inj:=@Option.some.inj
theorem QZ:type_of% @List.length_take:=@List.length_take
theorem Q0:type_of% @List.lookup_cons:=@List.lookup_cons
theorem Q2:type_of% @PySem.wpAny_truthy_bool:=@PySem.wpAny_truthy_bool
theorem Q3:type_of% @decide_eq_true:=@decide_eq_true
theorem Q4:type_of% @List.count_cons:=@List.count_cons
theorem Q5:type_of% @List.mem_range:=@List.mem_range
theorem Q6:type_of% @List.length_set:=@List.length_set
theorem Q7:type_of% @List.sum_cons:=@List.sum_cons
theorem Q8:type_of% @List.drop_eq_getElem_cons:=@List.drop_eq_getElem_cons
theorem Q9:type_of% @Nat.le_of_not_lt:=@Nat.le_of_not_lt
theorem Ja:type_of% @Bool.and_eq_true:=@Bool.and_eq_true
theorem Jb:type_of% @PySem.boot_len:=@PySem.boot_len
theorem Jc:type_of% @List.mem_append_left:=@List.mem_append_left
theorem Jd:type_of% @List.map_map:=@List.map_map
theorem Je:type_of% @List.mem_singleton:=@List.mem_singleton
theorem Jf:type_of% @of_decide_eq_false:=@of_decide_eq_false
theorem Jg:type_of% @Array.getD_eq_getD_getElem?:=@Array.getD_eq_getD_getElem?
theorem Jh:type_of% @List.length_singleton:=@List.length_singleton
theorem Ji:type_of% @List.append_nil:=@List.append_nil
theorem Jj:type_of% @List.length_drop:=@List.length_drop
theorem Jk:type_of% @List.length_filterMap_le:=@List.length_filterMap_le
theorem Jl:type_of% @List.append_assoc:=@List.append_assoc
theorem Jm:type_of% @List.ext_getElem?:=@List.ext_getElem?
theorem Jn:type_of% @decide_eq_true_eq:=@decide_eq_true_eq
theorem Jo:type_of% @List.mem_filterMap:=@List.mem_filterMap
theorem Jp:type_of% @List.mem_filter:=@List.mem_filter
theorem Jq:type_of% @List.all_eq_true:=@List.all_eq_true
theorem Jr:type_of% @Int.mul_le_mul_of_nonneg_right:=@Int.mul_le_mul_of_nonneg_right
theorem Js:type_of% @PySem.wpAny_isSubtype_exc:=@PySem.wpAny_isSubtype_exc
theorem Jt:type_of% @PySem.wpAny_standAt:=@PySem.wpAny_standAt
theorem Ju:type_of% @PySem.wpAny_passesOwn:=@PySem.wpAny_passesOwn
theorem Jv:type_of% @Nat.lt_irrefl:=@Nat.lt_irrefl
theorem Jw:type_of% @List.pairwise_cons:=@List.pairwise_cons
theorem Jx:type_of% @PySem.W.Fast.te1987589406359920131:=@PySem.W.Fast.te1987589406359920131
theorem Jy:type_of% @List.filterMap_cons:=@List.filterMap_cons
theorem Jz:type_of% @Array.length_toList:=@Array.length_toList
theorem JA:type_of% @List.length_reverse:=@List.length_reverse
theorem JB:type_of% @List.map_congr_left:=@List.map_congr_left
theorem JC:type_of% @List.nil_append:=@List.nil_append
theorem JD:type_of% @PySem.W.kia_one:=@PySem.W.kia_one
theorem JE:type_of% @List.sum_append:=@List.sum_append
theorem JF:type_of% @List.take_length:=@List.take_length
theorem JG:type_of% @PySem.wpAny_pyIter_list:=@PySem.wpAny_pyIter_list
theorem JH:type_of% @PyProof.Rows.callWith_type1:=@PyProof.Rows.callWith_type1
theorem JI:type_of% @List.getElem_mem:=@List.getElem_mem
theorem JJ:type_of% @List.mem_flatten:=@List.mem_flatten
theorem JK:type_of% @Bool.false_ne_true:=@Bool.false_ne_true
theorem JL:type_of% @List.take_succ:=@List.take_succ
theorem JM:type_of% @List.length_filter_le:=@List.length_filter_le
theorem JN:type_of% @Array.getElem?_eq_getElem:=@Array.getElem?_eq_getElem
theorem JO:type_of% @Bool.eq_iff_iff:=@Bool.eq_iff_iff
theorem JP:type_of% @Int.le_antisymm:=@Int.le_antisymm
theorem JQ:type_of% @Int.le_trans:=@Int.le_trans
theorem JR:type_of% @Int.zero_add:=@Int.zero_add
theorem JS:type_of% @Nat.lt_succ_iff_lt_or_eq:=@Nat.lt_succ_iff_lt_or_eq
theorem JT:type_of% @PySem.mem_of_lookup:=@PySem.mem_of_lookup
theorem JU:type_of% @List.take_zero:=@List.take_zero
theorem JV:type_of% @Option.getD_some:=@Option.getD_some
theorem JW:type_of% @List.getElem_map:=@List.getElem_map
theorem JX:type_of% @Nat.le_succ:=@Nat.le_succ
theorem JY:type_of% @Nat.zero_le:=@Nat.zero_le
theorem JZ:type_of% @Nat.ne_of_gt:=@Nat.ne_of_gt
theorem J0:type_of% @List.getElem_range:=@List.getElem_range
theorem J4:type_of% @List.drop_eq_nil_of_le:=@List.drop_eq_nil_of_le
theorem J5:type_of% @Bool.false_eq_true:=@Bool.false_eq_true
theorem J6:type_of% @Nat.add_sub_cancel:=@Nat.add_sub_cancel
theorem J7:type_of% @List.map_replicate:=@List.map_replicate
theorem J8:type_of% @List.foldl_cons:=@List.foldl_cons
theorem J9:type_of% @Nat.not_lt_zero:=@Nat.not_lt_zero
theorem Ua:type_of% @List.range_succ:=@List.range_succ
theorem Ub:type_of% @PyProof.Rows.boot_all:=@PyProof.Rows.boot_all
theorem Uc:type_of% @List.getElem?_reverse:=@List.getElem?_reverse
theorem Ud:type_of% @List.take_append_drop:=@List.take_append_drop
theorem Ue:type_of% @Nat.lt_succ_of_lt:=@Nat.lt_succ_of_lt
theorem Uf:type_of% @List.pairwise_map:=@List.pairwise_map
theorem Ug:type_of% @Nat.lt_succ_self:=@Nat.lt_succ_self
theorem Uh:type_of% @Nat.add_zero:=@Nat.add_zero
theorem Ui:type_of% @List.length_pos_iff:=@List.length_pos_iff
theorem Uj:type_of% @List.length_zipWith:=@List.length_zipWith
theorem Uk:type_of% @List.map_take:=@List.map_take
theorem Ul:type_of% @Array.Perm.refl:=@Array.Perm.refl
theorem Um:type_of% @List.mem_replicate:=@List.mem_replicate
theorem Uo:type_of% @List.map_nil:=@List.map_nil
theorem Up:type_of% @List.nodup_cons:=@List.nodup_cons
theorem Uq:type_of% @Int.not_lt:=@Int.not_lt
abbrev L3:=List (List (List Int))
abbrev LO:=List (Option Int)
abbrev LP:=List (Int×Int)
open PySem.W (Frag)
open PySem.PyData (int)
open List (replicate)
namespace DL
open PySem PySem.Spec PySem.W PyProof.Rows
def topRunT(tb:String->Option Builtin)(p:Program)(w:World)(m:Nat)(ann:Option Value):Nat->SharedT->Thread->Option SharedT
 |0,_,_=>none
 |n+1,s,t=>match through t,stepOk m ann t with
  |true,_=>some s
  |false,false=>none
  |false,true=>match stepT (denote tb) p w s t with
   |some x=>topRunT tb p w m ann n x.1 x.2
   |none=>none
theorem zeC{tb:String->Option Builtin}{p:Program}{w:World}{m:Nat}{ann:Option Value}:∀{n:Nat}{s s':SharedT}{t:Thread},topRunT tb p w m ann n s t=some s'->topRun tb p w m ann n s.abs t=some s'.abs
 |0,_,_,_,h=>by cases h
 |n+1,s,s',t,h=>by
  rw[topRunT] at h;rw[topRun]
  cases ht:through t with
  |true=>rw[ht] at h;cases h;rfl
  |false=>
   rw[ht] at h
   cases hk:stepOk m ann t with
   |false=>rw[hk] at h;cases h
   |true=>
    rw[hk] at h;dsimp only at h ⊢
    cases hs:stepT (denote tb) p w s t with
    |none=>rw[hs] at h;cases h
    |some x=>rw[hs] at h;rw[stepT_spec hs];exact zeC h
def btOf(l:List Obj):BT:=(l.foldl (λ(x:BT×Nat) o=>(x.1.ins x.2 o,x.2+1)) (.nil,0)).1
noncomputable def T0 (w:World) (os:OsState):SharedT:=⟨btOf (boot_heap w.params).objs.toList,11,(boot_heap w.params).life,#[],boot_drawn,boot_toks,os⟩
theorem zm3(w:World)(os:OsState):(T0 w os).abs=⟨boot_heap w.params,#[],boot_drawn,boot_toks,os⟩:=by kernel_rfl
theorem zkD(w:World):((boot_heap w.params).isNs mainGlobals&&(#[]:Array GenState).size==0,(boot_heap w.params).objs.size,(boot_heap w.params).nsMap mainGlobals "__annotations__")=(true,11,some (.ref 6)):=by kernel_rfl
noncomputable abbrev zq7 (p q:Program) (loose:List Str) (Xt:Shared->Bool) (w:World) (t:SharedT) :=
 ((staticsOk (importedModules p.main.body) (boot_heap w.params) t.abs.heap&&namesBound p t.abs.heap&&gensDone t.abs&&laidKept (boot_heap w.params) t.abs.heap),openSeen q loose (importedModules p.main.body) Xt true t.abs)
theorem zoG{p q:Program}{loose:List Str}{Xt:Shared->Bool}{N M:Nat}(e:opening p=plainProg p.main.scope.names)(hN:Nat.ble 600 N=true)(f:∀s,fenceModules? p s=some s)(le:Nat.ble M N=true)
  (run:∀(w:World)(os:OsState),(topRunT treeTable p w 11 (some (.ref 6)) M (T0 w os) (topStub p)).map (zq7 p q loose Xt w)=some (true,openGood q loose)):LeftO p q loose Xt (Hook.obs .none) (Hook.val .none) N:=λw=>by
 obtain ⟨⟨h,gs,d,k,os⟩,e0,e'⟩:=Option.map_eq_some_iff.mp (boot_open e hN f w);have e':(h,gs,d,k)=(boot_heap w.params,#[],boot_drawn,boot_toks):=e';obtain ⟨rfl,rfl,rfl,rfl⟩:h=boot_heap w.params/\gs=#[]/\d=boot_drawn/\k=boot_toks:=by simpa only[Prod.mk.injEq] using e'
 obtain ⟨t,ht,l⟩:=Option.map_eq_some_iff.mp (run w os);have hr:=zeC ht;rw[zm3] at hr;have r:=topRun_mono (N-M) _ _ _ _ hr;rw[show M+(N-M)=N by have:=Nat.le_of_ble_eq_true le;omega] at r
 obtain ⟨l1,l2⟩:=Prod.mk.inj l;have z:=zkD w;obtain ⟨z1,z2,z3⟩:_/\_/\_:=by simpa only[Prod.mk.injEq] using z
 have tf:topFrom treeTable p w N ⟨boot_heap w.params,#[],boot_drawn,boot_toks,os⟩=some t.abs:=by
  unfold topFrom;dsimp only;rw[z1,z2,z3,r];show (match staticsOk (importedModules p.main.body) (boot_heap w.params) t.abs.heap&&namesBound p t.abs.heap&&gensDone t.abs&&laidKept (boot_heap w.params) t.abs.heap with|true=>some t.abs|false=>none)=_
  rw[l1]
 unfold openEnds;rw[e0];show (topFrom treeTable p w N _).map _=_;rw[tf];exact congrArg some (Prod.ext l2 rfl)
end DL
open PySem in
lay_quick PySem.Challenge.pw_wishdeal_k54_whole_levels_and_counts DL.topRunT PySem.W.openGood PySem.W.staticsOk PySem.W.namesBound PySem.W.laidKept PySem.W.xlAt
namespace W
open PySem PySem.Spec DL
abbrev p0:Program:=PySem.Challenge.pw_wishdeal_k54_whole_levels_and_counts
def zeL:List Nat:=[1,2,4,5,6,8,9,10,11,12,13,14,15,16,17,18,19,21,23,24,25,27,28,29,31,32,33,34,35,37,39,40,41,42,43,44,45,46,47,48,49,50,51,53,54,55,57,59,60,61,62,63,64,65,66,67,68,69,70,71,72]
def ixL:List Nat:=[1,2,12,13,14,15,16,17,18,19,21,24,25,27,28,29,31,32,33,34,35,37,39,40,41,42,43,44,45,46,47,48,49,50,51,53,54,55,57,59,60,61,62,63,64,65,66,67,68,69,70,71,72]
abbrev q0:Program:=PySem.W.view p0 zeL
theorem zq8:∀(w:World)(os:OsState),(PySem.W.Fast.tw10708255244068714335 PySem.W.Fast.tw14364793385576792824 PySem.W.Fast.tw5819451817762944561 w 11 (some (.ref 6)) 2581 (T0 w os) (PySem.W.topStub PySem.W.Fast.tw5819451817762944561)).map (λt=>((PySem.W.Fast.tw13471830651028734593 (PySem.W.Fast.tw5923862056798008813 (Program.main PySem.W.Fast.tw5819451817762944561).body) (PySem.W.boot_heap w.params) t.abs.heap&&PySem.W.Fast.tw4683006035507612052 PySem.W.Fast.tw5819451817762944561 t.abs.heap&&PySem.W.gensDone t.abs&&PySem.W.Fast.tw16898566250750103049 (PySem.W.boot_heap w.params) t.abs.heap),PySem.W.Fast.tw4187177175401517315 (PySem.W.view PySem.W.Fast.tw5819451817762944561 zeL) [] (PySem.W.Fast.tw5923862056798008813 (Program.main PySem.W.Fast.tw5819451817762944561).body) (λs=>PySem.W.Fast.tw4757257242682413121 (PySem.W.view PySem.W.Fast.tw5819451817762944561 zeL) [] s&&PySem.W.recOk [] s) true t.abs))=some (true,PySem.W.Fast.tw3486900944545009338 (PySem.W.view PySem.W.Fast.tw5819451817762944561 zeL) []):=by
 intro w os
 kernel_rfl
theorem zq9:PySem.W.LeftO p0 q0 [] (λs=>PySem.W.xlAt q0 [] s&&PySem.W.recOk [] s) (PySem.W.Hook.obs .none) (PySem.W.Hook.val .none) 5062:=by
 refine zoG (M:=2581) (by kernel_rfl) rfl (λs=>by kernel_rfl) rfl λw os=>?_
 have h:=zq8 w os;rw[←PySem.W.Fast.te10708255244068714335,←PySem.W.Fast.te14364793385576792824,←PySem.W.Fast.te4187177175401517315,←PySem.W.Fast.te5923862056798008813,←PySem.W.Fast.te13471830651028734593,←PySem.W.Fast.te4683006035507612052,←PySem.W.Fast.te16898566250750103049,←PySem.W.Fast.te4757257242682413121,←PySem.W.Fast.te3486900944545009338,←PySem.W.Fast.te5819451817762944561] at h;exact h
end W
namespace L2
open PySem PySem.Spec PyProof.Rows
abbrev Key:=Sum Int Str
def zpN:Key->Value->Bool
 |.inl k,v=>Value.isInt k v
 |.inr x,v=>Value.isStrOf x v
def keyH(w:World):Key->Int
 |.inl k=>hashInt k
 |.inr x=>hashStr w x
theorem zbw:∀{k:Key}{v:Value},zpN k v=true->(∃i t,k=Sum.inl i/\v=Value.int i t)∨(∃x t,k=Sum.inr x/\v=Value.str x t)
 |.inl i,v,h=>by
  obtain ⟨t,e⟩:=Value.isInt_shape (k:=i) (v:=v) h;exact .inl ⟨i,t,rfl,e⟩
 |.inr x,v,h=>by
  obtain ⟨t,e⟩:=Value.isStrOf_shape (x:=x) (v:=v) h;exact .inr ⟨x,t,rfl,e⟩
theorem zpO(a b:Int):decide ((Sum.inl a:Key)=Sum.inl b)=(a==b):=by
 by_cases e:a=b
 ·subst e;simp
 ·have h:¬(Sum.inl a:Key)=Sum.inl b:=λq=>e (Sum.inl.inj q)
  rw[QN h];exact (beq_eq_false_iff_ne.mpr e).symm
theorem zpP(a b:Str):decide ((Sum.inr a:Key)=Sum.inr b)=decide (a=b):=by
 by_cases e:a=b
 ·subst e;simp
 ·have h:¬(Sum.inr a:Key)=Sum.inr b:=λq=>e (Sum.inr.inj q)
  rw[QN h,QN e]
theorem zpQ(a:Int)(b:Str):decide ((Sum.inl a:Key)=Sum.inr b)=false:=QN (λq=>nomatch q)
theorem zpR(a:Str)(b:Int):decide ((Sum.inr a:Key)=Sum.inl b)=false:=QN (λq=>nomatch q)
def zh9(prog:Program)(w:World):PySem.KeyKind prog w Key where
 is:=zpN
 hash:=keyH w
 inj:=λv a b ha hb=>by
  rcases zbw ha with ⟨i,t,rfl,rfl⟩|⟨x,t,rfl,rfl⟩
  ·rcases zbw hb with ⟨j,u,rfl,e⟩|⟨y,u,rfl,e⟩
   ·injection e with e1 _;rw[e1]
   ·exact nomatch e
  ·rcases zbw hb with ⟨j,u,rfl,e⟩|⟨y,u,rfl,e⟩
   ·exact nomatch e
   ·injection e with e1 _;rw[e1]
 byValue:=λk v h=>by
  rcases zbw h with ⟨i,t,rfl,rfl⟩|⟨x,t,rfl,rfl⟩ <;> rfl
 pyHash:=λhv h=>by
  rcases zbw hv with ⟨i,t,rfl,rfl⟩|⟨x,t,rfl,rfl⟩
  ·exact wpAny_pyHash_int h
  ·exact wpAny_pyHash_str h
 eqBool:=λhu hv h=>by
  rcases zbw hu with ⟨i,t,rfl,rfl⟩|⟨x,t,rfl,rfl⟩
  ·rcases zbw hv with ⟨j,u,rfl,rfl⟩|⟨y,u,rfl,rfl⟩
   ·rw[zpO] at h;exact wpAny_eqBool_int h
   ·rw[zpQ] at h;exact SeqAt.EqAt.int_str i t y u _ _ _ _ h
  ·rcases zbw hv with ⟨j,u,rfl,rfl⟩|⟨y,u,rfl,rfl⟩
   ·rw[zpR] at h;exact SeqAt.EqAt.str_int x t j u _ _ _ _ h
   ·rw[zpP] at h;exact wpAny_eqBool_str h
 «strs»:=λk x t v h=>by
  rcases zbw h with ⟨i,u,rfl,e⟩|⟨y,u,rfl,e⟩
  ·exact nomatch e
  ·injection e with e1 _
   subst e1
   cases v <;> rfl
inductive V where
 |non|bl (b:Bool)|int (i:Int)|str (x:Str)|byt (b:Array UInt8)|flt (b:UInt64)|ref (a:Addr)|ty (n:String)
 deriving DecidableEq
def RelV:V->Value->Prop
 |.non,u=>u=Value.none
 |.bl b,u=>u=Value.bool b
 |.int i,u=>∃t,u=Value.int i t
 |.str x,u=>∃t,u=Value.str x t
 |.byt b,u=>∃t,u=Value.bytes b t
 |.flt b,u=>∃t,u=Value.float b t
 |.ref a,u=>u=Value.ref a
 |.ty n,u=>u=Value.type n
abbrev Vals:List V->List Value->Prop:=Paired RelV
theorem Vals.length{xs:List V}{us:List Value}(r:Vals xs us):xs.length=us.length:=Paired.length r
theorem Vals.get:∀{xs:List V}{us:List Value}{i:Nat}{x:V},Vals xs us->xs[i]?=some x->∃u,us[i]?=some u/\RelV x u
 |_,_,_,_,.nil,e=>by simp at e
 |_,_,0,_,.cons r _,e=>by simp at e;subst e;exact ⟨_,rfl,r⟩
 |_,_,i+1,x,.cons _ t,e=>by
  obtain ⟨u,h1,h2⟩:=Vals.get (i:=i) (x:=x) t (by simpa using e)
  exact ⟨u,by simpa using h1,h2⟩
theorem Vals.set{x:V}{u:Value}(r:RelV x u):∀{xs:List V}{us:List Value}(i:Nat),Vals xs us->Vals (xs.set i x) (us.set i u)
 |_,_,_,.nil=>.nil
 |_,_,0,.cons _ t=>.cons r t
 |_,_,i+1,.cons q t=>.cons q (Vals.set r i t)
theorem Vals.append:∀{xs ys:List V}{us ws:List Value},Vals xs us->Vals ys ws->Vals (xs++ys) (us++ws)
 |_,_,_,_,.nil,s=>s
 |_,_,_,_,.cons r t,s=>.cons r (Vals.append t s)
theorem Vals.take:∀{xs:List V}{us:List Value}(n:Nat),Vals xs us->Vals (xs.take n) (us.take n)
 |_,_,0,_=>.nil
 |_,_,_+1,.nil=>.nil
 |_,_,n+1,.cons r t=>.cons r (Vals.take n t)
theorem Vals.drop:∀{xs:List V}{us:List Value}(n:Nat),Vals xs us->Vals (xs.drop n) (us.drop n)
 |_,_,0,r=>r
 |_,_,_+1,.nil=>.nil
 |_,_,n+1,.cons _ t=>Vals.drop n t
def RelO:Option V->Option Value->Prop
 |some v,some u=>RelV v u
 |none,none=>True
 |_,_=>False
def KV{κ:Type}:List (κ×V)->List (κ×Value)->Prop:=Paired λ(p:κ×V) (q:κ×Value)=>p.1=q.1/\RelV p.2 q.2
def kV:Key->V
 |.inl i=>.int i
 |.inr x=>.str x
inductive HO where
  |lst (xs:List V)
  |tup (xs:List V)
  |dK (kvs:List (Key×V))|dT (kvs:List (List Key×V))
  |set (S:Int->Bool) (n:Nat)
  |ins (C dx:Addr) (fs:List (Str×V))
  |own (x:Addr)
  |xd (fs:List (Str×V))
  |met (f x:Addr)
  |rng (lo hi:Int)
  |frz (o:Obj) (u:HO)
  |tbl (ps:Array Value)
  |ext (φ:Heap->Prop)
abbrev Hp:=Addr->Option HO
def upd(H:Hp)(a:Addr)(o:HO):Hp:=λb=>if b=a then some o else H b
theorem zaT{H:Hp}{a:Addr}{o:HO}:upd H a o a=some o:=by unfold upd;rw[Qm rfl]
theorem zaU{H:Hp}{a b:Addr}{o:HO}(h:b≠a):upd H a o b=H b:=by unfold upd;rw[Qy h]
theorem zba{H:Hp}{a b:Addr}{o:HO}(h:H a=some o)(h':H b=none):a≠b:=by
 intro e;subst e;rw[h] at h';cases h'
section
variable(P:Program)(w:World)
def zcL(H:Hp)(h:Heap)(a:Addr):HO->Prop
 |.lst xs=>xs.length<=sizeLine/\∃(its:List Value)(n:Nat),Vals xs its/\h.get? a=some { cls:=.type "list", data:=.seq its.toArray n }
 |.tup xs=>xs.length<=sizeLine/\∃its:List Value,Vals xs its/\IsTup h a its.toArray
 |.dK kvs=>kvs.length<=sizeLine/\(a==sysModules)=false/\∃vs,KV kvs vs/\h.DictOf (zh9 P w) a vs
 |.dT kvs=>kvs.length<=sizeLine/\(a==sysModules)=false/\∃xs:List (List Key×Addr×Value),
   Paired (λ(p:List Key×V) (q:List Key×Addr×Value)=>p.1=q.1/\H q.2.1=some (.tup (p.1.map kV))/\RelV p.2 q.2.2) kvs xs /\
   ∃o es ep,h.get? a=some o/\o.ExactDict/\o.data=.dict es ep/\es.toList=xs.map (entryOfKey (tupleKind (zh9 P w)))/\(xs.map (·.1)).Nodup
 |.set S n=>h.SetOf (intKind P w) a S n
 |.ins C dx fs=>H dx=some (.own a)/\fs.length<=1000/\dx≠a/\h.get? a=some (PySem.W.instObj C dx) /\
   ∃mA,h.Ns1 dx mA/\(∀f,RelO (fs.lookup f) (mA f))/\PySem.Within mA (fs.map (·.1))
 |.own _=>∃o,h.get? a=some o
 |.xd fs=>∃mA,h.Ns1 a mA/\∀f,RelO (fs.lookup f) (mA f)
 |.rng lo hi=>∃t u v,h.get? a=some { cls:=.type "range", data:=.fields #[.int lo t,.int hi u,.int 1 v] }
 |.frz o u=>h.get? a=some o/\zcL H h a u
 |.tbl ps=>h.get? a=some { cls:=.none,data:=.fields ps }
 |.met f x=>h.get? a=some (PySem.W.methodObj (.ref f) (.ref x))
 |.ext φ=>φ h/\(∃o,h.get? a=some o)/\∀h1 h2:Heap,φ h1->(∀o,h1.get? a=some o->h2.get? a=some o)->φ h2
def HOk(H:Hp)(h:Heap):Prop:=∀a o,H a=some o->zcL P w H h a o
end
section
variable{P:Program}{w:World}{H H':Hp}{h h':Heap}{a:Addr}{o:HO}
theorem zcL.lt(x:zcL P w H h a o):a<h.objs.size:=by
 cases o with
 |lst xs=>obtain ⟨_,_,_,_,e⟩:=x;exact Qi e
 |tup xs=>obtain ⟨_,_,_,p⟩:=x;exact p.lt
 |dK kvs=>obtain ⟨_,_,_,_,o,_,_,e,_⟩:=x;exact Qi e
 |dT kvs=>obtain ⟨_,_,_,_,o,_,_,e,_⟩:=x;exact Qi e
 |set S n=>obtain ⟨o,_,_,_,e,_⟩:=x;exact Qi e
 |ins C dx fs=>obtain ⟨_,_,_,e,_⟩:=x;exact Qi e
 |own y=>obtain ⟨_,e⟩:=x;exact Qi e
 |xd fs=>obtain ⟨_,⟨_,_,_,e,_⟩,_⟩:=x;exact Qi e
 |rng lo hi=>obtain ⟨_,_,_,e⟩:=x;exact Qi e
 |frz ob u=>obtain ⟨e,_⟩:=x;exact Qi e
 |tbl ps=>exact Qi (show h.get? a=some _ from x)
 |met f y=>exact Qi (show h.get? a=some _ from x)
 |ext φ=>obtain ⟨_,⟨_,e⟩,_⟩:=x;exact Qi e
theorem Paired.mapP{α β:Type}{F G:α->β->Prop}:∀{l₁:List α}{l₂:List β},Paired F l₁ l₂->(∀a b,F a b->G a b)->Paired G l₁ l₂
 |_,_,.nil,_=>.nil
 |_,_,.cons r t,f=>.cons (f _ _ r) (Paired.mapP t f)
theorem zcL.stay(x:zcL P w H h a o)(k:∀b u,(b=a∨H b=some (.own a))->h.get? b=some u->h'.get? b=some u)
  (ho:∀b,H b=some (.own a)->H' b=some (.own a)) (ht:∀b xs,H b=some (.tup xs)->H' b=some (.tup xs)):zcL P w H' h' a o:=by
 induction o with
 |lst xs=>obtain ⟨z,its,n,r,e⟩:=x;exact ⟨z,its,n,r,k _ _ (.inl rfl) e⟩
 |tup xs=>obtain ⟨z,its,r,ob,e,c⟩:=x;exact ⟨z,its,r,ob,k _ _ (.inl rfl) e,c⟩
 |dK kvs=>obtain ⟨z,y,vs,r,ob,es,ep,e,c⟩:=x;exact ⟨z,y,vs,r,ob,es,ep,k _ _ (.inl rfl) e,c⟩
 |dT kvs=>
  obtain ⟨z,y,xs,r,ob,es,ep,e,c⟩:=x;exact ⟨z,y,xs,Paired.mapP r λp q z=>⟨z.1,ht _ _ z.2.1,z.2.2⟩,ob,es,ep,k _ _ (.inl rfl) e,c⟩
 |set S n=>obtain ⟨ob,es,ep,t,e,c⟩:=x;exact ⟨ob,es,ep,t,k _ _ (.inl rfl) e,c⟩
 |ins C dx fs=>
  obtain ⟨d,z,ne,e,mA,⟨od,es,ep,e2,c⟩,r⟩:=x;exact ⟨ho _ d,z,ne,k _ _ (.inl rfl) e,mA,⟨od,es,ep,k _ _ (.inr d) e2,c⟩,r⟩
 |own y=>obtain ⟨ob,e⟩:=x;exact ⟨ob,k _ _ (.inl rfl) e⟩
 |xd fs=>obtain ⟨mA,⟨od,es,ep,e,c⟩,r⟩:=x;exact ⟨mA,⟨od,es,ep,k _ _ (.inl rfl) e,c⟩,r⟩
 |rng lo hi=>obtain ⟨t,u,v,e⟩:=x;exact ⟨t,u,v,k _ _ (.inl rfl) e⟩
 |frz ob u ih=>obtain ⟨e,q⟩:=x;exact ⟨k _ _ (.inl rfl) e,ih q⟩
 |tbl ps=>
  have e:h.get? a=some { cls:=.none,data:=.fields ps }:=x;show h'.get? a=some { cls:=.none,data:=.fields ps };exact k a _ (.inl rfl) e
 |met f y=>
  have e:h.get? a=some (PySem.W.methodObj (.ref f) (.ref y)):=x;show h'.get? a=some (PySem.W.methodObj (.ref f) (.ref y));exact k a _ (.inl rfl) e
 |ext φ=>obtain ⟨p,⟨o,e⟩,st⟩:=x;exact ⟨st _ _ p λo q=>k _ _ (.inl rfl) q,⟨o,k _ _ (.inl rfl) e⟩,st⟩
theorem HOk.lt(x:HOk P w H h)(e:H a=some o):a<h.objs.size:=(x a o e).lt
theorem HOk.fresh(x:HOk P w H h)(e:h.objs.size<=a):H a=none:=by
 cases q:H a with
 |none=>rfl
 |some u=>exact absurd (QJ (x.lt q) e) (Jv _)
theorem HOk.kept(x:HOk P w H h)(k:∀b u,h.get? b=some u->h'.get? b=some u):HOk P w H h':=λa o e=>
 (x a o e).stay (λb u _ q=>k b u q) (λ_ q=>q) λ_ _ q=>q
theorem HOk.laid(x:HOk P w H h)(k:∀b u,h.get? b=some u->h'.get? b=some u)(hp:h.objs.size<=a)(new:zcL P w (upd H a o) h' a o):HOk P w (upd H a o) h':=λb u e=>by
 have hn:=x.fresh hp
 by_cases hb:b=a
 ·subst hb;rw[zaT] at e;cases e;exact new
 ·rw[zaU hb] at e
  exact (x b u e).stay (λc v _ q=>k c v q) (λc q=>by rw[zaU (zba q hn)];exact q) λc xs q=>by rw[zaU (zba q hn)];exact q
end
def Rd(H:Hp)(a:Addr)(u:HO):Prop:=H a=some u ∨ ∃o,H a=some (.frz o u)
theorem Rd.ok{P:Program}{w:World}{H:Hp}{h:Heap}{a:Addr}{u:HO}(r:Rd H a u)(x:HOk P w H h):zcL P w H h a u:=by
 rcases r with r|⟨o,r⟩
 ·exact x a u r
 ·obtain ⟨_,q⟩:=x a _ r
  exact q
def Mut:Option HO->Prop
 |some (.lst _)=>True
 |some (.dK _)=>True
 |some (.dT _)=>True
 |some (.set _ _)=>True
 |some (.ins _ _ _)=>True
 |some (.ext _)=>True
 |_=>False
section
variable{P:Program}{w:World}{H:Hp}{h h':Heap}{x e:Addr}{o':HO}
theorem HOk.write(ok:HOk P w H h)(mu:Mut (H x))(he:e=x∨H e=some (.own x))(k:∀b u,b≠e->h.get? b=some u->h'.get? b=some u)(heo:∃u,h'.get? e=some u)
  (new:zcL P w (upd H x o') h' x o'):HOk P w (upd H x o') h':=λb u q=>by
 have nown:∀c y,H c=some (.own y)->c≠x:=λc y r z=>by subst z;rw[r] at mu;exact mu
 have ntup:∀c xs,H c=some (.tup xs)->c≠x:=λc xs r z=>by subst z;rw[r] at mu;exact mu
 by_cases hb:b=x
 ·subst hb;rw[zaT] at q;cases q;exact new
 ·rw[zaU hb] at q
  by_cases hbe:b=e
  ·have q':H b=some (.own x):=by
    rcases he with z|z
    ·exact absurd (hbe.trans z) hb
    ·rw[hbe];exact z
   rw[q] at q';cases q';obtain ⟨v,hv⟩:=heo;exact ⟨v,by rw[hbe];exact hv⟩
  ·refine (ok b u q).stay (λc v hc r=>k c v ?_ r) (λc r=>by rw[zaU (nown c b r)];exact r) λc xs r=>by rw[zaU (ntup c xs r)];exact r
   rcases hc with rfl|hc
   ·exact hbe
   ·rintro rfl
    rcases he with z|z
    ·exact nown c b hc z
    ·rw[hc] at z;cases z;exact hb rfl
end
structure Un(fs ex:List Addr)(H H':Hp)(h h':Heap):Prop where
 keep:∀b o,h.get? b=some o->H b=none->b∉fs->b∉ex->h'.get? b=some o
 slot:∀b o,h.get? b=some o->H b=none->b∈fs->b∉ex->∃sl,h'.get? b=some { o with slots:=sl }
 free:∀b o,h.get? b=some o->H b=none->b∉ex->H' b=none
 there:∀b o,h.get? b=some o->b∉ex->∃o',h'.get? b=some o'
 tups:∀b xs,H b=some (.tup xs)->H' b=some (.tup xs)
 frzs:∀b o u,H b=some (.frz o u)->H' b=some (.frz o u)
 tbls:∀b ps,H b=some (.tbl ps)->∃more,H' b=some (.tbl (ps++more))
section
variable{fs fs' ex ex':List Addr}{H H1 H2:Hp}{h h1 h2 h':Heap}{a x e:Addr}{o:HO}
theorem Un.any(u:Un fs ex H H1 h h1){b:Addr}{ob:Obj}(q:h.get? b=some ob)(n:H b=none)(hx:b∉ex):∃sl,h1.get? b=some { ob with slots:=sl }:=by
 by_cases hb:b∈fs
 ·exact u.slot b ob q n hb hx
 ·exact ⟨ob.slots,u.keep b ob q n hb hx⟩
theorem Un.kept(k:∀b u,h.get? b=some u->h'.get? b=some u):Un fs ex H H h h' :=
 ⟨λb ob q _ _ _=>k b ob q,λb ob q _ _ _=>⟨ob.slots,k b ob q⟩,λ_ _ _ n _=>n,λb ob q _=>⟨ob,k b ob q⟩,λ_ _ q=>q,λ_ _ _ q=>q,λ_ ps q=>⟨#[],by rw[q];simp⟩⟩
theorem Un.refl:Un fs ex H H h h:=Un.kept λ_ _ q=>q
theorem Un.laid(k:∀b u,h.get? b=some u->h'.get? b=some u)(hp:h.objs.size<=a)(hn:H a=none):Un fs ex H (upd H a o) h h' where
 keep:=λb u q _ _ _=>k b u q
 slot:=λb u q _ _ _=>⟨u.slots,k b u q⟩
 free:=λb u q n _=>by rw[zaU (QT (QJ (Qi q) hp))];exact n
 there:=λb u q _=>⟨u,k b u q⟩
 tups:=λb xs q=>by rw[zaU (zba q hn)];exact q
 frzs:=λb u xs q=>by rw[zaU (zba q hn)];exact q
 tbls:=λb ps q=>⟨#[],by rw[zaU (zba q hn),q];simp⟩
theorem Un.write(mu:Mut (H x))(he:e=x∨H e=some (.own x))(k:∀b u,b≠e->h.get? b=some u->h'.get? b=some u)(heo:∃u,h'.get? e=some u):Un fs ex H (upd H x o) h h':=by
 have hx:∀b,H b=none->b≠x:=λb n z=>by subst z;rw[n] at mu;exact mu
 have hb:∀b,H b=none->b≠e:=λb n z=>by
  subst z;rcases he with r|r
  ·exact hx b n r
  ·rw[n] at r;cases r
 have hm:∀b u,H b=some u->¬Mut (some u)->b≠x:=λb u q nm z=>by subst z;rw[q] at mu;exact nm mu
 refine ⟨λb u q n _ _=>k b u (hb b n) q,λb u q n _ _=>⟨u.slots,k b u (hb b n) q⟩,λb u q n _=>by rw[zaU (hx b n)];exact n,λb u q _=>?_,
  λb xs q=>by rw[zaU (hm b _ q λz=>z)];exact q,λb u xs q=>by rw[zaU (hm b _ q λz=>z)];exact q,λb ps q=>⟨#[],by rw[zaU (hm b _ q λz=>z),q];simp⟩⟩
 by_cases hbe:b=e
 ·subst hbe;exact heo
 ·exact ⟨u,k b u hbe q⟩
end
def trk(h:Heap)(H:Hp):List Addr:=(List.range h.objs.size).filter λa=>(H a).isSome
def hidT(h:Heap)(H:Hp):Heap:=PySem.W.hideAll h (trk h H)
theorem zkE(h:Heap)(H:Hp):(hidT h H).objs.size=h.objs.size:=PySem.W.hideAll_size _ _
theorem zm4{h:Heap}{H:Hp}{b:Addr}{o:Obj}(e:h.get? b=some o)(n:H b=none):(hidT h H).get? b=some o :=
 PySem.W.hideAll_get _ e λhm=>by
  have q:(H b).isSome=true:=(Jp.mp hm).2;rw[n] at q;simp at q
theorem zoH{h:Heap}{H:Hp}{b:Addr}{o:Obj}(e:(hidT h H).get? b=some o):h.get? b=some o/\H b=none:=by
 have e':h.get? b=some o:=PySem.W.of_hideAll (trk h H) e;refine ⟨e',?_⟩
 cases q:H b with
 |none=>rfl
 |some x=>
  have hm:b∈trk h H:=List.mem_filter.mpr ⟨List.mem_range.mpr (Heap.lt_size e'),by simp[q]⟩
  have z:(hidT h H).get? b=none:=PySem.W.hideAll_none (trk h H) hm;rw[z] at e;cases e
structure Mod(K:Frag)(mg:Str->Option Value)(base:Heap):Prop where
 kin:K.In base
 glob:base.Ns mainGlobals mg
 blt:∃mb,base.Ns builtinsNs mb/\∀x:Str,x ≠ "__name__" -> mb x=bootBuiltins x
 nolimit:base.NoLimit
structure Cx where
 prog:Program
 w:World
 K:Frag
 mg:Str->Option Value
 base:Heap
 A:Around
 N:List Str
 s₀:Shared
 H₀:Hp
 env:Env
 outer:List Env
 stack:List Env
 ex:List Addr
 fn:Str->Bool
 calm:Bool
 pn:List (Addr×Obj)
 xe:Value->Shared->Prop
def frs(l:List Env):List Addr:=l.filterMap (·.frame)
abbrev Cx.fs(X:Cx):List Addr:=frs X.outer
def Vis(sc:Scope)(x:Str):Prop:=sc.names.lookup x=some .local∨sc.names.lookup x=some .cell∨sc.names.lookup x=some .free
def Loc(sc:Scope)(x:Str):Prop:=sc.names.lookup x=some .local∨sc.names.lookup x=some .cell
def Look(env:Env)(h:Heap)(m:Str->Option Value)(x:Str)(u:Value):Prop :=
 (env.kindOf x=some .local/\m x=some u)∨((env.kindOf x=some .cell∨env.kindOf x=some .free)/\∃c,env.cells.lookup x=some c/\h.IsCell c (some u))
structure Cx.Ok(X:Cx):Prop where
 mod:Mod X.K X.mg X.base
 kind:X.env.scope.kind=.function
 glob:X.env.globals=mainGlobals
 blt:X.env.builtins=builtinsNs
 above:X.s₀.heap.objs.size<=X.env.locals
 inj:∀x y c,X.env.cells.lookup x=some c->X.env.cells.lookup y=some c->x=y
 has:∀x,(X.env.kindOf x=some .cell∨X.env.kindOf x=some .free)->∃c,X.env.cells.lookup x=some c
 cab:∀x c,X.fn x=true->X.env.cells.lookup x=some c->X.s₀.heap.objs.size<=c
 hd:X.calm=true->X.A.handled=none
 frames:X.A.frames=some X.stack
 stk:X.stack=X.outer∨(X.stack=X.env::X.outer/\X.env.frame=some X.env.locals)
 exf:∀b∈X.ex,b≠X.env.locals/\∀x c,X.env.cells.lookup x=some c->c≠b
 bs:∀b o,X.base.get? b=some o->X.s₀.heap.get? b=some o/\X.H₀ b=none
 bsz:X.base.objs.size<=X.s₀.heap.objs.size
 noex:∀b o,X.base.get? b=some o->b∉X.ex
 exfs:∀b∈X.ex,b∉X.fs
 funs:X.s₀.heap.FunFrames X.base X.outer
 frf:∀b∈X.fs,X.H₀ b=none
structure Inv(X:Cx)(pins:List (Addr×Obj))(σ:List (Option V))(H:Hp)(s:Shared):Prop where
 ok:X.Ok
 os:s.os=X.s₀.os
 bare:AllBare s.gens
 base:Un X.fs X.ex X.H₀ H X.s₀.heap s.heap
 loc:∃m,s.heap.Ns X.env.locals m/\∀(i:Nat)(x:Str)(v:V),X.N[i]?=some x->σ[i]?=some (some v)->Vis X.env.scope x->∃u,RelV v u/\Look X.env s.heap m x u
 cell:∀x c,X.env.cells.lookup x=some c->∃v,s.heap.IsCell c v
 free:H X.env.locals=none
 freeC:∀x c,X.env.cells.lookup x=some c->H c=none
 pin:∀p∈X.pn++pins,s.heap.get? p.1=some p.2/\H p.1=none/\p.1≠X.env.locals/\p.1∉X.fs/\∀v,p.2.data≠.cell v
 hok:HOk X.prog X.w H s.heap
 len:σ.length=X.N.length
section
variable{X:Cx}{pins:List (Addr×Obj)}{σ:List (Option V)}{H H':Hp}{s:Shared}{h':Heap}
theorem Cx.Ok.nofr(ok:X.Ok){b:Addr}{o:Obj}(e:X.base.get? b=some o):b∉X.fs:=λhb=>by
 have:=(ok.funs.mem hb).1
 rw[e] at this;cases this
theorem Inv.bs(I:Inv X pins σ H s):∀b o,X.base.get? b=some o->s.heap.get? b=some o/\H b=none:=λb o e=>
 ⟨I.base.keep b o (I.ok.bs b o e).1 (I.ok.bs b o e).2 (I.ok.nofr e) (I.ok.noex b o e),I.base.free b o (I.ok.bs b o e).1 (I.ok.bs b o e).2 (I.ok.noex b o e)⟩
theorem Inv.bk(I:Inv X pins σ H s):∀b o,X.base.get? b=some o->s.heap.get? b=some o:=λb o e=>(I.bs b o e).1
theorem Inv.mod(I:Inv X pins σ H s):Mod X.K X.mg X.base:=I.ok.mod
theorem Inv.kIn(I:Inv X pins σ H s):X.K.In s.heap:=I.ok.mod.kin.keeps I.bk
theorem Inv.lt(I:Inv X pins σ H s):X.env.locals<s.heap.objs.size:=let ⟨_,hn,_⟩:=I.loc;hn.lt
theorem Inv.sz(I:Inv X pins σ H s):X.s₀.heap.objs.size<=s.heap.objs.size:=QO I.ok.above (Nat.le_of_lt I.lt)
theorem Inv.nofs(I:Inv X pins σ H s){a:Addr}(h:s.heap.objs.size<=a):a∉X.fs:=λhb=>by
 obtain ⟨_,o,ho,_⟩:=I.ok.funs.mem hb;exact absurd (QJ (Qi ho) (QO I.sz h)) (Jv _)
theorem Inv.cne(I:Inv X pins σ H s):∀x c,X.env.cells.lookup x=some c->c≠X.env.locals:=λx c e z=>by
 obtain ⟨v,o,ho,hd⟩:=I.cell x c e;obtain ⟨m,⟨o',es,ep,ho',hd',_⟩,_⟩:=I.loc;rw[z,ho'] at ho;cases ho;rw[hd'] at hd;cases hd
theorem Inv.funs(I:Inv X pins σ H s):s.heap.FunFrames X.base X.outer:=by
 have all:∀(l:List Env),(∀b∈frs l,b∈X.fs)->X.s₀.heap.FunFrames X.base l->s.heap.FunFrames X.base l:=by
  intro l
  induction l with
  |nil=>intro _ _;trivial
  |cons env r ih=>
   intro hs hl;obtain ⟨hk,⟨L,o,hf,hn,ho,hd⟩,hr⟩:=hl;have hL:L∈X.fs:=hs L (by unfold frs;rw[Jy,hf];exact Qo)
   obtain ⟨sl,e⟩:=I.base.slot L o ho (I.ok.frf L hL) hL λz=>I.ok.exfs L z hL;exact ⟨hk,⟨L,_,hf,hn,e,hd⟩,ih (λb hb=>hs b (by unfold frs;rw[Jy,hf];exact Qj _ hb)) hr⟩
 exact all X.outer (λ_ hb=>hb) I.ok.funs
theorem Inv.stack(I:Inv X pins σ H s):s.heap.FunFrames X.base X.stack:=by
 rcases I.ok.stk with e|⟨e,hf⟩
 ·rw[e];exact I.funs
 ·rw[e]
  obtain ⟨m,hn,_⟩:=I.loc;refine .cons (by rw[I.ok.kind];decide) hf hn ?_ I.funs
  exact Heap.get?_none_of_le (QO I.ok.bsz I.ok.above)
theorem Inv.stkSub(I:Inv X pins σ H s):∀b∈frs X.stack,b∈X.env.locals::X.fs:=λb hb=>by
 rcases I.ok.stk with e|⟨e,hf⟩
 ·rw[e] at hb;exact Qj _ hb
 ·rw[e] at hb
  unfold frs at hb;rw[Jy,hf] at hb;exact hb
theorem Inv.stkFree(I:Inv X pins σ H s):∀b∈frs X.stack,H b=none:=λb hb=>by
 rcases QU.mp (I.stkSub b hb) with e|hb
 ·rw[e];exact I.free
 ·obtain ⟨_,o,ho,_⟩:=I.ok.funs.mem hb
  exact I.base.free b o ho (I.ok.frf b hb) λz=>I.ok.exfs b z hb
theorem Inv.step{g':Array GenState}{t':Nat}{d':Drawn}{ch:List Addr}(I:Inv X pins σ H s)
  (hch:∀b∈ch,(b∈X.ex∨X.s₀.heap.objs.size<=b)/\b≠X.env.locals/\(∀x c,X.env.cells.lookup x=some c->c≠b)/\∀p∈X.pn++pins,p.1≠b)
  (keep:∀b o,b≠X.env.locals->b∉X.fs->b∉ch->s.heap.get? b=some o->H b=none->h'.get? b=some o)
  (slot:∀b o,b≠X.env.locals->b∈X.fs->b∉ch->s.heap.get? b=some o->H b=none->∃sl,h'.get? b=some { o with slots:=sl }) (free:∀b o,b∉ch->s.heap.get? b=some o->H b=none->H' b=none)
  (there:∀b o,b∉ch->s.heap.get? b=some o->∃o',h'.get? b=some o')
  (tups:∀b xs,H b=some (.tup xs)->H' b=some (.tup xs)) (frzs:∀b o u,H b=some (.frz o u)->H' b=some (.frz o u)) (tbls:∀b ps,H b=some (.tbl ps)->∃more,H' b=some (.tbl (ps++more)))
  (ns:∀m,s.heap.Ns X.env.locals m->h'.Ns X.env.locals m) (hok:HOk X.prog X.w H' h') (hg:AllBare g') :
  Inv X pins σ H' { s with heap:=h',gens:=g',drawn:=d',toks:=t' }:=by
 have neL:∀b o,X.s₀.heap.get? b=some o->b≠X.env.locals:=λb o e=>QT (QJ (Qi e) I.ok.above)
 have neC:∀b o,X.s₀.heap.get? b=some o->b∉X.ex->b∉ch:=λb o e hx hb=>by
  rcases (hch b hb).1 with z|z
  ·exact hx z
  ·exact absurd (QJ (Qi e) z) (Jv _)
 have cellK:∀x c,X.env.cells.lookup x=some c->∀v,s.heap.IsCell c v->h'.IsCell c v:=λx c e v ⟨o,ho,hd⟩=>by
  have nch:c∉ch:=λz=>(hch c z).2.2.1 x c e rfl
  by_cases hc:c∈X.fs
  ·obtain ⟨sl,q⟩:=slot c o (I.cne x c e) hc nch ho (I.freeC x c e)
   exact ⟨_,q,hd⟩
  ·exact ⟨o,keep c o (I.cne x c e) hc nch ho (I.freeC x c e),hd⟩
 refine ⟨I.ok,I.os,hg,⟨λb o e n hb hx=>?_,λb o e n hb hx=>?_,λb o e n hx=>?_,λb o e hx=>?_,λb xs e=>tups b xs (I.base.tups b xs e),λb o xs e=>frzs b o xs (I.base.frzs b o xs e),λb ps e=>?_⟩,?_,λx c e=>?_,?_,λx c e=>?_,λp hp=>?_,hok,I.len⟩
 ·exact keep b o (neL b o e) hb (neC b o e hx) (I.base.keep b o e n hb hx) (I.base.free b o e n hx)
 ·obtain ⟨sl,e1⟩:=I.base.slot b o e n hb hx
  obtain ⟨sl',e2⟩:=slot b _ (neL b o e) hb (neC b o e hx) e1 (I.base.free b o e n hx);exact ⟨sl',e2⟩
 ·obtain ⟨o',e1⟩:=I.base.there b o e hx
  exact free b o' (neC b o e hx) e1 (I.base.free b o e n hx)
 ·obtain ⟨o',e1⟩:=I.base.there b o e hx
  exact there b o' (neC b o e hx) e1
 ·obtain ⟨m1,e1⟩:=I.base.tbls b ps e
  obtain ⟨m2,e2⟩:=tbls b _ e1;exact ⟨m1++m2,by rw[e2,Array.append_assoc]⟩
 ·obtain ⟨m,hn,hl⟩:=I.loc
  refine ⟨m,ns m hn,λi x v e1 e2 e3=>?_⟩;obtain ⟨u,r,l⟩:=hl i x v e1 e2 e3;refine ⟨u,r,?_⟩;rcases l with l|⟨k,c,e,z⟩
  ·exact .inl l
  ·exact .inr ⟨k,c,e,cellK x c e _ z⟩
 ·obtain ⟨v,z⟩:=I.cell x c e
  exact ⟨v,cellK x c e v z⟩
 ·obtain ⟨m,⟨o,_,_,ho,_⟩,_⟩:=I.loc
  exact free _ o (λz=>(hch _ z).2.1 rfl) ho I.free
 ·obtain ⟨v,o,ho,hd⟩:=I.cell x c e
  exact free c o (λz=>(hch c z).2.2.1 x c e rfl) ho (I.freeC x c e)
 ·obtain ⟨e,n,ne,nf,d⟩:=I.pin p hp
  have nch:p.1∉ch:=λz=>(hch p.1 z).2.2.2 p hp rfl;exact ⟨keep p.1 p.2 ne nf nch e n,free p.1 p.2 nch e n,ne,nf,d⟩
theorem Inv.un{t':Nat}(I:Inv X pins σ H s)(u:Un X.fs [] H H' s.heap h')(hok:HOk X.prog X.w H' h'):Inv X pins σ H' { s with heap:=h',toks:=t' }:=by
 obtain ⟨m,⟨o,es,ep,ho,r⟩,_⟩:=id I.loc;obtain ⟨sl,hL⟩:=u.any ho I.free (by simp)
 exact I.step (g':=s.gens) (d':=s.drawn) (ch:=[]) (λ_ z=>nomatch z) (λb o _ hb _ e n=>u.keep b o e n hb (by simp)) (λb o _ hb _ e n=>u.slot b o e n hb (by simp)) (λb o _ e n=>u.free b o e n (by simp)) (λb o _ e=>u.there b o e (by simp)) u.tups u.frzs u.tbls (λm' hm=>by
  obtain ⟨o',es',ep',ho',r'⟩:=hm;rw[ho] at ho';cases ho';exact ⟨_,es',ep',hL,r'⟩) hok I.bare
theorem Inv.call{g':Array GenState}{t':Nat}{d':Drawn}{ch:List Addr}(I:Inv X pins σ H s)(u:Un (frs X.stack) ch H H' s.heap h')(hok:HOk X.prog X.w H' h')(hg:AllBare g')
  (hch:∀b∈ch,(b∈X.ex∨X.s₀.heap.objs.size<=b)/\b≠X.env.locals/\(∀x c,X.env.cells.lookup x=some c->c≠b)/\∀p∈X.pn++pins,p.1≠b) :
  Inv X pins σ H' { s with heap:=h',gens:=g',drawn:=d',toks:=t' }:=by
 obtain ⟨m,⟨o,es,ep,ho,r⟩,_⟩:=id I.loc;obtain ⟨sl,hL⟩:=u.any ho I.free λz=>(hch _ z).2.1 rfl
 exact I.step (ch:=ch) hch (λb o hL hb hc e n=>u.keep b o e n (λz=>(QU.mp (I.stkSub b z)).elim hL hb) hc) (λb o _ _ hc e n=>u.any e n hc) (λb o hc e n=>u.free b o e n hc) (λb o hc e=>u.there b o e hc) u.tups u.frzs u.tbls (λm' hm=>by
  obtain ⟨o',es',ep',ho',r'⟩:=hm;rw[ho] at ho';cases ho';exact ⟨_,es',ep',hL,r'⟩) hok hg
theorem Inv.turned{t':Nat}{it:Addr}(I:Inv X pins σ H s)(k:∀b o,b≠it->s.heap.get? b=some o->h'.get? b=some o)(hn:H it=none)(hL:it≠X.env.locals)
  (h1:it∈X.ex∨X.s₀.heap.objs.size<=it) (h2:∀x c,X.env.cells.lookup x=some c->c≠it) (h3:∀p∈X.pn++pins,p.1≠it):Inv X pins σ H { s with heap:=h',toks:=t' }:=by
 have nit:∀b u,H b=some u->b≠it:=λb u e z=>by rw[z,hn] at e;cases e
 refine I.step (g':=s.gens) (d':=s.drawn) (ch:=[it]) (λb hb=>?_) (λb o _ _ hc e _=>k b o (λz=>hc (by simp[z])) e) (λb o _ _ hc e _=>⟨o.slots,k b o (λz=>hc (by simp[z])) e⟩) (λ_ _ _ _ n=>n)
  (λb o hc e=>⟨o,k b o (λz=>hc (by simp[z])) e⟩) (λ_ _ e=>e) (λ_ _ _ e=>e) (λb ps e=>⟨#[],by rw[e];simp⟩) (λm hm=>?_) (λb u e=>?_) I.bare
 ·have e:b=it:=by simpa using hb
  subst e;exact ⟨h1,hL,h2,h3⟩
 ·obtain ⟨o,es,ep,ho,r⟩:=hm
  exact ⟨o,es,ep,k _ o (Ne.symm hL) ho,r⟩
 ·refine (I.hok b u e).stay (λc v hc q=>k c v ?_ q) (λ_ q=>q) λ_ _ q=>q
  rcases hc with z|z
  ·rw[z];exact nit b u e
  ·exact nit c _ z
theorem Inv.tok(I:Inv X pins σ H s)(t:Nat):Inv X pins σ H { s with toks:=t }:=I.un (h':=s.heap) (t':=t) Un.refl I.hok
theorem Inv.kept{t':Nat}(I:Inv X pins σ H s)(k:∀b u,s.heap.get? b=some u->h'.get? b=some u):Inv X pins σ H { s with heap:=h',toks:=t' }:=I.un (Un.kept k) (I.hok.kept k)
theorem Inv.laid{a:Addr}{o:HO}{t':Nat}(I:Inv X pins σ H s)(k:∀b u,s.heap.get? b=some u->h'.get? b=some u)(hp:s.heap.objs.size<=a)(new:zcL X.prog X.w (upd H a o) h' a o) :
  Inv X pins σ (upd H a o) { s with heap:=h',toks:=t' }:=I.un (Un.laid k hp (I.hok.fresh hp)) (I.hok.laid k hp new)
theorem Inv.write{x e:Addr}{o:HO}{t':Nat}(I:Inv X pins σ H s)(mu:Mut (H x))(he:e=x∨H e=some (.own x))(k:∀b u,b≠e->s.heap.get? b=some u->h'.get? b=some u)(heo:∃u,h'.get? e=some u)
  (new:zcL X.prog X.w (upd H x o) h' x o):Inv X pins σ (upd H x o) { s with heap:=h',toks:=t' }:=I.un (Un.write mu he k heo) (I.hok.write mu he k heo new)
theorem Inv.pins_of{pins':List (Addr×Obj)}(I:Inv X pins σ H s)(h:∀p∈pins',s.heap.get? p.1=some p.2/\H p.1=none/\p.1≠X.env.locals/\p.1∉X.fs/\∀v,p.2.data≠.cell v):Inv X pins' σ H s :=
 ⟨I.ok,I.os,I.bare,I.base,I.loc,I.cell,I.free,I.freeC,λp hp=>(QX.mp hp).elim (λz=>I.pin p (Jc _ z)) (h p),I.hok,I.len⟩
theorem zi7{N:List Str}(hN:N.Nodup){i j:Nat}{x:Str}(a:N[i]?=some x)(b:N[j]?=some x):i=j:=by
 obtain ⟨h1,e1⟩:=Qh.mp a;obtain ⟨h2,e2⟩:=Qh.mp b;exact (List.getElem_inj hN).mp (e1.trans e2.symm)
theorem zeZ{M:Model}{A:Around}{E:Value->Shared->Prop}{i:Nat}{x:Str}{v:V}{u:Value}{Q:Unit->Shared->Prop}(I:Inv X pins σ H s)(hN:X.N.Nodup)(hi:X.N[i]?=some x)(hx:Loc X.env.scope x)(r:RelV v u)
  (h:∀s',Inv X pins (σ.set i (some v)) H s'->(∃a,Heap.SameBut a s.heap s'.heap/\(a=X.env.locals∨X.env.cells.lookup x=some a))->Q () s') (hf:X.fn x=true∨X.env.scope.names.lookup x=some .local:=by first|exact .inl rfl|exact .inr rfl|assumption):wpAny M A (storeName X.env x u) Q E s:=by
 obtain ⟨m,hn,hl⟩:=id I.loc;have hcls:(X.env.scope.kind==.class || (X.env.scope.kind==.module&&X.env.locals != X.env.globals))=false:=by rw[I.ok.kind];rfl
 have hiσ:i<σ.length:=by rw[I.len];exact (Qh.mp hi).1
 have cne:=I.cne
 have tracked:∀{a:Addr}{h':Heap},(∃o,s.heap.get? a=some o/\H a=none)->Heap.SameBut a s.heap h'->HOk X.prog X.w H h':=λ{a h'} ha hs b ob e=>by
  obtain ⟨_,_,hfree⟩:=ha;refine (I.hok b ob e).stay (λc w' hc q=>(hs.2 c ?_).trans q) (λ_ q=>q) λ_ _ q=>q;rintro rfl;rcases hc with rfl|hc
  ·rw[hfree] at e;cases e
  ·rw[hfree] at hc;cases hc
 rcases hx with hk|hk
 ·refine wpAny_storeName_local hk hn (λh' hn' hs=>?_) hcls
  obtain ⟨oL,_,_,hoL,_⟩:=id hn;refine h _ ⟨I.ok,I.os,I.bare,⟨λb o e n hb hx=>?_,λb o e n hb hx=>?_,I.base.free,λb o e hx=>?_,I.base.tups,I.base.frzs,I.base.tbls⟩,⟨_,hn',λj y v' e1 e2 e3=>?_⟩,λy c e=>?_,I.free,I.freeC,λp hp=>?_,tracked ⟨oL,hoL,I.free⟩ hs,by simpa using I.len⟩ ⟨_,hs,.inl rfl⟩
  ·exact (hs.2 b (QT (QJ (Qi e) I.ok.above))).trans (I.base.keep b o e n hb hx)
  ·obtain ⟨sl,e1⟩:=I.base.slot b o e n hb hx
   exact ⟨sl,(hs.2 b (QT (QJ (Qi e) I.ok.above))).trans e1⟩
  ·obtain ⟨o',e1⟩:=I.base.there b o e hx
   exact ⟨o',(hs.2 b (QT (QJ (Qi e) I.ok.above))).trans e1⟩
  ·by_cases hj:j=i
   ·subst hj
    rw[hi] at e1;cases e1;rw[QF hiσ] at e2;cases e2;exact ⟨u,r,.inl ⟨hk,by simp⟩⟩
   ·rw[Qs (Ne.symm hj)] at e2
    obtain ⟨u',r',q⟩:=hl j y v' e1 e2 e3;refine ⟨u',r',?_⟩;rcases q with ⟨k,e⟩|⟨k,c,e,z⟩
    ·refine .inl ⟨k,?_⟩
     have:y≠x:=λe=>hj (zi7 hN e1 (e ▸ hi))
     simp[this,e]
    ·exact .inr ⟨k,c,e,z.sameBut hs (cne y c e)⟩
  ·obtain ⟨w',z⟩:=I.cell y c e
   exact ⟨w',z.sameBut hs (cne y c e)⟩
  ·obtain ⟨e,n,ne,nf,d⟩:=I.pin p hp
   exact ⟨(hs.2 p.1 ne).trans e,n,ne,nf,d⟩
 ·have hfn:X.fn x=true:=by
   rcases hf with z|z
   ·exact z
   ·rw[z] at hk;cases hk
  obtain ⟨c,hc⟩:=I.ok.has x (.inl hk);obtain ⟨w',z⟩:=I.cell x c hc;refine wpAny_storeName_cell I.ok.kind hk hc z (λh' hc' hs=>?_);obtain ⟨oc,hoc,hocd⟩:=id z;refine h { s with heap:=h' } ⟨I.ok,I.os,I.bare,⟨λb o e n hb hx=>?_,λb o e n hb hx=>?_,I.base.free,λb o e hx=>?_,I.base.tups,I.base.frzs,I.base.tbls⟩,⟨m,hn.sameBut hs (Ne.symm (cne x c hc)),λj y v' e1 e2 e3=>?_⟩,λy c' e=>?_,I.free,I.freeC,λp hp=>?_,tracked ⟨oc,hoc,I.freeC x c hc⟩ hs,by simpa using I.len⟩ ⟨c,hs,.inr hc⟩
  ·exact (hs.2 b (QT (QJ (Qi e) (I.ok.cab x c hfn hc)))).trans (I.base.keep b o e n hb hx)
  ·obtain ⟨sl,e1⟩:=I.base.slot b o e n hb hx
   exact ⟨sl,(hs.2 b (QT (QJ (Qi e) (I.ok.cab x c hfn hc)))).trans e1⟩
  ·obtain ⟨o',e1⟩:=I.base.there b o e hx
   exact ⟨o',(hs.2 b (QT (QJ (Qi e) (I.ok.cab x c hfn hc)))).trans e1⟩
  ·by_cases hj:j=i
   ·subst hj
    rw[hi] at e1;cases e1;rw[QF hiσ] at e2;cases e2;exact ⟨u,r,.inr ⟨.inl hk,c,hc,hc'⟩⟩
   ·rw[Qs (Ne.symm hj)] at e2
    obtain ⟨u',r',q⟩:=hl j y v' e1 e2 e3;refine ⟨u',r',?_⟩;rcases q with q|⟨k,c',e,z'⟩
    ·exact .inl q
    ·refine .inr ⟨k,c',e,z'.sameBut hs ?_⟩
     rintro rfl;exact hj (zi7 hN e1 (I.ok.inj _ _ _ e hc ▸ hi))
  ·by_cases hcc:c'=c
   ·subst hcc;exact ⟨_,hc'⟩
   ·obtain ⟨w2,z2⟩:=I.cell y c' e
    exact ⟨w2,z2.sameBut hs hcc⟩
  ·obtain ⟨e,n,ne,nf,d⟩:=I.pin p hp
   refine ⟨(hs.2 p.1 ?_).trans e,n,ne,nf,d⟩;intro q;rw[q,hoc] at e;have q':oc=p.2:=QY e;exact d w' (by rw[←q'];exact hocd)
theorem zgg{M:Model}{A:Around}{E:Value->Shared->Prop}{i:Nat}{x:Str}{v:V}{u:Value}{Q:Unit->Shared->Prop}(I:Inv X pins σ H s)(hN:X.N.Nodup)(hi:X.N[i]?=some x)(hx:Loc X.env.scope x)(r:RelV v u)
  (h:∀s',Inv X pins (σ.set i (some v)) H s'->Q () s') (hf:X.fn x=true∨X.env.scope.names.lookup x=some .local:=by first|exact .inl rfl|exact .inr rfl|assumption):wpAny M A (storeName X.env x u) Q E s :=
 zeZ I hN hi hx r (λs' I' _=>h s' I') hf
theorem Inv.call'{s':Shared}{ch:List Addr}(I:Inv X pins σ H s)(ho:s'.os=s.os)(u:Un (frs X.stack) ch H H' s.heap s'.heap)(hok:HOk X.prog X.w H' s'.heap)(hg:AllBare s'.gens)
  (hch:∀b∈ch,(b∈X.ex∨X.s₀.heap.objs.size<=b)/\b≠X.env.locals/\(∀x c,X.env.cells.lookup x=some c->c≠b)/\∀p∈X.pn++pins,p.1≠b):Inv X pins σ H' s':=by
 obtain ⟨h',g',d',t',o'⟩:=s';have e:o'=s.os:=ho;subst e;exact I.call (g':=g') (t':=t') (d':=d') u hok hg hch
end
abbrev XK:=Value->Option Addr->Hp->Prop
abbrev St:=List (Option V)
abbrev VK:=V->Hp->Prop
abbrev TE:=St->Hp->VK->Prop
abbrev TT:=St->Hp->(Bool->Hp->Prop)->Prop
abbrev TA:=St->Hp->(List V->Hp->Prop)->Prop
structure Ends where
 nx:St->Hp->Prop
 rt:VK
 bk:St->Hp->Prop:=λ_ _=>False
 ct:St->Hp->Prop:=λ_ _=>False
abbrev TS:=Ends->St->Hp->Prop
def EP(X:Cx)(pins:List (Addr×Obj))(σ:St)(Q:VK)(u:Value)(s':Shared):Prop:=∃v H',Inv X pins σ H' s'/\RelV v u/\Q v H'
def TP(X:Cx)(pins:List (Addr×Obj))(σ:St)(Q:Bool->Hp->Prop)(b:Bool)(s':Shared):Prop:=∃H',Inv X pins σ H' s'/\Q b H'
def AP(X:Cx)(pins:List (Addr×Obj))(σ:St)(Q:List V->Hp->Prop)(us:List Value)(s':Shared):Prop:=∃vs H',Inv X pins σ H' s'/\Vals vs us/\Q vs H'
def SP(X:Cx)(pins:List (Addr×Obj))(D:Ends)(f:Flow)(s':Shared):Prop :=
 match f with
 |.next=>∃σ' H',Inv X pins σ' H' s'/\D.nx σ' H'
 |.brk=>∃σ' H',Inv X pins σ' H' s'/\D.bk σ' H'
 |.cont=>∃σ' H',Inv X pins σ' H' s'/\D.ct σ' H'
 |.ret u=>∃v σ' H',Inv X pins σ' H' s'/\RelV v u/\D.rt v H'
def PE(X:Cx)(e:Expr)(t:TE):Prop :=
 ∀(pins:List (Addr×Obj))(s:Shared)(σ:St)(H:Hp)(Q:VK),Inv X pins σ H s->t σ H Q->wpAny (model X.prog X.w) X.A (eval e X.env) (EP X pins σ Q) X.xe s
def PT(X:Cx)(e:Expr)(t:TT):Prop :=
 ∀(pins:List (Addr×Obj))(s:Shared)(σ:St)(H:Hp)(Q:Bool->Hp->Prop),Inv X pins σ H s->t σ H Q->wpAny (model X.prog X.w) X.A (isTrue e X.env (eval e X.env)) (TP X pins σ Q) X.xe s
def PW(X:Cx)(e:Expr)(t:TT):Prop :=
 ∀(whole:Sem Value)(pins:List (Addr×Obj))(s:Shared)(σ:St)(H:Hp)(Q:Bool->Hp->Prop),Inv X pins σ H s->t σ H Q->wpAny (model X.prog X.w) X.A (isTrue e X.env whole) (TP X pins σ Q) X.xe s
theorem PW.pt{X:Cx}{e:Expr}{t:TT}(h:PW X e t):PT X e t:=h _
def PA(X:Cx)(es:List Expr)(t:TA):Prop :=
 ∀(pos:Pos)(pins:List (Addr×Obj))(s:Shared)(σ:St)(H:Hp)(Q:List V->Hp->Prop),Inv X pins σ H s->t σ H Q->wpAny (model X.prog X.w) X.A (spliced (backTo pos (starEach es X.env))) (AP X pins σ Q) X.xe s
def PS(X:Cx)(st:Stmt)(t:TS):Prop :=
 ∀(pins:List (Addr×Obj))(s:Shared)(σ:St)(H:Hp)(D:Ends),Inv X pins σ H s->t D σ H->wpAny (model X.prog X.w) X.A (exec st X.env) (SP X pins D) X.xe s
def PSs(X:Cx)(st:List Stmt)(t:TS):Prop :=
 ∀(pins:List (Addr×Obj))(s:Shared)(σ:St)(H:Hp)(D:Ends),Inv X pins σ H s->t D σ H->wpAny (model X.prog X.w) X.A (execs st X.env) (SP X pins D) X.xe s
theorem thn{α:Type}{t:Sem α}{Q Q':α->Shared->Prop}{M:Model}{A:Around}{E:Value->Shared->Prop}{s:Shared}(h:wpAny M A t Q E s)(hQ:∀a s,Q a s->Q' a s):wpAny M A t Q' E s:=QM h hQ λ_ _ x=>x
section
variable{X:Cx}
def tVar(i:Nat):TE:=λσ H Q=>∃v,σ[i]?=some (some v)/\Q v H
def tC(v:V):TE:=λ_ H Q=>Q v H
theorem zoh{i:Nat}{x:Str}{pos:Pos}(hN:X.N[i]?=some x)(hv:Vis X.env.scope x)(hd:(x==("__debug__" : Str))=false:=by decide)(hcd:(x==("__classdict__" : Str))=false:=by decide):PE X (.Name x pos) (tVar i):=by
 intro pins s σ H Q I h;obtain ⟨v,e,h⟩:=h;obtain ⟨m,hn,hl⟩:=I.loc;obtain ⟨u,r,l⟩:=hl i x v hN e hv;have fin:EP X pins σ Q u s:=⟨v,H,I,r,h⟩;rcases l with ⟨hk,hm⟩|⟨hk,c,hc,hcell⟩
 ·exact wpAny_Name (wpAny_loadName_local I.ok.kind hk hn hm fin) hd
 ·rcases hk with hk|hk
  ·exact wpAny_Name (wpAny_loadName_cell I.ok.kind hk hc hcell fin) hd
  ·exact wpAny_Name (wpAny_loadName_free I.ok.kind hk hc hcell fin hcd) hd
theorem zpS{i j pos}:PE X (.Constant (.int i) j pos) (tC (.int i)):=λ_ _ _ H _ I h=>wpAny_Constant_int ⟨.int i,H,I.tok _,⟨_,rfl⟩,h⟩
theorem zra{b j pos}:PE X (.Constant (.bool b) j pos) (tC (.bl b)):=λ_ _ _ H _ I h=>Constant_bool ⟨.bl b,H,I,rfl,h⟩
theorem zpT{j pos}:PE X (.Constant .none j pos) (tC .non):=λ_ _ _ H _ I h=>Constant_none ⟨.non,H,I,rfl,h⟩
theorem zpU{x j pos}:PE X (.Constant (.str x) j pos) (tC (.str x)):=λ_ _ _ H _ I h=>Calls.Constant_str ⟨.str x,H,I.tok _,⟨_,rfl⟩,h⟩
def Gl(X:Cx)(x:Str):Prop:=X.env.kindOf x=some .globalImplicit
theorem zkF{E:Value->Shared->Prop}{pins:List (Addr×Obj)}{s:Shared}{σ:St}{H:Hp}{x:Str}{u:Value}{pos:Pos}{Q:Value->Shared->Prop}(I:Inv X pins σ H s)(hg:Gl X x)(hm:X.mg x=some u)(h:Q u s)
  (hd:(x==("__debug__" : Str))=false:=by decide):wpAny (model X.prog X.w) X.A (eval (.Name x pos) X.env) Q E s :=
 Calls.Name_function_global I.ok.kind hg (Calls.loadGlobal_global (by rw[I.ok.glob];exact I.mod.glob.keeps I.bk) hm h) hd
theorem ze0{E:Value->Shared->Prop}{pins:List (Addr×Obj)}{s:Shared}{σ:St}{H:Hp}{x:Str}{u:Value}{pos:Pos}{Q:Value->Shared->Prop}(I:Inv X pins σ H s)(hg:Gl X x)(hm:X.mg x=none)(hv:bootBuiltins x=some u)(h:Q u s)
  (hn:x ≠ "__name__" := by decide) (hd:(x==("__debug__" : Str))=false:=by decide):wpAny (model X.prog X.w) X.A (eval (.Name x pos) X.env) Q E s:=by
 obtain ⟨mb,h1,h2⟩:=I.mod.blt;exact Calls.Name_function_global I.ok.kind hg (Calls.loadGlobal_builtin (by rw[I.ok.glob];exact I.mod.glob.keeps I.bk) hm (by rw[I.ok.blt];exact h1.keeps I.bk) ((h2 x hn).trans hv) h) hd
theorem zkG{x:Str}{v:V}{u:Value}{pos:Pos}(hg:Gl X x)(hm:X.mg x=some u)(r:RelV v u)(hd:(x==("__debug__" : Str))=false:=by decide):PE X (.Name x pos) (tC v) :=
 λ_ _ _ H _ I h=>zkF I hg hm ⟨v,H,I,r,h⟩ hd
theorem zoI{x:Str}{v:V}{u:Value}{pos:Pos}(hg:Gl X x)(hm:X.mg x=none)(hv:bootBuiltins x=some u)(r:RelV v u)(hn:x ≠ "__name__" := by decide)(hd:(x==("__debug__" : Str))=false:=by decide):PE X (.Name x pos) (tC v) :=
 λ_ _ _ H _ I h=>ze0 I hg hm hv ⟨v,H,I,r,h⟩ hn hd
variable{a b:Expr}{ta tb:TE}{pos:Pos}
def PC(X:Cx)(op:CmpOp)(a b:Expr)(t:TE):Prop :=
 ∀(pins:List (Addr×Obj))(s:Shared)(σ:St)(H:Hp)(Q:VK),Inv X pins σ H s->t σ H Q ->
  wpAny (model X.prog X.w) X.A (eval a X.env) (λv s₁=>wpAny (model X.prog X.w) X.A (eval b X.env) (λu s₂=>wpAny (model X.prog X.w) X.A (compareOp op v u) (EP X pins σ Q) X.xe s₂) X.xe s₁) X.xe s
theorem zi8(b:Expr){op:CmpOp}(h:op≠.In)(h2:op≠.NotIn):behindInMarks op b=false:=by
 have e1:(op==CmpOp.In)=false:=by cases op <;> first|rfl|exact absurd rfl h
 have e2:(op==CmpOp.NotIn)=false:=by cases op <;> first|rfl|exact absurd rfl h2
 cases b <;> simp[behindInMarks,e1,e2]
def tIsN(ta:TE):TE:=λσ H Q=>ta σ H λx H1=>Q (.bl (decide (x=.non))) H1
def zrb(ta:TE):TE:=λσ H Q=>ta σ H λx H1=>Q (.bl (!decide (x=.non))) H1
theorem RelV.none_iff{x:V}{v:Value}(r:RelV x v):(v==Value.none)=decide (x=.non):=by
 cases x with
 |non=>cases r;rfl
 |bl _=>cases r;rfl
 |int _=>obtain ⟨t,rfl⟩:=r;rfl
 |str _=>obtain ⟨t,rfl⟩:=r;rfl
 |byt _=>obtain ⟨t,rfl⟩:=r;rfl
 |flt _=>obtain ⟨t,rfl⟩:=r;rfl
 |ref _=>cases r;rfl
 |ty _=>cases r;rfl
theorem zoi{j pos'}(ha:PE X a ta):PC X .Is a (.Constant .none j pos') (tIsN ta):=by
 intro pins s σ H Q I h;refine thn (ha pins s σ H _ I h) λv s1 ⟨x,H1,I1,r1,q1⟩=>?_;exact Constant_none (is_none_gen ⟨.bl _,H1,I1,by rw[r1.none_iff];rfl,q1⟩)
theorem zoJ{j pos'}(ha:PE X a ta):PC X .IsNot a (.Constant .none j pos') (zrb ta):=by
 intro pins s σ H Q I h;refine thn (ha pins s σ H _ I h) λv s1 ⟨x,H1,I1,r1,q1⟩=>?_;exact Constant_none (isnot_none_gen ⟨.bl _,H1,I1,by rw[r1.none_iff];rfl,q1⟩)
def tB(t:TE):TT:=λσ H Q=>t σ H λx H1=>∃c,x=.bl c/\Q c H1
theorem zpV{op:CmpOp}{t:TE}(h:PC X op a b t)(h1:behindInMarks op b=false:=by first|exact zi8 _ (by decide) (by decide)|rfl):PE X (.Compare a [op] [b] pos) t:=λpins s σ H Q I hw=>wpAny_Compare1 (h pins s σ H Q I hw) h1
theorem zoj{op:CmpOp}{t:TE}(h:PC X op a b t)(h1:behindInMarks op b=false:=by first|exact zi8 _ (by decide) (by decide)|rfl):PT X (.Compare a [op] [b] pos) (tB t):=by
 intro pins s σ H Q I hw;refine wpAny_isTrue_Compare1 (thn (h pins s σ H _ I hw) λv s1 h1=>thn h1 λu s2 h2=>thn h2 λc s3 ⟨x,H1,I1,r1,q1⟩=>?_) h1;obtain ⟨d,rfl,q⟩:=q1;cases r1;exact Q2 ⟨H1,I1,q⟩
theorem zpW{e:Expr}{t:TE}(h:PE X e t)(he:∀whole,isTrue e X.env whole=(do let v ←whole;standAt e.pos;holding [v] (truthy v)):=by intro _;rfl):PT X e (tB t):=by
 intro pins s σ H Q I hw;refine isTrue_plain (thn (h pins s σ H _ I hw) λv s1 ⟨x,H1,I1,r1,q1⟩=>?_) (he _);obtain ⟨d,rfl,q⟩:=q1;cases r1;exact Q2 ⟨H1,I1,q⟩
variable{tA tB':TT}{rest:List Expr}
def tAnd(t u:TT):TT:=λσ H Q=>t σ H λc H1=>if c=true then u σ H1 Q else Q false H1
def tOr(t u:TT):TT:=λσ H Q=>t σ H λc H1=>if c=true then Q true H1 else u σ H1 Q
def tNot(t:TT):TT:=λσ H Q=>t σ H λc H1=>Q (!c) H1
theorem zoK(ha:PT X a tA):PW X (.BoolOp .And [a] pos) tA:=by
 intro wh pins s σ H Q I h;refine isTrue_and (thn (ha pins s σ H Q I h) λc s1 e=>?_)
 cases c with
 |true=>exact isTrue_and_nil e
 |false=>exact e
theorem zpX(ha:PT X a tA):PW X (.BoolOp .Or [a] pos) tA:=by
 intro wh pins s σ H Q I h;refine isTrue_or (thn (ha pins s σ H Q I h) λc s1 e=>?_)
 cases c with
 |false=>exact isTrue_or_nil e
 |true=>exact e
theorem zpY(ha:PT X a tA)(hb:PW X (.BoolOp .And (b::rest) pos) tB'):PW X (.BoolOp .And (a::b::rest) pos) (tAnd tA tB'):=by
 intro wh pins s σ H Q I h;refine isTrue_and (thn (ha pins s σ H _ I h) λc s1 ⟨H1,I1,q1⟩=>?_)
 cases c with
 |true=>exact hb wh pins s1 σ H1 Q I1 q1
 |false=>exact ⟨H1,I1,q1⟩
theorem zrc(ha:PT X a tA)(hb:PW X (.BoolOp .Or (b::rest) pos) tB'):PW X (.BoolOp .Or (a::b::rest) pos) (tOr tA tB'):=by
 intro wh pins s σ H Q I h;refine isTrue_or (thn (ha pins s σ H _ I h) λc s1 ⟨H1,I1,q1⟩=>?_)
 cases c with
 |true=>exact ⟨H1,I1,q1⟩
 |false=>exact hb wh pins s1 σ H1 Q I1 q1
theorem zpZ(ha:PT X a tA):PT X (.UnaryOp .Not a pos) (tNot tA):=by
 intro pins s σ H Q I h;exact isTrue_not (ha pins s σ H (λc H1=>Q (!c) H1) I h)
def zrd(ta tb:TE):TE:=λσ H Q=>ta σ H λx H1=>∃c,x=.bl c/\if c=true then tb σ H1 Q else Q (.bl false) H1
def tOrV(ta tb:TE):TE:=λσ H Q=>ta σ H λx H1=>∃c,x=.bl c/\if c=true then Q (.bl true) H1 else tb σ H1 Q
def zre(ta:TE):TE:=λσ H Q=>ta σ H λx H1=>∃c,x=.bl c/\Q (.bl (!c)) H1
theorem zp0{op}{t:TE}(h:PE X a t):PE X (.BoolOp op [a] pos) t:=λpins s σ H Q I hw=>BoolOp_one (h pins s σ H Q I hw)
theorem zp1(ha:PE X a ta)(hb:PE X (.BoolOp .And (b::rest) pos) tb):PE X (.BoolOp .And (a::b::rest) pos) (zrd ta tb):=by
 intro pins s σ H Q I h;refine BoolOp_and (thn (ha pins s σ H _ I h) λv s1 ⟨x,H1,I1,r1,q1⟩=>?_);obtain ⟨c,rfl,q1⟩:=q1;cases r1;refine Q2 ?_
 cases c with
 |true=>exact hb pins s1 σ H1 Q I1 q1
 |false=>exact ⟨.bl false,H1,I1,rfl,q1⟩
theorem zrf(ha:PE X a ta)(hb:PE X (.BoolOp .Or (b::rest) pos) tb):PE X (.BoolOp .Or (a::b::rest) pos) (tOrV ta tb):=by
 intro pins s σ H Q I h;refine BoolOp_or (thn (ha pins s σ H _ I h) λv s1 ⟨x,H1,I1,r1,q1⟩=>?_);obtain ⟨c,rfl,q1⟩:=q1;cases r1;refine Q2 ?_
 cases c with
 |false=>exact hb pins s1 σ H1 Q I1 q1
 |true=>exact ⟨.bl true,H1,I1,rfl,q1⟩
theorem zp2(ha:PE X a ta):PE X (.UnaryOp .Not a pos) (zre ta):=by
 intro pins s σ H Q I h;refine UnaryOp_ (thn (ha pins s σ H _ I h) λv s1 ⟨x,H1,I1,r1,q1⟩=>?_);obtain ⟨c,rfl,q1⟩:=q1;cases r1;exact not_of (Q2 ⟨.bl (!c),H1,I1,rfl,q1⟩)
def tIf(t:TT)(ta tb:TE):TE:=λσ H Q=>t σ H λc H1=>if c=true then ta σ H1 Q else tb σ H1 Q
theorem zm5{c:Expr}(hc:PT X c tA)(ha:PE X a ta)(hb:PE X b tb):PE X (.IfExp c a b pos) (tIf tA ta tb):=by
 intro pins s σ H Q I h;refine wpAny_IfExp (thn (hc pins s σ H _ I h) λd s1 ⟨H1,I1,q1⟩=>?_)
 cases d with
 |true=>exact ha pins s1 σ H1 Q I1 q1
 |false=>exact hb pins s1 σ H1 Q I1 q1
end
def SqL(K:Frag)(H:Hp)(a:Addr)(xs:List V):Prop :=
 Rd H a (.lst xs) ∨
  ∃(o:Obj)(its:Array Value)(n:Nat),K.lookup a=some o/\o.cls=.type "list" /\ o.dict=none/\o.data=.seq its n/\its.size<=sizeLine/\Vals xs its.toList
def SqT(K:Frag)(H:Hp)(a:Addr)(xs:List V):Prop :=
 Rd H a (.tup xs) ∨
  ∃(o:Obj)(its:Array Value)(n:Nat),K.lookup a=some o/\o.cls=.type "tuple" /\ o.data=.seq its n/\its.size<=sizeLine/\Vals xs its.toList
def absV:Value->Option V
 |.none=>some .non
 |.bool b=>some (.bl b)
 |.int i _=>some (.int i)
 |.str x _=>some (.str x)
 |.bytes b _=>some (.byt b)
 |.float b _=>some (.flt b)
 |.ref a=>some (.ref a)
 |.type n=>some (.ty n)
 |_=>none
theorem RelV.abs{x:V}{u:Value}(r:RelV x u):absV u=some x:=by
 cases x with
 |non=>cases r;rfl
 |bl _=>cases r;rfl
 |int _=>obtain ⟨t,rfl⟩:=r;rfl
 |str _=>obtain ⟨t,rfl⟩:=r;rfl
 |byt _=>obtain ⟨t,rfl⟩:=r;rfl
 |flt _=>obtain ⟨t,rfl⟩:=r;rfl
 |ref _=>cases r;rfl
 |ty _=>cases r;rfl
theorem RelV.inj{x y:V}{u:Value}(r:RelV x u)(q:RelV y u):x=y:=QY (r.abs.symm.trans q.abs)
theorem Vals.inj:∀{xs ys:List V}{us:List Value},Vals xs us->Vals ys us->xs=ys
 |_,_,_,.nil,.nil=>rfl
 |_,_,_,.cons r t,.cons r' t'=>by rw[r.inj r',Vals.inj t t']
section
variable{X:Cx}{pins:List (Addr×Obj)}{σ:St}{H:Hp}{s:Shared}{a:Addr}{xs ys:List V}
theorem SqL.of{K:Frag}(h:H a=some (.lst xs)):SqL K H a xs:=.inl (.inl h)
theorem SqT.of{K:Frag}(h:H a=some (.tup xs)):SqT K H a xs:=.inl (.inl h)
theorem Inv.list(I:Inv X pins σ H s)(h:SqL X.K H a xs):∃its:List Value,Vals xs its/\PlainL s.heap a its.toArray/\xs.length<=sizeLine:=by
 rcases h with h|⟨o,its,n,hk,hc,hd,hs,hz,r⟩
 ·obtain ⟨z,its,n,r,e⟩:=h.ok I.hok
  exact ⟨its,r,⟨_,n,e,rfl,rfl,rfl⟩,z⟩
 ·refine ⟨its.toList,r,⟨o,n,I.kIn a o hk,hc,hd,by simpa using hs⟩,?_⟩
  have e:=r.length;simp only[Jz] at e;omega
theorem Inv.tuple(I:Inv X pins σ H s)(h:SqT X.K H a xs):∃its:List Value,Vals xs its/\IsTup s.heap a its.toArray/\xs.length<=sizeLine:=by
 rcases h with h|⟨o,its,n,hk,hc,hs,hz,r⟩
 ·obtain ⟨z,its,r,p⟩:=h.ok I.hok
  exact ⟨its,r,p,z⟩
 ·refine ⟨its.toList,r,⟨o,I.kIn a o hk,hc,n,by simpa using hs⟩,?_⟩
  have e:=r.length;simp only[Jz] at e;omega
theorem Inv.list_inj(I:Inv X pins σ H s)(h:SqL X.K H a xs)(h':SqL X.K H a ys):xs=ys:=by
 obtain ⟨its,r,⟨o,n,e,_,_,d⟩,_⟩:=I.list h;obtain ⟨its',r',⟨o',n',e',_,_,d'⟩,_⟩:=I.list h';rw[e] at e';cases e';rw[d] at d';injection d' with d1 _
 have:its=its':=by simpa using congrArg Array.toList d1
 subst this;exact r.inj r'
theorem Inv.tuple_inj(I:Inv X pins σ H s)(h:SqT X.K H a xs)(h':SqT X.K H a ys):xs=ys:=by
 obtain ⟨its,r,⟨o,e,_,n,d⟩,_⟩:=I.tuple h;obtain ⟨its',r',⟨o',e',_,n',d'⟩,_⟩:=I.tuple h';rw[e] at e';cases e';rw[d] at d';injection d' with d1 _
 have:its=its':=by simpa using congrArg Array.toList d1
 subst this;exact r.inj r'
end
abbrev Cx.wish(X:Cx)(E:Value->Shared->Prop):Cx:={ X with xe:=E }
abbrev Cx.nox(X:Cx):Cx:=X.wish λ_ _=>False
theorem Cx.Ok.wish{X:Cx}(ok:X.Ok)(E:Value->Shared->Prop):(X.wish E).Ok :=
 ⟨ok.mod,ok.kind,ok.glob,ok.blt,ok.above,ok.inj,ok.has,ok.cab,ok.hd,ok.frames,ok.stk,ok.exf,ok.bs,ok.bsz,ok.noex,ok.exfs,ok.funs,ok.frf⟩
theorem Cx.Ok.unwish{X:Cx}{E:Value->Shared->Prop}(ok:(X.wish E).Ok):X.Ok :=
 ⟨ok.mod,ok.kind,ok.glob,ok.blt,ok.above,ok.inj,ok.has,ok.cab,ok.hd,ok.frames,ok.stk,ok.exf,ok.bs,ok.bsz,ok.noex,ok.exfs,ok.funs,ok.frf⟩
section
variable{X:Cx}{pins:List (Addr×Obj)}{σ:St}{H:Hp}{s:Shared}{E:Value->Shared->Prop}
theorem Inv.wish(I:Inv X pins σ H s)(E:Value->Shared->Prop):Inv (X.wish E) pins σ H s:=⟨I.ok.wish E,I.os,I.bare,I.base,I.loc,I.cell,I.free,I.freeC,I.pin,I.hok,I.len⟩
theorem Inv.unwish(I:Inv (X.wish E) pins σ H s):Inv X pins σ H s:=⟨I.ok.unwish,I.os,I.bare,I.base,I.loc,I.cell,I.free,I.freeC,I.pin,I.hok,I.len⟩
theorem SP.unwish{D:Ends}{f:Flow}{s':Shared}(h:SP (X.wish E) pins D f s'):SP X pins D f s':=by
 cases f with
 |next=>obtain ⟨σ',H',I,q⟩:=h;exact ⟨σ',H',I.unwish,q⟩
 |brk=>obtain ⟨σ',H',I,q⟩:=h;exact ⟨σ',H',I.unwish,q⟩
 |cont=>obtain ⟨σ',H',I,q⟩:=h;exact ⟨σ',H',I.unwish,q⟩
 |ret u=>obtain ⟨v,σ',H',I,r,q⟩:=h;exact ⟨v,σ',H',I.unwish,r,q⟩
theorem PSs.nox{st:List Stmt}{t:TS}(h:PSs X.nox st t):PSs X st t:=λpins s σ H D I hw=>
 QM (h pins s σ H D (I.wish _) hw) (λ_ _ q=>q.unwish) λ_ _ z=>False.elim z
end
section
variable{X:Cx}{st:Stmt}{rest:List Stmt}{t u:TS}{e:Expr}{te:TE}{pos:Pos}
def zrg:TS:=λD σ H=>D.nx σ H
def tSeq(t u:TS):TS:=λD σ H=>t { D with nx:=u D } σ H
theorem zoL:PSs X [] zrg:=λ_ _ σ H _ I h=>wpAny_execs_nil ⟨σ,H,I,h⟩
theorem zm6(h1:PS X st t)(h2:PSs X rest u):PSs X (st::rest) (tSeq t u):=by
 intro pins s σ H D I h;refine wpAny_execs_cons (thn (h1 pins s σ H { D with nx:=u D } I h) λf s1 q=>?_)
 cases f with
 |next=>
  obtain ⟨σ',H',I',q⟩:=q;exact h2 pins s1 σ' H' D I' q
 |ret v=>exact q
 |brk=>exact q
 |cont=>exact q
theorem zoM(h1:PS X st t):PSs X [st] t:=by
 intro pins s σ H D I h;refine wpAny_execs_cons (thn (h1 pins s σ H D I h) λf s1 q=>?_)
 cases f with
 |next=>exact wpAny_execs_nil q
 |ret v=>exact q
 |brk=>exact q
 |cont=>exact q
theorem Inv.quiet{pins:List (Addr×Obj)}{σ:St}{H:Hp}{s:Shared}(I:Inv X pins σ H s):interactive X.env=false:=by simp[interactive,I.ok.kind]
def zrh(te:TE):TS:=λD σ H=>te σ H λ_ H1=>D.nx σ H1
theorem zkH(he:PE X e te)(hs:swapsWith e none pos.line X.env=pure false:=by rfl):PS X (.Expr e pos) (zrh te):=by
 intro pins s σ H D I h;exact wpAny_Expr_any (thn (he pins s σ H _ I h) λv s1 ⟨x,H1,I1,r1,q1⟩=>⟨σ,H1,I1,q1⟩) I.quiet hs
def tRet(te:TE):TS:=λD σ H=>te σ H D.rt
theorem zp3(he:PE X e te):PS X (.Return (some e) pos) (tRet te):=by
 intro pins s σ H D I h;exact wpAny_Return_some (thn (he pins s σ H _ I h) λv s1 ⟨x,H1,I1,r1,q1⟩=>⟨x,σ,H1,I1,r1,q1⟩)
def tIfS(c:TT)(t u:TS):TS:=λD σ H=>c σ H λb H1=>if b=true then t D σ H1 else u D σ H1
theorem zri{c:Expr}{a b:List Stmt}{tc:TT}(hc:PT X c tc)(ha:PSs X a t)(hb:PSs X b u):PS X (.If c a b pos) (tIfS tc t u):=by
 intro pins s σ H D I h;refine wpAny_If (thn (hc pins s σ H _ I h) λd s1 ⟨H1,I1,q1⟩=>?_)
 cases d with
 |true=>exact ha pins s1 σ H1 D I1 q1
 |false=>exact hb pins s1 σ H1 D I1 q1
end
abbrev TG:=V->St->Hp->(St->Hp->Prop)->Prop
abbrev TGs:=List V->St->Hp->(St->Hp->Prop)->Prop
def PG(X:Cx)(target:Expr)(t:TG):Prop :=
 ∀(pins:List (Addr×Obj))(s:Shared)(σ:St)(H:Hp)(v:V)(u:Value)(Q:St->Hp->Prop),Inv X pins σ H s->RelV v u->t v σ H Q ->
  wpAny (model X.prog X.w) X.A (assign target X.env u) (λ_ s'=>∃σ' H',Inv X pins σ' H' s'/\Q σ' H') X.xe s
def PGs(X:Cx)(ts:List Expr)(t:TGs):Prop :=
 ∀(pins:List (Addr×Obj))(s:Shared)(σ:St)(H:Hp)(vs:List V)(us:List Value)(Q:St->Hp->Prop),Inv X pins σ H s->Vals vs us->t vs σ H Q ->
  wpAny (model X.prog X.w) X.A (assignInOrder ((assignEach ts X.env).map (·.2)) us) (λ_ s'=>∃σ' H',Inv X pins σ' H' s'/\Q σ' H') X.xe s
abbrev TSet:=V->V->V->Hp->(Hp->Prop)->Prop
def PSet(X:Cx)(t:TSet):Prop :=
 ∀(pins:List (Addr×Obj))(s:Shared)(σ:St)(H:Hp)(o i v:V)(ov iv u:Value)(Q:Hp->Prop),Inv X pins σ H s->RelV o ov->RelV i iv->RelV v u->t o i v H Q ->
  wpAny (model X.prog X.w) X.A (setItem ov iv u) (λ_ s'=>∃H',Inv X pins σ H' s'/\Q H') X.xe s
abbrev TIp:=V->V->Hp->VK->Prop
def PIp(X:Cx)(op:Operator)(t:TIp):Prop :=
 ∀(pins:List (Addr×Obj))(s:Shared)(σ:St)(H:Hp)(x y:V)(v u:Value)(Q:VK),Inv X pins σ H s->RelV x v->RelV y u->t x y H Q ->
  wpAny (model X.prog X.w) X.A (inplaceOp op v u) (EP X pins σ Q) X.xe s
section
variable{X:Cx}{pos:Pos}
def zoN(i:Nat):TG:=λv σ H Q=>Q (σ.set i (some v)) H
theorem zam{i:Nat}{x:Str}(hN:X.N.Nodup)(hi:X.N[i]?=some x)(hx:Loc X.env.scope x)(hf:X.fn x=true∨X.env.scope.names.lookup x=some .local:=by first|exact .inl rfl|exact .inr rfl|assumption):PG X (.Name x pos) (zoN i):=by
 intro pins s σ H v u Q I r h;exact wpAny_assign_Name (zgg I hN hi hx r (λs' I'=>⟨_,H,I',h⟩) hf)
def gNil:TGs:=λvs σ H Q=>vs=[]/\Q σ H
def zrj(t:TG)(u:TGs):TGs:=λvs σ H Q=>∃v r,vs=v::r/\t v σ H λσ' H'=>u r σ' H' Q
theorem zoO:PGs X [] gNil:=by
 intro pins s σ H vs us Q I r h;obtain ⟨e,h⟩:=h;subst e;cases r;exact assignInOrder_nil ⟨σ,H,I,h⟩
theorem zm7{e:Expr}{es:List Expr}{t:TG}{u:TGs}(h1:PG X e t)(h2:PGs X es u)
  (hs:(assignEach (e::es) X.env).map (·.2)=assign e X.env::(assignEach es X.env).map (·.2):=by rfl):PGs X (e::es) (zrj t u):=by
 intro pins s σ H vs us Q I r h;obtain ⟨v,vr,e1,h⟩:=h;subst e1
 cases r with
 |cons r rr=>
  rw[hs];refine assignInOrder_cons (thn (h1 pins s σ H _ _ _ I r h) λ_ s1 ⟨σ1,H1,I1,q1⟩=>?_);exact h2 pins s1 σ1 H1 _ _ Q I1 rr q1
def gTup(K:Frag)(n:Nat)(t:TGs):TG:=λv σ H Q=>∃a xs,v=.ref a/\SqT K H a xs/\xs.length=n/\t xs σ H Q
theorem zp4{es:List Expr}{k:Nat}{t:TGs}{n:Nat}(hc:X.calm=true)(h:PGs X es t)
  (hn:(assignEach es X.env).length=n:=by rfl) (hst:(assignEach es X.env).findIdx? (·.1)=none:=by rfl):PG X (.Tuple es k pos) (gTup X.K n t):=by
 intro pins s σ H v u Q I r hw;obtain ⟨a,xs,e1,hq,hl,hw⟩:=hw;subst e1;cases r;obtain ⟨its,rv,ht,hz⟩:=I.tuple hq;refine assign_Tuple_tuple (I.ok.hd hc) ht (by simp[hn,←hl,rv.length]) hst λh' hx=>?_
 have I1:Inv X pins σ H { s with heap:=h' }:=I.kept (t':=s.toks) λb o e=>hx b o (QT (Qi e)) e;exact h pins _ σ H xs _ Q I1 (by simpa using rv) hw
def tAsg(te:TE)(g:TG):TS:=λD σ H=>te σ H λx H1=>g x σ H1 D.nx
theorem zp5{tg e:Expr}{te:TE}{g:TG}(he:PE X e te)(hg:PG X tg g)(hs:swapsWithSole [tg] e pos.line X.env=pure false:=by rfl)(hw:swappedStores [tg] e X.env=pure none:=by rfl)
  (h1:(assignEach [tg] X.env).map (·.2)=[assign tg X.env]:=by rfl):PS X (.Assign [tg] e pos) (tAsg te g):=by
 intro pins s σ H D I h;refine wpAny_Assign_stores (thn (he pins s σ H _ I h) λv s1 ⟨x,H1,I1,r1,q1⟩=>?_) hs hw;rw[h1];exact thn (hg pins s1 σ H1 x v _ I1 r1 q1) λ_ s2 q=>q
theorem zok{i:Nat}{x:Str}{e:Expr}{te:TE}{pos':Pos}(hN:X.N.Nodup)(hi:X.N[i]?=some x)(hx:Loc X.env.scope x)(he:PE X e te)(hs:swapsWith e (some (.Name x pos')) pos.line X.env=pure false:=by rfl)(hf:X.fn x=true∨X.env.scope.names.lookup x=some .local:=by first|exact .inl rfl|exact .inr rfl|assumption) :
  PS X (.Assign [.Name x pos'] e pos) (tAsg te (zoN i)):=by
 intro pins s σ H D I h;refine wpAny_Assign_Name (thn (he pins s σ H _ I h) λv s1 ⟨y,H1,I1,r1,q1⟩=>?_) hs;exact zgg I1 hN hi hx r1 (λs2 I2=>⟨_,H1,I2,q1⟩) hf
def tAug(i:Nat)(te:TE)(ti:TIp):TS:=λD σ H=>∃x,σ[i]?=some (some x)/\te σ H λy H1=>ti x y H1 λz H2=>D.nx (σ.set i (some z)) H2
theorem zp6{i:Nat}{x:Str}{e:Expr}{te:TE}{op:Operator}{ti:TIp}{pos':Pos}(hN:X.N.Nodup)(hi:X.N[i]?=some x)(hx:Loc X.env.scope x)(he:PE X e te)(ho:PIp X op ti)(hf:X.fn x=true∨X.env.scope.names.lookup x=some .local:=by first|exact .inl rfl|exact .inr rfl|assumption) :
  PS X (.AugAssign (.Name x pos') op e pos) (tAug i te ti):=by
 intro pins s σ H D I h;obtain ⟨v,e1,h⟩:=h;obtain ⟨m,hn,hl⟩:=I.loc;have vis:Vis X.env.scope x:=by rcases hx with k|k;exact .inl k;exact .inr (.inl k)
 obtain ⟨u,r,l⟩:=hl i x v hi e1 vis;refine wpAny_AugAssign_Name ?_
 have go:wpAny (model X.prog X.w) X.A (eval e X.env) (λw s₂=>wpAny (model X.prog X.w) X.A (inplaceOp op u w) (λr s₃=>wpAny (model X.prog X.w) X.A (storeName X.env x r) (λ_=>SP X pins D .next) X.xe s₃) X.xe s₂) X.xe s:=by
  refine thn (he pins s σ H _ I h) λw s1 ⟨y,H1,I1,r1,q1⟩=>?_;refine thn (ho pins s1 σ H1 v y u w _ I1 r r1 q1) λz s2 ⟨zv,H2,I2,r2,q2⟩=>?_;exact zgg I2 hN hi hx r2 (λs3 I3=>⟨_,H2,I3,q2⟩) hf
 rcases l with ⟨hk,hm⟩|⟨hk,c,hc,hcell⟩
 ·exact wpAny_loadName_local I.ok.kind hk hn hm go
 ·rcases hk with hk|hk
  ·exact wpAny_loadName_cell I.ok.kind hk hc hcell go
  ·rcases hx with k|k
   ·have:X.env.scope.names.lookup x=some .free:=hk
    rw[k] at this;cases this
   ·have:X.env.scope.names.lookup x=some .free:=hk
    rw[k] at this;cases this
def zrk(to ti te:TE)(tget:V->V->Hp->VK->Prop)(tip:TIp)(tset:TSet):TS:=λD σ H=>to σ H λo H1=>ti σ H1 λi H2=>tget o i H2 λx H3=>te σ H3 λy H4=>tip x y H4 λz H5=>tset o i z H5 λH6=>D.nx σ H6
def PGet(X:Cx)(t:V->V->Hp->VK->Prop):Prop :=
 ∀(pins:List (Addr×Obj))(s:Shared)(σ:St)(H:Hp)(o i:V)(ov iv:Value)(Q:VK),Inv X pins σ H s->RelV o ov->RelV i iv->t o i H Q ->
  wpAny (model X.prog X.w) X.A (getItem ov iv) (EP X pins σ Q) X.xe s
theorem zoP{o i e:Expr}{to ti te:TE}{tget:V->V->Hp->VK->Prop}{tip:TIp}{tset:TSet}{op:Operator}{tpos:Pos}(ho:PE X o to)(hi:PE X i ti)(hg:PGet X tget)(he:PE X e te)(hp:PIp X op tip)(hs:PSet X tset)
  (ha:∀ov iv new,augStore i ov iv new=(do holding [new,ov,iv] (setItem ov iv new);release [new,ov,iv] [];pure .next):=by intros;rfl):PS X (.AugAssign (.Subscript o i tpos) op e pos) (zrk to ti te tget tip tset):=by
 intro pins s σ H D I h;refine wpAny_AugAssign_SubscriptAny (thn (ho pins s σ H _ I h) λov s1 ⟨x1,H1,I1,r1,q1⟩=>?_) ha;refine thn (hi pins s1 σ H1 _ I1 q1) λiv s2 ⟨x2,H2,I2,r2,q2⟩=>?_;refine thn (hg pins s2 σ H2 x1 x2 ov iv _ I2 r1 r2 q2) λold s3 ⟨x3,H3,I3,r3,q3⟩=>?_;refine thn (he pins s3 σ H3 _ I3 q3) λv s4 ⟨x4,H4,I4,r4,q4⟩=>?_;refine thn (hp pins s4 σ H4 x3 x4 old v _ I4 r3 r4 q4) λnew s5 ⟨x5,H5,I5,r5,q5⟩=>?_;exact thn (hs pins s5 σ H5 x1 x2 x5 ov iv new _ I5 r1 r2 r5 q5) λ_ s6 ⟨H6,I6,q6⟩=>⟨σ,H6,I6,q6⟩
def ipI(f:Int->Int->Int):TIp:=λx y H Q=>∃i j,x=.int i/\y=.int j/\Q (.int (f i j)) H
theorem zp7:PIp X .Add (ipI λi j=>i+j):=by
 intro pins s σ H x y v u Q I r1 r2 h;obtain ⟨i,j,e1,e2,q⟩:=h;subst e1;subst e2;obtain ⟨t,rfl⟩:=r1;obtain ⟨t',rfl⟩:=r2;exact iadd_int ⟨.int _,H,I.tok _,⟨_,rfl⟩,q⟩
end
section
variable{X:Cx}{pos:Pos}
def zp8(c:TT)(tb:TS):TS:=λD σ H=>∃W:Nat->St->Hp->Prop,(∃m,W m σ H)/\∀m σ H,W m σ H ->
 c σ H λb H1=>if b=true then ∃N:St->Hp->Prop,(∀σ' H',N σ' H'->∃m',m'<m/\W m' σ' H')/\tb { D with nx:=N,ct:=N,bk:=D.nx } σ H1 else D.nx σ H1
theorem zm8{c:Expr}{body:List Stmt}{tc:TT}{tb:TS}(hp:PassesOwn (model X.prog X.w) X.A X.env X.xe)(hc:PT X c tc)(hb:PSs X body tb):PS X (.While c body [] pos) (zp8 tc tb):=by
 intro pins s σ H D I h;obtain ⟨W,⟨m0,w0⟩,turn⟩:=h;refine wpAny_While (codeAny_whileLoop (λn s'=>∃σ' H',Inv X pins σ' H' s'/\W n σ' H') ?_ m0 ⟨σ,H,I,w0⟩);rintro n s1 ⟨σ1,H1,I1,w1⟩;refine Ju hp (thn (hc pins s1 σ1 H1 _ I1 (turn n σ1 H1 w1)) λb s2 ⟨H2,I2,q2⟩=>?_)
 cases b with
 |true=>
  obtain ⟨N,hN,q2⟩:=q2;rw[Qm rfl];refine Ju hp (thn (hb pins s2 σ1 H2 _ I2 q2) λf s3 q3=>?_)
  cases f with
  |next=>
   obtain ⟨σ3,H3,I3,n3⟩:=q3;obtain ⟨m',hm,w3⟩:=hN σ3 H3 n3;exact ⟨m',hm,σ3,H3,I3,w3⟩
  |cont=>
   obtain ⟨σ3,H3,I3,n3⟩:=q3;obtain ⟨m',hm,w3⟩:=hN σ3 H3 n3;exact ⟨m',hm,σ3,H3,I3,w3⟩
  |brk=>exact q3
  |ret v=>exact q3
 |false=>
  rw[Qy JK];exact wpAny_execs_nil ⟨σ1,H2,I2,q2⟩
end
structure It where
 go:Nat->Hp->Prop
 yld:Nat->Hp->V->Hp->Prop
 stop:Nat->Hp->Prop
def FpOk(X:Cx)(pins:List (Addr×Obj))(H:Hp)(b:Addr):Prop :=
 H b=none/\b≠X.env.locals/\b∉X.fs/\(b∈X.ex∨X.s₀.heap.objs.size<=b)/\(∀x c,X.env.cells.lookup x=some c->c≠b)/\∀p∈X.pn++pins,p.1≠b
theorem Inv.fpOk{X:Cx}{pins:List (Addr×Obj)}{σ:St}{H H':Hp}{s:Shared}{b:Addr}(I:Inv X pins σ H s)(hb:s.heap.objs.size<=b)(hn:H' b=none):FpOk X pins H' b:=by
 refine ⟨hn,JZ (QJ I.lt hb),I.nofs hb,.inr (QO I.sz hb),λx c e z=>?_,λp hp z=>?_⟩
 ·obtain ⟨v,q⟩:=I.cell x c e
  exact absurd (QJ q.lt (by rw[z];exact hb)) (Jv _)
 ·exact absurd (QJ (Qi (I.pin p hp).1) (by rw[z];exact hb)) (Jv _)
structure Turn(P:Program)(w:World)(K:Frag)(tg:Expr)(J:It)(fp:List Addr)(it:Addr)(tn:Nat->Heap->Prop):Prop where
 mem:it∈fp
 obj:∀i h,tn i h->∀b∈fp,∃o,h.get? b=some o/\∀v,o.data≠.cell v
 keep:∀i h h',tn i h->(∀b∈fp,∀o,h.get? b=some o->h'.get? b=some o)->tn i h'
 item:∀(X:Cx),X.prog=P->X.w=w->X.K=K->X.calm=true->∀(i:Nat)(pins:List (Addr×Obj))(s:Shared)(σ:St)(H:Hp)(E:Value->Shared->Prop),Inv X pins σ H s->(∀b∈fp,FpOk X pins H b)->tn i s.heap->J.go i H ->
  wpAny (model P w) X.A (pyNext (.ref it)) (λr s1=>∃u,r=some u /\
   wpAny (model P w) X.A (letOwnedTupleGo tg (.ref it) u) (λ_ s2=>∃x H',Inv X pins σ H' s2/\RelV x u/\J.yld i H x H'/\tn (i+1) s2.heap/\∀b∈fp,H' b=none) E s1) E s
 done:∀(X:Cx),X.prog=P->X.w=w->X.K=K->X.calm=true->∀(i:Nat)(pins:List (Addr×Obj))(s:Shared)(σ:St)(H:Hp)(E:Value->Shared->Prop),Inv X pins σ H s->(∀b∈fp,FpOk X pins H b)->tn i s.heap->J.stop i H ->
  wpAny (model P w) X.A (pyNext (.ref it)) (λr s1=>r=none/\Inv X pins σ H s1) E s
 self:∀(A:Around)(i:Nat)(s:Shared)(Q:Value->Shared->Prop)(E:Value->Shared->Prop),tn i s.heap->Q (.ref it) s->wpAny (model P w) A (pyIter (.ref it)) Q E s
abbrev TI:=St->Hp->(It->Hp->Prop)->Prop
def PIE(X:Cx)(pins:List (Addr×Obj))(σ:St)(tg:Expr)(R:It->Hp->Prop)(itv:Value)(s2:Shared):Prop :=
 ∃(it:Addr)(fp:List Addr)(tn:Nat->Heap->Prop)(J:It)(H':Hp),itv=.ref it/\Inv X pins σ H' s2/\Turn X.prog X.w X.K tg J fp it tn/\tn 0 s2.heap/\(∀b∈fp,FpOk X pins H' b)/\R J H'
def PI(X:Cx)(tg iter:Expr)(wi:TI):Prop :=
 ∀(pins:List (Addr×Obj))(s:Shared)(σ:St)(H:Hp)(R:It->Hp->Prop),Inv X pins σ H s->wi σ H R ->
  wpAny (model X.prog X.w) X.A (eval iter X.env) (λv s1=>wpAny (model X.prog X.w) X.A (pyIter v) (PIE X pins σ tg R) X.xe s1) X.xe s
theorem zm9{M:Model}{A:Around}{E:Value->Shared->Prop}{s:Shared}{tg:Expr}{it:Addr}{u:Value}{o:Obj}{n:String}{vs:Array Value}{Q:Unit->Shared->Prop}(ho:s.heap.get? it=some o)(hc:o.cls=.type n)(hd:o.data=.fields vs)
  (hn:["enumerate", "zip", "dict_itemiterator", "dict_reverseitemiterator", "odict_iterator", "itertools.zip_longest", "itertools.pairwise"].contains n=false) (hQ:Q () s):wpAny M A (letOwnedTupleGo tg (.ref it) u) Q E s:=by
 unfold letOwnedTupleGo
 cases tg <;> first
  |exact Qn hQ
  |(cases u <;> first
    |exact Qn hQ
    |(
      refine Qf (wpAny_load ho ?_);rw[hc,hd]
      show wpAny M A (if (["enumerate", "zip", "dict_itemiterator", "dict_reverseitemiterator", "odict_iterator", "itertools.zip_longest", "itertools.pairwise"].contains n&&vs[0]?==some (rawInt _))=true then _ else _) Q E s
      rw[Qy (by intro h;rw[hn,Bool.false_and] at h;cases h)]
      exact Qn hQ))
def Itl(K:Frag)(a:Addr):It :=
 ⟨λi H=>∃xs x,SqL K H a xs/\xs[i]?=some x,λi H x H'=>H'=H/\∀xs,SqL K H a xs->xs[i]?=some x,λi H=>∃xs,SqL K H a xs/\xs.length<=i⟩
def Itt(K:Frag)(a:Addr):It :=
 ⟨λi H=>∃xs x,SqT K H a xs/\xs[i]?=some x,λi H x H'=>H'=H/\∀xs,SqT K H a xs->xs[i]?=some x,λi H=>∃xs,SqT K H a xs/\xs.length<=i⟩
def Itr(lo:Int)(n:Nat):It:=⟨λi _=>i<n,λi H x H'=>H'=H/\x=.int (lo+i),λi _=>n<=i⟩
theorem zkI{P:Program}{w:World}{K:Frag}{tg:Expr}(a it:Addr):Turn P w K tg (Itl K a) [it] it (λi h=>h.IsListIter it a i) where
 mem:=by simp
 obj:=λi h st b hb=>by
  have e:b=it:=by simpa using hb
  subst e;obtain ⟨o,e,c,d⟩:=st;exact ⟨o,e,λv z=>by rw[d] at z;cases z⟩
 keep:=λi h h' st k=>st.at λo e=>k it (by simp) o e
 item:=by
  intro X hP hw hK hc i pins s σ H E I hf st hg;subst hP hw hK;obtain ⟨xs,x,hq,hx⟩:=hg;obtain ⟨its,rv,p,hz⟩:=I.list hq;obtain ⟨u,hu,ru⟩:=rv.get hx;obtain ⟨f0,f1,f2,f3,f4,f5⟩:=hf it (by simp)
  refine wpAny_pyNext_list_item st p.isList (x:=u) (by simpa using hu) λh' st' sb=>?_
  have I1:Inv X pins σ H { s with heap:=h' }:=I.turned (t':=s.toks) (λb o hb e=>(sb.2 b hb).trans e) f0 f1 f3 f4 f5;obtain ⟨o,e,c,d⟩:=id st';exact ⟨u,rfl,zm9 (s:={ s with heap:=h' }) e c d (by decide) ⟨x,H,I1,ru,⟨rfl,λys hy=>by rw[I.list_inj hy hq];exact hx⟩,st',λb hb=>(hf b hb).1⟩⟩
 done:=by
  intro X hP hw hK hc i pins s σ H E I hf st hg;subst hP hw hK;obtain ⟨xs,hq,hx⟩:=hg;obtain ⟨its,rv,p,hz⟩:=I.list hq;obtain ⟨f0,f1,f2,f3,f4,f5⟩:=hf it (by simp)
  have hl:=rv.length;exact wpAny_pyNext_list_end (I.ok.hd hc) st p.isList (by simp;omega) λh' eb=>⟨rfl,I.turned (t':=s.toks) (λb o hb e=>eb b o hb e) f0 f1 f3 f4 f5⟩
 self:=λ_ _ _ _ _ st h=>wpAny_pyIter_listiter st h
theorem zjU{P:Program}{w:World}{K:Frag}{tg:Expr}(a it:Addr):Turn P w K tg (Itt K a) [it] it (λi h=>h.IsTupleIter it a i) where
 mem:=by simp
 obj:=λi h st b hb=>by
  have e:b=it:=by simpa using hb
  subst e;obtain ⟨o,e,c,d⟩:=st;exact ⟨o,e,λv z=>by rw[d] at z;cases z⟩
 keep:=λi h h' st k=>st.at λo e=>k it (by simp) o e
 item:=by
  intro X hP hw hK hc i pins s σ H E I hf st hg;subst hP hw hK;obtain ⟨xs,x,hq,hx⟩:=hg;obtain ⟨its,rv,p,hz⟩:=I.tuple hq;obtain ⟨u,hu,ru⟩:=rv.get hx;obtain ⟨f0,f1,f2,f3,f4,f5⟩:=hf it (by simp)
  refine wpAny_pyNext_tuple_item st (show s.heap.IsTuple a its.toArray from p) (x:=u) (by simpa using hu) λh' st' sb=>?_
  have I1:Inv X pins σ H { s with heap:=h' }:=I.turned (t':=s.toks) (λb o hb e=>(sb.2 b hb).trans e) f0 f1 f3 f4 f5;obtain ⟨o,e,c,d⟩:=id st';exact ⟨u,rfl,zm9 (s:={ s with heap:=h' }) e c d (by decide) ⟨x,H,I1,ru,⟨rfl,λys hy=>by rw[I.tuple_inj hy hq];exact hx⟩,st',λb hb=>(hf b hb).1⟩⟩
 done:=by
  intro X hP hw hK hc i pins s σ H E I hf st hg;subst hP hw hK;obtain ⟨xs,hq,hx⟩:=hg;obtain ⟨its,rv,p,hz⟩:=I.tuple hq;obtain ⟨f0,f1,f2,f3,f4,f5⟩:=hf it (by simp)
  have hl:=rv.length;exact wpAny_pyNext_tuple_end (I.ok.hd hc) st (show s.heap.IsTuple a its.toArray from p) (by simp;omega) λh' eb=>⟨rfl,I.turned (t':=s.toks) (λb o hb e=>eb b o hb e) f0 f1 f3 f4 f5⟩
 self:=λ_ _ _ _ _ st h=>wpAny_pyIter_tupleiter st h
theorem zjV{P:Program}{w:World}{K:Frag}{tg:Expr}(it:Addr)(lo:Int)(n:Nat):Turn P w K tg (Itr lo n) [it] it (λi h=>IsRangeIter h it (lo+(i:Nat)*1) ((n:Int)-(i:Nat)) 1) where
 mem:=by simp
 obj:=λi h st b hb=>by
  have e:b=it:=by simpa using hb
  subst e
  exact ⟨_,st,λv z=>by
   have z':Data.fields _=Data.cell v:=z;cases z'⟩
 keep:=λi h h' st k=>k it (by simp) _ st
 item:=by
  intro X hP hw hK hc i pins s σ H E I hf st hg;subst hP hw hK;obtain ⟨f0,f1,f2,f3,f4,f5⟩:=hf it (by simp)
  have W:=Walks.range (prog:=X.prog) (w:=X.w) (I.ok.hd hc) it lo 1 n;refine W.item i s _ _ hg st λv h' tk hv st' kk=>?_;obtain ⟨t,rfl⟩:=hv;have I1:Inv X pins σ H { s with heap:=h',toks:=tk }:=I.turned (λb o hb e=>kk b o (by simpa using hb) e) f0 f1 f3 f4 f5
  refine ⟨_,rfl,zm9 (s:={ s with heap:=h',toks:=tk }) (n := "range_iterator") st' rfl rfl (by decide) ⟨.int (lo+i),H,I1,⟨t,?_⟩,⟨rfl,rfl⟩,st',λb hb=>(hf b hb).1⟩⟩
  rw[Int.mul_one]
 done:=by
  intro X hP hw hK hc i pins s σ H E I hf st hg;subst hP hw hK;obtain ⟨f0,f1,f2,f3,f4,f5⟩:=hf it (by simp)
  exact wpAny_pyNext_range_end (I.ok.hd hc) st (by have:n<=i:=hg;omega) λh' eb=>⟨rfl,I.turned (t':=s.toks) (λb o hb e=>eb b o hb e) f0 f1 f3 f4 f5⟩
 self:=λ_ _ _ _ _ st h=>wpAny_pyIter_rangeiter st h
section
variable{X:Cx}{tg:Expr}
theorem zi9{pins:List (Addr×Obj)}{σ:St}{H:Hp}{s:Shared}{R:It->Hp->Prop}{E:Value->Shared->Prop}{lo hi:Int}{t u v:Tok}{tk:Nat}(I:Inv X pins σ H s)(h1 : -(2 ^ 62)<=lo)(h2:lo<2 ^ 62)(h3 : -(2 ^ 62)<=hi)(h4:hi<2 ^ 62)
  (q:R (Itr lo (hi-lo).toNat) H):wpAny (model X.prog X.w) X.A (pyIter (.ref s.heap.objs.size)) (PIE X pins σ tg R) E { s with heap:=s.heap.push { cls:=.type "range", data:=.fields #[.int lo t,.int hi u,.int 1 v] },toks:=tk }:=by
 refine wpAny_pyIter_range (IsRange.new ..) (small_one h1 h2 h3 h4) ?_
 have I1:Inv X pins σ H { s with heap:=s.heap.push { cls:=.type "range", data:=.fields #[.int lo t,.int hi u,.int 1 v] },toks:=tk }:=I.kept λb o e=>Qk _ e
 refine ⟨(s.heap.push { cls:=.type "range", data:=.fields #[.int lo t,.int hi u,.int 1 v] }).objs.size,[(s.heap.push { cls:=.type "range", data:=.fields #[.int lo t,.int hi u,.int 1 v] }).objs.size],_,_,H,rfl,
  I1.kept (t':=tk) λb o e=>Qk _ e,zjV _ lo (hi-lo).toNat,?_,λb hb=>?_,q⟩
 ·have e1:lo+((0:Nat):Int)*1=lo:=by simp
  have e2:(((hi-lo).toNat:Nat):Int)-((0:Nat):Int)=Builtin.Range.rangeSize lo hi 1:=by rw[rangeSize_one];split <;> omega
  show IsRangeIter _ _ (lo+((0:Nat):Int)*1) ((((hi-lo).toNat:Nat):Int)-((0:Nat):Int)) 1;rw[e1,e2];exact QE _ rfl
 ·have e:b=(s.heap.push { cls:=.type "range", data:=.fields #[.int lo t,.int hi u,.int 1 v] }).objs.size:=by simpa using hb
  subst e;exact I1.fpOk (Qx _) (I1.hok.fresh (Qx _))
def zrl(ta:TA):TI:=λσ H R=>ta σ H λvs H1=>∃j:Int,vs=[.int j] /\ -(2 ^ 62)<=j/\j<2 ^ 62/\R (Itr 0 j.toNat) H1
def zrm(ta:TA):TI:=λσ H R=>ta σ H λvs H1=>∃i j:Int,vs=[.int i,.int j]/\(-(2 ^ 62)<=i/\i<2 ^ 62 /\ -(2 ^ 62)<=j/\j<2 ^ 62)/\R (Itr i (j-i).toNat) H1
theorem zkJ{a:Expr}{ta:TA}{p pos:Pos}(hg:Gl X "range")(hm:X.mg "range" = none)(ha:PA X [a] ta)(hs:starEach [a] X.env=[(false,eval a X.env)]:=by rfl):PI X tg (.Call (.Name "range" p) [a] [] pos) (zrl ta):=by
 intro pins s σ H R I h;refine Call_ (ze0 I hg hm boot_range (JH (thn (ha pos pins s σ H _ I h) λus s1 ⟨vs,H1,I1,r1,q1⟩=>?_) hs rfl));obtain ⟨j,e,q1,q2,q⟩:=q1;subst e
 cases r1 with
 |cons r rr=>
  cases rr;obtain ⟨t,rfl⟩:=r
  exact call_range_1 (zi9 I1 (by omega) (by omega) q1 q2 (by simpa using q))
theorem zkK{a b:Expr}{ta:TA}{p pos:Pos}(hg:Gl X "range")(hm:X.mg "range" = none)(ha:PA X [a,b] ta)(hs:starEach [a,b] X.env=[(false,eval a X.env),(false,eval b X.env)]:=by rfl)(hs2:starEach [b] X.env=[(false,eval b X.env)]:=by rfl) :
  PI X tg (.Call (.Name "range" p) [a,b] [] pos) (zrm ta):=by
 intro pins s σ H R I h;refine Call_ (ze0 I hg hm boot_range (JH (thn (ha pos pins s σ H _ I h) λus s1 ⟨vs,H1,I1,r1,q1⟩=>?_) (by rw[hs,hs2]) (by rw[hs2];rfl)))
 obtain ⟨i,j,e,⟨q1,q2,q3,q4⟩,q⟩:=q1;subst e
 cases r1 with
 |cons r rr=>
  cases rr with
  |cons r' rr=>
   cases rr;obtain ⟨t,rfl⟩:=r
   obtain ⟨t',rfl⟩:=r';exact call_range_2 (zi9 I1 q1 q2 q3 q4 q)
def tFor(wi:TI)(g:TG)(tb:TS):TS:=λD σ H=>wi σ H λJ H1=>∃W:Nat->Nat->St->Hp->Prop,(∃m,W 0 m σ H1)/\∀i m σ H,W i m σ H ->
 (J.stop i H/\D.nx σ H)∨(J.go i H/\∃N:St->Hp->Prop,(∀σ' H',N σ' H'->∃m',m'<m/\W (i+1) m' σ' H')/\∀x H',J.yld i H x H'->g x σ H' λσ2 H2=>tb { D with nx:=N,ct:=N,bk:=D.nx } σ2 H2)
def zgW(fp:List Addr)(h:Heap):List (Addr×Obj):=fp.filterMap λb=>(h.get? b).map λo=>(b,o)
theorem zdp{fp:List Addr}{h:Heap}{b:Addr}{o:Obj}(hb:b∈fp)(e:h.get? b=some o):(b,o)∈zgW fp h:=Jo.mpr ⟨b,hb,by rw[e];rfl⟩
theorem zkL{fp:List Addr}{h:Heap}{p:Addr×Obj}(hp:p∈zgW fp h):p.1∈fp/\h.get? p.1=some p.2:=by
 obtain ⟨b,hb,e⟩:=Jo.mp hp
 cases q:h.get? b with
 |none=>rw[q] at e;cases e
 |some o=>
  rw[q] at e;have e':(b,o)=p:=QY e;subst e';exact ⟨hb,q⟩
theorem Inv.pinned{pins:List (Addr×Obj)}{σ:St}{H:Hp}{s:Shared}{fp:List Addr}(I:Inv X pins σ H s)(hf:∀b∈fp,FpOk X pins H b)(ho:∀b∈fp,∃o,s.heap.get? b=some o/\∀v,o.data≠.cell v):Inv X (pins++zgW fp s.heap) σ H s :=
 I.pins_of λp hp=>(QX.mp hp).elim (λz=>I.pin p (QI _ z)) λz=>by
  obtain ⟨hb,e⟩:=zkL z;obtain ⟨f0,f1,f2,_⟩:=hf p.1 hb;obtain ⟨o,e',d⟩:=ho p.1 hb;rw[e] at e';cases e';exact ⟨e,f0,f1,f2,d⟩
theorem Inv.unpinned{pins pl:List (Addr×Obj)}{σ:St}{H:Hp}{s:Shared}(I:Inv X (pins++pl) σ H s):Inv X pins σ H s:=I.pins_of λp hp=>I.pin p (QI _ (Jc _ hp))
theorem zp9{iter:Expr}{body:List Stmt}{wi:TI}{g:TG}{tb:TS}{pos:Pos}(hp:PassesOwn (model X.prog X.w) X.A X.env X.xe)(hc:X.calm=true)(hi:PI X tg iter wi)(hg:PG X tg g)(hb:PSs X body tb)
  (hs:∀x,foldedSetIterable iter X.env x=pure x:=by intro _;rfl):PS X (.For tg iter body [] pos) (tFor wi g tb):=by
 intro pins s σ H D I h;refine wpAny_For (thn (hi pins s σ H _ I h) λv s1 h1=>thn h1 λitv s2 h2=>?_) hs;obtain ⟨it,fp,tn,J,H2,e,I2,T,st2,f2,W,⟨m0,w0⟩,turn⟩:=h2;subst e;have stat:∀{H':Hp},(∀b∈fp,H' b=none)->∀b∈fp,FpOk X pins H' b:=λhn b hb=>⟨hn b hb,(f2 b hb).2⟩;refine codeAny_forLoop_any (λn s'=>∃i σ' H',Inv X pins σ' H' s'/\tn i s'.heap/\(∀b∈fp,H' b=none)/\W i n σ' H') ?_ m0 ⟨0,σ,H2,I2,st2,λb hb=>(f2 b hb).1,w0⟩;rintro n s3 ⟨i,σ3,H3,I3,st3,fr3,w3⟩;rcases turn i n σ3 H3 w3 with ⟨stop,qn⟩|⟨go,N,hN,step⟩
 ·refine Ju hp (thn (T.done X rfl rfl rfl hc i pins s3 σ3 H3 X.xe I3 (stat fr3) st3 stop) λr s4 ⟨hr,I4⟩=>?_)
  subst hr;exact wpAny_execs_nil ⟨σ3,H3,I4,qn⟩
 ·refine Ju hp (thn (T.item X rfl rfl rfl hc i pins s3 σ3 H3 X.xe I3 (stat fr3) st3 go) λr s4 ⟨u,hr,h4⟩=>?_)
  subst hr;refine Ju hp (thn h4 λ_ s5 ⟨x,H5,I5,r5,y5,st5,fr5⟩=>?_);have I5':=I5.pinned (stat fr5) (T.obj _ _ st5);refine Ju hp (thn (hg _ s5 σ3 H5 x u _ I5' r5 (step x H5 y5)) λ_ s6 ⟨σ6,H6,I6,q6⟩=>?_);refine Ju hp (thn (hb _ s6 σ6 H6 _ I6 q6) λf s7 q7=>?_)
  have again:∀{σ7:St}{H7:Hp},Inv X (pins++zgW fp s5.heap) σ7 H7 s7->N σ7 H7->∃m,m<n/\∃i σ' H',Inv X pins σ' H' s7/\tn i s7.heap/\(∀b∈fp,H' b=none)/\W i m σ' H':=λ{σ7 H7} I7 n7=>by
   obtain ⟨m',hm,w7⟩:=hN σ7 H7 n7;refine ⟨m',hm,i+1,σ7,H7,I7.unpinned,T.keep _ _ _ st5 λb hb o e=>(I7.pin (b,o) (QI _ (QI _ (zdp hb e)))).1,λb hb=>?_,w7⟩;obtain ⟨o,e,d⟩:=T.obj _ _ st5 b hb;exact (I7.pin (b,o) (QI _ (QI _ (zdp hb e)))).2.1
  cases f with
  |next=>obtain ⟨σ7,H7,I7,n7⟩:=q7;exact again I7 n7
  |cont=>obtain ⟨σ7,H7,I7,n7⟩:=q7;exact again I7 n7
  |brk=>obtain ⟨σ7,H7,I7,q7⟩:=q7;exact ⟨σ7,H7,I7.unpinned,q7⟩
  |ret v=>obtain ⟨x7,σ7,H7,I7,r7,q7⟩:=q7;exact ⟨x7,σ7,H7,I7.unpinned,r7,q7⟩
end
abbrev R2:=V->V->Hp->VK->Prop
def OpR(X:Cx)(f:Value->Value->Sem Value)(r:R2):Prop :=
 ∀(pins:List (Addr×Obj))(s:Shared)(σ:St)(H:Hp)(x y:V)(v u:Value)(Q:VK),Inv X pins σ H s->RelV x v->RelV y u->r x y H Q ->
  wpAny (model X.prog X.w) X.A (f v u) (EP X pins σ Q) X.xe s
def UnR(X:Cx)(f:Value->Sem Value)(r:V->Hp->VK->Prop):Prop :=
 ∀(pins:List (Addr×Obj))(s:Shared)(σ:St)(H:Hp)(x:V)(v:Value)(Q:VK),Inv X pins σ H s->RelV x v->r x H Q ->
  wpAny (model X.prog X.w) X.A (f v) (EP X pins σ Q) X.xe s
def zdb(X:Cx)(f:Value)(r:List V->Hp->VK->Prop):Prop :=
 ∀(pins:List (Addr×Obj))(s:Shared)(σ:St)(H:Hp)(xs:List V)(us:List Value)(Q:VK),Inv X pins σ H s->Vals xs us->r xs H Q ->
  wpAny (model X.prog X.w) X.A (call f us) (EP X pins σ Q) X.xe s
def TruR(X:Cx)(r:V->Hp->(Bool->Hp->Prop)->Prop):Prop :=
 ∀(pins:List (Addr×Obj))(s:Shared)(σ:St)(H:Hp)(x:V)(v:Value)(Q:Bool->Hp->Prop),Inv X pins σ H s->RelV x v->r x H Q ->
  wpAny (model X.prog X.w) X.A (truthy v) (TP X pins σ Q) X.xe s
def tOp(r:R2)(ta tb:TE):TE:=λσ H Q=>ta σ H λx H1=>tb σ H1 λy H2=>r x y H2 Q
def tUn(r:V->Hp->VK->Prop)(ta:TE):TE:=λσ H Q=>ta σ H λx H1=>r x H1 Q
def rI(C:Int->Int->Prop)(g:Int->Int->V):R2:=λx y H Q=>∃i j,x=.int i/\y=.int j/\C i j/\Q (g i j) H
def rI0(g:Int->Int->V):R2:=λx y H Q=>∃i j,x=.int i/\y=.int j/\Q (g i j) H
def rU(g:Int->V):V->Hp->VK->Prop:=λx H Q=>∃i,x=.int i/\Q (g i) H
section
variable{X:Cx}{a b c:Expr}{ta tb tc:TE}{pos:Pos}
theorem binT(ha:PE X a ta)(hb:PE X b tb){pins:List (Addr×Obj)}{s:Shared}{σ:St}{H:Hp}{R:V->V->Hp->Prop}(I:Inv X pins σ H s)
  (h:ta σ H λx H1=>tb σ H1 λy H2=>R x y H2) {Q:Value->Shared->Prop} {f:Value->Value->Sem Value}
  (hf:∀v u s2 x y H2,Inv X pins σ H2 s2->RelV x v->RelV y u->R x y H2->wpAny (model X.prog X.w) X.A (f v u) Q X.xe s2) :
  wpAny (model X.prog X.w) X.A (eval a X.env) (λv s₁=>wpAny (model X.prog X.w) X.A (eval b X.env) (λu s₂=>wpAny (model X.prog X.w) X.A (f v u) Q X.xe s₂) X.xe s₁) X.xe s:=by
 refine thn (ha pins s σ H _ I h) λv s1 ⟨x,H1,I1,r1,q1⟩=>?_;refine thn (hb pins s1 σ H1 _ I1 q1) λu s2 ⟨y,H2,I2,r2,q2⟩=>?_;exact hf v u s2 x y H2 I2 r1 r2 q2
theorem zqa{op:Operator}{r:R2}(ho:OpR X (binaryOp op) r)(ha:PE X a ta)(hb:PE X b tb):PE X (.BinOp a op b pos) (tOp r ta tb):=by
 intro pins s σ H Q I h;exact wpAny_BinOp (binT ha hb I h λv u s2 x y H2 I2 rx ry q=>ho pins s2 σ H2 x y v u Q I2 rx ry q)
theorem zrn{op:UnaryOp}{r:V->Hp->VK->Prop}(ho:UnR X (unaryOp op) r)(ha:PE X a ta):PE X (.UnaryOp op a pos) (tUn r ta):=by
 intro pins s σ H Q I h;exact UnaryOp_ (thn (ha pins s σ H _ I h) λv s1 ⟨x,H1,I1,r1,q1⟩=>ho pins s1 σ H1 x v Q I1 r1 q1)
theorem opI{f:Value->Value->Sem Value}{C:Int->Int->Prop}{g:Int->Int->Int}
  (rule:∀(i j:Int)(t u:Tok)(s:Shared)(Q:Value->Shared->Prop)(E:Value->Shared->Prop),C i j->Q (.int (g i j) s.toks) { s with toks:=s.toks+1 }->wpAny (model X.prog X.w) X.A (f (.int i t) (.int j u)) Q E s) :
  OpR X f (rI C λi j=>.int (g i j)):=by
 intro pins s σ H x y v u Q I rx ry h;obtain ⟨i,j,rfl,rfl,hc,q⟩:=h;obtain ⟨t,rfl⟩:=rx;obtain ⟨t',rfl⟩:=ry;exact rule i j t t' s _ _ hc ⟨.int (g i j),H,I.tok _,⟨_,rfl⟩,q⟩
theorem opI0{f:Value->Value->Sem Value}{g:Int->Int->Int}
  (rule:∀(i j:Int)(t u:Tok)(s:Shared)(Q:Value->Shared->Prop)(E:Value->Shared->Prop),Q (.int (g i j) s.toks) { s with toks:=s.toks+1 }->wpAny (model X.prog X.w) X.A (f (.int i t) (.int j u)) Q E s) :
  OpR X f (rI0 λi j=>.int (g i j)):=by
 intro pins s σ H x y v u Q I rx ry h;obtain ⟨i,j,rfl,rfl,q⟩:=h;obtain ⟨t,rfl⟩:=rx;obtain ⟨t',rfl⟩:=ry;exact rule i j t t' s _ _ ⟨.int (g i j),H,I.tok _,⟨_,rfl⟩,q⟩
theorem opB0{f:Value->Value->Sem Value}{g:Int->Int->Bool}
  (rule:∀(i j:Int)(t u:Tok)(s:Shared)(Q:Value->Shared->Prop)(E:Value->Shared->Prop),Q (.bool (g i j)) s->wpAny (model X.prog X.w) X.A (f (.int i t) (.int j u)) Q E s) :
  OpR X f (rI0 λi j=>.bl (g i j)):=by
 intro pins s σ H x y v u Q I rx ry h;obtain ⟨i,j,rfl,rfl,q⟩:=h;obtain ⟨t,rfl⟩:=rx;obtain ⟨t',rfl⟩:=ry;exact rule i j t t' s _ _ ⟨.bl (g i j),H,I,rfl,q⟩
def CPow(i j:Int):Prop:=0<=j/\j<=1000000/\i.natAbs<2 ^ 64
def CMul(i j:Int):Prop:=(-(2 ^ 64)<i/\i<2 ^ 64)∨(-(2 ^ 64)<j/\j<2 ^ 64)
theorem CMul.ok{i j:Int}(h:CMul i j):IntMulOk i j:=by
 rcases h with ⟨h1,h2⟩|⟨h1,h2⟩
 ·exact .of_left (intBits_le_64 h1 h2)
 ·exact .of_right (intBits_le_64 h1 h2)
theorem zqb:OpR X (binaryOp .Add) (rI0 λi j=>.int (i+j)):=opI0 λ_ _ _ _ _ _ _ q=>add_int q
theorem zqc:OpR X (binaryOp .Sub) (rI0 λi j=>.int (i-j)):=opI0 λ_ _ _ _ _ _ _ q=>sub_int q
theorem zqd:OpR X (binaryOp .Mult) (rI CMul λi j=>.int (i*j)):=opI λ_ _ _ _ _ _ _ hc q=>mul_int q hc.ok
theorem zqe:OpR X (binaryOp .Mod) (rI (λ_ j=>0<j) λi j=>.int (i % j)):=opI λi j _ _ _ _ _ hc q=>by
 have h1:(0:Int)<j:=hc;exact mod_int' (by omega) (by rw[Int.fmod_eq_emod_of_nonneg i (by omega)];exact q)
theorem zqf:OpR X (binaryOp .Pow) (rI CPow λi j=>.int (i ^ j.toNat)):=opI λ_ _ _ _ _ _ _ hc q=>pow_int_small hc.1 hc.2.1 hc.2.2 q
theorem zoQ:OpR X (inplaceOp .Mult) (rI CMul λi j=>.int (i*j)):=opI λ_ _ _ _ _ _ _ hc q=>imul_int q hc.ok
theorem unI{f:Value->Sem Value}{g:Int->Int}
  (rule:∀(i:Int)(t:Tok)(s:Shared)(Q:Value->Shared->Prop)(E:Value->Shared->Prop),Q (.int (g i) s.toks) { s with toks:=s.toks+1 }->wpAny (model X.prog X.w) X.A (f (.int i t)) Q E s) :
  UnR X f (rU λi=>.int (g i)):=by
 intro pins s σ H x v Q I rx h;obtain ⟨i,rfl,q⟩:=h;obtain ⟨t,rfl⟩:=rx;exact rule i t s _ _ ⟨.int (g i),H,I.tok _,⟨_,rfl⟩,q⟩
theorem zqg:UnR X (unaryOp .USub) (rU λi=>.int (-i)):=unI λ_ _ _ _ _ q=>neg_int q
end
section
variable{X:Cx}{a b c:Expr}{ta tb tc:TE}{pos:Pos}
theorem zol{pins:List (Addr×Obj)}{σ:St}{H:Hp}{s:Shared}{Q:VK}{k k':Bool}(I:Inv X pins σ H s)(q:Q (.bl k) H)(e:k=k'):EP X pins σ Q (.bool k') s:=by
 subst e;exact ⟨.bl k,H,I,rfl,q⟩
theorem zro:OpR X (compareOp .Lt) (rI0 λi j=>.bl (decide (i<j))):=opB0 λ_ _ _ _ _ _ _ q=>lt_int q
theorem zrp:OpR X (compareOp .LtE) (rI0 λi j=>.bl (decide (i<=j))):=opB0 λ_ _ _ _ _ _ _ q=>le_int q
theorem zrq:OpR X (compareOp .Gt) (rI0 λi j=>.bl (decide (j<i))):=opB0 λ_ _ _ _ _ _ _ q=>gt_int q
theorem zrr:OpR X (compareOp .GtE) (rI0 λi j=>.bl (decide (j<=i))):=opB0 λ_ _ _ _ _ _ _ q=>ge_int q
theorem zkM:OpR X (compareOp .In) (λx y H Q=>∃i j,x=.str i/\y=.str j/\Q (.bl (!(Builtin.Str.occurrences j i 0 j.length 1).isEmpty)) H):=by
 intro pins s σ H x y v u Q I rx ry h;obtain ⟨i,j,rfl,rfl,q⟩:=h;obtain ⟨t,rfl⟩:=rx;obtain ⟨t',rfl⟩:=ry;exact in_str (zol I q rfl)
theorem zgX:OpR X (compareOp .NotIn) (λx y H Q=>∃i j,x=.str i/\y=.str j/\Q (.bl (!(!(Builtin.Str.occurrences j i 0 j.length 1).isEmpty))) H):=by
 intro pins s σ H x y v u Q I rx ry h;obtain ⟨i,j,rfl,rfl,q⟩:=h;obtain ⟨t,rfl⟩:=rx;obtain ⟨t',rfl⟩:=ry;exact notIn_str (zol I q rfl)
theorem OpR.or{f:Value->Value->Sem Value}{r r':R2}(h:OpR X f r)(h':OpR X f r'):OpR X f (λx y H Q=>r x y H Q∨r' x y H Q):=by
 intro pins s σ H x y v u Q I rx ry q;rcases q with q|q
 ·exact h pins s σ H x y v u Q I rx ry q
 ·exact h' pins s σ H x y v u Q I rx ry q
theorem za7(b:Expr){op:CmpOp}(h:op≠.In:=by decide)(h2:op≠.NotIn:=by decide):behindInMarks op b=false:=by
 have e1:(op==CmpOp.In)=false:=by cases op <;> first|rfl|exact absurd rfl h
 have e2:(op==CmpOp.NotIn)=false:=by cases op <;> first|rfl|exact absurd rfl h2
 cases b <;> simp[behindInMarks,e1,e2]
theorem zkN{op:CmpOp}{r:R2}(ho:OpR X (compareOp op) r)(ha:PE X a ta)(hb:PE X b tb)(hm:behindInMarks op b=false):PE X (.Compare a [op] [b] pos) (tOp r ta tb):=by
 intro pins s σ H Q I h;exact wpAny_Compare1 (binT ha hb I h λv u s2 x y H2 I2 rx ry q=>ho pins s2 σ H2 x y v u Q I2 rx ry q) hm
def zqh(t:TE):TT:=λσ H Q=>t σ H λx H'=>∃k,x=.bl k/\Q k H'
theorem zia{op:CmpOp}{r:R2}(ho:OpR X (compareOp op) r)(ha:PE X a ta)(hb:PE X b tb)(hm:behindInMarks op b=false):PT X (.Compare a [op] [b] pos) (zqh (tOp r ta tb)):=by
 intro pins s σ H Q I h
 refine wpAny_isTrue_Compare1 (thn (ha pins s σ H _ I h) λv s1 ⟨x,H1,I1,r1,q1⟩=>thn (hb pins s1 σ H1 _ I1 q1) λu s2 ⟨y,H2,I2,r2,q2⟩=>
  thn (ho pins s2 σ H2 x y v u _ I2 r1 r2 q2) λc s3 ⟨z,H3,I3,r3,k,e,q3⟩=>?_) hm
 subst e;cases r3;exact Q2 ⟨H3,I3,q3⟩
def zom(r r':R2)(ta tb tc:TE):TE:=λσ H Q=>ta σ H λx H1=>tb σ H1 λy H2=>r x y H2 λz H3=>∃k,z=.bl k /\
 (if k=true then tc σ H3 λw' H4=>r' y w' H4 Q else Q (.bl false) H3)
theorem zna{op op':CmpOp}{r r':R2}(ho:OpR X (compareOp op) r)(ho':OpR X (compareOp op') r')(ha:PE X a ta)(hb:PE X b tb)(hc:PE X c tc)
  (hm:lastMarks [op,op'] [b,c]=false:=by with_unfolding_all rfl):PE X (.Compare a [op,op'] [b,c] pos) (zom r r' ta tb tc):=by
 intro pins s σ H Q I h
 refine Compare_chain (thn (ha pins s σ H _ I h) λv s1 ⟨x,H1,I1,r1,q1⟩=>chain_link (thn (hb pins s1 σ H1 _ I1 q1) λu s2 ⟨y,H2,I2,r2,q2⟩=>
  thn (ho pins s2 σ H2 x y v u _ I2 r1 r2 q2) λd s3 ⟨z,H3,I3,r3,k,e,q3⟩=>?_)) hm
 subst e;cases r3;refine Q2 ?_
 cases k with
 |false=>exact ite_ff ⟨.bl false,H3,I3,rfl,q3⟩
 |true=>exact ite_tt (chain_last (thn (hc pins s3 σ H3 _ I3 q3) λw' s4 ⟨z',H4,I4,r4,q4⟩=>ho' pins s4 σ H4 y z' u w' Q I4 r2 r4 q4))
theorem znb{op op':CmpOp}{r r':R2}(ho:OpR X (compareOp op) r)(ho':OpR X (compareOp op') r')(ha:PE X a ta)(hb:PE X b tb)(hc:PE X c tc)
  (hm:lastMarks [op,op'] [b,c]=false:=by with_unfolding_all rfl):PT X (.Compare a [op,op'] [b,c] pos) (zqh (zom r r' ta tb tc)):=by
 intro pins s σ H Q I h
 refine isTrue_chain (thn (ha pins s σ H _ I h) λv s1 ⟨x,H1,I1,r1,q1⟩=>test_link (thn (hb pins s1 σ H1 _ I1 q1) λu s2 ⟨y,H2,I2,r2,q2⟩=>
  thn (ho pins s2 σ H2 x y v u _ I2 r1 r2 q2) λd s3 ⟨z,H3,I3,r3,k,e,q3⟩=>?_)) hm
 subst e;cases r3;refine Q2 ?_
 cases k with
 |false=>
  obtain ⟨k',e',q'⟩:=q3;cases e';exact ite_ff ⟨H3,I3,q'⟩
 |true=>
  refine ite_tt (test_last (thn (hc pins s3 σ H3 _ I3 q3) λw' s4 ⟨z',H4,I4,r4,q4⟩=>thn (ho' pins s4 σ H4 y z' u w' _ I4 r2 r4 q4) λd' s5 ⟨z2,H5,I5,r5,k2,e2,q5⟩=>?_));subst e2;cases r5;exact Q2 ⟨H5,I5,q5⟩
def TruV(K:Frag)(x:V)(H:Hp)(k:Bool):Prop :=
 match x with
 |.non=>k=false
 |.bl b=>k=b
 |.int i=>k=(i != 0)
 |.str y=>y.length<=sizeLine/\k=((y.length:Int) != 0)
 |.byt y=>y.size<=sizeLine/\k=((y.size:Int) != 0)
 |.ref p=>(∃xs,SqL K H p xs/\k = !xs.isEmpty)∨(∃xs,SqT K H p xs/\k = !xs.isEmpty) ∨ ∃kvs,H p=some (.dK kvs)/\k = !kvs.isEmpty
 |_=>False
theorem zjW{κ:Type}{kvs:List (κ×V)}{vs:List (κ×Value)}(r:KV kvs vs):(!vs.isEmpty) = !kvs.isEmpty:=by
 cases r <;> rfl
theorem zfM{xs:List V}{its:List Value}(r:Vals xs its):(!its.toArray.isEmpty) = !xs.isEmpty:=by
 cases r <;> simp
theorem ze1:(sizeLine:Nat)<2 ^ 63:=by rw[sizeLine_eq];decide
theorem zqi:TruR X (λx H Q=>∃k,TruV X.K x H k/\Q k H):=by
 intro pins s σ H x v Q I rx h;obtain ⟨k,e,q⟩:=h;have hl:=ze1;have hs:sizeLine=16777216:=sizeLine_eq
 cases x with
 |non=>
  cases rx;have e':k=false:=e
  subst e';exact truthy_none ⟨H,I,q⟩
 |bl b=>
  cases rx;have e':k=b:=e
  subst e';exact Q2 ⟨H,I,q⟩
 |int i=>
  obtain ⟨t,rfl⟩:=rx;have e':k=(i != 0):=e;subst e';exact PySem.P.truthy_int ⟨H,I,q⟩
 |str y=>
  obtain ⟨t,rfl⟩:=rx;obtain ⟨hy,e'⟩:y.length<=sizeLine/\k=((y.length:Int) != 0):=e;subst e';exact PySem.P.truthy_str (by omega) ⟨H,I.tok _,q⟩
 |byt y=>
  obtain ⟨t,rfl⟩:=rx;obtain ⟨hy,e'⟩:y.size<=sizeLine/\k=((y.size:Int) != 0):=e;subst e';exact PySem.W.truthy_bytes (by omega) ⟨H,I.tok _,q⟩
 |ref p=>
  cases rx;have e':(∃xs,SqL X.K H p xs/\k = !xs.isEmpty)∨(∃xs,SqT X.K H p xs/\k = !xs.isEmpty) ∨ ∃kvs,H p=some (.dK kvs)/\k = !kvs.isEmpty:=e
  rcases e' with ⟨xs,hx,e'⟩|⟨xs,hx,e'⟩|⟨kvs,hx,e'⟩
  ·subst e'
   obtain ⟨its,r,pl,hz⟩:=I.list hx;have hlen:=r.length;exact wpAny_truthy_list pl.isList (by simp only[QH];omega) ⟨H,I.tok _,by rw[zfM r];exact q⟩
  ·subst e'
   obtain ⟨its,r,pl,hz⟩:=I.tuple hx;have hlen:=r.length;exact truthy_tuple pl (by simp only[QH];omega) ⟨H,I.tok _,by rw[zfM r];exact q⟩
  ·subst e'
   obtain ⟨hz,hS,vs,r,m⟩:kvs.length<=sizeLine/\(p==sysModules)=false/\∃vs,KV kvs vs/\s.heap.DictOf (zh9 X.prog X.w) p vs:=I.hok p _ hx;have hlen:kvs.length=vs.length:=Paired.length r;exact wpAny_truthy_dict hS m (by omega) ⟨H,I.tok _,by rw[zjW r];exact q⟩
 |_=>exact (show False from e).elim
theorem znc(ha:PE X a ta)(he:∀whole,isTrue a X.env whole=(do let v ←whole;standAt a.pos;holding [v] (truthy v))) :
  PT X a (λσ H Q=>ta σ H λx H'=>∃k,TruV X.K x H' k/\Q k H'):=by
 intro pins s σ H Q I h;exact isTrue_plain (thn (ha pins s σ H _ I h) λv s1 ⟨x,H1,I1,r1,q1⟩=>zqi pins s1 σ H1 x v Q I1 r1 q1) (he _)
theorem zjX:OpR X (binaryOp .Add) (λx y H Q=>∃i j,x=.str i/\y=.str j/\i.length+j.length<=sizeLine/\Q (.str (i++j)) H):=by
 intro pins s σ H x y v u Q I rx ry h;obtain ⟨i,j,rfl,rfl,hz,q⟩:=h;obtain ⟨t,rfl⟩:=rx;obtain ⟨t',rfl⟩:=ry;exact add_str (λt' tk=>⟨.str (i++j),H,I.tok _,⟨_,rfl⟩,q⟩) hz
theorem znd{x:V}{us:List Value}(r:Vals [x] us):∃u,us=[u]/\RelV x u:=by
 cases r with
 |cons r1 r2=>cases r2;exact ⟨_,rfl,r1⟩
theorem zoR{x y:V}{us:List Value}(r:Vals [x,y] us):∃u w',us=[u,w']/\RelV x u/\RelV y w':=by
 cases r with
 |cons r1 r2=>
  cases r2 with
  |cons r3 r4=>cases r4;exact ⟨_,_,rfl,r1,r3⟩
theorem zkO(hc:X.calm=true):zdb X (.builtin "max") (λxs H Q=>∃i j,xs=[.int i,.int j]/\Q (.int (if j > i then j else i)) H):=by
 intro pins s σ H xs us Q I r h;obtain ⟨i,j,rfl,q⟩:=h;obtain ⟨u,w',rfl,⟨t,rfl⟩,⟨t',rfl⟩⟩:=zoR r;refine max_two_ints (I.ok.hd hc) λh' tk k=>⟨_,H,I.kept k,?_,q⟩
 by_cases hj:j > i
 ·rw[Qm hj,Qm hj];exact ⟨_,rfl⟩
 ·rw[Qy hj,Qy hj];exact ⟨_,rfl⟩
theorem zkP:zdb X (.type "int") (λxs H Q=>(∃i,xs=[.int i]/\Q (.int i) H) ∨ ∃k,xs=[.bl k]/\Q (.int (if k then 1 else 0)) H):=by
 intro pins s σ H xs us Q I r h;rcases h with ⟨i,rfl,q⟩|⟨k,rfl,q⟩
 ·obtain ⟨u,rfl,t,rfl⟩:=znd r
  exact call_int_int ⟨.int i,H,I,⟨_,rfl⟩,q⟩
 ·obtain ⟨u,rfl,r1⟩:=znd r
  cases r1;exact call_int_bool ⟨.int (if k then 1 else 0),H,I.tok _,⟨_,rfl⟩,q⟩
def LenV(K:Frag)(x:V)(H:Hp)(n:Nat):Prop :=
 match x with
 |.str y=>y.length<=sizeLine/\n=y.length
 |.byt y=>y.size<=sizeLine/\n=y.size
 |.ref p=>(∃xs,SqL K H p xs/\n=xs.length) ∨ ∃xs,SqT K H p xs/\n=xs.length
 |_=>False
theorem zja:zdb X (.builtin "len") (λxs H Q=>∃x n,xs=[x]/\LenV X.K x H n/\Q (.int n) H):=by
 intro pins s σ H xs us Q I r h;obtain ⟨x,n,rfl,e,q⟩:=h;obtain ⟨u,rfl,rx⟩:=znd r;have hl:=ze1;have hs:sizeLine=16777216:=sizeLine_eq
 cases x with
 |str y=>
  obtain ⟨t,rfl⟩:=rx;obtain ⟨hy,e'⟩:y.length<=sizeLine/\n=y.length:=e;subst e';exact len_str (by omega) ⟨.int _,H,I.tok _,⟨_,rfl⟩,q⟩
 |byt y=>
  obtain ⟨t,rfl⟩:=rx;obtain ⟨hy,e'⟩:y.size<=sizeLine/\n=y.size:=e;subst e';exact PySem.W.len_bytes (by omega) ⟨.int _,H,I.tok _,⟨_,rfl⟩,q⟩
 |ref p=>
  cases rx;have e':(∃xs,SqL X.K H p xs/\n=xs.length) ∨ ∃xs,SqT X.K H p xs/\n=xs.length:=e
  rcases e' with ⟨xs,hx,e'⟩|⟨xs,hx,e'⟩
  ·subst e'
   obtain ⟨its,r',pl,hz⟩:=I.list hx;have hlen:=r'.length;exact Calls.call_len_list pl.isList (by simp only[QH];omega) ⟨.int xs.length,H,I.tok _,⟨_,by simp only[QH];rw[hlen]⟩,q⟩
  ·subst e'
   obtain ⟨its,r',pl,hz⟩:=I.tuple hx;have hlen:=r'.length;exact len_tuple pl (by simp only[QH];omega) ⟨.int xs.length,H,I.tok _,⟨_,by simp only[QH];rw[hlen]⟩,q⟩
 |_=>exact (show False from e).elim
end
section
variable{prog:Program}{w:World}{A:Around}{E:Value->Shared->Prop}{s:Shared}{K:Frag}{x dx C f:Addr}{mA:Str->Option Value}{name:Str}{v:Value}
end
section
variable{P:Program}{w:World}{H H':Hp}{h h':Heap}{a C dx:Addr}{fs fs':List (Str×V)}
end
section
variable{X:Cx}{pins:List (Addr×Obj)}{σ:St}{H:Hp}{s:Shared}{a C dx:Addr}{fs:List (Str×V)}{f:Str}{v:V}{A:Around}{E:Value->Shared->Prop}
end
section
variable{X:Cx}{o e value:Expr}{f:Str}{pos pos' tpos:Pos}{ta tv:TE}
end
section
variable{X:Cx}{pins:List (Addr×Obj)}{σ:St}{H:Hp}{s:Shared}{A:Around}{E:Value->Shared->Prop}{Q:Value->Shared->Prop}{c:Value}{b:Bool}
end
structure Room(k:Nat)(A:Around):Prop where
 hd:A.handled=none
 dp:A.depth+3*k+5<recursionLimit
 un:A.units+16*k+200<cLine
 gd:A.guards=some []
theorem Room.mono{j k:Nat}{A:Around}(r:Room k A)(h:j<=k):Room j A:=⟨r.hd,by have:=r.dp;omega,by have:=r.un;omega,r.gd⟩
theorem Room.deeper{k:Nat}{A:Around}(r:Room (k+1) A)(env:Env):Room k (A.deeper env) :=
 ⟨r.hd,by have:=r.dp;show A.depth+1+3*k+5<_;omega,by have:=r.un;show A.units+3+16*k+200<_;omega,r.gd⟩
theorem Room.depth{k:Nat}{A:Around}(r:Room k A):A.depth<recursionLimit:=by have:=r.dp;omega
theorem Room.units{k:Nat}{A:Around}(r:Room k A):A.units+64<cLine:=by have:=r.un;omega
def tNil:TA:=λ_ H Q=>Q [] H
def zrs(ta:TE)(tr:TA):TA:=λσ H Q=>ta σ H λx H1=>tr σ H1 λxs H2=>Q (x::xs) H2
section
variable{X:Cx}{e:Expr}{es:List Expr}{te:TE}{t:TA}{pos:Pos}
theorem zfN:PA X [] tNil:=λ_ _ _ _ H Q I h=>Calls.spliced_nil ⟨[],H,I,.nil,h⟩
theorem zdF(ha:PE X e te)(hr:PA X es t)(hs:starEach (e::es) X.env=(false,eval e X.env)::starEach es X.env:=by rfl):PA X (e::es) (zrs te t):=by
 intro pos pins s σ H Q I h;rw[hs];show wpAny _ _ (spliced ((false,eval e X.env)::backTo pos (starEach es X.env))) _ _ s;refine Calls.spliced_cons (thn (ha pins s σ H _ I h) λu s1 ⟨x,H1,I1,r1,q1⟩=>?_);exact thn (hr pos pins s1 σ H1 _ I1 q1) λus s2 ⟨xs,H2,I2,r2,q2⟩=>⟨x::xs,H2,I2,.cons r1 r2,q2⟩
def tTup(t:TA):TE:=λσ H Q=>t σ H λxs H1=>xs.length<=sizeLine/\∀p,H1 p=none->Q (.ref p) (upd H1 p (.tup xs))
def tLst(t:TA):TE:=λσ H Q=>t σ H λxs H1=>xs.length<=sizeLine/\∀p,H1 p=none->Q (.ref p) (upd H1 p (.lst xs))
theorem zqj{x1}(h:PA X es t):PE X (.Tuple es x1 pos) (tTup t):=by
 intro pins s σ H Q I hq;refine wpAny_Tuple_spliced (thn (h pos pins s σ H _ I hq) λus s1 ⟨xs,H1,I1,r,z,q⟩=>⟨by rw[←r.length];exact z,?_⟩)
 have hf:H1 s1.heap.objs.size=none:=I1.hok.fresh (Qx _);refine ⟨.ref s1.heap.objs.size,upd H1 s1.heap.objs.size (.tup xs),I1.laid (t':=s1.toks) (λb u e=>Qk _ e) (Qx _) ?_,rfl,q _ hf⟩;exact ⟨z,us,r,⟨_,QE _ rfl,rfl,_,rfl⟩⟩
theorem zon(h:PA X es t):PE X (.List es pos) (tLst t):=by
 intro pins s σ H Q I hq;refine wpAny_List_spliced (thn (h pos pins s σ H _ I hq) λus s1 ⟨xs,H1,I1,r,z,q⟩=>⟨by rw[←r.length];exact z,?_⟩)
 have hf:H1 s1.heap.objs.size=none:=I1.hok.fresh (Qx _);refine ⟨.ref s1.heap.objs.size,upd H1 s1.heap.objs.size (.lst xs),I1.laid (t':=s1.toks) (λb u e=>Qk _ e) (Qx _) ?_,rfl,q _ hf⟩;exact ⟨z,us,0,r,QE _ rfl⟩
end
abbrev Sp:=List V->Hp->VK->XK->Prop
abbrev CXT:=List Env->Hp->Shared->XK->Value->Shared->Prop
structure Env0(P:Program)(w:World)(K:Frag)(mg:Str->Option Value)(base:Heap)(A:Around)(outer:List Env)(s:Shared)(H:Hp):Prop where
 frames:A.frames=some outer
 mod:Mod K mg base
 bs:∀b o,base.get? b=some o->s.heap.get? b=some o/\H b=none
 bsz:base.objs.size<=s.heap.objs.size
 funs:s.heap.FunFrames base outer
 frf:∀b∈frs outer,H b=none
 hok:HOk P w H s.heap
 bare:AllBare s.gens
def CE(outer:List Env)(P:Program)(w:World)(H:Hp)(s:Shared)(Q:VK)(u:Value)(s':Shared):Prop :=
 ∃v H',s'.os=s.os/\AllBare s'.gens/\Un (frs outer) [] H H' s.heap s'.heap/\HOk P w H' s'.heap/\RelV v u/\Q v H'
def CR(CX:CXT)(outer:List Env)(P:Program)(w:World)(H:Hp)(s:Shared)(Q:VK)(E:XK)(r:Result)(s':Shared):Prop :=
 match r with
 |.ok (.ret u)=>CE outer P w H s Q u s'
 |.ok _=>False
 |.error e=>CX outer H s E e s'
structure FnOk(P:Program)(w:World)(K:Frag)(mg:Str->Option Value)(base:Heap)(CX:CXT)(k:Nat)(f:Addr)(fd:FuncData)(ps:List Str)(sp:Sp):Prop where
 len:∀vs H Q E,sp vs H Q E->vs.length=ps.length
 run:∀(A:Around)(outer:List Env)(s:Shared)(H:Hp)(args:Args)(us:List Value)(vs:List V)(Q:VK)(E:XK),Room k A->Env0 P w K mg base A outer s H->BindsTo s fd args (ps.zip us)->Vals vs us->sp vs H Q E ->
  codeAny (model P w) A (.call (.ref f) args) (CR CX outer P w H s Q E) s
section
variable{X:Cx}{pins:List (Addr×Obj)}{σ:St}{H:Hp}{s s':Shared}
theorem Inv.env0(I:Inv X pins σ H s):Env0 X.prog X.w X.K X.mg X.base X.A X.stack s H :=
 ⟨I.ok.frames,I.ok.mod,I.bs,QO I.ok.bsz I.sz,I.stack,I.stkFree,I.hok,I.bare⟩
theorem Inv.after{Q:VK}{u:Value}(I:Inv X pins σ H s)(h:CE X.stack X.prog X.w H s Q u s'):EP X pins σ Q u s':=by
 obtain ⟨v,H',os,bare,un,hok,r,q⟩:=h;obtain ⟨hh,g,d,t,os'⟩:=s';obtain rfl:os'=s.os:=os;exact ⟨v,H',I.call (h':=hh) (g':=g) (d':=d) (t':=t) (ch:=[]) un hok bare (λb z=>absurd z (by simp)),r,q⟩
end
def zrt(sp:Sp)(dvs:List V)(E:XK)(t:TA):TE:=λσ H Q=>t σ H λvs H1=>sp (vs++dvs) H1 Q E
def zgY(K:Frag)(fd:FuncData)(ps:List Str)(ds:List Value):Prop :=
 ∀(s:Shared)(us:List Value),K.In s.heap->(us++ds).length=ps.length->BindsTo s fd ⟨us,[]⟩ (ps.zip (us++ds))
theorem zgY.all{K:Frag}{fd:FuncData}{ps:List Str}(h:∀us:List Value,us.length=ps.length->bindArgs fd ⟨us,[]⟩=pure (ps.zip us)):zgY K fd ps []:=λs us _ hl=>by
 rw[Ji] at hl ⊢;exact .of_eq (h us hl)
def zkQ(CX:CXT)(X:Cx)(E:XK):Prop:=∀(pins:List (Addr×Obj))(σ:St)(H:Hp)(s:Shared)(e:Value)(s':Shared),Inv X pins σ H s->CX X.stack H s E e s'->X.xe e s'
section
variable{X:Cx}{CX:CXT}{k:Nat}{f C:Addr}{fd:FuncData}{ps:List Str}{sp:Sp}{dvs:List V}{ds:List Value}{E:XK}{x m:Str}{p pos apos:Pos}{e o:Expr}{es:List Expr}{ta:TE}{t:TA}
theorem zqk{pins:List (Addr×Obj)}{σ:St}{H:Hp}{s:Shared}{Q:VK}{us:List Value}{vs:List V}(F:FnOk X.prog X.w X.K X.mg X.base CX k f fd ps sp)(hr:Room k X.A)(hb:zgY X.K fd ps ds)(hd:Vals dvs ds)(hx:zkQ CX X E)
  (I:Inv X pins σ H s) (r:Vals vs us) (h:sp (vs++dvs) H Q E):wpAny (model X.prog X.w) X.A (call (.ref f) us) (EP X pins σ Q) X.xe s:=by
 have r2:Vals (vs++dvs) (us++ds):=r.append hd;have hl:(us++ds).length=ps.length:=by rw[←r2.length];exact F.len _ _ _ _ h
 refine wpAny_call (codeAny_mono (F.run X.A X.stack s H ⟨us,[]⟩ (us++ds) (vs++dvs) Q E hr I.env0 (hb s us I.kIn hl) r2 h) λr s' hq=>?_)
 cases r with
 |error e=>exact hx pins σ H s e s' I hq
 |ok fl=>
  cases fl with
  |ret u=>exact I.after hq
  |next=>exact False.elim hq
  |brk=>exact False.elim hq
  |cont=>exact False.elim hq
theorem zoS(F:FnOk X.prog X.w X.K X.mg X.base CX k f fd ps sp)(hr:Room k X.A)(hg:Gl X x)(hm:X.mg x=some (.ref f))(hk:PySem.W.keepIn X.K (.ref f)=true)(hb:zgY X.K fd ps ds)(hd:Vals dvs ds)(hx:zkQ CX X E)
  (ha:PA X (e::es) t) (hdb:(x==("__debug__" : Str))=false:=by decide) (he:starEach (e::es) X.env=(false,eval e X.env)::starEach es X.env:=by rfl) (hpl:(backTo pos (starEach es X.env)).any (·.1)=false:=by rfl) :
  PE X (.Call (.Name x p) (e::es) [] pos) (zrt sp dvs E t):=by
 intro pins s σ H Q I h;refine wpAny_Call_Name_kw (zkF I hg hm ?_ hdb);refine PySem.W.callWith_K (h₀:=X.base) I.ok.mod.kin hk (thn (ha pos pins s σ H _ I h) λus s1 ⟨vs,H1,I1,r,q⟩=>⟨I1.kIn,?_⟩) he hpl;exact zqk F hr hb hd hx I1 r q
end
section
variable{X:Cx}{CX:CXT}{k:Nat}{f C:Addr}{fd:FuncData}{ps ks:List Str}{sp:Sp}{E:XK}{x m:Str}{p pos apos kpos:Pos}{e o:Expr}{es:List Expr}{kws:List Keyword}{te ta:TE}{t tk:TA}{nm:Option Str}
variable{g:List Value->List Value->List Value}{gV:List V->List V->List V}
end
structure ze2(N P:List Str)(sc:Scope):Prop where
 kind:sc.kind=.function
 co:sc.isCoroutine=false
 gen:sc.isGenerator=false
 nd:N.Nodup
 pre:N.take P.length=P
 par:∀x∈P,sc.names.lookup x=some .local∨sc.names.lookup x=some .cell
 nofree:∀y∈sc.names,y.2≠.free
theorem zgZ{kindOf:Str->Option NameKind}{x:Str}:∀{binds:List (Str×Value)}{m:Str->Option Value},(∀v,(x,v)∉binds)->bindL kindOf binds m x=m x
 |[],_,_=>rfl
 |(n,v)::r,m,h=>by
  unfold bindL;rw[zgZ λw hw=>h w (Qj _ hw)];split
  ·have:x≠n:=by rintro rfl;exact h v Qo
   simp[this]
  ·rfl
theorem zg0{kindOf:Str->Option NameKind}{x:Str}:∀{binds:List (Str×Value)}{m:Str->Option Value},(∀v,(x,v)∉binds)->bindC kindOf binds m x=m x
 |[],_,_=>rfl
 |(n,v)::r,m,h=>by
  unfold bindC;rw[zg0 λw hw=>h w (Qj _ hw)];split
  ·rfl
  ·have:x≠n:=by rintro rfl;exact h v Qo
   simp[this]
theorem zg1{kindOf:Str->Option NameKind}{x:Str}{v:Value}:∀{P:List Str}{vs:List Value}{i:Nat}{m:Str->Option Value},P.Nodup->P[i]?=some x->vs[i]?=some v->kindOf x=some .local ->
  bindL kindOf (P.zip vs) m x=some v
 |[],_,_,_,_,h,_,_=>by simp at h
 |_::_,[],_,_,_,_,h,_=>by simp at h
 |p::P,w::vs,0,m,nd,h1,h2,hk=>by
  simp at h1 h2;subst h1;subst h2;show bindL kindOf ((p,w)::P.zip vs) m p=_;unfold bindL;rw[zgZ λv hv=>(Up.mp nd).1 (List.of_mem_zip hv).1,Qm hk];simp
 |p::P,w::vs,i+1,m,nd,h1,h2,hk=>by
  show bindL kindOf ((p,w)::P.zip vs) m x=_;unfold bindL;exact zg1 (i:=i) (List.nodup_cons.mp nd).2 (by simpa using h1) (by simpa using h2) hk
theorem zg2{kindOf:Str->Option NameKind}{x:Str}{v:Value}:∀{P:List Str}{vs:List Value}{i:Nat}{m:Str->Option Value},P.Nodup->P[i]?=some x->vs[i]?=some v->kindOf x≠some .local ->
  bindC kindOf (P.zip vs) m x=some v
 |[],_,_,_,_,h,_,_=>by simp at h
 |_::_,[],_,_,_,_,h,_=>by simp at h
 |p::P,w::vs,0,m,nd,h1,h2,hk=>by
  simp at h1 h2;subst h1;subst h2;show bindC kindOf ((p,w)::P.zip vs) m p=_;unfold bindC;rw[zg0 λv hv=>(Up.mp nd).1 (List.of_mem_zip hv).1,Qy hk];simp
 |p::P,w::vs,i+1,m,nd,h1,h2,hk=>by
  show bindC kindOf ((p,w)::P.zip vs) m x=_;unfold bindC;exact zg2 (i:=i) (List.nodup_cons.mp nd).2 (by simpa using h1) (by simpa using h2) hk
def ze3(N:List Str)(vs:List V):St:=vs.map some++replicate (N.length-vs.length) none
def cxOf(CX:CXT)(P:Program)(w:World)(K:Frag)(mg:Str->Option Value)(base:Heap)(N:List Str)(qual:Str)(scope:Scope)(f:Addr)(cd:Value)(A:Around)(outer:List Env)(s:Shared)(H:Hp)(E:XK):Cx where
 prog:=P
 w:=w
 K:=K
 mg:=mg
 base:=base
 A:=A.deeper (envOfC qual scope s.heap.objs.size f cd)
 N:=N
 s₀:=s
 H₀:=H
 env:=envOfC qual scope s.heap.objs.size f cd
 outer:=outer
 stack:=envOfC qual scope s.heap.objs.size f cd::outer
 ex:=[]
 calm:=true
 fn:=λ_=>true
 pn:=[]
 xe:=λe s'=>wpAny (model P w) (A.deeper (envOfC qual scope s.heap.objs.size f cd)) (leaving (envOfC qual scope s.heap.objs.size f cd) e) (λ_ s''=>CX outer H s E e s'') (λe' s''=>CX outer H s E e' s'') s'
theorem zjb{sc:Scope}{n:Nat}{x:Str}(h:sc.names.lookup x=some .cell):∃c,(cellsFrom n sc.names []).lookup x=some c:=by
 have q:=PySem.W.cellsFrom_some sc.names n [] (.inl h);exact Option.isSome_iff_exists.mp q
theorem zkR{CX:CXT}{P:Program}{w:World}{K:Frag}{mg:Str->Option Value}{base:Heap}{N ps:List Str}{qual:Str}{scope:Scope}{f:Addr}{cd:Value}{A:Around}{outer:List Env}{s s1:Shared}{H:Hp}{E:XK}{us:List Value}{vs:List V}
  (S:ze2 N ps scope) (hd:A.handled=none) (e0:Env0 P w K mg base A outer s H) (hl:vs.length=ps.length) (r:Vals vs us)
  (x:InCallC s s.heap.objs.size (bindL (envOfC qual scope s.heap.objs.size f cd).kindOf (ps.zip us) λ_=>none) (cellsFrom (s.heap.objs.size+1) scope.names []) (bindC (envOfC qual scope s.heap.objs.size f cd).kindOf (ps.zip us) λ_=>none) s1) :
  Inv (cxOf CX P w K mg base N qual scope f cd A outer s H E) [] (ze3 N vs) H s1:=by
 have hpl:ps.length<=N.length:=by have:=congrArg List.length S.pre;rw[QZ] at this;omega
 obtain ⟨h1,tk,rfl,hk⟩:=x.done;have noA:∀b:Addr,b∉(cxOf CX P w K mg base N qual scope f cd A outer s H E).ex:=λb z=>absurd (show b∈([]:List Addr) from z) (by simp)
 refine ⟨⟨e0.mod,S.kind,rfl,rfl,Qx _,λy z c h1 h2=>?_,λy hy=>?_,λy c _ h=>?_,λ_=>hd,Around.frames_deeper e0.frames,.inr ⟨rfl,rfl⟩,λb z=>absurd z (noA b),e0.bs,e0.bsz,λb _ _=>noA b,λb z=>absurd z (noA b),e0.funs,e0.frf⟩,
  rfl,e0.bare,Un.kept hk,⟨_,x.toInCall.ns,λi y v h1 h2 h3=>?_⟩,λy c h=>⟨_,x.cell y c h⟩,e0.hok.fresh (Nat.le_refl _),λy c h=>?_,λp hp=>absurd (show p∈([]:List (Addr×Obj)) from hp) (by simp),e0.hok.kept hk,?_⟩
 ·exact name_of_addr x.apart (JT h1) (JT h2)
 ·have hy:scope.names.lookup y=some .cell∨scope.names.lookup y=some .free:=hy
  rcases hy with hy|hy
  ·exact zjb hy
  ·exact absurd rfl (S.nofree _ (JT hy))
 ·exact Nat.le_of_lt (x.above y c (JT h))
 ·have hi:i<vs.length:=by
   unfold ze3 at h2
   by_cases hi:i<vs.length
   ·exact hi
   ·rw[List.getElem?_append_right (by simpa using hi)] at h2
    rw[QA] at h2
    split at h2 <;> cases h2
  have ha:vs[i]?=some v:=by
   unfold ze3 at h2;rw[List.getElem?_append_left (by simpa using hi),List.getElem?_map] at h2
   cases e:vs[i]? with
   |none=>rw[e] at h2;cases h2
   |some a=>rw[e] at h2;cases h2;rfl
  obtain ⟨u,hu,rv⟩:=r.get ha
  have hp:ps[i]?=some y:=by
   rw[←S.pre,List.getElem?_take_of_lt (by omega)];exact h1
  have ndP:ps.Nodup:=by rw[←S.pre];exact S.nd.sublist (List.take_sublist _ _)
  refine ⟨u,rv,?_⟩;rcases S.par y (Qq hp) with k|k
  ·exact .inl ⟨k,zg1 ndP hp hu k⟩
  ·obtain ⟨c,e⟩:=zjb (n:=s.heap.objs.size+1) k
   refine .inr ⟨.inl k,c,e,?_⟩;have q:=x.cell y c e;rw[zg2 ndP hp hu (by show scope.names.lookup y≠_;rw[k];decide)] at q
   exact q
 ·exact e0.hok.fresh (Nat.le_of_lt (x.above y c (JT h)))
 ·unfold ze3
  show _=N.length;rw[Ql,Qb,QD];omega
theorem zru{CX:CXT}{P:Program}{w:World}{K:Frag}{mg:Str->Option Value}{base:Heap}{k:Nat}{f:Addr}{name qual:Str}{params:Arguments}{body:List Stmt}{scope:Scope}{dV kV doc pm cdv ct oc:Value}{an od:Option Addr}
  {osl:Array (Option Value)} {N ps:List Str} {sp:Sp} (lk:K.lookup f=some ⟨oc,od,.func (PySem.W.fnOf name qual params body scope dV kV doc pm an cdv ct),osl⟩) (hcd:PySem.W.codeIn K cdv qual=true) (S:ze2 N ps scope)
  (len:∀vs H Q E,sp vs H Q E->vs.length=ps.length)
  (hbody:∀(A:Around)(outer:List Env)(s:Shared)(H:Hp)(vs:List V)(Q:VK)(E:XK),Room k (A.deeper (envOfC qual scope s.heap.objs.size f cdv))->sp vs H Q E ->
   ∃t,PSs (cxOf CX P w K mg base N qual scope f cdv A outer s H E) body t/\t { nx:=λ_ H'=>Q .non H',rt:=Q } (ze3 N vs) H) :
  FnOk P w K mg base CX (k+1) f (PySem.W.fnOf name qual params body scope dV kV doc pm an cdv ct) ps sp:=by
 refine ⟨len,λA outer s H args us vs Q E hr e0 hb r hsp=>?_⟩;have hl:=len _ _ _ _ hsp;have KX:K.In s.heap:=e0.mod.kin.keeps λb o e=>(e0.bs b o e).1;have lim:s.heap.NoLimit:=e0.mod.nolimit.keeps λb o e=>(e0.bs b o e).1
 have hkind:∀y∈ps.zip us,scope.names.lookup y.1=some .local∨(scope.names.lookup y.1=some .cell/\((cellsFrom (s.heap.objs.size+1) scope.names []).lookup y.1).isSome=true):=λ⟨n,v⟩ hy=>by
  rcases S.par n (List.of_mem_zip hy).1 with q|q
  ·exact .inl q
  ·exact .inr ⟨q,PySem.W.cellsFrom_some _ _ _ (.inl q)⟩
 refine codeAny_call_function hr.depth (KX _ _ lk) rfl S.co S.gen rfl (PySem.W.codeRec_of KX hcd) (hb _ _ _ _ ?_);refine wpAny_newFunctionEnv_cells S.kind hkind λenv he s1 x=>?_;subst he;refine ⟨lim.keeps x.toInCall.keep,codeAny_func ?_⟩;obtain ⟨t,ht,hq⟩:=hbody A outer s H vs Q E (hr.deeper _) hsp;have I:Inv (cxOf CX P w K mg base N qual scope f cdv A outer s H E) [] (ze3 N vs) H s1:=zkR S hr.hd e0 hl r x;refine QM (ht [] s1 (ze3 N vs) H _ I hq) (λfl s' hs=>?_) λe s' hs=>hs
 have fin:∀{σ':St}{H':Hp}{v:V}{u:Value},Inv (cxOf CX P w K mg base N qual scope f cdv A outer s H E) [] σ' H' s'->RelV v u->Q v H'->CE outer P w H s Q u s' :=
  λ{σ' H' v u} J rv q=>⟨v,H',J.os,J.bare,J.base,J.hok,rv,q⟩
 cases fl with
 |ret u=>
  obtain ⟨v,σ',H',J,rv,q⟩:=hs;exact fin J rv q
 |next=>
  obtain ⟨σ',H',J,q⟩:=hs;exact fin (v:=V.non) (u:=Value.none) J rfl q
 |brk=>
  obtain ⟨_,_,_,q⟩:=hs;exact False.elim q
 |cont=>
  obtain ⟨_,_,_,q⟩:=hs;exact False.elim q
section
variable{X:Cx}{x:Str}{p pos:Pos}{e:Expr}{es:List Expr}{t:TA}{id T:String}{r:List V->Hp->VK->Prop}
def tCB(r:List V->Hp->VK->Prop)(t:TA):TE:=λσ H Q=>t σ H λvs H1=>r vs H1 Q
theorem zeS(hc:zdb X (.builtin id) r)(hg:Gl X x)(hm:X.mg x=none)(hv:bootBuiltins x=some (.builtin id))(ha:PA X (e::es) t)(hn:x ≠ "__name__" := by decide)(hdb:(x==("__debug__" : Str))=false:=by decide)
  (he:starEach (e::es) X.env=(false,eval e X.env)::starEach es X.env:=by rfl) (hpl:(backTo pos (starEach es X.env)).any (·.1)=false:=by rfl):PE X (.Call (.Name x p) (e::es) [] pos) (tCB r t):=by
 intro pins s σ H Q I h;refine wpAny_Call_Name_kw (ze0 I hg hm hv ?_ hn hdb);exact PyProof.Rows.callWith_builtin1 (thn (ha pos pins s σ H _ I h) λus s1 ⟨vs,H1,I1,r1,q1⟩=>hc pins s1 σ H1 vs us Q I1 r1 q1) he hpl
theorem zdI(hc:zdb X (.type T) r)(hg:Gl X x)(hm:X.mg x=none)(hv:bootBuiltins x=some (.type T))(ha:PA X (e::es) t)(hn:x ≠ "__name__" := by decide)(hdb:(x==("__debug__" : Str))=false:=by decide)
  (he:starEach (e::es) X.env=(false,eval e X.env)::starEach es X.env:=by rfl) (hpl:(backTo pos (starEach es X.env)).any (·.1)=false:=by rfl):PE X (.Call (.Name x p) (e::es) [] pos) (tCB r t):=by
 intro pins s σ H Q I h;refine wpAny_Call_Name_kw (ze0 I hg hm hv ?_ hn hdb);exact JH (thn (ha pos pins s σ H _ I h) λus s1 ⟨vs,H1,I1,r1,q1⟩=>hc pins s1 σ H1 vs us Q I1 r1 q1) he hpl
end
end L2
namespace HT
open PySem PyProof.Rows
section
open PySem.SeqAt
open PySem.AutoSeq1 (wpAny_loadPart')
open PySem.MeetsSeq PySem.MeetsSeq2 PySem.MeetsSeq3
end
section
variable{prog:Program}{w:World}{A:Around}{E:Value->Shared->Prop}{s:Shared}
def sIx(n d:Nat):Option Int->Nat
 |none=>d
 |some v=>if v<0 then (v+(n:Int)).toNat else min v.toNat n
end
end HT
namespace L2
open PySem PySem.Spec PyProof.Rows
abbrev TO:=St->Hp->(Option Int->Hp->Prop)->Prop
def PO(X:Cx)(e:Option Expr)(t:TO):Prop :=
 ∀(pins:List (Addr×Obj))(s:Shared)(σ:St)(H:Hp)(Q:Option Int->Hp->Prop),Inv X pins σ H s->t σ H Q ->
  wpAny (model X.prog X.w) X.A (evalPart e X.env) (λu s'=>∃o H',Inv X pins σ H' s'/\IsPart u o/\Q o H') X.xe s
def zoT:TO:=λ_ H Q=>Q none H
def zrv(t:TE):TO:=λσ H Q=>t σ H λx H1=>∃i,x=.int i/\Q (some i) H1
section
variable{X:Cx}{e:Expr}{te:TE}{lo hi:Option Expr}{tl th:TO}{pos p2:Pos}
theorem zoU:PO X none zoT:=by
 intro pins s σ H Q I h;rw[evalPart_none];exact Qn ⟨none,H,I,.none,h⟩
theorem zoV(h:PE X e te):PO X (some e) (zrv te):=by
 intro pins s σ H Q I hw;rw[evalPart_some];refine thn (h pins s σ H _ I hw) λu s1 ⟨x,H1,I1,r1,q1⟩=>?_;obtain ⟨i,rfl,q⟩:=q1;obtain ⟨t,rfl⟩:=r1;exact ⟨some i,H1,I1,.int i t,q⟩
def SlR(X:Cx)(r:V->Option Int->Option Int->Hp->VK->Prop):Prop :=
 ∀(pins:List (Addr×Obj))(s:Shared)(σ:St)(H:Hp)(x:V)(v vl vu:Value)(lo hi:Option Int)(sl:Addr)(Q:VK),Inv X pins σ H s->RelV x v->s.heap.IsSliceOf sl vl vu .none->IsPart vl lo->IsPart vu hi->r x lo hi H Q ->
  ∃T id,typeLookup (.type T) "__getitem__" = pure (some (.builtin id))/\s.TypeIs v T/\wpAny (model X.prog X.w) X.A (getItem v (.ref sl)) (EP X pins σ Q) X.xe s
theorem SlR.or{r r':V->Option Int->Option Int->Hp->VK->Prop}(h:SlR X r)(h':SlR X r'):SlR X (λx lo hi H Q=>r x lo hi H Q∨r' x lo hi H Q):=by
 intro pins s σ H x v vl vu lo hi sl Q I rx hs pl pu q;rcases q with q|q
 ·exact h pins s σ H x v vl vu lo hi sl Q I rx hs pl pu q
 ·exact h' pins s σ H x v vl vu lo hi sl Q I rx hs pl pu q
def tSl(r:V->Option Int->Option Int->Hp->VK->Prop)(te:TE)(tl th:TO):TE:=λσ H Q=>te σ H λx H1=>tl σ H1 λl H2=>th σ H2 λu H3=>r x l u H3 Q
theorem zne{r:V->Option Int->Option Int->Hp->VK->Prop}(hr:SlR X r)(he:PE X e te)(hl:PO X lo tl)(hu:PO X hi th):PE X (.Subscript e (.Slice lo hi none p2) pos) (tSl r te tl th):=by
 intro pins s σ H Q I h;refine Subscript_ (thn (he pins s σ H _ I h) λv s1 ⟨x,H1,I1,r1,q1⟩=>?_);refine wpAny_Slice (thn (hl pins s1 σ H1 _ I1 q1) λvl s2 ⟨l,H2,I2,pl,q2⟩=>thn (hu pins s2 σ H2 _ I2 q2) λvu s3 ⟨u,H3,I3,pu,q3⟩=>?_);rw[evalPart_none];refine Qn ?_
 have I4:Inv X pins σ H3 { s3 with heap:=s3.heap.push { cls:=.type "slice", data:=.fields #[vl,vu,.none] } }:=I3.kept (t':=s3.toks) λb ob q=>Qk _ q
 obtain ⟨T,id,hT,ht,hg⟩:=hr pins { s3 with heap:=s3.heap.push { cls:=.type "slice", data:=.fields #[vl,vu,.none] } } σ H3 x v vl vu l u s3.heap.objs.size Q I4 r1 (Heap.IsSliceOf.new ..) pl pu q3
 show wpAny (model X.prog X.w) X.A (subscriptTail e (.Slice lo hi none p2) v (.ref s3.heap.objs.size)) (EP X pins σ Q) X.xe { s3 with heap:=s3.heap.push { cls:=.type "slice", data:=.fields #[vl,vu,.none] } }
 exact tail_any (ops:=[.ref s3.heap.objs.size,v]) ht hT hg (by with_unfolding_all rfl)
def cutV(xs:List V)(lo hi:Option Int):List V:=(xs.drop (HT.sIx xs.length 0 lo)).take (HT.sIx xs.length xs.length hi-HT.sIx xs.length 0 lo)
theorem zib(xs:List V)(lo hi:Option Int):(cutV xs lo hi).length<=xs.length:=by
 unfold cutV;rw[QZ,Jj];omega
end
def ixN(n:Nat)(i:Int):Option Nat:=if 0<=i then (if i<n then some i.toNat else none) else if -(n:Int)<=i then some (i+n).toNat else none
def atI{α:Type}(xs:List α)(i:Int):Option α:=(ixN xs.length i).bind λj=>xs[j]?
theorem zic{n:Nat}{i:Int}{j:Nat}(h:ixN n i=some j):seqIndex? i n=some j/\j<n /\ -(n:Int)<=i/\i<n:=by
 unfold ixN at h
 by_cases h0:0<=i
 ·rw[Qm h0] at h
  by_cases h1:i<n
  ·rw[Qm h1] at h
   have e:i.toNat=j:=QY h;exact ⟨by rw[seqIndex_of h0 h1,e],by omega,by omega,h1⟩
  ·rw[Qy h1] at h;cases h
 ·rw[Qy h0] at h
  by_cases h1 : -(n:Int)<=i
  ·rw[Qm h1] at h
   have e:(i+n).toNat=j:=QY h;exact ⟨by rw[seqIndex_neg (by omega) h1,e],by omega,h1,by omega⟩
  ·rw[Qy h1] at h;cases h
theorem zgh{α:Type}{xs:List α}{i:Int}{v:α}(h:atI xs i=some v):∃j,seqIndex? i xs.length=some j/\xs[j]?=some v/\j<xs.length /\ -(xs.length:Int)<=i/\i<xs.length:=by
 unfold atI at h
 cases e:ixN xs.length i with
 |none=>rw[e] at h;cases h
 |some j=>
  rw[e] at h;obtain ⟨h1,h2,h3,h4⟩:=zic e;exact ⟨j,h1,h,h2,h3,h4⟩
theorem zaN{α:Type}{xs:List α}{j:Nat}{v:α}(h:xs[j]?=some v):atI xs (j:Int)=some v:=by
 have hj:j<xs.length:=(Qh.mp h).1
 have e:ixN xs.length (j:Int)=some j:=by
  unfold ixN;rw[if_pos (by omega),if_pos (by omega)];simp
 unfold atI;rw[e];exact h
def zid(b:Expr):Prop:=∀o i,subscripted b false o i=operate [o,i] (getItem o i)
def IxR(X:Cx)(r:R2):Prop :=
 ∀(value slice:Expr)(pins:List (Addr×Obj))(s:Shared)(σ:St)(H:Hp)(x y:V)(v u:Value)(Q:VK),Inv X pins σ H s->RelV x v->RelV y u->r x y H Q ->
  subscripted slice false v u=operate [v,u] (getItem v u)->wpAny (model X.prog X.w) X.A (subscriptTail value slice v u) (EP X pins σ Q) X.xe s
def MtR(X:Cx)(id:String)(r:V->List V->Hp->VK->Prop):Prop :=
 ∀(pins:List (Addr×Obj))(s:Shared)(σ:St)(H:Hp)(x:V)(xs:List V)(v:Value)(us:List Value)(Q:VK),Inv X pins σ H s->RelV x v->Vals xs us->r x xs H Q ->
  wpAny (model X.prog X.w) X.A (call (.builtin id) (v::us)) (EP X pins σ Q) X.xe s
section
variable{X:Cx}{a b:Expr}{ta tb:TE}{pos:Pos}
theorem IxR.or{r r':R2}(h:IxR X r)(h':IxR X r'):IxR X (λx y H Q=>r x y H Q∨r' x y H Q):=by
 intro value slice pins s σ H x y v u Q I rx ry q hs;rcases q with q|q
 ·exact h value slice pins s σ H x y v u Q I rx ry q hs
 ·exact h' value slice pins s σ H x y v u Q I rx ry q hs
theorem zql{r:R2}(hr:IxR X r)(ha:PE X a ta)(hb:PE X b tb)(hs:zid b):PE X (.Subscript a b pos) (tOp r ta tb):=by
 intro pins s σ H Q I h;exact Subscript_ (binT ha hb I h λv u s2 x y H2 I2 rx ry q=>hr a b pins s2 σ H2 x y v u Q I2 rx ry q (hs _ _))
def rIxL(K:Frag):R2:=λx y H Q=>∃p xs i v,x=.ref p/\y=.int i/\SqL K H p xs/\atI xs i=some v/\Q v H
def rIxT(K:Frag):R2:=λx y H Q=>∃p xs i v,x=.ref p/\y=.int i/\SqT K H p xs/\atI xs i=some v/\Q v H
def rIxS:R2:=λx y H Q=>∃z i c,x=.str z/\y=.int i/\z.length<=sizeLine/\atI z.cps.toList i=some c/\Q (.str ⟨#[c]⟩) H
theorem zoW:IxR X (rIxL X.K):=by
 intro value slice pins s σ H x y v u Q I rx ry h hs;obtain ⟨p,xs,i,z,rfl,rfl,hq,he,q⟩:=h;cases rx;obtain ⟨t,rfl⟩:=ry;obtain ⟨its,r,pl,hz⟩:=I.list hq;obtain ⟨j,h1,h2,h3,h4,h5⟩:=zgh he;obtain ⟨w,ew,rw'⟩:=r.get h2;have hl:=r.length;have hn:=ze1;have fin:EP X pins σ Q w s:=⟨z,H,I,rw',q⟩
 by_cases h0:0<=i
 ·have hj:i.toNat=j:=by
   rw[seqIndex_of h0 h5] at h1;exact QY h1
  exact item_listR pl.isList h0 (by omega) (by rw[hj];simpa using ew) fin hs
 ·have hj:(i+(its.toArray.size:Int)).toNat=j:=by
   rw[seqIndex_neg (by omega) h4] at h1
   rw[QH,←hl];exact QY h1
  exact subscriptTail_builtinR (x:=w) pl.isList.typeIs slot_list_getitem.lookup
   (wpAny_getItem_list_neg (Q:=λr s'=>r=w/\EP X pins σ Q r s') pl.isList (by omega) (by rw[List.size_toArray] <;> omega) (by omega) (by rw[hj];simpa using ew) ⟨rfl,fin⟩) hs
theorem zqm:IxR X (rIxT X.K):=by
 intro value slice pins s σ H x y v u Q I rx ry h hs;obtain ⟨p,xs,i,z,rfl,rfl,hq,he,q⟩:=h;cases rx;obtain ⟨t,rfl⟩:=ry;obtain ⟨its,r,pl,hz⟩:=I.tuple hq;obtain ⟨j,h1,h2,h3,h4,h5⟩:=zgh he;obtain ⟨w,ew,rw'⟩:=r.get h2;have hl:=r.length;have hn:=ze1;have fin:EP X pins σ Q w s:=⟨z,H,I,rw',q⟩
 exact subscriptTail_builtinR (x:=w) pl.typeIs slot_tuple_getitem.lookup
  (getItem_tuple (j:=j) (Q:=λr s'=>r=w/\EP X pins σ Q r s') pl (by omega) (by omega) (by rw[List.size_toArray,←hl];exact h1) (by simpa using ew) ⟨rfl,fin⟩) hs
theorem zqn:IxR X rIxS:=by
 intro value slice pins s σ H x y v u Q I rx ry h hs;obtain ⟨z,i,c,rfl,rfl,hz,he,q⟩:=h;obtain ⟨t,rfl⟩:=rx;obtain ⟨t',rfl⟩:=ry;obtain ⟨j,h1,h2,h3,h4,h5⟩:=zgh he;have hl:z.cps.toList.length=z.length:=by simp[Str.length]
 rw[hl] at h1 h4 h5;have hn:=ze1
 exact tail_any (typeIs_str s z t) slot_str_getitem.lookup (getItem_str (c:=c) (by
  have e1:decide (i < -(2 ^ 63:Int))=false:=QN (by omega)
  have e2:decide (i ≥ 2 ^ 63)=false:=QN (by omega)
  rw[e1,e2,Bool.or_false]) (by rw[h1];simpa using h2) ⟨.str ⟨#[c]⟩,H,I.tok _,⟨_,rfl⟩,q⟩) hs
def rIx(K:Frag):R2:=λx y H Q=>rIxL K x y H Q∨rIxT K x y H Q∨rIxS x y H Q
theorem zoo:IxR X (rIx X.K):=zoW.or (zqm.or zqn)
theorem zjY(its:List Value)(n j:Nat)(u:Value):Obj.mapSeq (·.setIfInBounds j u) { cls:=.type "list", data:=.seq its.toArray n } = { cls:=.type "list", data:=.seq (its.set j u).toArray n }:=by
 simp[Obj.mapSeq]
theorem Inv.lst{pins:List (Addr×Obj)}{σ:St}{H:Hp}{s:Shared}{p:Addr}{xs:List V}(I:Inv X pins σ H s)(h:H p=some (.lst xs)) :
  ∃(its:List Value)(n:Nat),Vals xs its/\s.heap.get? p=some { cls:=.type "list", data:=.seq its.toArray n }/\xs.length<=sizeLine:=by
 obtain ⟨z,its,n,r,e⟩:=I.hok p _ h;exact ⟨its,n,r,e,z⟩
theorem Inv.lstUpd{pins:List (Addr×Obj)}{σ:St}{H:Hp}{s:Shared}{p:Addr}{xs ys:List V}{its its':List Value}{n n':Nat}{f:Obj->Obj}(I:Inv X pins σ H s)(h:H p=some (.lst xs))
  (ho:s.heap.get? p=some { cls:=.type "list", data:=.seq its.toArray n }) (hf:f { cls:=.type "list", data:=.seq its.toArray n } = { cls:=.type "list", data:=.seq its'.toArray n' }) (r:Vals ys its') (hz:ys.length<=sizeLine) (t:Nat) :
  Inv X pins σ (upd H p (.lst ys)) { s with heap:=s.heap.update p f,toks:=t }:=by
 have e:(s.heap.update p f).get? p=some { cls:=.type "list", data:=.seq its'.toArray n' }:=by
  rw[Heap.get?_update_self f ho (by rw[hf] <;> rfl),hf]
 refine I.write (x:=p) (e:=p) (by rw[h];trivial) (.inl rfl) (λb u hb q=>(Heap.get?_update_other _ _ (Ne.symm hb)).trans q) ⟨_,e⟩ ?_
 exact ⟨hz,its',n',r,e⟩
def zrw:V->V->V->Hp->(Hp->Prop)->Prop:=λo i v H Q=>∃p xs k j,o=.ref p/\i=.int k/\H p=some (.lst xs)/\ixN xs.length k=some j/\Q (upd H p (.lst (xs.set j v)))
theorem znf:PSet X zrw:=by
 intro pins s σ H o i v ov iv u Q I ro ri rv h;obtain ⟨p,xs,k,j,rfl,rfl,hp,hj,q⟩:=h;cases ro;obtain ⟨t,rfl⟩:=ri;obtain ⟨its,n,r,ho,hz⟩:=I.lst hp;obtain ⟨h1,h2,h3,h4⟩:=zic hj;have hl:=r.length;have hn:=ze1
 have I':Inv X pins σ (upd H p (.lst (xs.set j v))) { s with heap:=s.heap.update p (Obj.mapSeq (·.setIfInBounds j u)) } :=
  I.lstUpd hp ho (zjY its n j u) (r.set rv j) (by rw[Q6];exact hz) s.toks
 by_cases h0:0<=k
 ·have hk:k.toNat=j:=by
   rw[seqIndex_of h0 h4] at h1;exact QY h1
  exact PySem.W.ki_setAt ho h0 (by omega) (by rw[QH,←hl];exact h4) (by rw[hk];exact ⟨_,I',q⟩)
 ·have hk:(k+(its.toArray.size:Int)).toNat=j:=by
   rw[seqIndex_neg (by omega) h3] at h1
   rw[QH,←hl];exact QY h1
  exact PySem.W.ki_setBack ho (by omega) (by rw[QH,←hl];exact h3) (by omega) (by rw[hk];exact ⟨_,I',q⟩)
theorem zg3(lo hi:Option Int)(n:Nat):(sliceBounds lo hi none n).1=((HT.sIx n 0 lo:Nat):Int)/\(sliceBounds lo hi none n).2.1=((HT.sIx n n hi:Nat):Int)/\(sliceBounds lo hi none n).2.2=1:=by
 refine ⟨?_,?_,rfl⟩
 ·cases lo with
  |none=>simp[sliceBounds,HT.sIx]
  |some i=>
   simp only[sliceBounds,HT.sIx,Option.getD_none,show (1:Int) > 0 by decide,if_true]
   by_cases h:i<0
   ·simp only[h,if_true] <;> omega
   ·simp only[h,if_false] <;> omega
 ·cases hi with
  |none=>simp[sliceBounds,HT.sIx]
  |some i=>
   simp only[sliceBounds,HT.sIx,Option.getD_none,show (1:Int) > 0 by decide,if_true]
   by_cases h:i<0
   ·simp only[h,if_true] <;> omega
   ·simp only[h,if_false] <;> omega
theorem zgi(its:List Value)(lo hi:Option Int):slicePick its.toArray lo hi none=((its.drop (HT.sIx its.length 0 lo)).take (HT.sIx its.length its.length hi-HT.sIx its.length 0 lo)).toArray:=by
 obtain ⟨h1,h2,h3⟩:=zg3 lo hi its.toArray.size;unfold slicePick;rw[h1,h2,h3];simp only[sliceRange_one,pick_run,QH] <;> rfl
def rSlL(K:Frag):V->Option Int->Option Int->Hp->VK->Prop:=λx lo hi H Q=>∃a xs,x=.ref a/\SqL K H a xs/\∀p,H p=none->Q (.ref p) (upd H p (.lst (cutV xs lo hi)))
theorem zoX:SlR X (rSlL X.K):=by
 intro pins s σ H x v vl vu lo hi sl Q I rx hs pl pu h;obtain ⟨a,xs,rfl,hx,q⟩:=h;cases rx;obtain ⟨its,r,ht,hz⟩:=I.list hx;have hlen:=r.length
 refine ⟨"list", _,slot_list_getitem.lookup,ht.isList.typeIs,?_⟩
 refine wpAny_getItem_list_slice ht.isList hs pl pu .none (by simp) ?_ (by rw[List.size_toArray] <;> omega)
 rw[zgi,←hlen];refine ⟨.ref s.heap.objs.size,_,I.laid (t':=s.toks) (o:=.lst (cutV xs lo hi)) (λb ob q=>Qk _ q) (Qx _) ?_,rfl,q _ (I.hok.fresh (Qx _))⟩;exact ⟨QO (zib xs lo hi) hz,_,0,(r.drop (HT.sIx xs.length 0 lo)).take (HT.sIx xs.length xs.length hi-HT.sIx xs.length 0 lo),QE _ rfl⟩
theorem zeD:zdb X (.type "list") (λxs H Q=>∃p ys,xs=[.ref p]/\(SqL X.K H p ys∨SqT X.K H p ys)/\∀l,H l=none->Q (.ref l) (upd H l (.lst ys))):=by
 intro pins s σ H xs us Q I r h;obtain ⟨p,ys,rfl,hq,q⟩:=h;obtain ⟨u,rfl,rx⟩:=znd r;cases rx
 have fin:∀(its:List Value),Vals ys its->ys.length<=sizeLine->∀(h':Heap)(c':Nat),(∀b o',s.heap.get? b=some o'->h'.get? b=some o') ->
   h'.get? s.heap.objs.size=some { cls:=.type "list", dict:=none,data:=.seq its.toArray c',slots:=#[] }->EP X pins σ Q (.ref s.heap.objs.size) { s with heap:=h' }:=λits r' hz h' c' kp e=>
  ⟨.ref s.heap.objs.size,_,I.laid (t':=s.toks) kp (Qx _) (show zcL X.prog X.w _ h' _ (.lst ys) from ⟨hz,its,c',r',e⟩),rfl,q _ (I.hok.fresh (Qx _))⟩
 rcases hq with hq|hq
 ·obtain ⟨its,r',pl,hz⟩:=I.list hq
  have hlen:=r'.length;obtain ⟨o,ho,hc,n,hd⟩:=pl.isList;exact call_list_seq p (.inl rfl) ho hc hd (λh' c' kp e=>fin its r' hz h' c' kp e) (by simp only[QH] <;> omega)
 ·obtain ⟨its,r',pl,hz⟩:=I.tuple hq
  have hlen:=r'.length;obtain ⟨o,ho,hc,n,hd⟩:=pl;exact call_list_seq p (.inr rfl) ho hc hd (λh' c' kp e=>fin its r' hz h' c' kp e) (by simp only[QH] <;> omega)
def tyV(K:Frag)(T:String)(x:V)(H:Hp):Prop:=match x with
 |.str _=>T = "str"
 |.int _=>T = "int"
 |.ref p=>(T = "list" /\ ∃xs,SqL K H p xs)∨(T = "tuple" /\ ∃o,K.lookup p=some o/\o.cls=.type "tuple" /\ o.dict=none) ∨
   (T = "dict" /\ ((∃kvs,H p=some (.dK kvs)) ∨ ∃kvs,H p=some (.dT kvs)))∨(T = "set" /\ ∃S n,H p=some (.set S n))
 |_=>False
theorem zqo{pins:List (Addr×Obj)}{σ:St}{H:Hp}{s:Shared}{T:String}{x:V}{v:Value}(I:Inv X pins σ H s)(r:RelV x v)(ty:tyV X.K T x H) :
  s.TypeIs v T/\∀a,v=.ref a->∃ob,s.heap.get? a=some ob/\ob.dict=none:=by
 cases x with
 |str z=>
  obtain ⟨t,rfl⟩:=r
  cases (show T = "str" from ty)
  exact ⟨typeIs_str s z t,λ_ e=>nomatch e⟩
 |int i=>
  obtain ⟨t,rfl⟩:=r
  cases (show T = "int" from ty)
  exact ⟨typeIs_int s i t,λ_ e=>nomatch e⟩
 |ref p=>
  cases r;rcases ty with ⟨rfl,xs,hq⟩|⟨rfl,o,hk,hc,hd⟩|⟨rfl,hk⟩|⟨rfl,S,n,hk⟩
  ·obtain ⟨its,_,pl,_⟩:=I.list hq
   refine ⟨pl.isList.typeIs,λa e=>?_⟩;cases e;obtain ⟨o,n,e,c,hd,_⟩:=pl;exact ⟨o,e,hd⟩
  ·refine ⟨⟨o,I.kIn p o hk,hc⟩,λa e=>?_⟩
   cases e;exact ⟨o,I.kIn _ o hk,hd⟩
  ·have z:∃o,s.heap.get? p=some o/\o.ExactDict:=by
    rcases hk with ⟨kvs,hk⟩|⟨kvs,hk⟩
    ·obtain ⟨_,_,_,_,o,_,_,e,ex,_⟩:=I.hok p _ hk
     exact ⟨o,e,ex⟩
    ·obtain ⟨_,_,_,_,o,_,_,e,ex,_⟩:=I.hok p _ hk
     exact ⟨o,e,ex⟩
   obtain ⟨o,e,ex⟩:=z;refine ⟨⟨o,e,ex.1⟩,λa e2=>?_⟩;cases e2;exact ⟨o,e,ex.2.1⟩
  ·obtain ⟨o,_,_,_,e,ex,_⟩:=I.hok p _ hk
   refine ⟨⟨o,e,ex.1⟩,λa e2=>?_⟩;cases e2;exact ⟨o,e,ex.2.1⟩
 |_=>exact False.elim ty
def tBM(K:Frag)(T:String)(r:V->List V->Hp->VK->Prop)(to:TE)(t:TA):TE:=λσ H Q=>to σ H λx H1=>tyV K T x H1/\t σ H1 λxs H2=>r x xs H2 Q
variable{o e:Expr}{es:List Expr}{to:TE}{t:TA}{name:Str}{apos cpos:Pos}{T id:String}{r:V->List V->Hp->VK->Prop}
theorem zoY(pa:PlainAttrs T)(slot:Slot T name id)(hty:typeOf (.builtin id)=pure (.type "method_descriptor"))(hm:MtR X id r)(ho:PE X o to)(ha:PA X (e::es) t)
  (hbase:attributeBase o name X.env (eval o X.env)=eval o X.env:=by rfl)
  (hfew:((backTo cpos (starEach (e::es) X.env)).all (λx=>!x.1)&&(backToKw cpos (keywordEach [] X.env)).all (λx=>x.1.isSome)
   && decide ((e::es).length+([]:List Keyword).length+(if ([]:List Keyword).isEmpty then 0 else 1)<30))=true:=by rfl)
  (hline:(apos.endLine==cpos.line)=true:=by rfl) (hs:starEach (e::es) X.env=(false,eval e X.env)::starEach es X.env:=by rfl) (hplain:(backTo cpos (starEach es X.env)).any (·.1)=false:=by rfl) :
  PE X (.Call (.Attribute o name apos) (e::es) [] cpos) (tBM X.K T r to t):=by
 intro pins s σ H Q I h;refine wpAny_Call_method_late hbase hfew hline rfl (thn (ho pins s σ H _ I h) λv s1 ⟨x,H1,I1,r1,ty,q1⟩=>?_);obtain ⟨h1,h2⟩:=zqo I1 r1 ty;refine ⟨T,id,pa,slot,hty,h1,h2,?_⟩;have hA:=ha cpos pins s1 σ H1 _ I1 q1;rw[hs] at hA ⊢;refine Calls.callWith_builtin (by show (false || (backTo cpos (starEach es X.env)).any (·.1))=false;rw[hplain] <;> rfl) (Calls.evalArgs_plain ?_)
 exact thn hA λus s2 ⟨vs,H2,I2,r2,q2⟩=>hm pins s2 σ H2 x vs v us Q I2 r1 r2 q2
end
def MtM(X:Cx)(id:String)(r:V->List V->Hp->VK->Prop):Prop :=
 ∀(pins:List (Addr×Obj))(s:Shared)(σ:St)(H:Hp)(x:V)(xs:List V)(v:Value)(us:List Value)(Q:VK),Inv X pins σ H s->RelV x v->Vals xs us->r x xs H Q ->
  wpAny (model X.prog X.w) X.A (call (.builtin id) (v::us)) (EP X pins σ Q) X.xe s
theorem Vals.one:∀{x:V}{us:List Value},Vals [x] us->∃u,us=[u]/\RelV x u
 |_,_,.cons r .nil=>⟨_,rfl,r⟩
theorem Vals.two:∀{x y:V}{us:List Value},Vals [x,y] us->∃u v,us=[u,v]/\RelV x u/\RelV y v
 |_,_,_,.cons r (.cons q .nil)=>⟨_,_,rfl,r,q⟩
theorem Vals.reverse{xs:List V}{us:List Value}(h:Vals xs us):Vals xs.reverse us.reverse:=by
 induction h with
 |nil=>exact .nil
 |cons r t ih=>rw[List.reverse_cons,List.reverse_cons];exact Vals.append ih (.cons r .nil)
theorem Vals.rep{xs:List V}{us:List Value}(h:Vals xs us):∀k:Nat,Vals (replicate k xs).flatten (replicate k us).flatten
 |0=>.nil
 |k+1=>by
  rw[QR,QR,QL,QL];exact Vals.append h (Vals.rep h k)
theorem zg4(its:List Value):∀(k:Nat)(acc:List Value),
  List.foldl (λx1 x2=>x1++x2) acc.toArray (replicate k its.toArray)=(acc++(replicate k its).flatten).toArray
 |0,acc=>by simp
 |k+1,acc=>by
  have e:acc.toArray++its.toArray=(acc++its).toArray:=by simp
  have e2:(acc++its)++(replicate k its).flatten=acc++(replicate (k+1) its).flatten:=by
   rw[QR,QL,Jl]
  rw[←e2,←zg4 its k (acc++its),←e,QR,J8]
section
variable{X:Cx}{pins:List (Addr×Obj)}{σ:St}{H:Hp}{s:Shared}{l b:Addr}{xs ys zs:List V}
theorem Inv.lset{its its':List Value}{n:Nat}{f:Array Value->Array Value}{t':Nat}(I:Inv X pins σ H s)(hH:H l=some (.lst xs))
  (e:s.heap.get? l=some { cls:=.type "list", data:=.seq its.toArray n }) (hf:f its.toArray=its'.toArray) (hv:Vals ys its') (hz:ys.length<=sizeLine) :
  Inv X pins σ (upd H l (.lst ys)) { s with heap:=s.heap.update l (Obj.mapSeq f),toks:=t' }:=by
 have q:=PySem.IsL.update e f;rw[hf] at q;refine I.write (x:=l) (e:=l) (by rw[hH];exact trivial) (.inl rfl) (λb' u hb hu=>(Heap.get?_update_other s.heap (Obj.mapSeq f) (Ne.symm hb)).trans hu) ⟨_,q⟩ ?_
 exact ⟨hz,its',_,hv,q⟩
theorem Inv.lnew{its:List Value}{t':Nat}(I:Inv X pins σ H s)(hv:Vals ys its)(hz:ys.length<=sizeLine) :
  Inv X pins σ (upd H s.heap.objs.size (.lst ys)) { s with heap:=s.heap.push { cls:=.type "list", data:=.seq its.toArray },toks:=t' } :=
 I.laid (λ_ _ q=>Qk _ q) (Qx _) ⟨hz,its,0,hv,QE _ rfl⟩
theorem Inv.fresh(I:Inv X pins σ H s):H s.heap.objs.size=none:=I.hok.fresh (Qx _)
theorem Inv.lstM(I:Inv X pins σ H s)(hH:H l=some (.lst xs)):xs.length<=sizeLine/\∃(its:List Value)(n:Nat),Vals xs its/\xs.length=its.length/\s.heap.get? l=some { cls:=.type "list", data:=.seq its.toArray n }:=by
 obtain ⟨z,its,n,r,e⟩:=I.hok l _ hH;exact ⟨z,its,n,r,r.length,e⟩
theorem zng{n:Nat}(h:n<=sizeLine):Builtin.List.listTooLong n=false:=by
 unfold Builtin.List.listTooLong;exact QN (by omega)
end
section
variable{X:Cx}
def zoZ:V->List V->Hp->VK->Prop:=λx vs H Q=>∃l xs y,x=.ref l/\vs=[y]/\H l=some (.lst xs)/\xs.length<sizeLine/\Q .non (upd H l (.lst (xs++[y])))
theorem zg5:MtM X "list.append" zoZ:=by
 intro pins s σ H x vs v us Q I rx rv h;obtain ⟨l,xs,y,rfl,rfl,hH,hz,q⟩:=h;cases rx;obtain ⟨u,rfl,ru⟩:=rv.one;obtain ⟨z,its,n,r,hl,e⟩:=I.lstM hH;refine call_meets F.slot_list_append ⟨_,e,rfl⟩ F.entry_list_append (F.args_list_append_2 _ _) (PySem.list_append l its.toArray n u (by rw[QH];omega)) ⟨e,?_⟩
 refine ⟨.non,_,I.lset (its':=its++[u]) hH e (by simp) (r.append (.cons ru .nil)) ?_,rfl,q⟩
 rw[Ql,Jh];omega
theorem zo0{α:Type}(xs:List α)(k:Nat):(replicate k xs).flatten.length=k*xs.length:=by
 induction k with
 |zero=>simp
 |succ k ih=>rw[QR,QL,Ql,ih,Nat.succ_mul,Nat.add_comm]
end
section
variable{prog:Program}{w:World}{A:Around}{E:Value->Shared->Prop}{s:Shared}
set_option maxRecDepth 100000 in
end
section
variable{X:Cx}
end
end L2
namespace Att
open PySem PySem.W PySem.Calls PyProof.Rows
theorem ze4{P:Params}{h:Heap}:∀(ns:List Int)(vs:List Value),WellAll P h vs (ns.map WData.int)->IntsAre vs ns:=by
 intro ns
 induction ns with
 |nil=>
  intro vs w;rw[Uo] at w;cases w;exact .nil
 |cons n ns ih=>
  intro vs w;rw[Qz] at w
  cases w with
  |cons a b=>
   cases a;exact .cons _ _ (ih _ b)
theorem zkS{l:OpenLaw}{n:Nat}(hn:l.most=some n){P:Params}{h:Heap}{args:List WData}{vals:List Value}
  (hpre:l.row.toRowW.claim.pre args=true) (hwl:WellAll P h vals args) :
  ∃a vs ns,vals=[Value.ref a]/\args=[WData.list (ns.map WData.int)]/\h.get? a=some { cls:=.type "list", data:=.seq vs.toArray }/\IntsAre vs ns/\ns.length<=n:=by
 have hsh:WShape.hasAll [] args [.list .int]=true:=(pre_splitW hpre).1;have hc:l.pre.holds [] { args:=args }=true:=(pre_splitW hpre).2;obtain ⟨d,r,rfl,h1,h2⟩:=hasAllW_cons hsh;obtain rfl:=hasAllW_nil h2;obtain ⟨xs,rfl,h3⟩:=hasW_list h1;obtain ⟨ns,rfl⟩:=items_int h3
 have hlen:ns.length<=n:=by
  unfold OpenLaw.pre at hc
  have h4:(WTm.not (.lt (.lit (.int (n:Int))) (.len (.arg 0)))).holds [] { args:=[.list (ns.map .int)] }=true:=by
   have h4:=(holds_andW hc).1;rw[hn] at h4;exact h4
  have h5:=condW_of h4 (w_not (w_lt w_lit (w_len_list (w_arg rfl))));rw[Qb] at h5;refine Q9 λq=>?_;have q':(n:Int)<((ns.length:Nat):Int):=by omega
  first
   |(rw[Q3 q'] at h5;exact absurd h5 (by decide))
   |(simp at h5;omega)
 cases hwl with
 |cons w1 w2=>
  cases w2
  cases w1 with
  |list ho hall=>exact ⟨_,_,ns,rfl,rfl,ho,ze4 ns _ hall,hlen⟩
theorem zkT(l:OpenLaw)(args:List WData):l.row.toRowW.claim.post args (.bool true) args=true :=
 postW_of (r:=l.row.toRowW) (X:=(true==true))
  (show WShape.has [] (.bool true) .bool=true by first|rfl|decide|simp[WShape.has,WShape.arms,WShape.armsAll])
  (show (WTm.eq .res (.lit (.bool true))).value [] { args:=args,res:=some (.bool true),after:=args }=some (.bool (true==true)) from w_eq_bool (w_res rfl) w_lit) rfl
theorem attach_call{l:OpenLaw}{n:Nat}{q:Program}{loose:List Str}{XP:(Str->Option Value)->Heap->Prop}{YP:World->Heap->Prop}{d:DefRec}
  (hn:l.most=some n) (hdf:d.params.defaults=[])
  (call:∀(w:World)(s₀ s₁:Shared)(mg mb:Str->Option Value)(fa:Addr)(o:Obj)(pm cd doc:Value)(a:Addr)(vs:List Value)(ns:List Int),
   Ground q loose [] XP w s₀ mg mb s₁.heap->YP w s₁.heap ->
   s₁.heap.get? fa=some o->o.data=.func (docDef d.name d.params d.body d.scope pm cd doc)->s₁.heap.CodeRec cd d.name->mg d.name=some (.ref fa) ->
   s₁.heap.get? a=some { cls:=.type "list", data:=.seq vs.toArray }->IntsAre vs ns->ns.length<=n->s₁.gens=#[] ->
   codeAny (model l.prog w) callerA (.call (.ref fa) ⟨[.ref a],[]⟩) (λr s'=>r=.ok (.ret (.bool true))/\OldK s₁.heap s'.heap/\s'.os=s₁.os/\AllBare s'.gens) s₁) :
  WalkO q loose XP YP l.row.toRowW d [] (λf vs=>PySem.call f vs):=by
 intro w s₀ s₁ mg mb G Y fa o pm cd doc dV kV ho hd hcd hD hmg hg args vals as hpre hlay hrd hwl hlo;obtain rfl:dV=.none:=Dflts.none hD hdf;obtain rfl:kV=.none:=Dflts.noKw hD;obtain ⟨a,vs,ns,rfl,rfl,hobj,hints,hlen⟩:=zkS hn hpre hwl;refine enter_call (codeAny_mono (call w s₀ s₁ mg mb fa o pm cd doc a vs ns G Y ho (fd_plain hd) hcd hmg hobj hints hlen hg) λr s' hq=>?_);obtain ⟨rfl,h2,h3,h4⟩:=hq;exact ⟨.inl ⟨.bool true,.bool true,[],rfl,λ_=>rfl,.bool true,zkT l _,λ_=>⟨List.Pairwise.nil,λ_ hm=>(nomatch hm)⟩⟩,h2,h3,h4⟩
section
variable{prog:Program}{w:World}{A:Around}{E:Value->Shared->Prop}{s:Shared}{K:Frag}
end
end Att
namespace L2
open PySem PySem.Spec PyProof.Rows
theorem zb7:∀{vs:List Value}{ns:List Int},IntsAre vs ns->Vals (ns.map V.int) vs
 |_,_,.nil=>.nil
 |_,_,.cons n t h=>.cons ⟨t,rfl⟩ (zb7 h)
def Only(H:Hp):Prop:=∀b,H b=none ∨ ∃o xs,H b=some (.frz o (.lst xs))
theorem znh{P:Program}{w:World}{K:Frag}{mg mb:Str->Option Value}{CX:CXT}{k:Nat}{fa a:Addr}{fd:FuncData}{x:Str}{sp:Sp}{s₁:Shared}{vs:List Value}{ns:List Int}
  (KX:K.In s₁.heap) (hns:s₁.heap.Ns mainGlobals mg) (hb:s₁.heap.Ns builtinsNs mb) (hbb:∀x:Str,x ≠ "__name__" -> mb x=bootBuiltins x) (hlim:s₁.heap.NoLimit) (hg:s₁.gens=#[])
  (ha:s₁.heap.get? a=some { cls:=.type "list", data:=.seq vs.toArray }) (hi:IntsAre vs ns) (hl:ns.length<=sizeLine) (hr:Room k callerA)
  (F:∀base:Heap,K.In base->base.Ns mainGlobals mg->FnOk P w K mg base CX k fa fd [x] sp) (hbind:∀(s:Shared)(u:Value),BindsTo s fd ⟨[u],[]⟩ [(x,u)])
  (hsp:∀H:Hp,Only H->SqL K H a (ns.map V.int)->sp [.ref a] H (λv _=>v=.bl true) λ_ _ _=>False)
  (hCX:∀H e s',CX [] H s₁ (λ_ _ _=>False) e s'->False) :
  codeAny (model P w) callerA (.call (.ref fa) ⟨[.ref a],[]⟩) (λr s'=>r=.ok (.ret (.bool true))/\OldK s₁.heap s'.heap/\s'.os=s₁.os/\AllBare s'.gens) s₁:=by
 have rv:=zb7 hi;have lenV:=hi.length
 have core:∀H:Hp,Only H->SqL K H a (ns.map V.int)->HOk P w H s₁.heap->(∀b,H b≠none->b=a)->(H a≠none->K.lookup a=none) ->
   codeAny (model P w) callerA (.call (.ref fa) ⟨[.ref a],[]⟩) (λr s'=>r=.ok (.ret (.bool true))/\OldK s₁.heap s'.heap/\s'.os=s₁.os/\AllBare s'.gens) s₁:=by
  intro H hO hS hok hA hK;have base_of:∀{b:Addr}{o:Obj},s₁.heap.get? b=some o->H b=none->(hidT s₁.heap H).get? b=some o:=λe n=>zm4 e n
  have noA:∀{b:Addr}{o:Obj}{es:Array DictEntry}{ep:Nat},s₁.heap.get? b=some o->o.data=.dict es ep->H b=none:=λ{b o es ep} e d=>by
   cases q:H b with
   |none=>rfl
   |some u=>
    have e':b=a:=hA b (by rw[q];simp)
    subst e';rw[ha] at e;cases e;have d':Data.seq vs.toArray _=Data.dict es ep:=d;cases d'
  have nsK:∀{b:Addr}{m:Str->Option Value},s₁.heap.Ns b m->(hidT s₁.heap H).Ns b m:=λ{b m} ⟨o,es,ep,e,d,r⟩=>⟨o,es,ep,base_of e (noA e d),d,r⟩
  have hKb:K.In (hidT s₁.heap H):=λb o e=>base_of (KX b o e) (by
   cases q:H b with
   |none=>rfl
   |some u=>
    have e':b=a:=hA b (by rw[q];simp)
    subst e';rw[hK (by rw[q];simp)] at e;cases e)
  have hM:Mod K mg (hidT s₁.heap H):=⟨hKb,nsK hns,⟨mb,nsK hb,hbb⟩,let ⟨mc,h1,h2⟩:=hlim;⟨mc,nsK h1,h2⟩⟩
  have e0:Env0 P w K mg (hidT s₁.heap H) callerA [] s₁ H:=⟨rfl,hM,λb o e=>zoH e,Nat.le_of_eq (zkE _ _),trivial,λb hb=>absurd (show b∈([]:List Addr) from hb) (by simp),hok,.of_eq hg⟩
  refine codeAny_mono ((F _ hKb (nsK hns)).run callerA [] s₁ H ⟨[.ref a],[]⟩ [.ref a] [.ref a] _ _ hr e0 (hbind s₁ (.ref a)) (.cons rfl .nil) (hsp H hO hS)) λr s' h=>?_
  cases r with
  |error e=>exact (hCX H e s' h).elim
  |ok fl=>
   cases fl with
   |next=>exact False.elim h
   |brk=>exact False.elim h
   |cont=>exact False.elim h
   |ret u=>
    obtain ⟨v,H',os,bare,un,hok',r',q⟩:=h;have q':v=.bl true:=q;subst q';obtain rfl:u=Value.bool true:=r';refine ⟨rfl,OldK.of_keep λb o e=>?_,os,bare⟩
    cases q:H b with
    |none=>exact un.keep b o e q (by intro z;exact absurd (show b∈([]:List Addr) from z) (by simp)) (by simp)
    |some u=>
     rcases hO b with z|⟨ob,xs,z⟩
     ·rw[q] at z;cases z
     ·have z2:=un.frzs b ob _ z
      obtain ⟨e1,_⟩:=hok b _ z;obtain ⟨e2,_⟩:=hok' b _ z2;rw[e] at e1;cases e1;exact e2
 cases hk:K.lookup a with
 |some o=>
  have e:=KX a o hk;rw[ha] at e;cases e;refine core (λ_=>none) (λ_=>.inl rfl) (.inr ⟨_,vs.toArray,_,hk,rfl,rfl,rfl,by rw[List.size_toArray,lenV];exact hl,by simpa using rv⟩) (λb u z=>by have z':(none:Option HO)=some u:=z;cases z') (λb z=>absurd rfl z) λz=>absurd rfl z
 |none=>
  refine core (λb=>if b=a then some (.frz { cls:=.type "list", data:=.seq vs.toArray } (.lst (ns.map V.int))) else none) (λb=>?_) (.inl (.inr ⟨{ cls:=.type "list", data:=.seq vs.toArray },Qm rfl⟩)) (λb u z=>?_) (λb z=>?_) λ_=>hk
  ·by_cases hb:b=a
   ·exact .inr ⟨_,_,Qm hb⟩
   ·exact .inl (Qy hb)
  ·by_cases hb:b=a
   ·have z':=(Qm hb).symm.trans z
    cases z';subst hb
    exact ⟨ha,by rw[Qb];exact hl,vs,_,rv,ha⟩
   ·have z':=(Qy hb).symm.trans z
    cases z'
  ·by_cases hb:b=a
   ·exact hb
   ·exact absurd (Qy hb) z
def zee(s:Stmt):Arguments:=match s with
 |.FunctionDef _ a _ _ _ _ _ _ _ _=>a
 |_=>{ posonlyargs:=[],args:=[],vararg:=none,kwonlyargs:=[],kw_defaults:=[],kwarg:=none,defaults:=[] }
def zdc(s:Stmt):List Stmt:=match s with
 |.FunctionDef _ _ b _ _ _ _ _ _ _=>b
 |_=>[]
def zak(s:Stmt):Scope:=match s with
 |.FunctionDef _ _ _ _ _ _ sc _ _ _=>sc
 |_=>{ kind:=.function,names:=[],isGenerator:=false,isCoroutine:=false }
abbrev CX0:CXT:=λ_ _ _ _ _ _=>False
abbrev E0:XK:=λ_ _ _=>False
theorem zrx{X:Cx}:zkQ CX0 X E0:=λ_ _ _ _ _ _ _ h=>h.elim
structure Fun(K:Frag)(x qual:Str)(st:Stmt)(f:Addr)(fd:FuncData):Prop where
 ex:∃(oc:Value)(od:Option Addr)(kV doc pm:Value)(an:Option Addr)(cdv ct:Value)(osl:Array (Option Value)),
  fd=PySem.W.fnOf x qual (zee st) (zdc st) (zak st) .none kV doc pm an cdv ct/\K.lookup f=some ⟨oc,od,.func fd,osl⟩/\PySem.W.codeIn K cdv qual=true
 kp:PySem.W.keepIn K (.ref f)=true
section
variable{P:Program}{w:World}{K:Frag}{mg:Str->Option Value}{base:Heap}
theorem Fun.ok{x qual:Str}{st:Stmt}{f:Addr}{fd:FuncData}{N ps:List Str}{k:Nat}{sp:Sp}(F:Fun K x qual st f fd)(S:ze2 N ps (zak st))(len:∀vs H Q E,sp vs H Q E->vs.length=ps.length)
  (hbody:∀(cdv:Value)(A:Around)(outer:List Env)(s:Shared)(H:Hp)(vs:List V)(Q:VK)(E:XK),Room k (A.deeper (envOfC qual (zak st) s.heap.objs.size f cdv))->sp vs H Q E ->
   ∃t,PSs (cxOf CX0 P w K mg base N qual (zak st) f cdv A outer s H E).nox (zdc st) t/\t { nx:=λ_ H'=>Q .non H',rt:=Q } (ze3 N vs) H):FnOk P w K mg base CX0 (k+1) f fd ps sp:=by
 obtain ⟨oc,od,kV,doc,pm,an,cdv,ct,osl,rfl,lk,hcd⟩:=F.ex;refine zru lk hcd S len λA outer s H vs Q E hr hsp=>?_;obtain ⟨t,h,q⟩:=hbody cdv A outer s H vs Q E hr hsp;exact ⟨t,h.nox,q⟩
theorem Fun.binds{x qual:Str}{st:Stmt}{f:Addr}{fd:FuncData}{ps:List Str}(F:Fun K x qual st f fd)
  (h:∀(kV doc pm:Value)(an:Option Addr)(cdv ct:Value)(us:List Value),us.length=ps.length->bindArgs (PySem.W.fnOf x qual (zee st) (zdc st) (zak st) .none kV doc pm an cdv ct) ⟨us,[]⟩=pure (ps.zip us)):zgY K fd ps []:=by
 obtain ⟨oc,od,kV,doc,pm,an,cdv,ct,osl,rfl,lk,hcd⟩:=F.ex;exact .all (h kV doc pm an cdv ct)
end
section
variable{X:Cx}
end
def Same(H H':Hp):Prop:=∀b o,H b=some o->H' b=some o
theorem Same.refl(H:Hp):Same H H:=λ_ _ h=>h
theorem Same.trans{H H1 H2:Hp}(a:Same H H1)(b:Same H1 H2):Same H H2:=λc o h=>b c o (a c o h)
theorem Same.free{H H':Hp}(e:Same H H'){l:Addr}(h:H' l=Option.none):H l=Option.none:=by
 cases q:H l with
 |none=>rfl
 |some o=>
  rw[e l o q] at h;cases h
theorem Same.seq{K:Frag}{H H':Hp}{a:Addr}{xs:List V}(e:Same H H')(h:SqL K H a xs):SqL K H' a xs:=by
 rcases h with (h|⟨o,h⟩)|h
 ·exact .inl (.inl (e _ _ h))
 ·exact .inl (.inr ⟨o,e _ _ h⟩)
 ·exact .inr h
section
variable{X:Cx}{pins:List (Addr×Obj)}{σ:St}{H:Hp}{s:Shared}{h':Heap}
theorem Inv.turnedNew{t':Nat}{fp:List Addr}{p:Addr}{o:HO}(I:Inv X pins σ H s)(hf:∀b∈fp,FpOk X pins H b)
  (k:∀b o,b∉fp->s.heap.get? b=some o->h'.get? b=some o) (hp:s.heap.objs.size<=p) (new:zcL X.prog X.w (upd H p o) h' p o) :
  Inv X pins σ (upd H p o) { s with heap:=h',toks:=t' }:=by
 have hn:H p=none:=I.hok.fresh hp;have trk:∀b u,H b=some u->b∉fp:=λb u e z=>by rw[(hf b z).1] at e;cases e
 refine I.step (g':=s.gens) (d':=s.drawn) (ch:=fp) (λb hb=>?_) (λb o _ _ hc e _=>k b o hc e) (λb o _ _ hc e _=>⟨o.slots,k b o hc e⟩)
  (λb o _ e n=>by rw[zaU (QT (QJ (Qi e) hp))];exact n) (λb o hc e=>⟨o,k b o hc e⟩)
  (λb xs e=>by rw[zaU (zba e hn)];exact e) (λb ob u e=>by rw[zaU (zba e hn)];exact e) (λb ps e=>⟨#[],by rw[zaU (zba e hn),e];simp⟩)
  (λm hm=>?_) (λb u e=>?_) I.bare
 ·obtain ⟨_,f1,_,f3,f4,f5⟩:=hf b hb
  exact ⟨f3,f1,f4,f5⟩
 ·obtain ⟨ob,es,ep,ho,r⟩:=hm
  exact ⟨ob,es,ep,k _ ob (λz=>(hf _ z).2.1 rfl) ho,r⟩
 ·by_cases hb:b=p
  ·subst hb;rw[zaT] at e;cases e;exact new
  ·rw[zaU hb] at e
   refine (I.hok b u e).stay (λc v hc q=>k c v ?_ q) (λc q=>by rw[zaU (zba q hn)];exact q) λc xs q=>by rw[zaU (zba q hn)];exact q
   rcases hc with z|z
   ·rw[z];exact trk b u e
   ·exact trk c _ z
theorem Inv.turnedL{t':Nat}{fp:List Addr}(I:Inv X pins σ H s)(hf:∀b∈fp,FpOk X pins H b)
  (k:∀b o,b∉fp->s.heap.get? b=some o->h'.get? b=some o):Inv X pins σ H { s with heap:=h',toks:=t' }:=by
 have trk:∀b u,H b=some u->b∉fp:=λb u e z=>by rw[(hf b z).1] at e;cases e
 refine I.step (g':=s.gens) (d':=s.drawn) (ch:=fp) (λb hb=>?_) (λb o _ _ hc e _=>k b o hc e) (λb o _ _ hc e _=>⟨o.slots,k b o hc e⟩)
  (λ_ _ _ _ n=>n) (λb o hc e=>⟨o,k b o hc e⟩) (λ_ _ e=>e) (λ_ _ _ e=>e) (λb ps e=>⟨#[],by rw[e];simp⟩) (λm hm=>?_) (λb u e=>?_) I.bare
 ·obtain ⟨_,f1,_,f3,f4,f5⟩:=hf b hb
  exact ⟨f3,f1,f4,f5⟩
 ·obtain ⟨ob,es,ep,ho,r⟩:=hm
  exact ⟨ob,es,ep,k _ ob (λz=>(hf _ z).2.1 rfl) ho,r⟩
 ·refine (I.hok b u e).stay (λc v hc q=>k c v ?_ q) (λc q=>q) λc xs q=>q
  rcases hc with z|z
  ·rw[z];exact trk b u e
  ·exact trk c _ z
end
def Ite(K:Frag)(a:Addr):It :=
 ⟨λi H=>∃xs x,SqL K H a xs/\xs[i]?=some x,
  λi H v H'=>∃p x,H p=none/\v=.ref p/\(∀xs,SqL K H a xs->xs[i]?=some x)/\H'=upd H p (.tup [.int i,x]),
  λi H=>∃xs,SqL K H a xs/\xs.length<=i⟩
theorem zkU{P:Program}{w:World}{K:Frag}{elts:List Expr}{x1}{tp:Pos}(a e it:Addr)(hne:e≠it) :
  Turn P w K (.Tuple elts x1 tp) (Ite K a) [e,it] e (λi h=>(∃old,IsEnum h e it i old)/\h.IsListIter it a i) where
 mem:=by simp
 obj:=λi h st b hb=>by
  obtain ⟨⟨old,he⟩,o,ho,c,d⟩:=st;have hb':b=e∨b=it:=by simpa using hb
  rcases hb' with rfl|rfl
  ·exact ⟨_,he,λv z=>by
    have z':Data.fields _=Data.cell v:=z;cases z'⟩
  ·exact ⟨o,ho,λv z=>by rw[d] at z;cases z⟩
 keep:=λi h h' st k=>by
  obtain ⟨⟨old,he⟩,hi⟩:=st;exact ⟨⟨old,k e (by simp) _ he⟩,hi.at λo q=>k it (by simp) o q⟩
 item:=by
  intro X hP hw hK hc i pins s σ H E I hf st hg;subst hP hw hK;obtain ⟨⟨old,he⟩,hi⟩:=st;obtain ⟨xs,x,hq,hx⟩:=hg;obtain ⟨its,rv,p,hz⟩:=I.list hq;obtain ⟨u,hu,ru⟩:=rv.get hx;refine wpAny_pyNext_enum_item he hi p.isList (x:=u) (by simpa using hu) hne λh1 out hi1 ht hsz kk=>?_
  refine ⟨_,rfl,wpAny_letOwnedTupleGo_enum out λh2 he2 hs2=>?_⟩;have hel:e<s.heap.objs.size:=Qi he;have hs2':Heap.SameBut e h1 h2:=hs2
  have ht2:h2.get? s.heap.objs.size=some { cls:=.type "tuple", data:=.seq #[.int i s.toks,u] }:=(hs2'.2 _ (JZ hel)).trans ht
  have kk2:∀b o,b∉[e,it]->s.heap.get? b=some o->h2.get? b=some o:=λb o hb q=>by
   have hbe:b≠e:=λz=>hb (by simp[z])
   have hbi:b≠it:=λz=>hb (by simp[z])
   exact (hs2'.2 b hbe).trans (kk b o hbe hbi q)
  have hn:H s.heap.objs.size=none:=I.hok.fresh (Qx _)
  have I2:Inv X pins σ (upd H s.heap.objs.size (.tup [.int i,x])) { s with heap:=h2,toks:=s.toks+1 } :=
   I.turnedNew (fp:=[e,it]) hf kk2 (Qx _) ⟨by show 2<=sizeLine;decide,[.int i s.toks,u],.cons ⟨_,rfl⟩ (.cons ru .nil),⟨_,ht2,rfl,_,rfl⟩⟩
  refine ⟨.ref s.heap.objs.size,_,I2,rfl,⟨_,x,hn,rfl,λys hy=>by rw[I.list_inj hy hq];exact hx,rfl⟩,⟨⟨u,?_⟩,?_⟩,λb hb=>?_⟩
  ·have:=he2
   simpa using this
  ·have hi2:h2.IsListIter it a (i+1):=hi1.at λo q=>(hs2'.2 it (Ne.symm hne)).trans q
   exact hi2
  ·have fr:=(hf b hb)
   have hlt:b<s.heap.objs.size:=by
    have hb':b=e∨b=it:=by simpa using hb
    rcases hb' with rfl|rfl
    ·exact hel
    ·obtain ⟨o,ho,_⟩:=hi;exact Qi ho
   rw[zaU (QT hlt)];exact fr.1
 done:=by
  intro X hP hw hK hc i pins s σ H E I hf st hg;subst hP hw hK;obtain ⟨⟨old,he⟩,hi⟩:=st;obtain ⟨xs,hq,hx⟩:=hg;obtain ⟨its,rv,p,hz⟩:=I.list hq;have hl:=rv.length;exact wpAny_pyNext_enum_end (I.ok.hd hc) he hi p.isList (by simp;omega) λh' eb=>⟨rfl,I.turnedL (t':=s.toks) hf λb o hb q=>eb b o (λz=>hb (by simp[z])) q⟩
 self:=λ_ _ _ _ _ st h=>by
  obtain ⟨⟨old,he⟩,_⟩:=st;exact wpAny_pyIter_enum he h
section
variable{X:Cx}
def zry(K:Frag)(ta:TA):TI:=λσ H R=>ta σ H λvs H1=>∃a xs,vs=[.ref a]/\SqL K H1 a xs/\R (Ite K a) H1
theorem zo1{a:Expr}{ta:TA}{p pos:Pos}{elts:List Expr}{x1}{tp:Pos}(hg:Gl X "enumerate")(hm:X.mg "enumerate" = none)(ha:PA X [a] ta)
  (hs:starEach [a] X.env=[(false,eval a X.env)]:=by rfl):PI X (.Tuple elts x1 tp) (.Call (.Name "enumerate" p) [a] [] pos) (zry X.K ta):=by
 intro pins s σ H R I h;refine Call_ (ze0 I hg hm boot_enumerate (JH (thn (ha pos pins s σ H _ I h) λus s1 ⟨vs,H1,I1,r1,q1⟩=>?_) hs rfl));obtain ⟨l,xs,e,hq,q⟩:=q1;subst e
 cases r1 with
 |cons r rr=>
  cases rr
  cases (show _=Value.ref l from r)
  obtain ⟨its,rv,pl,hz⟩:=I1.list hq;refine call_enumerate_list pl.isList λh' he hi hsz kk=>?_;have I2:Inv X pins σ H1 { s1 with heap:=h' }:=I1.kept (t':=s1.toks) kk;refine wpAny_pyIter_enum he ?_;refine ⟨s1.heap.objs.size+1,[s1.heap.objs.size+1,s1.heap.objs.size],_,_,H1,rfl,I2,zkU l _ _ (Nat.succ_ne_self _),⟨⟨_,he⟩,hi⟩,λb hb=>?_,q⟩;have hb':b=s1.heap.objs.size+1∨b=s1.heap.objs.size:=by simpa using hb
  rcases hb' with rfl|rfl
  ·exact I1.fpOk (JX _) (I1.hok.fresh (JX _))
  ·exact I1.fpOk (Qx _) (I1.hok.fresh (Qx _))
end
section
variable{κ:Type}[DecidableEq κ]
end
section
variable{P:Program}{w:World}{H:Hp}{h:Heap}{a:Addr}
end
section
variable{X:Cx}{pins:List (Addr×Obj)}{σ:St}{H:Hp}{s:Shared}{a:Addr}{y v:V}{u r:Value}{o:Option V}{A:Around}{E:Value->Shared->Prop}
end
section
variable{X:Cx}{pins:List (Addr×Obj)}{σ:St}{H:Hp}{s:Shared}{a:Addr}{kvs:List (Key×V)}{k:Key}{u:Value}{A:Around}{E:Value->Shared->Prop}
end
section
variable{X:Cx}{o i e value:Expr}{pos pos' tpos:Pos}{td ty tv:TE}
end
section
variable{X:Cx}{pos:Pos}
end
end L2
namespace L2
open PySem PySem.Spec
def Tail(bmB bm:List Value):Prop:=∀(X:String)(b:Bool),bmB.contains (.type X)=b->bm.contains (.type X)=b
section
variable{prog:Program}{w:World}{A:Around}{E:Value->Shared->Prop}{h:Heap}{g:Array GenState}{d:Drawn}{t:Nat}{os:OsState}{R:Result->Shared->Prop}
variable{nm q:Str}{C N:Addr}{bs bm bmB:List Value}{hdct:Bool}{sn:List Str}{sub:List Value}{ab:Bool}{col:Option Bool}{dd:Option Addr}{k0 k1 k2 k3 k5:Option Value}{B newId initId:String}
end
def zcM(M:Model)(C:Addr)(name:Str)(r:Option Value)(h:Heap):Prop:=∀(A:Around)(E:Value->Shared->Prop)(Q:Option Value->Shared->Prop)(h':Heap)(g:Array GenState)(d:Drawn)(t:Nat)(os:OsState),
 (∀b o,h.get? b=some o->h'.get? b=some o)->Q r ⟨h',g,d,t,os⟩->wpAny M A (typeLookup (.ref C) name) Q E ⟨h',g,d,t,os⟩
theorem zcM.keeps{M:Model}{C:Addr}{name:Str}{r:Option Value}{h h':Heap}(x:zcM M C name r h)(k:∀b o,h.get? b=some o->h'.get? b=some o):zcM M C name r h' :=
 λA E Q h2 g d t os k2 q=>x A E Q h2 g d t os (λb o e=>k2 b o (k b o e)) q
theorem zcM.at{M:Model}{A:Around}{E:Value->Shared->Prop}{Q:Option Value->Shared->Prop}{C:Addr}{name:Str}{r:Option Value}{h:Heap}{g:Array GenState}{d:Drawn}{t:Nat}{os:OsState}(x:zcM M C name r h)(q:Q r ⟨h,g,d,t,os⟩):wpAny M A (typeLookup (.ref C) name) Q E ⟨h,g,d,t,os⟩ :=
 x A E Q h g d t os (λ_ _ e=>e) q
section
variable{prog:Program}{w:World}{A:Around}{E:Value->Shared->Prop}{h:Heap}{g:Array GenState}{d:Drawn}{t:Nat}{os:OsState}{R:Result->Shared->Prop}
variable{nm q:Str}{C N x:Addr}{bs bm bmB:List Value}{hdct:Bool}{sn:List Str}{sub:List Value}{ab:Bool}{col:Option Bool}{dd:Option Addr}{k0 k1 k2 k3 k5:Option Value}{B newId sa owner:String}{mN mA:Str->Option Value}{name:Str}{v:Value}
theorem zkV{M:Model}{o:Obj}{nameV:Value}{Q:Unit->Shared->Prop}(T:Tail bmB bm)(hb:bmB.contains (.type "BaseException")=true)(hC:h.get? C=some (excClassObj nm q C N bs bm hdct sn sub ab col dd k0 k1 k2 k3 k5 newId))
  (hx:h.get? x=some o) (hc:o.cls=.ref C) (hq:Q () ⟨h,g,d,t,os⟩):wpAny M A (checkBuiltinCall "BaseException.__getattribute__" ⟨[.ref x,nameV],[]⟩) Q E ⟨h,g,d,t,os⟩:=by
 have hk:builtinKind "BaseException.__getattribute__" = some .slot:=by decide +kernel
 have hsplit:splitId "BaseException.__getattribute__" = some ("BaseException", "__getattribute__"):=by decide +kernel
 have hcB:(Value.ref C::bm).contains (.type "BaseException")=true:=by rw[List.contains_cons,T _ _ hb];rfl
 have ha:=PySem.F.args_bexc_ga (.ref x) nameV;simp only[checkBuiltinCall,hk,hsplit];refine Qf ?_
 ·unfold isInstance
  repeat (first|(with_reducible refine QK hx ?_;rw[hc])|(with_reducible refine Js hC ?_;rw[hcB])|wp_step)
  exact hq
end
section
variable{M:Model}{A:Around}{E:Value->Shared->Prop}{s:Shared}{base:Heap}{env:Env}{outer:List Env}{L e:Addr}
end
end L2
namespace L2
open PySem PySem.Spec PyProof.Rows PySem.Calls PyProof.V
def XO(fr:Bool)(e C:Addr)(dd:Option Addr):Heap->Prop:=λh=>∃vs sl,h.get? e=some { cls:=.ref C,dict:=dd,data:=.fields vs,slots:=sl }/\(fr=true->vs[1]?=some .none/\∃t0,vs[0]?=some (.ref t0))
section
variable{X:Cx}{pins:List (Addr×Obj)}{σ:St}{H:Hp}{s:Shared}{e C:Addr}{dd:Option Addr}{h':Heap}
end
abbrev VB:List Value:=[.type "ValueError", .type "Exception", .type "BaseException", .type "object"]
structure XCls(M:Model)(base:Heap)(C:Addr)(bm:List Value)(fI:Addr):Prop where
 obj:∃nm q N bs sn sub ab col dd k0 k1 k2 k3 k5,base.get? C=some (excClassObj nm q C N bs bm true sn sub ab col dd k0 k1 k2 k3 k5 "ValueError.__new__")
 tail:Tail VB bm
 init:zcM M C "__init__" (some (.ref fI)) base
 fn:∃o,base.get? fI=some o/\o.cls=.type "function"
 sa:zcM M C "__setattr__" (some (.builtin "object.__setattr__")) base
 ga:zcM M C "__getattribute__" (some (.builtin "BaseException.__getattribute__")) base
 gh:zcM M C "__getattr__" none base
 cl:zcM M C "__class__" (some (.builtin "object.__class__")) base
 pass:∀v,refuseLoop v "__setattr__" bm=pure ()
section
variable{X:Cx}{k:Nat}{f C:Addr}{fd:FuncData}{ps:List Str}{sp:Sp}{x:Str}{p pos cpos:Pos}{e:Expr}{es:List Expr}{t:TA}{bm:List Value}
end
section
variable{M:Model}{A:Around}{E:Value->Shared->Prop}{h:Heap}{g:Array GenState}{d:Drawn}{t:Nat}{os:OsState}
variable{nm q nm' q':Str}{C N D N' a:Addr}{bs bm bs' bm':List Value}{hdct hdct':Bool}{sn sn':List Str}{sub sub':List Value}{ab ab':Bool}{col col':Option Bool}{dd dd':Option Addr}{k0 k1 k2 k3 k5 j0 j1 j2 j3 j5:Option Value}{newId newId':String}
end
section
variable{X:Cx}{k:Nat}{f:Addr}{fd:FuncData}{ps:List Str}{sp:Sp}{x n:Str}{p pos np hpos:Pos}{e:Expr}{es:List Expr}{t:TA}{KX:V->St->Hp->Prop}
end
section
variable{prog:Program}{w:World}{A:Around}{E:Value->Shared->Prop}{h:Heap}{g:Array GenState}{d:Drawn}{t:Nat}{os:OsState}
variable{nm q:Str}{C N a:Addr}{bs bm bmB:List Value}{hdct:Bool}{sn:List Str}{sub:List Value}{ab:Bool}{col:Option Bool}{dd:Option Addr}{k0 k1 k2 k3 k5:Option Value}{B newId initId nid:String}
end
section
variable{X:Cx}{k:Nat}{f D:Addr}{fd:FuncData}{ps:List Str}{sp:Sp}{x:Str}{p pos apos:Pos}{e:Expr}{es:List Expr}{t:TA}
end
section
variable{X:Cx}{k:Nat}{f D:Addr}{fd:FuncData}{ps:List Str}{sp:Sp}{x m:Str}{p pos apos:Pos}{e:Expr}{es:List Expr}{t:TA}
end
def XD(dx:Addr)(fs:List (Str×V)):Heap->Prop:=λh=>∃mA,h.Ns1 dx mA/\h.ExactDictFk dx/\(∀f,RelO (fs.lookup f) (mA f))/\PySem.Within mA (fs.map (·.1))
section
variable{X:Cx}{pins:List (Addr×Obj)}{σ:St}{H:Hp}{s:Shared}{a C dx:Addr}{h':Heap}{t':Nat}
end
section
variable{X:Cx}{o value:Expr}{f:Str}{pos pos':Pos}{ta tv:TE}{KC:Addr->List Value->Prop}
end
section
variable{X:Cx}{value:Expr}{te:TE}{pos:Pos}
end
section
variable{X:Cx}{e:Expr}{f:Str}{pos:Pos}{ta:TE}{KC:Addr->List Value->Prop}
end
end L2
namespace L2
open PySem PySem.Spec
section
variable{prog:Program}{w:World}{A:Around}{E:Value->Shared->Prop}{h:Heap}{g:Array GenState}{d:Drawn}{t:Nat}{os:OsState}{R:Result->Shared->Prop}
variable{nm q:Str}{C N a:Addr}{bs bm bmB:List Value}{hdct:Bool}{sn:List Str}{sub:List Value}{ab:Bool}{col:Option Bool}{dd:Option Addr}{k0 k1 k2 k3 k5:Option Value}{newId:String}{o:Obj}
theorem zjZ(T:Tail bmB bm)(ho:bmB.contains (.type "object")=true)(hC:h.get? C=some (excClassObj nm q C N bs bm hdct sn sub ab col dd k0 k1 k2 k3 k5 newId))(hx:h.get? a=some o)(hc:o.cls=.ref C)(hq:R (.ok (.ret (.ref C))) ⟨h,g,d,t,os⟩) :
  codeAny (model prog w) A (.call (.builtin "getset_descriptor.__get__") ⟨[.builtin "object.__class__", .ref a,.ref C],[]⟩) R ⟨h,g,d,t,os⟩:=by
 have hT5:(⟨h,g,d,t,os⟩:Shared).TypeIs (.builtin "object.__class__") "getset_descriptor" := PySem.F.typeOf_object_class
 have hcB:(Value.ref C::bm).contains (.type (".".intercalate ("object.__class__".cutAt '.').dropLast))=true:=by
  rw[PySem.F.owner_object_class,List.contains_cons,T _ _ ho];rfl
 refine codeAny_call_builtin PySem.F.slot_gs_get.plain PySem.F.entry_gs_get (PySem.F.slot_gs_get.check _ _ _ _ _ _ _ _ hT5 (PySem.F.args_gs_get _ _ _) ?_)
 repeat (any_goals (first|assumption|(with_reducible refine QK hx ?_;rw[hc])|(with_reducible refine Js hC ?_;rw[hcB])|wp_step))
 refine ⟨Code.quiet_builtin _ (by decide +kernel),codeAny_builtin PySem.F.entry_object_class ?_⟩
 unfold Builtin.«object.__class__»
 repeat (any_goals (first|assumption|(with_reducible refine QK hx ?_;rw[hc])|wp_step))
theorem zg6{tk:Tok}{Q:PySem.Fin->Shared->Prop}(T:Tail bmB bm)(ho:bmB.contains (.type "object")=true)(hC:h.get? C=some (excClassObj nm q C N bs bm hdct sn sub ab col dd k0 k1 k2 k3 k5 newId))(fc:zcM (model prog w) C "__class__" (some (.builtin "object.__class__")) h)(hx:h.get? a=some o)(hc:o.cls=.ref C)(hq:Q (.done (.ret (.ref C))) ⟨h,g,d,t,os⟩) :
  wpAny (model prog w) A (Builtin.«object.__getattribute__» ⟨[.ref a,.str "__class__" tk],[]⟩) Q E ⟨h,g,d,t,os⟩:=by
 have hT5:(⟨h,g,d,t,os⟩:Shared).TypeIs (.builtin "object.__class__") "getset_descriptor" := PySem.F.typeOf_object_class
 have f5:=PySem.F.typeOf_object_class;have f6:=PySem.F.slot_gs_get.lookup;have f7:=PySem.F.slot_gs_set.lookup
 repeat (any_goals (first|assumption|(with_reducible refine QK hx ?_;rw[hc])|with_reducible refine fc.at ?_|wp_step))
 refine zjZ T ho hC hx hc ?_
 repeat (any_goals (first|assumption|wp_step))
theorem ze5{Q:Option Value->Shared->Prop}(FB:ExcAttrFacts "ValueError")(T:Tail VB bm)(hC:h.get? C=some (excClassObj nm q C N bs bm hdct sn sub ab col dd k0 k1 k2 k3 k5 newId))(fc:zcM (model prog w) C "__class__" (some (.builtin "object.__class__")) h)
  (fg:zcM (model prog w) C "__getattribute__" (some (.builtin "BaseException.__getattribute__")) h) (fa:zcM (model prog w) C "__getattr__" none h) (hx:h.get? a=some o) (hc:o.cls=.ref C) (hq:Q (some (.ref C)) ⟨h,g,d,t+1,os⟩) :
  wpAny (model prog w) A (getAttr? (.ref a) "__class__") Q E ⟨h,g,d,t,os⟩:=by
 have f3:=FB.ga.bind (.ref a)
 have hx0:(false&&onTheHeap (Value.builtin "BaseException.__getattribute__"))=false:=rfl
 have hx2:(Value.builtin "BaseException.__getattribute__" == Value.builtin "object.__getattribute__")=false:=by decide +kernel
 have hx1:(onTheHeap (Value.ref C)&&Value.builtin "BaseException.__getattribute__" == Value.builtin "object.__getattribute__")=false:=by rw[hx2];rfl
 unfold getAttr? getAttrBy?;refine Qf (wpAny_mkText (Qf (wpAny_attempt ?_)))
 repeat (any_goals (first|assumption|(with_reducible refine QK hx ?_;rw[hc])|with_reducible refine fg.at ?_|with_reducible refine fa.at ?_|wp_step))
 refine codeAny_call_builtin FB.ga.plain PySem.F.entry_bexc_ga (zkV T rfl hC hx hc (zg6 T rfl hC fc hx hc ?_))
 repeat (any_goals (first|assumption|wp_step))
end
end L2
namespace L2
open PySem PySem.Spec PyProof.Rows
section
variable{prog:Program}{w:World}{A:Around}{E:Value->Shared->Prop}{h:Heap}{g:Array GenState}{d:Drawn}{t:Nat}{os:OsState}
variable{nm q nm' q':Str}{C N D N' a:Addr}{bs bm bs' bm':List Value}{hdct hdct':Bool}{sn sn':List Str}{sub sub':List Value}{ab ab':Bool}{col col':Option Bool}{dd dd':Option Addr}{k0 k1 k2 k3 k5 j0 j1 j2 j3 j5:Option Value}{newId newId':String}{o:Obj}{b:Bool}
theorem zo2{Q:Value->Shared->Prop}(T:Tail VB bm)(hC:h.get? C=some (excClassObj nm q C N bs bm hdct sn sub ab col dd k0 k1 k2 k3 k5 newId))(hD:h.get? D=some (excClassObj nm' q' D N' bs' bm' hdct' sn' sub' ab' col' dd' j0 j1 j2 j3 j5 newId'))
  (fc:zcM (model prog w) C "__class__" (some (.builtin "object.__class__")) h) (fg:zcM (model prog w) C "__getattribute__" (some (.builtin "BaseException.__getattribute__")) h) (fa:zcM (model prog w) C "__getattr__" none h)
  (hx:h.get? a=some o) (hc:o.cls=.ref C) (hb:(Value.ref C::bm).contains (.ref D)=b) (hq:∀tk,Q (.bool b) ⟨h,g,d,tk,os⟩):wpAny (model prog w) A (call (.builtin "isinstance") [.ref a,.ref D]) Q E ⟨h,g,d,t,os⟩:=by
 have hT:(⟨h,g,d,t,os⟩:Shared).TypeIs (.ref D) "type" := ⟨_,hD,rfl⟩
 have f2:=tc_sub;refine call_isinstance_of ?_ (λz=>nomatch z);unfold Builtin.«isinstance.nested»;refine Qf ?_;unfold typeOf;refine Qf (QK hx (Qn ?_));rw[hc]
 by_cases e:C=D
 ·subst e
  have hb1:b=true:=by rw[←hb];simp
  subst hb1;rw[if_pos (by simp)]
  exact Qf (wpAny_rule (Qn (hq t)))
 ·rw[if_neg (by simp[e])]
  refine Qf (Qf (QK hD (Qn ?_)))
  rw[Qm (show (Value.type "type" == Value.type "type")=true by decide)]
  k_delta "plainIsInstance"
  unfold isType isInstance
  repeat (first|(with_reducible refine QK hx ?_;rw[hc])|with_reducible refine QK hD ?_|with_reducible refine QK hC ?_|(with_reducible refine Js hC ?_;rw[hb])|wp_step)
  cases b with
  |true=>wp_walk;exact hq t
  |false=>
   rw[Qy (by decide)]
   refine Qf (ze5 PySem.F.excAttr_ValueError T hC fc fg fa hx hc ?_)
   repeat (first|with_reducible refine QK hC ?_|(with_reducible refine Js hC ?_;rw[hb])|wp_step)
   exact hq _
theorem zqp{Q:Value->Shared->Prop}{X:String}(T:Tail VB bm)(hC:h.get? C=some (excClassObj nm q C N bs bm hdct sn sub ab col dd k0 k1 k2 k3 k5 newId))(hX:typeOf (.type X)=pure (.type "type"))
  (fc:zcM (model prog w) C "__class__" (some (.builtin "object.__class__")) h) (fg:zcM (model prog w) C "__getattribute__" (some (.builtin "BaseException.__getattribute__")) h) (fa:zcM (model prog w) C "__getattr__" none h)
  (hx:h.get? a=some o) (hc:o.cls=.ref C) (hb:(Value.ref C::bm).contains (.type X)=b) (hq:∀tk,Q (.bool b) ⟨h,g,d,tk,os⟩):wpAny (model prog w) A (call (.builtin "isinstance") [.ref a,.type X]) Q E ⟨h,g,d,t,os⟩:=by
 refine call_isinstance_of ?_ (λz=>nomatch z);unfold Builtin.«isinstance.nested»;refine Qf ?_
 have ty:∀{M:Model}{A:Around}{Q:Value->Shared->Prop}{E:Value->Shared->Prop},Q (.ref C) ⟨h,g,d,t,os⟩->wpAny M A (typeOf (.ref a)) Q E ⟨h,g,d,t,os⟩:=λq=>by
  unfold typeOf;refine Qf (QK hx (Qn ?_));rw[hc];exact q
 refine ty ?_;rw[if_neg (by simp)]
 refine Qf (wpAny_of_eq hX ?_)
 rw[Qm (show (Value.type "type" == Value.type "type")=true by decide)]
 k_delta "plainIsInstance"
 unfold isType isInstance
 repeat (first|(with_reducible refine QK hx ?_;rw[hc])|with_reducible refine QK hC ?_|(with_reducible refine Js hC ?_;rw[hb])|wp_step)
 cases b with
 |true=>wp_walk;exact hq t
 |false=>
  rw[Qy (by decide)]
  refine Qf (ze5 PySem.F.excAttr_ValueError T hC fc fg fa hx hc ?_)
  repeat (first|with_reducible refine QK hC ?_|(with_reducible refine Js hC ?_;rw[hb])|wp_step)
  exact hq _
end
def rIsX(KC:Addr->List Value->Prop):List V->Hp->VK->Prop:=λxs H Q=>∃a C dd bm fr c b,xs=[.ref a,c]/\KC C bm/\H a=some (.ext (XO fr a C dd)) /\
 ((∃D bm',c=.ref D/\KC D bm'/\(Value.ref C::bm).contains (.ref D)=b) ∨ ∃T,c=.ty T/\typeOf (.type T)=pure (.type "type")/\(Value.ref C::bm).contains (.type T)=b)/\Q (.bl b) H
theorem zni{X:Cx}{KC:Addr->List Value->Prop}(hcls:∀C bm,KC C bm->∃fI,XCls (model X.prog X.w) X.base C bm fI):zdb X (.builtin "isinstance") (rIsX KC):=by
 rintro pins s σ H xs us Q I r ⟨a,C,dd,bm,fr,c,b,rfl,kc,hx,hD,q⟩
 cases r with
 |cons ra r=>
 cases r with
 |cons rc r=>
 cases r;have ra':_=Value.ref a:=ra
 subst ra';obtain ⟨fI,XC⟩:=hcls C bm kc;obtain ⟨nm,qn,N,bs,sn,sub,ab,col,dd1,k0,k1,k2,k3,k5,hC⟩:=XC.obj;obtain ⟨⟨vs,sl,ga,_⟩,_,_⟩:=I.hok a _ hx;obtain ⟨hp,g,d,tk,os⟩:=s;rcases hD with ⟨D,bm',rfl,kd,hb⟩|⟨T,rfl,hT,hb⟩
 ·have rc':_=Value.ref D:=rc
  subst rc';obtain ⟨fI',XD'⟩:=hcls D bm' kd;obtain ⟨nm',qn',N',bs',sn',sub',ab',col',dd2,j0,j1,j2,j3,j5,hD'⟩:=XD'.obj;exact zo2 XC.tail (I.bk _ _ hC) (I.bk _ _ hD') (XC.cl.keeps I.bk) (XC.ga.keeps I.bk) (XC.gh.keeps I.bk) ga rfl hb λtk'=>⟨.bl b,H,I.tok tk',rfl,q⟩
 ·have rc':_=Value.type T:=rc
  subst rc';exact zqp XC.tail (I.bk _ _ hC) hT (XC.cl.keeps I.bk) (XC.ga.keeps I.bk) (XC.gh.keeps I.bk) ga rfl hb λtk'=>⟨.bl b,H,I.tok tk',rfl,q⟩
def zrz(nm:Str):List Str:=if nm = "NoWishes" then ["part", "number"] else if nm = "NoAim" then ["part"] else if nm = "NoText" then ["row"] else []
def zqq(K:Frag)(nm:Str):Option Addr:=match PySem.W.nsIn K mainGlobals nm with|some (some (.ref C))=>some C|_=>none
def NmAt(K:Frag)(nm:Str)(C:Addr):Prop:=∃o cd,K.lookup C=some o/\o.data=.cls cd/\cd.name=nm
structure ClsK(K:Frag)(nm:Str)(C:Addr)(bm:List Value):Prop where
 ad:zqq K nm=some C
 nmd:NmAt K nm C
 up:nm = "DealError" /\ bm=VB∨nm ≠ "DealError" /\ ∃D,zqq K "DealError" = some D/\bm=.ref D::VB/\NmAt K "DealError" D
 cls:∀(M:Model)(h:Heap),K.In h->∃fI,XCls M h C bm fI
 fld:∀(M:Model)(h:Heap),K.In h->∀f∈(["part", "number", "row"]:List Str),zcM M C f none h
def KC(K:Frag):Addr->List Value->Prop:=λC bm=>∃nm,ClsK K nm C bm
section
variable{K:Frag}{nm x:Str}{C D:Addr}{bm bm':List Value}
theorem ClsK.ty(c:ClsK K nm C bm)(T:String):(Value.ref C::bm).contains (.type T)=VB.contains (.type T):=by
 rcases c.up with ⟨_,rfl⟩|⟨_,D',g,rfl,n⟩
 ·rfl
 ·rfl
end
section
variable{X:Cx}{e:Expr}{st:Stmt}{sts:List Stmt}{t:TE}{ts:TS}
theorem zrA(k:X.K.In X.base):∀C bm,KC X.K C bm->∃fI,XCls (model X.prog X.w) X.base C bm fI:=λ_ _ ⟨_,c⟩=>c.cls _ _ k
end
end L2
namespace DL
open PySem PySem.Spec L2
open PyProof.Rows hiding St
abbrev D:=PyData
abbrev XW:=V->St->Hp->Prop
abbrev KX0:XW:=λ_ _ _=>False
def XFs(G:Hp)(dd:Option Addr)(fs:List Str)(vs:List V):Prop:=match dd with
 |none=>fs=[]/\vs=[]
 |some dx=>fs.length=vs.length/\G dx=some (.ext (XD dx (fs.zip vs)))
theorem XFs.mono{G G1:Hp}{dd:Option Addr}{fs:List Str}{vs:List V}(e:Same G G1)(h:XFs G dd fs vs):XFs G1 dd fs vs:=by
 cases dd with
 |none=>exact h
 |some dx=>exact ⟨h.1,e _ _ h.2⟩
def kD:Key->D
 |.inl i=>.int i
 |.inr x=>.str x
def tkD(k:List Key):D:=.tuple (k.map kD)
def pdD(ks:List (List Key))(ds:List D):List (D×D):=(.bool true,.none)::(ks.map tkD).zip ds
mutual
inductive Rep(K:Frag)(G:Hp):V->D->Prop where
 |non:Rep K G .non .none
 |bl (b:Bool):Rep K G (.bl b) (.bool b)
 |int (i:Int):Rep K G (.int i) (.int i)
 |str (x:Str):Rep K G (.str x) (.str x)
 |lst {a:Addr} {vs:List V} {ds:List D} (h:SqL K G a vs) (r:Reps K G vs ds):Rep K G (.ref a) (.list ds)
 |tup {a:Addr} {vs:List V} {ds:List D} (h:SqT K G a vs) (r:Reps K G vs ds):Rep K G (.ref a) (.tuple ds)
 |dic {a:Addr} (h:G a=some (.dK [])):Rep K G (.ref a) (.dict [])
 |exc {a C:Addr} {dd:Option Addr} {bm:List Value} {nm:Str} {vs:List V} {ds:List D} (c:ClsK K nm C bm) (h:G a=some (.ext (XO false a C dd))) (hd:XFs G dd (zrz nm) vs) (r:Reps K G vs ds):Rep K G (.ref a) (.dict [(.none,.tuple [.str nm,.list ds])])
 |dct {a:Addr} {ks:List Key} {vs:List V} {ds:List D} {kvs:List (D×D)} (e:kvs=(ks.map kD).zip ds) (hne:ks≠[]) (hl:ks.length=ds.length) (h:G a=some (.dK (ks.zip vs))) (r:Reps K G vs ds):Rep K G (.ref a) (.dict kvs)
 |dtt {a:Addr} {o:Obj} {ks:List (List Key)} {vs:List V} {ds:List D} {kvs:List (D×D)} (e:kvs=pdD ks ds) (hl:ks.length=ds.length) (h:G a=some (.frz o (.dT (ks.zip vs)))) (r:Reps K G vs ds):Rep K G (.ref a) (.dict kvs)
inductive Reps(K:Frag)(G:Hp):List V->List D->Prop where
 |nil:Reps K G [] []
 |cons {v:V} {d:D} {vs:List V} {ds:List D} (h:Rep K G v d) (t:Reps K G vs ds):Reps K G (v::vs) (d::ds)
end
variable{K:Frag}{B G0 G G1 G2 H H1 H2:Hp}
theorem zdJ{a:Addr}{xs:List V}(e:Same G G1)(h:SqT K G a xs):SqT K G1 a xs:=by
 rcases h with (h|⟨o,h⟩)|h
 ·exact .inl (.inl (e _ _ h))
 ·exact .inl (.inr ⟨o,e _ _ h⟩)
 ·exact .inr h
mutual
theorem Rep.mono(e:Same G G1):∀{v:V}{d:D},Rep K G v d->Rep K G1 v d
 |_,_,.non=>.non
 |_,_,.bl b=>.bl b
 |_,_,.int i=>.int i
 |_,_,.str x=>.str x
 |_,_,.lst h r=>.lst (e.seq h) (Reps.mono e r)
 |_,_,.tup h r=>.tup (zdJ e h) (Reps.mono e r)
 |_,_,.dic h=>.dic (e _ _ h)
 |_,_,.exc c h hd r=>.exc c (e _ _ h) (hd.mono e) (Reps.mono e r)
 |_,_,.dct z n l h r=>.dct z n l (e _ _ h) (Reps.mono e r)
 |_,_,.dtt z l h r=>.dtt z l (e _ _ h) (Reps.mono e r)
theorem Reps.mono(e:Same G G1):∀{vs:List V}{ds:List D},Reps K G vs ds->Reps K G1 vs ds
 |_,_,.nil=>.nil
 |_,_,.cons h t=>.cons (Rep.mono e h) (Reps.mono e t)
end
section
variable{v:V}{vs ws:List V}{ds es:List D}
theorem Rep.bl_inv{b:Bool}(h:Rep K G v (.bool b)):v=.bl b:=by cases h;rfl
theorem Rep.int_inv{i:Int}(h:Rep K G v (.int i)):v=.int i:=by cases h;rfl
theorem Rep.str_inv{x:Str}(h:Rep K G v (.str x)):v=.str x:=by cases h;rfl
theorem Rep.lst_inv(h:Rep K G v (.list ds)):∃a vs,v=.ref a/\SqL K G a vs/\Reps K G vs ds:=by
 cases h with
 |lst h r=>exact ⟨_,_,rfl,h,r⟩
theorem Rep.tup_inv(h:Rep K G v (.tuple ds)):∃a vs,v=.ref a/\SqT K G a vs/\Reps K G vs ds:=by
 cases h with
 |tup h r=>exact ⟨_,_,rfl,h,r⟩
theorem Reps.length:∀{vs:List V}{ds:List D},Reps K G vs ds->vs.length=ds.length
 |_,_,.nil=>rfl
 |_,_,.cons _ t=>by rw[QG,QG,Reps.length t]
theorem Reps.get:∀{vs:List V}{ds:List D}{i:Nat}{d:D},Reps K G vs ds->ds[i]?=some d->∃v,vs[i]?=some v/\Rep K G v d
 |_,_,_,_,.nil,e=>by simp at e
 |_,_,0,_,.cons h _,e=>by simp at e;subst e;exact ⟨_,rfl,h⟩
 |_,_,i+1,d,.cons _ t,e=>by
  obtain ⟨u,h1,h2⟩:=Reps.get (i:=i) (d:=d) t (by simpa using e)
  exact ⟨u,by simpa using h1,h2⟩
theorem Reps.append:∀{vs ws:List V}{ds es:List D},Reps K G vs ds->Reps K G ws es->Reps K G (vs++ws) (ds++es)
 |_,_,_,_,.nil,s=>s
 |_,_,_,_,.cons r t,s=>.cons r (Reps.append t s)
theorem Reps.take:∀{vs:List V}{ds:List D}(n:Nat),Reps K G vs ds->Reps K G (vs.take n) (ds.take n)
 |_,_,0,_=>by rw[JU,JU];exact .nil
 |_,_,_+1,.nil=>.nil
 |_,_,n+1,.cons r t=>.cons r (Reps.take n t)
theorem Reps.drop:∀{vs:List V}{ds:List D}(n:Nat),Reps K G vs ds->Reps K G (vs.drop n) (ds.drop n)
 |_,_,0,r=>r
 |_,_,_+1,.nil=>.nil
 |_,_,n+1,.cons _ t=>Reps.drop n t
theorem Reps.reverse:∀{vs:List V}{ds:List D},Reps K G vs ds->Reps K G vs.reverse ds.reverse
 |_,_,.nil=>.nil
 |_,_,.cons r t=>by rw[List.reverse_cons,List.reverse_cons];exact Reps.append (Reps.reverse t) (.cons r .nil)
theorem Reps.set{v:V}{d:D}(r:Rep K G v d):∀{vs:List V}{ds:List D}(i:Nat),Reps K G vs ds->Reps K G (vs.set i v) (ds.set i d)
 |_,_,_,.nil=>.nil
 |_,_,0,.cons _ t=>.cons r t
 |_,_,i+1,.cons q t=>.cons q (Reps.set r i t)
theorem Reps.ints:∀(ns:List Int),Reps K G (ns.map V.int) (ns.map int)
 |[]=>.nil
 |n::ns=>.cons (.int n) (Reps.ints ns)
end
inductive MO where
 |l (vs:List V)|k (kvs:List (Key×V))|t (kvs:List (List Key×V))
def MO.ho:MO->HO
 |.l vs=>.lst vs
 |.k kvs=>.dK kvs
 |.t kvs=>.dT kvs
structure Ext(G H G' H':Hp):Prop where
 h:Same H H'
 g:Same G G'
 gh:Same G' H'
 np:∀a(u:MO),H a=some u.ho->G a=none->G' a=none
theorem Ext.refl(e:Same G H):Ext G H G H:=⟨.refl _,.refl _,e,λ_ _ _ q=>q⟩
theorem zaX{p:Addr}{o:HO}(h:H p=none):Same H (upd H p o):=λb u e=>by rw[zaU (zba e h)];exact e
theorem Ext.new{p:Addr}{o:HO}(e:Same G H)(h:H p=none):Ext G H (upd G p o) (upd H p o):=by
 have hg:G p=none:=e.free h;refine ⟨zaX h,zaX hg,λb u q=>?_,λa u q n=>?_⟩
 ·by_cases z:b=p
  ·subst z;rw[zaT] at q ⊢;exact q
  ·rw[zaU z] at q ⊢;exact e b u q
 ·rw[zaU (zba q h)];exact n
theorem Ext.hid{p:Addr}{o:HO}(e:Same G H)(h:H p=none):Ext G H G (upd H p o) :=
 ⟨zaX h,.refl _,e.trans (zaX h),λ_ _ _ n=>n⟩
inductive Pat where
 |leaf|lst (p:Pat)|tup (ps:List Pat)
mutual
inductive RepO(K:Frag)(G H:Hp):Pat->V->D->List Addr->Prop where
 |leaf {v:V} {d:D} (r:Rep K G v d):RepO K G H .leaf v d []
 |lst {p:Pat} {a:Addr} {vs:List V} {ds:List D} {fp:List Addr} (h:H a=some (.lst vs)) (r:RepOl K G H p vs ds fp):RepO K G H (.lst p) (.ref a) (.list ds) (a::fp)
 |tup {ps:List Pat} {a:Addr} {vs:List V} {ds:List D} {fp:List Addr} (h:H a=some (.tup vs)) (r:RepOs K G H ps vs ds fp):RepO K G H (.tup ps) (.ref a) (.tuple ds) fp
inductive RepOl(K:Frag)(G H:Hp):Pat->List V->List D->List Addr->Prop where
 |nil {p:Pat}:RepOl K G H p [] [] []
 |cons {p:Pat} {v:V} {d:D} {vs:List V} {ds:List D} {f1 f2:List Addr} (h:RepO K G H p v d f1) (t:RepOl K G H p vs ds f2):RepOl K G H p (v::vs) (d::ds) (f1++f2)
inductive RepOs(K:Frag)(G H:Hp):List Pat->List V->List D->List Addr->Prop where
 |nil:RepOs K G H [] [] [] []
 |cons {p:Pat} {ps:List Pat} {v:V} {d:D} {vs:List V} {ds:List D} {f1 f2:List Addr} (h:RepO K G H p v d f1) (t:RepOs K G H ps vs ds f2):RepOs K G H (p::ps) (v::vs) (d::ds) (f1++f2)
end
mutual
theorem RepO.mono(sg:Same G G1)(sh:Same H H1):∀{p:Pat}{v:V}{d:D}{fp:List Addr},RepO K G H p v d fp->RepO K G1 H1 p v d fp
 |_,_,_,_,.leaf r=>.leaf (r.mono sg)
 |_,_,_,_,.lst h r=>.lst (sh _ _ h) (RepOl.mono sg sh r)
 |_,_,_,_,.tup h r=>.tup (sh _ _ h) (RepOs.mono sg sh r)
theorem RepOl.mono(sg:Same G G1)(sh:Same H H1):∀{p:Pat}{v:List V}{d:List D}{fp:List Addr},RepOl K G H p v d fp->RepOl K G1 H1 p v d fp
 |_,_,_,_,.nil=>.nil
 |_,_,_,_,.cons h t=>.cons (RepO.mono sg sh h) (RepOl.mono sg sh t)
theorem RepOs.mono(sg:Same G G1)(sh:Same H H1):∀{p:List Pat}{v:List V}{d:List D}{fp:List Addr},RepOs K G H p v d fp->RepOs K G1 H1 p v d fp
 |_,_,_,_,.nil=>.nil
 |_,_,_,_,.cons h t=>.cons (RepO.mono sg sh h) (RepOs.mono sg sh t)
end
mutual
theorem RepO.upd{a:Addr}{o:HO}(nt:∀vs,H a≠some (.tup vs)):∀{p:Pat}{v:V}{d:D}{fp:List Addr},RepO K G H p v d fp->a∉fp->RepO K G (upd H a o) p v d fp
 |_,_,_,_,.leaf r,_=>.leaf r
 |_,_,_,_,.lst h r,n=>.lst (by rw[zaU (λz=>n (by rw[z];exact Qo))];exact h) (RepOl.upd nt r λz=>n (Qj _ z))
 |_,_,_,_,.tup h r,n=>.tup (by rw[zaU (λz=>by subst z;exact nt _ h)];exact h) (RepOs.upd nt r n)
theorem RepOl.upd{a:Addr}{o:HO}(nt:∀vs,H a≠some (.tup vs)):∀{p:Pat}{v:List V}{d:List D}{fp:List Addr},RepOl K G H p v d fp->a∉fp->RepOl K G (upd H a o) p v d fp
 |_,_,_,_,.nil,_=>.nil
 |_,_,_,_,.cons h t,n=>.cons (RepO.upd nt h λz=>n (Jc _ z)) (RepOl.upd nt t λz=>n (QI _ z))
theorem RepOs.upd{a:Addr}{o:HO}(nt:∀vs,H a≠some (.tup vs)):∀{p:List Pat}{v:List V}{d:List D}{fp:List Addr},RepOs K G H p v d fp->a∉fp->RepOs K G (upd H a o) p v d fp
 |_,_,_,_,.nil,_=>.nil
 |_,_,_,_,.cons h t,n=>.cons (RepO.upd nt h λz=>n (Jc _ z)) (RepOs.upd nt t λz=>n (QI _ z))
end
mutual
theorem RepO.rep(gh:Same G H):∀{p:Pat}{v:V}{d:D}{fp:List Addr},RepO K G H p v d fp->Rep K H v d
 |_,_,_,_,.leaf r=>r.mono gh
 |_,_,_,_,.lst h r=>.lst (SqL.of h) (RepOl.rep gh r)
 |_,_,_,_,.tup h r=>.tup (SqT.of h) (RepOs.rep gh r)
theorem RepOl.rep(gh:Same G H):∀{p:Pat}{v:List V}{d:List D}{fp:List Addr},RepOl K G H p v d fp->Reps K H v d
 |_,_,_,_,.nil=>.nil
 |_,_,_,_,.cons h t=>.cons (RepO.rep gh h) (RepOl.rep gh t)
theorem RepOs.rep(gh:Same G H):∀{p:List Pat}{v:List V}{d:List D}{fp:List Addr},RepOs K G H p v d fp->Reps K H v d
 |_,_,_,_,.nil=>.nil
 |_,_,_,_,.cons h t=>.cons (RepO.rep gh h) (RepOs.rep gh t)
end
mutual
theorem RepO.isl:∀{p:Pat}{v:V}{d:D}{fp:List Addr},RepO K G H p v d fp->∀a∈fp,∃vs,H a=some (.lst vs)
 |_,_,_,_,.leaf r,a,m=>by cases m
 |_,_,_,_,.lst h r,a,m=>by
  rcases QU.mp m with rfl|m
  ·exact ⟨_,h⟩
  ·exact RepOl.isl r a m
 |_,_,_,_,.tup h r,a,m=>RepOs.isl r a m
theorem RepOl.isl:∀{p:Pat}{v:List V}{d:List D}{fp:List Addr},RepOl K G H p v d fp->∀a∈fp,∃vs,H a=some (.lst vs)
 |_,_,_,_,.nil,a,m=>by cases m
 |_,_,_,_,.cons h t,a,m=>by
  rcases QX.mp m with m|m
  ·exact RepO.isl h a m
  ·exact RepOl.isl t a m
theorem RepOs.isl:∀{p:List Pat}{v:List V}{d:List D}{fp:List Addr},RepOs K G H p v d fp->∀a∈fp,∃vs,H a=some (.lst vs)
 |_,_,_,_,.nil,a,m=>by cases m
 |_,_,_,_,.cons h t,a,m=>by
  rcases QX.mp m with m|m
  ·exact RepO.isl h a m
  ·exact RepOs.isl t a m
end
mutual
theorem RepO.uniq(sh:Same H H1):∀{p:Pat}{v:V}{d d':D}{fp fp':List Addr},RepO K G H p v d fp->RepO K G1 H1 p v d' fp'->fp=fp'
 |_,_,_,_,_,_,.leaf _,.leaf _=>rfl
 |_,_,_,_,_,_,.lst h r,.lst h' r'=>by
  have e:=sh _ _ h;rw[h'] at e;cases e;rw[RepOl.uniq sh r r']
 |_,_,_,_,_,_,.tup h r,.tup h' r'=>by
  have e:=sh _ _ h;rw[h'] at e;cases e;exact RepOs.uniq sh r r'
theorem RepOl.uniq(sh:Same H H1):∀{p:Pat}{v:List V}{d d':List D}{fp fp':List Addr},RepOl K G H p v d fp->RepOl K G1 H1 p v d' fp'->fp=fp'
 |_,_,_,_,_,_,.nil,.nil=>rfl
 |_,_,_,_,_,_,.cons h t,.cons h' t'=>by rw[RepO.uniq sh h h',RepOl.uniq sh t t']
theorem RepOs.uniq(sh:Same H H1):∀{p:List Pat}{v:List V}{d d':List D}{fp fp':List Addr},RepOs K G H p v d fp->RepOs K G1 H1 p v d' fp'->fp=fp'
 |_,_,_,_,_,_,.nil,.nil=>rfl
 |_,_,_,_,_,_,.cons h t,.cons h' t'=>by rw[RepO.uniq sh h h',RepOs.uniq sh t t']
end
inductive Sl where
 |pub (d:D)|own (ds:List D)|deep (p:Pat) (d:D)
abbrev DEnv:=List (Option Sl)
def DpOk(K:Frag)(B G H:Hp)(σ:St)(Z:DEnv):Prop:=∃ω:Addr->Nat,
 (∀(i:Nat) p d,Z[i]?=some (some (.deep p d))->∃v fp,σ[i]?=some (some v)/\RepO K G H p v d fp/\fp.Nodup/\∀a∈fp,B a=none/\G a=none/\ω a=i) /\
 (∀(i:Nat) ds a,Z[i]?=some (some (.own ds))->σ[i]?=some (some (.ref a))->ω a=i)
theorem DpOk.of{σ:St}{Z:DEnv}(h1:∀(i:Nat) p d,Z[i]?=some (some (.deep p d))->False)(h2:∀(i:Nat) ds,Z[i]?=some (some (.own ds))->False):DpOk K B G H σ Z :=
 ⟨λ_=>0,λi p d q=>(h1 i p d q).elim,λi ds a q=>(h2 i ds q).elim⟩
theorem DpOk.map{B1:Hp}{σ σ1:St}{Z Z1:DEnv}(k:DpOk K B G H σ Z)
  (h1:∀(i:Nat) p d,Z1[i]?=some (some (.deep p d))->Z[i]?=some (some (.deep p d))/\σ1[i]?=σ[i]?)
  (h2:∀(i:Nat) ds,Z1[i]?=some (some (.own ds))->∃es,Z[i]?=some (some (.own es))/\σ1[i]?=σ[i]?)
  (h3:∀(i:Nat) p d v fp,Z[i]?=some (some (.deep p d))->σ[i]?=some (some v)->RepO K G H p v d fp->(∀a∈fp,B a=none/\G a=none)->(∀(j:Nat) ds a,Z[j]?=some (some (.own ds))->σ[j]?=some (some (.ref a))->a∉fp)->RepO K G1 H1 p v d fp/\∀a∈fp,B1 a=none/\G1 a=none):DpOk K B1 G1 H1 σ1 Z1:=by
 obtain ⟨ω,k1,k2⟩:=k;refine ⟨ω,λi p d q=>?_,λi ds a q s=>?_⟩
 ·obtain ⟨q1,e1⟩:=h1 i p d q
  obtain ⟨v,fp,s,r,n,w⟩:=k1 i p d q1
  obtain ⟨r1,w1⟩:=h3 i p d v fp q1 s r (λa m=>⟨(w a m).1,(w a m).2.1⟩) λj ds a qj sj m=>by
   have z1:=k2 j ds a qj sj;have z2:=(w a m).2.2;rw[z1] at z2;subst z2;rw[q1] at qj;cases qj
  exact ⟨v,fp,by rw[e1];exact s,r1,n,λa m=>⟨(w1 a m).1,(w1 a m).2,(w a m).2.2⟩⟩
 ·obtain ⟨es,q1,e1⟩:=h2 i ds q
  rw[e1] at s;exact k2 i es a q1 s
structure EOk(K:Frag)(B G0 G H:Hp)(σ:St)(Z:DEnv):Prop where
 bh:Same B H
 gh:Same G H
 g0:Same G0 G
 np:∀a(u:MO),B a=some u.ho->G0 a=none->G a=none
 len:Z.length=σ.length
 pub:∀(i:Nat) d,Z[i]?=some (some (.pub d))->∃v,σ[i]?=some (some v)/\Rep K G v d
 own:∀(i:Nat) ds,Z[i]?=some (some (.own ds))->∃a vs,σ[i]?=some (some (.ref a))/\B a=none/\G a=none/\H a=some (.lst vs)/\Reps K G vs ds
 sep:∀(i j:Nat) a ds es,Z[i]?=some (some (.own ds))->Z[j]?=some (some (.own es))->σ[i]?=some (some (.ref a))->σ[j]?=some (some (.ref a))->i=j
 dp:DpOk K B G H σ Z
theorem EOk.ext{G' H':Hp}{σ:St}{Z:DEnv}(k:EOk K B G0 G H σ Z)(e:Ext G H G' H'):EOk K B G0 G' H' σ Z where
 bh:=k.bh.trans e.h
 gh:=e.gh
 g0:=k.g0.trans e.g
 np:=λa o q n=>e.np a o (k.bh a _ q) (k.np a o q n)
 len:=k.len
 pub:=λi d q=>let ⟨v,h1,h2⟩:=k.pub i d q;⟨v,h1,h2.mono e.g⟩
 own:=λi ds q=>let ⟨a,vs,h1,h2,h3,h4,h5⟩:=k.own i ds q;⟨a,vs,h1,h2,e.np a (.l _) h4 h3,e.h a _ h4,h5.mono e.g⟩
 sep:=k.sep
 dp:=k.dp.map (λ_ _ _ q=>⟨q,rfl⟩) (λ_ ds q=>⟨ds,q,rfl⟩) λi p d v fp q s r w n=>⟨r.mono e.g e.h,λa m=>let ⟨_,hl⟩:=r.isl a m;⟨(w a m).1,e.np a (.l _) hl (w a m).2⟩⟩
theorem EOk.publish{σ:St}{Z:DEnv}{i:Nat}{ds:List D}(k:EOk K B G0 G H σ Z)(h:Z[i]?=some (some (.own ds))) :
  ∃a G',σ[i]?=some (some (.ref a))/\Same G G'/\Rep K G' (.ref a) (.list ds)/\EOk K B G0 G' H σ (Z.set i (some (.pub (.list ds)))):=by
 obtain ⟨a,vs,h1,h2,h3,h4,h5⟩:=k.own i ds h;have sg:Same G (upd G a (.lst vs)):=zaX h3;have hr:Rep K (upd G a (.lst vs)) (.ref a) (.list ds):=.lst (SqL.of zaT) (h5.mono sg);refine ⟨a,upd G a (.lst vs),h1,sg,hr,⟨k.bh,λb u q=>?_,k.g0.trans sg,λb o q n=>?_,by rw[Q6];exact k.len,λj d q=>?_,λj es q=>?_,λj l c es fs q1 q2 s1 s2=>?_,?_⟩⟩
 ·by_cases z:b=a
  ·subst z;rw[zaT] at q;cases q;exact h4
  ·rw[zaU z] at q;exact k.gh b u q
 ·have z:b≠a:=λz=>by subst z;rw[h2] at q;cases q
  rw[zaU z];exact k.np b o q n
 ·by_cases z:i=j
  ·subst z
   have hl:i<Z.length:=(Qh.mp h).1;rw[QF hl] at q;cases q;exact ⟨.ref a,h1,hr⟩
  ·rw[Qs z] at q
   obtain ⟨v,g1,g2⟩:=k.pub j d q;exact ⟨v,g1,g2.mono sg⟩
 ·by_cases z:i=j
  ·subst z
   have hl:i<Z.length:=(Qh.mp h).1;rw[QF hl] at q;cases q
  ·rw[Qs z] at q
   obtain ⟨b,ws,g1,g2,g3,g4,g5⟩:=k.own j es q;have zb:b≠a:=λe=>z (k.sep i j a ds es h q h1 (by rw[←e];exact g1))
   exact ⟨b,ws,g1,g2,by rw[zaU zb];exact g3,g4,g5.mono sg⟩
 ·have nz:∀{m:Nat}{ts:List D},(Z.set i (some (Sl.pub (.list ds))))[m]?=some (some (.own ts))->Z[m]?=some (some (.own ts)):=λ{m ts} q=>by
   by_cases z:i=m
   ·subst z
    have hl:i<Z.length:=(Qh.mp h).1;rw[QF hl] at q;cases q
   ·rw[Qs z] at q;exact q
  exact k.sep j l c es fs (nz q1) (nz q2) s1 s2
 ·have hl:i<Z.length:=(Qh.mp h).1
  have nz:∀{m:Nat}{s:Sl},(Z.set i (some (Sl.pub (.list ds))))[m]?=some (some s)->(∃d,s=.pub d)∨Z[m]?=some (some s):=λ{m s} q=>by
   by_cases z:i=m
   ·subst z
    rw[QF hl] at q;cases q;exact .inl ⟨_,rfl⟩
   ·rw[Qs z] at q;exact .inr q
  refine k.dp.map (λm p d q=>?_) (λm es q=>?_) λm p d v fp q s r w n=>⟨r.mono sg (.refl _),λb mb=>⟨(w b mb).1,?_⟩⟩
  ·rcases nz q with ⟨_,e⟩|q
   ·cases e
   ·exact ⟨q,rfl⟩
  ·rcases nz q with ⟨_,e⟩|q
   ·cases e
   ·exact ⟨es,q,rfl⟩
  ·rw[zaU (λz=>by subst z;exact n i ds b h h1 mb)];exact (w b mb).2
inductive Res(α:Type) where
 |ok (a:α) (Z:DEnv)|bad
abbrev M(α:Type):=DEnv->Res α
def zah{α:Type}(a:α):M α:=λZ=>.ok a Z
def mOpt{α:Type}(o:Option α):M α:=λZ=>match o with|some a=>.ok a Z|none=>.bad
def zau{α β:Type}(f:M α)(k:α->M β):M β:=λZ=>match f Z with | .ok a Z'=>k a Z' | .bad=>.bad
section
variable(K:Frag)(B G0:Hp)
def aft{α γ:Type}(R:Hp->γ->α->Prop)(r:Res α)(G:Hp)(σ:St)(Q:γ->Hp->Prop):Prop :=
 match r with
 |.ok d Z'=>∀v G' H',EOk K B G0 G' H' σ Z'->Same G G'->R G' v d->Q v H'
 |.bad=>False
def tM{α γ:Type}(R:Hp->γ->α->Prop)(f:M α):St->Hp->(γ->Hp->Prop)->Prop:=λσ H Q=>
 ∃G Z,EOk K B G0 G H σ Z/\aft K B G0 R (f Z) G σ Q
abbrev tD(f:M D):TE:=tM K B G0 (Rep K) f
abbrev tDs(f:M (List D)):TA:=tM K B G0 (Reps K) f
abbrev tBo(f:M Bool):TT:=tM K B G0 (λ_ b c=>b=c) f
abbrev tOi(f:M (Option Int)):TO:=tM K B G0 (λ_ b c=>b=c) f
end
section
variable{K:Frag}{B G0:Hp}{α β γ δ ε:Type}{R:Hp->γ->α->Prop}{S:Hp->δ->β->Prop}{T:Hp->ε->α->Prop}{σ:St}{H:Hp}
theorem aft.mono{r:Res α}{G G':Hp}{Q:γ->Hp->Prop}(e:Same G G')(h:aft K B G0 R r G σ Q):aft K B G0 R r G' σ Q:=by
 cases r with
 |ok d Z=>exact λv G2 H2 k s q=>h v G2 H2 k (e.trans s) q
 |bad=>exact h
theorem aft.done{d:α}{Z:DEnv}{G G' H H':Hp}{v:γ}{Q:γ->Hp->Prop}(h:aft K B G0 R (.ok d Z) G σ Q)(k:EOk K B G0 G H σ Z)(e:Ext G H G' H')(r:R G' v d):Q v H' :=
 h v G' H' (k.ext e) e.g r
theorem aft.now{d:α}{Z:DEnv}{G H:Hp}{v:γ}{Q:γ->Hp->Prop}(h:aft K B G0 R (.ok d Z) G σ Q)(k:EOk K B G0 G H σ Z)(r:R G v d):Q v H :=
 h v G H k (.refl _) r
theorem aft.opt{o:Option α}{Z:DEnv}{G:Hp}{Q:γ->Hp->Prop}(h:aft K B G0 R (mOpt o Z) G σ Q):∃d,o=some d/\aft K B G0 R (.ok d Z) G σ Q:=by
 cases o with
 |none=>exact h.elim
 |some d=>exact ⟨d,rfl,h⟩
theorem tM.bind{f:M α}{k:α->M β}{Q:δ->Hp->Prop}(h:tM K B G0 S (zau f k) σ H Q) :
  tM K B G0 R f σ H (λv H1=>∃G Z d,EOk K B G0 G H1 σ Z/\R G v d/\aft K B G0 S (k d Z) G σ Q):=by
 obtain ⟨G,Z,e,a⟩:=h;refine ⟨G,Z,e,?_⟩;unfold zau at a
 cases q:f Z with
 |bad=>rw[q] at a;exact a.elim
 |ok d Z1=>
  rw[q] at a;exact λv G' H' e' s r=>⟨G',Z1,d,e',r,aft.mono s a⟩
theorem tM.bind2{α' γ':Type}{R':Hp->γ'->α'->Prop}{f:M α}{g:α->M α'}{k:α->α'->M β}{Q:δ->Hp->Prop}(mo:∀G G' v d,Same G G'->R G v d->R G' v d)
  (h:tM K B G0 S (zau f λx=>zau (g x) λy=>k x y) σ H Q) :
  tM K B G0 R f σ H (λv H1=>∃x,tM K B G0 R' (g x) σ H1 λu H2=>∃G Z y,EOk K B G0 G H2 σ Z/\R G v x/\R' G u y/\aft K B G0 S (k x y Z) G σ Q):=by
 obtain ⟨G,Z,e,a⟩:=tM.bind (R:=R) h;refine ⟨G,Z,e,?_⟩
 cases q:f Z with
 |bad=>rw[q] at a;exact a.elim
 |ok d Z1=>
  rw[q] at a;intro v G' H' e' s r;obtain ⟨G2,Z2,d2,e2,r2,a2⟩:=a v G' H' e' s r;refine ⟨d2,G2,Z2,e2,?_⟩;unfold zau at a2
  cases q2:g d2 Z2 with
  |bad=>rw[q2] at a2;exact a2.elim
  |ok d3 Z3=>
   rw[q2] at a2;exact λu G3 H3 e3 s3 r3=>⟨G3,Z3,d3,e3,mo _ _ _ _ s3 r2,r3,aft.mono s3 a2⟩
end
theorem zkW{K:Frag}(G G':Hp)(v:V)(d:D)(e:Same G G')(r:Rep K G v d):Rep K G' v d:=r.mono e
theorem tM.two{K:Frag}{B G0:Hp}{β δ:Type}{S:Hp->δ->β->Prop}{σ:St}{H:Hp}{f g:M D}{k:D->D->M β}{Q:δ->Hp->Prop}{P:V->V->Hp->Prop}
  (h:tM K B G0 S (zau f λx=>zau g λy=>k x y) σ H Q)
  (i:∀v u H2 G Z x y,EOk K B G0 G H2 σ Z->Rep K G v x->Rep K G u y->aft K B G0 S (k x y Z) G σ Q->P v u H2) :
  tD K B G0 f σ H (λv H1=>tD K B G0 g σ H1 λu H2=>P v u H2):=by
 obtain ⟨G,Z,e,a⟩:=tM.bind2 (R:=Rep K) (R':=Rep K) zkW h;refine ⟨G,Z,e,?_⟩
 cases q:f Z with
 |bad=>rw[q] at a;exact a.elim
 |ok d Z1=>
  rw[q] at a;intro v G' H' e' s r;obtain ⟨x,G2,Z2,e2,a2⟩:=a v G' H' e' s r;refine ⟨G2,Z2,e2,?_⟩
  cases q2:g Z2 with
  |bad=>rw[q2] at a2;exact a2.elim
  |ok d3 Z3=>
   rw[q2] at a2;intro u G3 H3 e3 s3 r3;obtain ⟨G4,Z4,y,e4,r4,r5,a5⟩:=a2 u G3 H3 e3 s3 r3;exact i v u H3 G4 Z4 x y e4 r4 r5 a5
theorem tM.one{K:Frag}{B G0:Hp}{α β γ δ:Type}{R:Hp->γ->α->Prop}{S:Hp->δ->β->Prop}{σ:St}{H:Hp}{f:M α}{k:α->M β}{Q:δ->Hp->Prop}{P:γ->Hp->Prop}
  (h:tM K B G0 S (zau f k) σ H Q) (i:∀v H2 G Z x,EOk K B G0 G H2 σ Z->R G v x->aft K B G0 S (k x Z) G σ Q->P v H2):tM K B G0 R f σ H P:=by
 obtain ⟨G,Z,e,a⟩:=tM.bind (R:=R) h;refine ⟨G,Z,e,?_⟩
 cases q:f Z with
 |bad=>rw[q] at a;exact a.elim
 |ok d Z1=>
  rw[q] at a;intro v G' H' e' s r;obtain ⟨G2,Z2,d2,e2,r2,a2⟩:=a v G' H' e' s r;exact i v H' G2 Z2 d2 e2 r2 a2
section
variable{X:Cx}{B G0:Hp}{e a b:Expr}{pos:Pos}
theorem peof{t t':TE}(h:PE X e t)(i:∀σ H Q,t' σ H Q->t σ H Q):PE X e t':=λpins s σ H Q I q=>h pins s σ H Q I (i σ H Q q)
theorem ptof{t t':TT}(h:PT X e t)(i:∀σ H Q,t' σ H Q->t σ H Q):PT X e t':=λpins s σ H Q I q=>h pins s σ H Q I (i σ H Q q)
theorem paof{es:List Expr}{t t':TA}(h:PA X es t)(i:∀σ H Q,t' σ H Q->t σ H Q):PA X es t':=λps pins s σ H Q I q=>h ps pins s σ H Q I (i σ H Q q)
theorem poof{eo:Option Expr}{t t':TO}(h:PO X eo t)(i:∀σ H Q,t' σ H Q->t σ H Q):PO X eo t':=λpins s σ H Q I q=>h pins s σ H Q I (i σ H Q q)
theorem psof{st:Stmt}{t t':TS}(h:PS X st t)(i:∀D σ H,t' D σ H->t D σ H):PS X st t':=λpins s σ H D I q=>h pins s σ H D I (i D σ H q)
theorem zqr{st:List Stmt}{t t':TS}(h:PSs X st t)(i:∀D σ H,t' D σ H->t D σ H):PSs X st t':=λpins s σ H D I q=>h pins s σ H D I (i D σ H q)
def dVar(i:Nat):M D:=λZ=>match Z[i]? with
 |some (some (.pub d))=>.ok d Z
 |some (some (.own ds))=>.ok (.list ds) (Z.set i (some (.pub (.list ds))))
 |_=>.bad
theorem zac{i:Nat}(h:PE X e (tVar i)):PE X e (tD X.K B G0 (dVar i)):=peof h λσ H Q ⟨G,Z,k,a⟩=>by
 unfold dVar at a
 cases q:Z[i]? with
 |none=>rw[q] at a;exact a.elim
 |some o=>
  cases o with
  |none=>rw[q] at a;exact a.elim
  |some sl=>
   cases sl with
   |deep _ _=>rw[q] at a;exact a.elim
   |pub d=>
    rw[q] at a;obtain ⟨v,h1,h2⟩:=k.pub i d q;exact ⟨v,h1,a.now k h2⟩
   |own ds=>
    rw[q] at a;obtain ⟨ad,G',h1,h2,h3,h4⟩:=k.publish q;exact ⟨.ref ad,h1,a (.ref ad) G' H h4 h2 h3⟩
theorem zjc{v:V}{d:D}(h:PE X e (tC v))(r:∀G,Rep X.K G v d):PE X e (tD X.K B G0 (zah d)):=peof h λσ H Q ⟨G,Z,k,a⟩=>a.now k (r G)
theorem zal{i:Int}{j}:PE X (.Constant (.int i) j pos) (tD X.K B G0 (zah (.int i))):=zjc zpS λ_=>.int i
theorem zbF{i:Bool}{j}:PE X (.Constant (.bool i) j pos) (tD X.K B G0 (zah (.bool i))):=zjc zra λ_=>.bl i
theorem zcN{j}:PE X (.Constant .none j pos) (tD X.K B G0 (zah .none)):=zjc zpT λ_=>.non
theorem zdK{x:Str}{j}:PE X (.Constant (.str x) j pos) (tD X.K B G0 (zah (.str x))):=zjc zpU λ_=>.str x
def dBin{β:Type}(op:D->D->Option β)(f g:M D):M β:=zau f λx=>zau g λy=>mOpt (op x y)
def OpD(X:Cx)(f:Value->Value->Sem Value)(op:D->D->Option D):Prop :=
 ∃r:R2,OpR X f r/\∀v u G H x y d Q,Same G H->Rep X.K G v x->Rep X.K G u y->op x y=some d->(∀w G' H',Ext G H G' H'->Rep X.K G' w d->Q w H')->r v u H Q
theorem zaC{op:Operator}{p:D->D->Option D}{f g:M D}(o:OpD X (binaryOp op) p)(ha:PE X a (tD X.K B G0 f))(hb:PE X b (tD X.K B G0 g)):PE X (.BinOp a op b pos) (tD X.K B G0 (dBin p f g)):=by
 obtain ⟨r,h,i⟩:=o;refine peof (zqa h ha hb) λσ H Q q=>?_;refine tM.two q λv u H2 G Z x y k rx ry a=>?_;obtain ⟨d,e,a⟩:=a.opt;exact i v u G H2 x y d Q k.gh rx ry e λw G' H' ex rw=>a.done k ex rw
theorem OpD.or{f:Value->Value->Sem Value}{p q:D->D->Option D}(h:OpD X f p)(h':OpD X f q):OpD X f (λx y=>(p x y).orElse λ_=>q x y):=by
 obtain ⟨r,h1,i1⟩:=h;obtain ⟨r',h2,i2⟩:=h';refine ⟨_,h1.or h2,λv u G H x y d Q s rx ry e k=>?_⟩;dsimp only at e
 cases z:p x y with
 |some d'=>
  rw[z] at e;have e':d'=d:=QY e;subst e';exact .inl (i1 v u G H x y d' Q s rx ry z k)
 |none=>
  rw[z] at e;exact .inr (i2 v u G H x y d Q s rx ry e k)
def oII(g:Int->Int->Option D):D->D->Option D
 |.int i,.int j=>g i j
 |_,_=>none
theorem zkX{g:Int->Int->Option D}{x y d:D}(e:oII g x y=some d):∃i j,x=.int i/\y=.int j/\g i j=some d:=by
 unfold oII at e
 split at e
 ·exact ⟨_,_,rfl,rfl,e⟩
 ·cases e
theorem OpD.int{f:Value->Value->Sem Value}{C:Int->Int->Prop}{g:Int->Int->V}{p:Int->Int->Option D}(h:OpR X f (rI C g))(i:∀i j d,p i j=some d->C i j/\∀G,Rep X.K G (g i j) d):OpD X f (oII p):=by
 refine ⟨_,h,λv u G H x y d Q s rx ry e k=>?_⟩;obtain ⟨a,b,rfl,rfl,e⟩:=zkX e;obtain ⟨c,r⟩:=i a b d e;exact ⟨a,b,rx.int_inv,ry.int_inv,c,k _ G H (.refl s) (r G)⟩
theorem OpD.int0{f:Value->Value->Sem Value}{g:Int->Int->V}{p:Int->Int->D}(h:OpR X f (rI0 g))(i:∀i j G,Rep X.K G (g i j) (p i j)):OpD X f (oII λi j=>some (p i j)):=by
 refine ⟨_,h,λv u G H x y d Q s rx ry e k=>?_⟩;obtain ⟨a,b,rfl,rfl,e⟩:=zkX e;cases e;exact ⟨a,b,rx.int_inv,ry.int_inv,k _ G H (.refl s) (i a b G)⟩
end
section
variable{X:Cx}{B G0:Hp}{e a b c:Expr}{pos:Pos}
theorem zqs:OpD X (binaryOp .Add) (oII λi j=>some (.int (i+j))):=.int0 zqb λ_ _ _=>.int _
theorem zqt:OpD X (binaryOp .Sub) (oII λi j=>some (.int (i-j))):=.int0 zqc λ_ _ _=>.int _
def gMul(i j:Int):Option D:=if (-(2 ^ 64)<i/\i<2 ^ 64)∨(-(2 ^ 64)<j/\j<2 ^ 64) then some (.int (i*j)) else none
theorem zo3:OpD X (binaryOp .Mult) (oII gMul):=.int zqd λi j d h=>by
 unfold gMul at h
 split at h
 ·rename_i c
  cases h;exact ⟨c,λ_=>.int _⟩
 ·cases h
def gMod(i j:Int):Option D:=if 0<j then some (.int (i % j)) else none
theorem zqu:OpD X (binaryOp .Mod) (oII gMod):=.int zqe λi j d h=>by
 unfold gMod at h
 split at h
 ·rename_i c
  cases h;exact ⟨c,λ_=>.int _⟩
 ·cases h
theorem znj:OpR X (binaryOp .FloorDiv) (rI (λi j=>0<j/\j<2 ^ 64) λi j=>.int (i / j)):=opI λi j _ _ _ _ _ hc q=>by
 have h1:(0:Int)<j:=hc.1;have h2:j<2 ^ 64:=hc.2;refine floordiv_int (by omega) (by rw[Int.fdiv_eq_ediv_of_nonneg i (by omega)];exact q) (.inl (PyProof.noPylong_of_log2 ?_))
 have h0:j.natAbs≠0:=by omega
 have:j.natAbs.log2<64:=(Nat.log2_lt h0).mpr (by omega)
 omega
def gDiv(i j:Int):Option D:=if 0<j/\j<2 ^ 64 then some (.int (i / j)) else none
theorem zqv:OpD X (binaryOp .FloorDiv) (oII gDiv):=.int znj λi j d h=>by
 unfold gDiv at h
 split at h
 ·rename_i c
  cases h;exact ⟨c,λ_=>.int _⟩
 ·cases h
def gPow(i j:Int):Option D:=if 0<=j/\j<=1000000/\i.natAbs<2 ^ 64 then some (.int (i ^ j.toNat)) else none
theorem zqw:OpD X (binaryOp .Pow) (oII gPow):=.int zqf λi j d h=>by
 unfold gPow at h
 split at h
 ·rename_i c
  cases h;exact ⟨c,λ_=>.int _⟩
 ·cases h
theorem lim:(1000000:Nat)<=sizeLine:=by decide
def znk:D->D->Option D
 |.str x,.str y=>if x.length+y.length<=1000000 then some (.str (x++y)) else none
 |_,_=>none
theorem zo4:OpD X (binaryOp .Add) znk:=by
 refine ⟨_,zjX,λv u G H x y d Q s rx ry e k=>?_⟩;unfold znk at e
 split at e
 ·split at e
  ·rename_i c
   cases e;exact ⟨_,_,rx.str_inv,ry.str_inv,QO c lim,k _ G H (.refl s) (.str _)⟩
  ·cases e
 ·cases e
def zrB(K:Frag):R2:=λx y H Q=>∃l b xs zs,x=.ref l/\y=.ref b/\SqL K H l xs/\SqL K H b zs/\xs.length+zs.length<=sizeLine/\∀p,H p=none->Q (.ref p) (upd H p (.lst (xs++zs)))
theorem zo5:OpR X (binaryOp .Add) (zrB X.K):=by
 intro pins s σ H x y v u Q I rx ry h;obtain ⟨l,b,xs,zs,rfl,rfl,hH,hB,hz,q⟩:=h;cases rx;cases ry;obtain ⟨its,r,⟨⟨c1,d1,t1,s1⟩,n1,e1,ec1,ed1,et1⟩,z1⟩:=I.list hH;obtain ⟨its2,r2,⟨⟨c2,d2,t2,s2⟩,n2,e2,ec2,ed2,et2⟩,z2⟩:=I.list hB;simp only at ec1 ed1 et1 ec2 ed2 et2;subst ec1 ed1 et1 ec2 ed2 et2;have hl:=r.length;have hl2:=r2.length;refine concat_meets ⟨_,e1,rfl⟩ ⟨_,e2,rfl⟩ noFill_list_add seq_list_add PySem.F.slot_list_add PySem.F.entry_list_add (PySem.F.args_list_add_2 _ _) (list_addW l b its.toArray its2.toArray n1 n2 none none s1 s2 (by rw[QH,QH];omega)) ⟨e1,e2,?_⟩
 have ea:its.toArray++its2.toArray=(its++its2).toArray:=by simp
 rw[ea];exact ⟨.ref _,_,I.lnew (t':=s.toks) (r.append r2) (by rw[Ql];omega),rfl,q _ I.fresh⟩
theorem zrC(a:Int)(t:Tok)(l:Addr)(items:Array Value)(n:Nat)(sl:Array (Option Value)) :
  Meets (Builtin.«int.__rmul__» ⟨[.int a t,.ref l],[]⟩) (λ_ R s=>s.heap.get? l=some { cls:=.type "list", dict:=none,data:=.seq items n,slots:=sl }/\R (.ok (.ret Value.notImplemented)) s) :=
 .of_wp λprog w A R s h=>by obtain ⟨hp,g,d,tk,os⟩:=s;obtain ⟨hl,h⟩:=h;wp_walk;exact ⟨_,rfl,h⟩
theorem mulW(l:Addr)(items:Array Value)(n:Nat)(x:Int)(u:Tok)(sl:Array (Option Value))(hc0:¬(!Builtin.List.listFitsIndex x)=true)(hc1:¬items.size*x.toNat > (2 ^ 63-1) / 8)(hc2:¬Builtin.List.listTooLong (items.size*x.toNat)=true) :
  Meets (Builtin.«list.__mul__» ⟨[.ref l,.int x u],[]⟩) (λ_ R s=>s.heap.get? l=some { cls:=.type "list", dict:=none,data:=.seq items n,slots:=sl }/\R (.ok (.ret (Value.ref s.heap.objs.size))) { s with heap:=s.heap.push { cls:=Value.type "list", data:=Data.seq (List.foldl (λx1 x2=>x1++x2) #[] (replicate (if items.isEmpty=true then 0 else x.toNat) items)) },toks:=s.toks }) :=
 .of_wp λprog w A R s h=>by
  obtain ⟨hp,g,d,tk,os⟩:=s;obtain ⟨hl,h⟩:=h;have hsz:=AutoListH.joined_fits hc2
  wp_walk;refine wpAny_ite_false (QN (Nat.not_lt.mpr hsz)) ?_;wp_walk;exact ⟨_,rfl,h⟩
def zrD(K:Frag):R2:=λx y H Q=>∃l k xs,x=.ref l/\y=.int k/\SqL K H l xs /\ -(2 ^ 63)<=k/\k<2 ^ 63/\xs.length*k.toNat<=sizeLine /\
 ∀p,H p=none->Q (.ref p) (upd H p (.lst (replicate k.toNat xs).flatten))
theorem zkY:OpR X (binaryOp .Mult) (zrD X.K):=by
 intro pins s σ H x y v u Q I rx ry h;obtain ⟨l,k,xs,rfl,rfl,hH,h1,h2,hz,q⟩:=h;cases rx;obtain ⟨t,rfl⟩:=ry;obtain ⟨its,r,⟨⟨c1,d1,t1,sl⟩,n,e,ec1,ed1,et1⟩,z⟩:=I.list hH;simp only at ec1 ed1 et1;subst ec1 ed1 et1;have hl:=r.length;have hlen:its.toArray.size*k.toNat<=sizeLine:=by rw[QH,←hl];exact hz
 have hcap:¬its.toArray.size*k.toNat > (2 ^ 63-1) / 8:=by
  have:(sizeLine:Nat)<=(2 ^ 63-1) / 8:=by decide
  omega
 have hfit:¬(!Builtin.List.listFitsIndex k)=true:=by
  rw[fitsIndex_both h1 h2];exact JK
 have hlong:¬Builtin.List.listTooLong (its.toArray.size*k.toNat)=true:=by
  rw[zng hlen];exact JK
 have hnew:List.foldl (λx1 x2=>x1++x2) #[] (replicate (if its.toArray.isEmpty=true then 0 else k.toNat) its.toArray)=(replicate k.toNat its).flatten.toArray:=by
  have f0:∀m:Nat,List.foldl (λx1 x2=>x1++x2) #[] (replicate m its.toArray)=(replicate m its).flatten.toArray:=λm=>by
   have:=zg4 its m []
   rw[JC] at this;exact this
  rw[f0]
  cases its with
  |nil=>simp
  |cons a r'=>rw[if_neg (by simp)]
 refine wpAny_binaryOp_repeat_ref (T := "list") (U := "int") (by decide) ⟨_,e,rfl⟩ (λs'=>typeIs_int s' k t) noFill_list_mul F.fills_int_mul F.slot_int_rmul repeat_list F.slot_int_index.lookup
  (call_meets F.slot_int_rmul (typeIs_int s k t) F.entry_int_rmul (F.args_int_rmul_2 _ _) (zrC k t l its.toArray n sl)
   ⟨e,rfl,⟨_,e,rfl⟩,call_meets F.slot_list_mul ⟨_,e,rfl⟩ F.entry_list_mul (F.args_list_mul_2 _ _) (mulW l its.toArray n k t sl hfit hcap hlong) ⟨e,?_⟩⟩)
 rw[hnew];exact ⟨.ref _,_,I.lnew (t':=s.toks) (r.rep k.toNat) (by rw[zo0,Nat.mul_comm];exact hz),rfl,q _ I.fresh⟩
def znl:D->D->Option D
 |.list x,.list y=>if x.length+y.length<=1000000 then some (.list (x++y)) else none
 |_,_=>none
theorem zo6:OpD X (binaryOp .Add) znl:=by
 refine ⟨_,zo5,λv u G H x y d Q s rx ry e k=>?_⟩;unfold znl at e
 split at e
 ·split at e
  ·rename_i c
   cases e;obtain ⟨l,vs,rfl,h1,r1⟩:=rx.lst_inv
   obtain ⟨b,ws,rfl,h2,r2⟩:=ry.lst_inv;refine ⟨l,b,vs,ws,rfl,rfl,s.seq h1,s.seq h2,by rw[r1.length,r2.length];exact QO c lim,λp hp=>k _ _ _ (Ext.new s hp) ?_⟩
   exact .lst (SqL.of zaT) ((r1.append r2).mono (zaX (s.free hp)))
  ·cases e
 ·cases e
theorem Reps.rep{K:Frag}{G:Hp}{vs:List V}{ds:List D}(r:Reps K G vs ds):∀n:Nat,Reps K G (replicate n vs).flatten (replicate n ds).flatten
 |0=>.nil
 |n+1=>by rw[QR,QR,QL,QL];exact r.append (r.rep n)
def znm:D->D->Option D
 |.list x,.int k=>if -1000000<=k/\k<=1000000/\x.length*k.toNat<=1000000 then some (.list (replicate k.toNat x).flatten) else none
 |_,_=>none
theorem zo7:OpD X (binaryOp .Mult) znm:=by
 refine ⟨_,zkY,λv u G H x y d Q s rx ry e k=>?_⟩;unfold znm at e
 split at e
 ·split at e
  ·rename_i c
   cases e;obtain ⟨l,vs,rfl,h1,r1⟩:=rx.lst_inv
   refine ⟨l,_,vs,rfl,ry.int_inv,s.seq h1,by omega,by omega,by rw[r1.length];exact QO c.2.2 lim,λp hp=>k _ _ _ (Ext.new s hp) ?_⟩
   exact .lst (SqL.of zaT) ((r1.rep _).mono (zaX (s.free hp)))
  ·cases e
 ·cases e
def oAdd:D->D->Option D
 |.int i,.int j=>some (.int (i+j))
 |.str x,.str y=>if x.length+y.length<=1000000 then some (.str (x++y)) else none
 |.list x,.list y=>if x.length+y.length<=1000000 then some (.list (x++y)) else none
 |_,_=>none
def oSub:D->D->Option D
 |.int i,.int j=>some (.int (i-j))
 |_,_=>none
def oMul:D->D->Option D
 |.int i,.int j=>gMul i j
 |.list x,.int k=>if -1000000<=k/\k<=1000000/\x.length*k.toNat<=1000000 then some (.list (replicate k.toNat x).flatten) else none
 |_,_=>none
def oMod:D->D->Option D
 |.int i,.int j=>gMod i j
 |_,_=>none
def oDiv:D->D->Option D
 |.int i,.int j=>gDiv i j
 |_,_=>none
def oPow:D->D->Option D
 |.int i,.int j=>gPow i j
 |_,_=>none
theorem OpD.congr{f:Value->Value->Sem Value}{p q:D->D->Option D}(h:OpD X f p)(e:∀x y,q x y=p x y):OpD X f q:=by
 have:q=p:=by funext x y;exact e x y
 rw[this];exact h
theorem zbi:OpD X (binaryOp .Add) oAdd:=(zqs.or (zo4.or zo6)).congr λx y=>by cases x <;> cases y <;> first|rfl|(simp only[oAdd,oII,znk,znl,Option.orElse];done)|(simp only[oAdd,oII,znk,znl,Option.orElse];split <;> rfl)
theorem zdw:OpD X (binaryOp .Sub) oSub:=zqt.congr λx y=>by cases x <;> cases y <;> rfl
theorem zda:OpD X (binaryOp .Mult) oMul:=(zo3.or zo7).congr λx y=>by
 cases x <;> cases y <;> first|rfl|(simp only[oMul,oII,znm,Option.orElse];done)|(simp only[oMul,oII,znm,Option.orElse];split <;> first|rfl|assumption)
theorem zg7:OpD X (binaryOp .Mod) oMod:=zqu.congr λx y=>by cases x <;> cases y <;> rfl
theorem zqx:OpD X (binaryOp .FloorDiv) oDiv:=zqv.congr λx y=>by cases x <;> cases y <;> rfl
theorem zqy:OpD X (binaryOp .Pow) oPow:=zqw.congr λx y=>by cases x <;> cases y <;> rfl
end
section
variable{X:Cx}{B G0:Hp}{e a b c:Expr}{pos:Pos}
def OpB(X:Cx)(f:Value->Value->Sem Value)(op:D->D->Option Bool):Prop :=
 ∃r:R2,OpR X f r/\∀v u G H x y d Q,Same G H->Rep X.K G v x->Rep X.K G u y->op x y=some d->Q (.bl d) H->r v u H Q
theorem OpB.or{f:Value->Value->Sem Value}{p q:D->D->Option Bool}(h:OpB X f p)(h':OpB X f q):OpB X f (λx y=>(p x y).orElse λ_=>q x y):=by
 obtain ⟨r,h1,i1⟩:=h;obtain ⟨r',h2,i2⟩:=h';refine ⟨_,h1.or h2,λv u G H x y d Q s rx ry e k=>?_⟩;dsimp only at e
 cases z:p x y with
 |some d'=>
  rw[z] at e;have e':d'=d:=QY e;subst e';exact .inl (i1 v u G H x y d' Q s rx ry z k)
 |none=>
  rw[z] at e;exact .inr (i2 v u G H x y d Q s rx ry e k)
theorem OpB.congr{f:Value->Value->Sem Value}{p q:D->D->Option Bool}(h:OpB X f p)(e:∀x y,q x y=p x y):OpB X f q:=by
 have:q=p:=by funext x y;exact e x y
 rw[this];exact h
theorem zbj{op:CmpOp}{p:D->D->Option Bool}{f g:M D}(o:OpB X (compareOp op) p)(ha:PE X a (tD X.K B G0 f))(hb:PE X b (tD X.K B G0 g))(hm:behindInMarks op b=false) :
  PT X (.Compare a [op] [b] pos) (tBo X.K B G0 (dBin p f g)):=by
 obtain ⟨r,h,i⟩:=o;refine ptof (zia h ha hb hm) λσ H Q q=>?_;refine tM.two q λv u H2 G Z x y k rx ry a=>?_;obtain ⟨d,e,a⟩:=a.opt;exact i v u G H2 x y d _ k.gh rx ry e ⟨d,rfl,a.now k rfl⟩
def mMap{α β:Type}(h:α->β)(f:M α):M β:=zau f λx=>zah (h x)
theorem tM.map{K:Frag}{α β γ δ:Type}{R:Hp->γ->α->Prop}{S:Hp->δ->β->Prop}{σ:St}{H:Hp}{h:α->β}{f:M α}{Q:δ->Hp->Prop}(j:γ->δ)(q:tM K B G0 S (mMap h f) σ H Q)
  (i:∀G v x,R G v x->S G (j v) (h x)):tM K B G0 R f σ H (λv H'=>Q (j v) H') :=
 tM.one (R:=R) (f:=f) q λv H2 G Z x k r a=>aft.now (show aft K B G0 S (.ok (h x) Z) G σ Q from a) k (i G v x r)
theorem tBo.val{K:Frag}{σ:St}{H:Hp}{f:M Bool}{Q:VK}(q:tD K B G0 (mMap PyData.bool f) σ H Q):tBo K B G0 f σ H (λb H'=>Q (.bl b) H') :=
 tM.map (R:=λ_ b c=>b=c) V.bl q λG v x e=>by rw[e];exact .bl x
theorem ze6{op:CmpOp}{p:D->D->Option Bool}{f g:M D}(o:OpB X (compareOp op) p)(ha:PE X a (tD X.K B G0 f))(hb:PE X b (tD X.K B G0 g))(hm:behindInMarks op b=false) :
  PE X (.Compare a [op] [b] pos) (tD X.K B G0 (mMap PyData.bool (dBin p f g))):=by
 obtain ⟨r,h,i⟩:=o;refine peof (zkN h ha hb hm) λσ H Q q=>?_;refine tM.two (tBo.val q) λv u H2 G Z x y k rx ry a=>?_;obtain ⟨d,e,a⟩:=a.opt;exact i v u G H2 x y d _ k.gh rx ry e (a.now k rfl)
def ze7(p q:D->D->Option Bool)(f g h:M D):M Bool:=zau f λx=>zau g λy=>zau (mOpt (p x y)) λt=>if t=true then zau h λz=>mOpt (q y z) else zah false
theorem zg8{op op':CmpOp}{p q:D->D->Option Bool}{f g h:M D}(o:OpB X (compareOp op) p)(o':OpB X (compareOp op') q)(ha:PE X a (tD X.K B G0 f))(hb:PE X b (tD X.K B G0 g))(hc:PE X c (tD X.K B G0 h))
  (hm:lastMarks [op,op'] [b,c]=false:=by with_unfolding_all rfl):PT X (.Compare a [op,op'] [b,c] pos) (tBo X.K B G0 (ze7 p q f g h)):=by
 obtain ⟨r,h1,i⟩:=o;obtain ⟨r',h2,i'⟩:=o';refine ptof (znb h1 h2 ha hb hc hm) λσ H Q w=>?_;refine tM.two w λv u H2 G Z x y k rx ry a=>?_
 cases z:p x y with
 |none=>rw[z] at a;exact a.elim
 |some t=>
  rw[z] at a;refine i v u G H2 x y t _ k.gh rx ry z ⟨t,rfl,?_⟩
  cases t with
  |false=>
   rw[Qy JK];exact ⟨false,rfl,aft.now a k rfl⟩
  |true=>
   rw[Qm rfl];refine ⟨G,Z,k,?_⟩;have a4:aft X.K B G0 (λ_ (b:Bool) c=>b=c) ((zau h λz=>mOpt (q y z)) Z) G σ Q:=a;unfold zau at a4
   cases z2:h Z with
   |bad=>rw[z2] at a4;exact a4.elim
   |ok d Z1=>
    rw[z2] at a4;intro w G5 H5 k5 s5 r5;obtain ⟨t2,e2,a6⟩:=a4.opt;exact i' u w G5 H5 y d t2 _ k5.gh (ry.mono s5) r5 e2 ⟨t2,rfl,a6 t2 G5 H5 k5 s5 rfl⟩
theorem zkZ{op op':CmpOp}{p q:D->D->Option Bool}{f g h:M D}(o:OpB X (compareOp op) p)(o':OpB X (compareOp op') q)(ha:PE X a (tD X.K B G0 f))(hb:PE X b (tD X.K B G0 g))(hc:PE X c (tD X.K B G0 h))
  (hm:lastMarks [op,op'] [b,c]=false:=by with_unfolding_all rfl):PE X (.Compare a [op,op'] [b,c] pos) (tD X.K B G0 (mMap PyData.bool (ze7 p q f g h))):=by
 obtain ⟨r,h1,i⟩:=o;obtain ⟨r',h2,i'⟩:=o';refine peof (zna h1 h2 ha hb hc hm) λσ H Q w=>?_;refine tM.two (tBo.val w) λv u H2 G Z x y k rx ry a=>?_
 cases z:p x y with
 |none=>rw[z] at a;exact a.elim
 |some t=>
  rw[z] at a;refine i v u G H2 x y t _ k.gh rx ry z ⟨t,rfl,?_⟩
  cases t with
  |false=>
   rw[Qy JK];exact aft.now (v:=false) a k rfl
  |true=>
   rw[Qm rfl];refine ⟨G,Z,k,?_⟩;have a4:aft X.K B G0 (λ_ (b:Bool) c=>b=c) ((zau h λz=>mOpt (q y z)) Z) G σ (λb H'=>Q (.bl b) H'):=a;unfold zau at a4
   cases z2:h Z with
   |bad=>rw[z2] at a4;exact a4.elim
   |ok d Z1=>
    rw[z2] at a4;intro w G5 H5 k5 s5 r5;obtain ⟨t2,e2,a6⟩:=a4.opt;exact i' u w G5 H5 y d t2 _ k5.gh (ry.mono s5) r5 e2 (a6 t2 G5 H5 k5 s5 rfl)
def oIB(g:Int->Int->Bool):D->D->Option Bool
 |.int i,.int j=>some (g i j)
 |_,_=>none
theorem OpB.int{f:Value->Value->Sem Value}{g:Int->Int->Bool}(h:OpR X f (rI0 λi j=>.bl (g i j))):OpB X f (oIB g):=by
 refine ⟨_,h,λv u G H x y d Q s rx ry e k=>?_⟩;unfold oIB at e
 split at e
 ·cases e
  exact ⟨_,_,rx.int_inv,ry.int_inv,k⟩
 ·cases e
theorem B_lt:OpB X (compareOp .Lt) (oIB λi j=>decide (i<j)):=.int zro
theorem B_le:OpB X (compareOp .LtE) (oIB λi j=>decide (i<=j)):=.int zrp
theorem B_gt:OpB X (compareOp .Gt) (oIB λi j=>decide (j<i)):=.int zrq
theorem B_ge:OpB X (compareOp .GtE) (oIB λi j=>decide (j<=i)):=.int zrr
mutual
theorem zbx{pins:List (Addr×Obj)}{s:Shared}{σ:St}{G H:Hp}(I:Inv X pins σ H s)(sg:Same G H):∀{v:V}{d:D}{u:Value},Rep X.K G v d->RelV v u->d.canLay0=true->∃as,Reads s.heap u d as
 |_,_,_,.non,r,_=>by cases r;exact ⟨_,.none⟩
 |_,_,_,.bl b,r,_=>by cases r;exact ⟨_,.bool b⟩
 |_,_,_,.int i,r,_=>by obtain ⟨t,rfl⟩:=r;exact ⟨_,.int i t⟩
 |_,_,_,.str x,r,_=>by obtain ⟨t,rfl⟩:=r;exact ⟨_,.str x t⟩
 |_,_,_,.lst h q,r,c=>by
  cases r;obtain ⟨its,rv,⟨o,n,e,hc,_,hd⟩,hz⟩:=I.list (sg.seq h)
  obtain ⟨as,ra⟩:=readsAll_of I sg q rv (show PyData.canLayAll0 _=true by simpa[PyData.canLay0] using c)
  exact ⟨_,.list e hc hd (by simpa using ra)⟩
 |_,_,_,.tup h q,r,c=>by
  cases r;obtain ⟨its,rv,p,hz⟩:=I.tuple (zdJ sg h)
  obtain ⟨o,e,hc,n,hd⟩:=p;obtain ⟨as,ra⟩:=readsAll_of I sg q rv (show PyData.canLayAll0 _=true by simpa[PyData.canLay0] using c)
  exact ⟨_,.tuple e hc hd (by simpa using ra)⟩
 |_,_,_,.dic h,r,c=>by simp[PyData.canLay0] at c
 |_,_,_,.exc _ _ _ _,r,c=>by simp[PyData.canLay0] at c
 |_,_,_,.dct _ _ _ _ _,r,c=>by simp[PyData.canLay0] at c
 |_,_,_,.dtt _ _ _ _,r,c=>by simp[PyData.canLay0] at c
theorem readsAll_of{pins:List (Addr×Obj)}{s:Shared}{σ:St}{G H:Hp}(I:Inv X pins σ H s)(sg:Same G H):∀{vs:List V}{ds:List D}{us:List Value},Reps X.K G vs ds->Vals vs us->PyData.canLayAll0 ds=true->∃as,ReadsAll s.heap us ds as
 |_,_,_,.nil,r,_=>by cases r;exact ⟨_,.nil⟩
 |_,_,_,.cons h t,r,c=>by
  cases r with
  |cons r1 r2=>
   have c':=c;rw[PyData.canLayAll0,Ja] at c';obtain ⟨as,ra⟩:=zbx I sg h r1 c'.1;obtain ⟨bs,rb⟩:=readsAll_of I sg t r2 c'.2;exact ⟨_,.cons ra rb⟩
end
def oEq(x y:D):Option Bool:=if x.canLay0=true/\y.canLay0=true/\x.depth<=60 then some (PyData.eqv x y) else none
def oNe(x y:D):Option Bool:=if x.canLay0=true/\y.canLay0=true/\x.depth<=60 then some (!PyData.eqv x y) else none
theorem B_eq(hu:X.A.units+64<cLine):OpB X (compareOp .Eq) oEq:=by
 refine ⟨λv u H Q=>∃G x y d,Same G H/\Rep X.K G v x/\Rep X.K G u y/\oEq x y=some d/\Q (.bl d) H,?_,λv u G H x y d Q s rx ry e k=>⟨G,x,y,d,s,rx,ry,e,k⟩⟩;intro pins s σ H x y v u Q I rx ry ⟨G,dx,dy,d,sg,px,py,e,q⟩;unfold oEq at e
 split at e
 ·rename_i c
  cases e;obtain ⟨as,ra⟩:=zbx I sg px rx c.1
  obtain ⟨bs,rb⟩:=zbx I sg py ry c.2.1;exact SeqAt.compareEq_reads ra rb c.1 c.2.1 (by have:=c.2.2;omega) ⟨.bl _,H,I,rfl,q⟩
 ·cases e
theorem B_ne(hu:X.A.units+64<cLine):OpB X (compareOp .NotEq) oNe:=by
 refine ⟨λv u H Q=>∃G x y d,Same G H/\Rep X.K G v x/\Rep X.K G u y/\oNe x y=some d/\Q (.bl d) H,?_,λv u G H x y d Q s rx ry e k=>⟨G,x,y,d,s,rx,ry,e,k⟩⟩;intro pins s σ H x y v u Q I rx ry ⟨G,dx,dy,d,sg,px,py,e,q⟩;unfold oNe at e
 split at e
 ·rename_i c
  cases e;obtain ⟨as,ra⟩:=zbx I sg px rx c.1
  obtain ⟨bs,rb⟩:=zbx I sg py ry c.2.1;exact SeqAt.compareNe_reads ra rb c.1 c.2.1 (by have:=c.2.2;omega) ⟨.bl _,H,I,rfl,q⟩
 ·cases e
def isNon:D->Bool
 |.none=>true
 |_=>false
theorem Rep.isNon{K:Frag}{G:Hp}{v:V}{d:D}(r:Rep K G v d):DL.isNon d=decide (v=.non):=by
 cases r <;> simp[DL.isNon]
end
section
variable{X:Cx}{B G0:Hp}{e a b c:Expr}{pos:Pos}{es rest:List Expr}
theorem tM.nx{K:Frag}{α β γ δ:Type}{R:Hp->γ->α->Prop}{S:Hp->δ->β->Prop}{σ:St}{G H:Hp}{Z:DEnv}{f:M α}{g:α->M β}{Q:δ->Hp->Prop}{P:γ->Hp->Prop}
  (k:EOk K B G0 G H σ Z) (a:aft K B G0 S (zau f g Z) G σ Q) (i:∀v H' G' Z' x,EOk K B G0 G' H' σ Z'->Same G G'->R G' v x->aft K B G0 S (g x Z') G' σ Q->P v H'):tM K B G0 R f σ H P:=by
 refine ⟨G,Z,k,?_⟩;unfold zau at a
 cases q:f Z with
 |bad=>rw[q] at a;exact a.elim
 |ok d Z1=>
  rw[q] at a;exact λv G' H' e s r=>i v H' G' Z1 d e s r (aft.mono s a)
def mAnd(f g:M Bool):M Bool:=zau f λt=>if t=true then g else zah false
def mOr(f g:M Bool):M Bool:=zau f λt=>if t=true then zah true else g
def mNot(f:M Bool):M Bool:=mMap (λt=>!t) f
theorem zo8{K:Frag}{f g:M Bool}{σ:St}{H:Hp}{Q:Bool->Hp->Prop}(q:tBo K B G0 (mAnd f g) σ H Q):tAnd (tBo K B G0 f) (tBo K B G0 g) σ H Q :=
 tM.one (R:=λ_ b c=>b=c) q λv H2 G Z x k r a=>by
  have r:v=x:=r;subst r
  cases v with
  |true=>exact ⟨G,Z,k,a⟩
  |false=>exact aft.now (v:=false) a k rfl
theorem zqz{K:Frag}{f g:M Bool}{σ:St}{H:Hp}{Q:Bool->Hp->Prop}(q:tBo K B G0 (mOr f g) σ H Q):tOr (tBo K B G0 f) (tBo K B G0 g) σ H Q :=
 tM.one (R:=λ_ b c=>b=c) q λv H2 G Z x k r a=>by
  have r:v=x:=r;subst r
  cases v with
  |false=>exact ⟨G,Z,k,a⟩
  |true=>exact aft.now (v:=true) a k rfl
theorem pwof{t t':TT}(h:PW X e t)(i:∀σ H Q,t' σ H Q->t σ H Q):PW X e t':=λwh pins s σ H Q I q=>h wh pins s σ H Q I (i σ H Q q)
theorem zeT{f:M Bool}(ha:PT X a (tBo X.K B G0 f)):PW X (.BoolOp .And [a] pos) (tBo X.K B G0 f):=zoK ha
theorem zcp{f:M Bool}(ha:PT X a (tBo X.K B G0 f)):PW X (.BoolOp .Or [a] pos) (tBo X.K B G0 f):=zpX ha
theorem zgj{f g:M Bool}(ha:PT X a (tBo X.K B G0 f))(hb:PW X (.BoolOp .And (b::rest) pos) (tBo X.K B G0 g)):PW X (.BoolOp .And (a::b::rest) pos) (tBo X.K B G0 (mAnd f g)):=pwof (zpY ha hb) λ_ _ _ q=>zo8 q
theorem zcS{f g:M Bool}(ha:PT X a (tBo X.K B G0 f))(hb:PW X (.BoolOp .Or (b::rest) pos) (tBo X.K B G0 g)):PW X (.BoolOp .Or (a::b::rest) pos) (tBo X.K B G0 (mOr f g)):=pwof (zrc ha hb) λ_ _ _ q=>zqz q
theorem zbd{f:M Bool}(ha:PT X a (tBo X.K B G0 f)):PT X (.UnaryOp .Not a pos) (tBo X.K B G0 (mNot f)):=ptof (zpZ ha) λσ H Q q=>tM.map (R:=λ_ b c=>b=c) (λt=>!t) q λ_ v x e=>by rw[e]
def zbE(f:M D):M Bool:=zau f λx=>match x with | .bool t=>zah t|_=>λ_=>.bad
theorem zbn{f:M D}(h:PE X e (tD X.K B G0 f))(he:∀whole,isTrue e X.env whole=(do let v ←whole;standAt e.pos;holding [v] (truthy v)):=by intro _;rfl):PT X e (tBo X.K B G0 (zbE f)) :=
 ptof (zpW h he) λσ H Q q=>tM.one (R:=Rep X.K) q λv H2 G Z x k r a=>by
  cases x with
  |bool t=>exact ⟨t,r.bl_inv,aft.now (v:=t) a k rfl⟩
  |_=>exact a.elim
def zie(f g:M D):M D:=zau f λx=>match x with | .bool true=>g | .bool false=>zah (.bool false)|_=>λ_=>.bad
def mOrV(f g:M D):M D:=zau f λx=>match x with | .bool true=>zah (.bool true) | .bool false=>g|_=>λ_=>.bad
def zk0(f:M D):M D:=zau f λx=>match x with | .bool t=>zah (.bool (!t))|_=>λ_=>.bad
theorem zgk{f g:M D}(ha:PE X a (tD X.K B G0 f))(hb:PE X (.BoolOp .And (b::rest) pos) (tD X.K B G0 g)):PE X (.BoolOp .And (a::b::rest) pos) (tD X.K B G0 (zie f g)) :=
 peof (zp1 ha hb) λσ H Q q=>tM.one (R:=Rep X.K) q λv H2 G Z x k r a=>by
  cases x with
  |bool t=>
   refine ⟨t,r.bl_inv,?_⟩
   cases t with
   |true=>exact ⟨G,Z,k,a⟩
   |false=>exact aft.now a k (.bl false)
  |_=>exact a.elim
theorem zop{f g:M D}(ha:PE X a (tD X.K B G0 f))(hb:PE X (.BoolOp .Or (b::rest) pos) (tD X.K B G0 g)):PE X (.BoolOp .Or (a::b::rest) pos) (tD X.K B G0 (mOrV f g)) :=
 peof (zrf ha hb) λσ H Q q=>tM.one (R:=Rep X.K) q λv H2 G Z x k r a=>by
  cases x with
  |bool t=>
   refine ⟨t,r.bl_inv,?_⟩
   cases t with
   |false=>exact ⟨G,Z,k,a⟩
   |true=>exact aft.now a k (.bl true)
  |_=>exact a.elim
theorem zef{op}{f:M D}(h:PE X a (tD X.K B G0 f)):PE X (.BoolOp op [a] pos) (tD X.K B G0 f):=zp0 h
theorem zk1{f:M D}(ha:PE X a (tD X.K B G0 f)):PE X (.UnaryOp .Not a pos) (tD X.K B G0 (zk0 f)) :=
 peof (zp2 ha) λσ H Q q=>tM.one (R:=Rep X.K) q λv H2 G Z x k r a=>by
  cases x with
  |bool t=>exact ⟨t,r.bl_inv,aft.now a k (.bl _)⟩
  |_=>exact a.elim
def mIf{α:Type}(f:M Bool)(g h:M α):M α:=zau f λt=>if t=true then g else h
theorem ze8{f:M Bool}{g h:M D}(hc:PT X c (tBo X.K B G0 f))(ha:PE X a (tD X.K B G0 g))(hb:PE X b (tD X.K B G0 h)):PE X (.IfExp c a b pos) (tD X.K B G0 (mIf f g h)) :=
 peof (zm5 hc ha hb) λσ H Q q=>tM.one (R:=λ_ b c=>b=c) q λv H2 G Z x k r a=>by
  have r:v=x:=r;subst r
  cases v with
  |true=>exact ⟨G,Z,k,a⟩
  |false=>exact ⟨G,Z,k,a⟩
theorem zif{f:M D}{j p2}(ha:PE X a (tD X.K B G0 f)):PT X (.Compare a [.Is] [.Constant .none j p2] pos) (tBo X.K B G0 (mMap isNon f)) :=
 ptof (zoj (zoi ha)) λσ H Q q=>tM.one (R:=Rep X.K) q λv H2 G Z x k r a=>⟨_,rfl,aft.now a k (by rw[r.isNon])⟩
theorem zc3{f:M D}{j p2}(ha:PE X a (tD X.K B G0 f)):PT X (.Compare a [.IsNot] [.Constant .none j p2] pos) (tBo X.K B G0 (mMap (λd=>!isNon d) f)) :=
 ptof (zoj (zoJ ha)) λσ H Q q=>tM.one (R:=Rep X.K) q λv H2 G Z x k r a=>⟨_,rfl,aft.now a k (by dsimp only;rw[r.isNon])⟩
theorem zo9{f:M D}{j p2}(ha:PE X a (tD X.K B G0 f)):PE X (.Compare a [.Is] [.Constant .none j p2] pos) (tD X.K B G0 (mMap (λd=>.bool (isNon d)) f)) :=
 peof (zpV (zoi ha)) λσ H Q q=>tM.one (R:=Rep X.K) q λv H2 G Z x k r a=>aft.now a k (by dsimp only;rw[r.isNon];exact .bl _)
def mNil:M (List D):=zah []
def zae(f:M D)(g:M (List D)):M (List D):=zau f λx=>zau g λxs=>zah (x::xs)
theorem zaf:PA X [] (tDs X.K B G0 mNil):=paof zfN λσ H Q ⟨G,Z,k,a⟩=>aft.now a k .nil
theorem tM.twoA{K:Frag}{σ:St}{H:Hp}{f:M D}{g:M (List D)}{β δ:Type}{S:Hp->δ->β->Prop}{k:D->List D->M β}{Q:δ->Hp->Prop}{P:V->List V->Hp->Prop}
  (h:tM K B G0 S (zau f λx=>zau g λy=>k x y) σ H Q)
  (i:∀v u H2 G Z x y,EOk K B G0 G H2 σ Z->Rep K G v x->Reps K G u y->aft K B G0 S (k x y Z) G σ Q->P v u H2) :
  tD K B G0 f σ H (λv H1=>tDs K B G0 g σ H1 λu H2=>P v u H2):=by
 obtain ⟨G,Z,e,a⟩:=tM.bind2 (R:=Rep K) (R':=Reps K) zkW h;refine ⟨G,Z,e,?_⟩
 cases q:f Z with
 |bad=>rw[q] at a;exact a.elim
 |ok d Z1=>
  rw[q] at a;intro v G' H' e' s r;obtain ⟨x,G2,Z2,e2,a2⟩:=a v G' H' e' s r;refine ⟨G2,Z2,e2,?_⟩
  cases q2:g Z2 with
  |bad=>rw[q2] at a2;exact a2.elim
  |ok d3 Z3=>
   rw[q2] at a2;intro u G3 H3 e3 s3 r3;obtain ⟨G4,Z4,y,e4,r4,r5,a5⟩:=a2 u G3 H3 e3 s3 r3;exact i v u H3 G4 Z4 x y e4 r4 r5 a5
theorem zaa{f:M D}{g:M (List D)}(ha:PE X e (tD X.K B G0 f))(hr:PA X es (tDs X.K B G0 g))(hs:starEach (e::es) X.env=(false,eval e X.env)::starEach es X.env:=by rfl) :
  PA X (e::es) (tDs X.K B G0 (zae f g)):=paof (zdF ha hr hs) λσ H Q q=>tM.twoA q λv u H2 G Z x y k r1 r2 a=>aft.now a k (.cons r1 r2)
def mTup(f:M (List D)):M D:=zau f λxs=>if xs.length<=1000000 then zah (.tuple xs) else λ_=>.bad
def mLst(f:M (List D)):M D:=zau f λxs=>if xs.length<=1000000 then zah (.list xs) else λ_=>.bad
theorem zbG{x1}{f:M (List D)}(h:PA X es (tDs X.K B G0 f)):PE X (.Tuple es x1 pos) (tD X.K B G0 (mTup f)) :=
 peof (zqj h) λσ H Q q=>tM.one (R:=Reps X.K) q λv H2 G Z x k r a=>by
  split at a
  ·rename_i c
   refine ⟨by rw[r.length];exact QO c lim,λp hp=>?_⟩
   exact aft.done a k (Ext.new k.gh hp) (.tup (SqT.of zaT) (r.mono (zaX (k.gh.free hp))))
  ·exact a.elim
theorem za5{f:M (List D)}(h:PA X es (tDs X.K B G0 f)):PE X (.List es pos) (tD X.K B G0 (mLst f)) :=
 peof (zon h) λσ H Q q=>tM.one (R:=Reps X.K) q λv H2 G Z x k r a=>by
  split at a
  ·rename_i c
   refine ⟨by rw[r.length];exact QO c lim,λp hp=>?_⟩
   exact aft.done a k (Ext.new k.gh hp) (.lst (SqL.of zaT) (r.mono (zaX (k.gh.free hp))))
  ·exact a.elim
def oIx:D->D->Option D
 |.list xs,.int i=>atI xs i
 |.tuple xs,.int i=>atI xs i
 |.str z,.int i=>if z.length<=1000000 then (atI z.cps.toList i).map λc=>.str ⟨#[c]⟩ else none
 |_,_=>none
theorem Reps.atI{K:Frag}{G:Hp}{vs:List V}{ds:List D}{i:Int}{d:D}(r:Reps K G vs ds)(h:L2.atI ds i=some d):∃v,L2.atI vs i=some v/\Rep K G v d:=by
 unfold L2.atI at h ⊢;rw[r.length]
 cases z:ixN ds.length i with
 |none=>rw[z] at h;cases h
 |some j=>
  rw[z] at h;exact r.get (i:=j) h
theorem zoq{K:Frag}{v u:V}{G H:Hp}{x y d:D}{Q:VK}(s:Same G H)(rx:Rep K G v x)(ry:Rep K G u y)(e:oIx x y=some d)(k:∀w,Rep K G w d->Q w H):rIx K v u H Q:=by
 unfold oIx at e
 split at e
 ·obtain ⟨l,vs,rfl,h1,r1⟩:=rx.lst_inv
  obtain ⟨w,e1,r2⟩:=r1.atI e;exact .inl ⟨l,vs,_,w,rfl,ry.int_inv,s.seq h1,e1,k w r2⟩
 ·obtain ⟨l,vs,rfl,h1,r1⟩:=rx.tup_inv
  obtain ⟨w,e1,r2⟩:=r1.atI e;exact .inr (.inl ⟨l,vs,_,w,rfl,ry.int_inv,zdJ s h1,e1,k w r2⟩)
 ·split at e
  ·rename_i z i hz
   cases q:L2.atI z.cps.toList i with
   |none=>rw[q] at e;cases e
   |some ch=>
    rw[q] at e;cases e;exact .inr (.inr ⟨z,i,ch,rx.str_inv,ry.int_inv,QO hz lim,q,k _ (.str _)⟩)
  ·cases e
 ·cases e
theorem zdd{f g:M D}(ha:PE X a (tD X.K B G0 f))(hb:PE X b (tD X.K B G0 g))(hs:zid b):PE X (.Subscript a b pos) (tD X.K B G0 (dBin oIx f g)) :=
 peof (zql zoo ha hb hs) λσ H Q q=>tM.two q λv u H2 G Z x y k rx ry a=>by
  obtain ⟨d,e,a⟩:=a.opt;exact zoq k.gh rx ry e λw r=>a.now k r
def dIxN(i:Nat)(g:M D):M D:=λZ=>match Z[i]? with
 |some (some (.pub d))=>(zau g λy=>mOpt (oIx d y)) Z
 |some (some (.own _))=>(zau g λy=>λZ'=>match Z'[i]? with|some (some (.own ds))=>mOpt (oIx (.list ds) y) Z'|_=>.bad) Z
 |_=>.bad
theorem zat{i:Nat}{g:M D}(ha:PE X a (tVar i))(hb:PE X b (tD X.K B G0 g))(hs:zid b):PE X (.Subscript a b pos) (tD X.K B G0 (dIxN i g)) :=
 peof (zql zoo ha hb hs) λσ H Q ⟨G,Z,k,a⟩=>by
  unfold dIxN at a
  cases q:Z[i]? with
  |none=>rw[q] at a;exact a.elim
  |some o=>
   cases o with
   |none=>rw[q] at a;exact a.elim
   |some sl=>
    cases sl with
    |deep _ _=>rw[q] at a;exact a.elim
    |pub d=>
     rw[q] at a;obtain ⟨v,h1,h2⟩:=k.pub i d q;refine ⟨v,h1,G,Z,k,?_⟩;dsimp only[zau] at a
     cases z:g Z with
     |bad=>rw[z] at a;exact a.elim
     |ok y Z1=>
      rw[z] at a;intro u G' H' k' s' r';obtain ⟨d',e',a'⟩:=aft.opt a;exact zoq k'.gh (h2.mono s') r' e' λw r=>a' w G' H' k' s' r
    |own ds=>
     rw[q] at a;obtain ⟨ad,vs,h1,h2,h3,h4,h5⟩:=k.own i ds q;refine ⟨.ref ad,h1,G,Z,k,?_⟩;dsimp only[zau] at a
     cases z:g Z with
     |bad=>rw[z] at a;exact a.elim
     |ok y Z1=>
      rw[z] at a;dsimp only at a;intro u G' H' k' s' r'
      cases z2:Z1[i]? with
      |none=>rw[z2] at a;exact a.elim
      |some o2=>
       cases o2 with
       |none=>rw[z2] at a;exact a.elim
       |some sl2=>
        cases sl2 with
        |deep _ _=>rw[z2] at a;exact a.elim
        |pub d2=>rw[z2] at a;exact a.elim
        |own es2=>
         rw[z2] at a;obtain ⟨d',e',a'⟩:=aft.opt a;obtain ⟨ad',vs',g1,g2,g3,g4,g5⟩:=k'.own i es2 z2;rw[h1] at g1;cases g1;unfold oIx at e'
         cases y with
         |int j=>
          obtain ⟨w,e1,r2⟩:=g5.atI e';exact .inl ⟨ad,vs',j,w,rfl,r'.int_inv,SqL.of g4,e1,a' w G' H' k' s' r2⟩
         |_=>cases e'
def cutD(xs:List D)(lo hi:Option Int):List D:=(xs.drop (HT.sIx xs.length 0 lo)).take (HT.sIx xs.length xs.length hi-HT.sIx xs.length 0 lo)
theorem Reps.cut{K:Frag}{G:Hp}{vs:List V}{ds:List D}(r:Reps K G vs ds)(lo hi:Option Int):Reps K G (cutV vs lo hi) (cutD ds lo hi):=by
 unfold cutV cutD;rw[r.length];exact (r.drop _).take _
def zc4:D->Option (Option Int)
 |.int i=>some (some i)
 |_=>none
theorem zdq:PO X none (tOi X.K B G0 (zah none)):=poof zoU λσ H Q ⟨G,Z,k,a⟩=>aft.now a k rfl
theorem zby{f:M D}(h:PE X e (tD X.K B G0 f)):PO X (some e) (tOi X.K B G0 (zau f λx=>mOpt (zc4 x))):=poof (zoV h) λσ H Q q=>tM.one (R:=Rep X.K) q λv H2 G Z x k r a=>by
 cases x with
 |int i=>exact ⟨i,r.int_inv,aft.now (v:=some i) a k rfl⟩
 |_=>exact a.elim
end
def excK:List (D×D)->Bool
 |(.none,_)::_=>true
 |_=>false
def tyOf:D->String
 |.none=> "NoneType"
 |.bool _=> "bool"
 |.int _=> "int"
 |.str _=> "str"
 |.list _=> "list"
 |.tuple _=> "tuple"
 |.dict kvs=>if excK kvs=true then "" else "dict"
def isTy(d:D)(c:String):Bool:=tyOf d==c || (tyOf d == "bool" && c == "int")
def zk2:D->Bool
 |.dict kvs=>excK kvs
 |_=>false
theorem zor{ks:List Key}{ds:List D}:tyOf (.dict ((ks.map kD).zip ds)) = "dict" /\ zk2 (.dict ((ks.map kD).zip ds))=false:=by
 cases ks with
 |nil=>exact ⟨rfl,rfl⟩
 |cons k ks=>
  cases ds with
  |nil=>exact ⟨rfl,rfl⟩
  |cons d ds=>cases k <;> exact ⟨rfl,rfl⟩
theorem zpa(K:Frag)(d:D)(c:String)(nx:zk2 d=false)(hc:c = "int" ∨ c = "bool" ∨ c = "str" ∨ c = "list" ∨ c = "tuple" ∨ c = "dict"):PySem.W.kitOne K (.type (tyOf d)) (.type c)=some (isTy d c):=by
 cases d with
 |dict kvs=>
  have e:tyOf (.dict kvs) = "dict" := by
   have nx:excK kvs=false:=nx
   show (if excK kvs=true then "" else "dict")=_
   rw[nx];rfl
  unfold isTy;rw[e];rcases hc with rfl|rfl|rfl|rfl|rfl|rfl <;> rfl
 |_=>rcases hc with rfl|rfl|rfl|rfl|rfl|rfl <;> rfl
section
variable{X:Cx}{B G0:Hp}{e a b c:Expr}{pos:Pos}{es rest:List Expr}
def zdx(X:Cx)(f:Value)(p:List D->Option D):Prop :=
 ∃r,zdb X f r/\∀vs G H ds d Q,Same G H->Reps X.K G vs ds->p ds=some d->(∀w G' H',Ext G H G' H'->Rep X.K G' w d->Q w H')->r vs H Q
def zbH(p:List D->Option D)(f:M (List D)):M D:=zau f λxs=>mOpt (p xs)
theorem zaF{x:Str}{p2:Pos}{id:String}{p:List D->Option D}{f:M (List D)}(hc:zdx X (.builtin id) p)(hg:Gl X x)(hm:X.mg x=none)(hv:bootBuiltins x=some (.builtin id))(ha:PA X (e::es) (tDs X.K B G0 f))(hn:x ≠ "__name__" := by decide)(hdb:(x==("__debug__" : Str))=false:=by decide)
  (he:starEach (e::es) X.env=(false,eval e X.env)::starEach es X.env:=by rfl) (hpl:(backTo pos (starEach es X.env)).any (·.1)=false:=by rfl):PE X (.Call (.Name x p2) (e::es) [] pos) (tD X.K B G0 (zbH p f)):=by
 obtain ⟨r,h,i⟩:=hc;refine peof (zeS h hg hm hv ha hn hdb he hpl) λσ H Q q=>tM.one (R:=Reps X.K) q λv H2 G Z x k rr a=>?_;obtain ⟨d,e,a⟩:=a.opt;exact i v G H2 x d Q k.gh rr e λw G' H' ex rw=>a.done k ex rw
theorem zj0{x:Str}{p2:Pos}{T:String}{p:List D->Option D}{f:M (List D)}(hc:zdx X (.type T) p)(hg:Gl X x)(hm:X.mg x=none)(hv:bootBuiltins x=some (.type T))(ha:PA X (e::es) (tDs X.K B G0 f))(hn:x ≠ "__name__" := by decide)(hdb:(x==("__debug__" : Str))=false:=by decide)
  (he:starEach (e::es) X.env=(false,eval e X.env)::starEach es X.env:=by rfl) (hpl:(backTo pos (starEach es X.env)).any (·.1)=false:=by rfl):PE X (.Call (.Name x p2) (e::es) [] pos) (tD X.K B G0 (zbH p f)):=by
 obtain ⟨r,h,i⟩:=hc;refine peof (zdI h hg hm hv ha hn hdb he hpl) λσ H Q q=>tM.one (R:=Reps X.K) q λv H2 G Z x k rr a=>?_;obtain ⟨d,e,a⟩:=a.opt;exact i v G H2 x d Q k.gh rr e λw G' H' ex rw=>a.done k ex rw
theorem Reps.nil_inv{K:Frag}{G:Hp}{vs:List V}(r:Reps K G vs []):vs=[]:=by cases r;rfl
theorem Reps.one_inv{K:Frag}{G:Hp}{vs:List V}{d:D}(r:Reps K G vs [d]):∃v,vs=[v]/\Rep K G v d:=by
 cases r with
 |cons h t=>cases t;exact ⟨_,rfl,h⟩
theorem Reps.two_inv{K:Frag}{G:Hp}{vs:List V}{d d':D}(r:Reps K G vs [d,d']):∃v v',vs=[v,v']/\Rep K G v d/\Rep K G v' d':=by
 cases r with
 |cons h t=>
  obtain ⟨v',rfl,r'⟩:=t.one_inv;exact ⟨_,v',rfl,h,r'⟩
def oLen:List D->Option D
 |[.list xs]=>some (.int xs.length)
 |[.tuple xs]=>some (.int xs.length)
 |[.str z]=>if z.length<=1000000 then some (.int z.length) else none
 |_=>none
theorem zdG:zdx X (.builtin "len") oLen:=by
 refine ⟨_,zja,λvs G H ds d Q s r e k=>?_⟩;unfold oLen at e
 split at e
 ·cases e
  obtain ⟨v,rfl,q⟩:=r.one_inv;obtain ⟨l,ws,rfl,h1,r1⟩:=q.lst_inv;exact ⟨.ref l,ws.length,rfl,.inl ⟨ws,s.seq h1,rfl⟩,by rw[r1.length];exact k _ G H (.refl s) (.int _)⟩
 ·cases e
  obtain ⟨v,rfl,q⟩:=r.one_inv;obtain ⟨l,ws,rfl,h1,r1⟩:=q.tup_inv;exact ⟨.ref l,ws.length,rfl,.inr ⟨ws,zdJ s h1,rfl⟩,by rw[r1.length];exact k _ G H (.refl s) (.int _)⟩
 ·split at e
  ·rename_i z hz
   cases e;obtain ⟨v,rfl,q⟩:=r.one_inv
   exact ⟨.str z,z.length,by rw[q.str_inv],⟨QO hz lim,rfl⟩,k _ G H (.refl s) (.int _)⟩
  ·cases e
 ·cases e
def zk3:List D->Option D
 |[.int i,.int j]=>some (.int (if j > i then j else i))
 |_=>none
theorem zos(hc:X.calm=true):zdx X (.builtin "max") zk3:=by
 refine ⟨_,zkO hc,λvs G H ds d Q s r e k=>?_⟩;unfold zk3 at e
 split at e
 ·cases e
  obtain ⟨v,v',rfl,r1,r2⟩:=r.two_inv;exact ⟨_,_,by rw[r1.int_inv,r2.int_inv],k _ G H (.refl s) (.int _)⟩
 ·cases e
def zbM(i:Nat):M D:=λZ=>match Z[i]? with
 |some (some (.pub d))=>mOpt (oLen [d]) Z
 |some (some (.own ds))=>.ok (.int ds.length) Z
 |_=>.bad
theorem zaP{i:Nat}{p2:Pos}(hg:Gl X "len")(hm:X.mg "len" = none)(ha:PE X e (tVar i))(he:starEach [e] X.env=[(false,eval e X.env)]:=by rfl):PE X (.Call (.Name "len" p2) [e] [] pos) (tD X.K B G0 (zbM i)):=by
 refine peof (zeS zja hg hm PySem.boot_len (zdF ha zfN (by rw[he];rfl)) (by decide) (by decide) (by rw[he];rfl) rfl) λσ H Q ⟨G,Z,k,a⟩=>?_
 unfold zbM at a
 cases q:Z[i]? with
 |none=>rw[q] at a;exact a.elim
 |some o=>
  cases o with
  |none=>rw[q] at a;exact a.elim
  |some sl=>
   cases sl with
   |deep _ _=>rw[q] at a;exact a.elim
   |pub d=>
    rw[q] at a;obtain ⟨v,h1,h2⟩:=k.pub i d q;refine ⟨v,h1,?_⟩;obtain ⟨d',e',a'⟩:=aft.opt a;obtain ⟨r,hr,ir⟩:=@zdG X;show ∃x n,[v]=[x]/\LenV X.K x H n/\Q (.int n) H;unfold oLen at e'
    split at e'
    ·rename_i xs he'
     injection he' with he1 he2;subst he1;cases e';obtain ⟨l,ws,rfl,g1,r1⟩:=h2.lst_inv;exact ⟨.ref l,ws.length,rfl,.inl ⟨ws,k.gh.seq g1,rfl⟩,by rw[r1.length];exact a'.now k (.int _)⟩
    ·rename_i xs he'
     injection he' with he1 he2;subst he1;cases e';obtain ⟨l,ws,rfl,g1,r1⟩:=h2.tup_inv;exact ⟨.ref l,ws.length,rfl,.inr ⟨ws,zdJ k.gh g1,rfl⟩,by rw[r1.length];exact a'.now k (.int _)⟩
    ·rename_i z he'
     injection he' with he1 he2;subst he1
     split at e'
     ·rename_i hz
      cases e';exact ⟨.str z,z.length,by rw[h2.str_inv],⟨QO hz lim,rfl⟩,a'.now k (.int _)⟩
     ·cases e'
    ·cases e'
   |own ds=>
    rw[q] at a;obtain ⟨ad,vs,h1,g2,g3,h4,h5⟩:=k.own i ds q;exact ⟨.ref ad,h1,.ref ad,vs.length,rfl,.inl ⟨vs,SqL.of h4,rfl⟩,by rw[h5.length];exact aft.now a k (.int _)⟩
theorem zpb{pins:List (Addr×Obj)}{s:Shared}{σ:St}{G H:Hp}{v:V}{u:Value}{d:D}{cv:Value}{t:Bool}{A:Around}{E:Value->Shared->Prop}{Q:Value->Shared->Prop}(I:Inv X pins σ H s)(sg:Same G H)(r:Rep X.K G v d)(rv:RelV v u)(nx:zk2 d=false)
  (ek:PySem.W.kitOne X.K (.type (tyOf d)) cv=some t) (h:∀tk,Q (.bool t) { s with toks:=tk }):wpAny (model X.prog X.w) A (call (.builtin "isinstance") [u,cv]) Q E s:=by
 cases r with
 |non=>cases rv;exact JD PySem.W.kitx_none I.kIn True.intro ek (λz=>nomatch z) h
 |bl y=>cases rv;exact JD PySem.W.kitx_bool I.kIn True.intro ek (λz=>nomatch z) h
 |int i=>obtain ⟨t',rfl⟩:=rv;exact JD PySem.W.kitx_int I.kIn True.intro ek (λz=>nomatch z) h
 |str y=>obtain ⟨t',rfl⟩:=rv;exact JD PySem.W.kitx_str I.kIn True.intro ek (λz=>nomatch z) h
 |lst hl _=>
  cases rv;obtain ⟨its,r,⟨o,n,e,hc,_,hd⟩,hz⟩:=I.list (sg.seq hl)
  exact JD PySem.W.kitx_list I.kIn ⟨o,e,hc⟩ ek (λz=>nomatch z) h
 |tup hl _=>
  cases rv;obtain ⟨its,r,p,hz⟩:=I.tuple (zdJ sg hl)
  obtain ⟨o,e,hc,_⟩:=p;exact JD PySem.W.kitx_tuple I.kIn ⟨o,e,hc⟩ ek (λz=>nomatch z) h
 |@dic ad hd=>
  cases rv;obtain ⟨_,_,vs,_,p⟩:=(show zcL X.prog X.w H s.heap ad (.dK []) from I.hok ad _ (sg _ _ hd))
  obtain ⟨o,es,ep,h1,h2,_⟩:=p;exact JD PySem.W.kitx_dict I.kIn ⟨o,h1,h2.1⟩ ek (λz=>nomatch z) h
 |exc _ _ _ _=>cases nx
 |@dct ad ks vs ds kvs e0 _ _ hd _=>
  cases rv;subst e0
  rw[zor.1] at ek;obtain ⟨_,_,vs,_,p⟩:=(show zcL X.prog X.w H s.heap ad (.dK (ks.zip _)) from I.hok ad _ (sg _ _ hd))
  obtain ⟨o,es,ep,h1,h2,_⟩:=p;exact JD PySem.W.kitx_dict I.kIn ⟨o,h1,h2.1⟩ ek (λz=>nomatch z) h
 |@dtt ad ob ks vs ds kvs e0 _ hd _=>
  cases rv;subst e0
  obtain ⟨_,_,_,xs,_,o,es,ep,h1,h2,_⟩:=(show zcL X.prog X.w H s.heap ad (.frz ob (.dT (ks.zip _))) from I.hok ad _ (sg _ _ hd))
  exact JD PySem.W.kitx_dict I.kIn ⟨o,h1,h2.1⟩ ek (λz=>nomatch z) h
theorem zpc(c:String)(hc:c = "int" ∨ c = "bool" ∨ c = "str" ∨ c = "list" ∨ c = "tuple" ∨ c = "dict"):typeOf (.type c)=pure (.type "type"):=by
 rcases hc with rfl|rfl|rfl|rfl|rfl|rfl <;> kernel_rfl
theorem znn:zdb X (.builtin "isinstance") (λxs H Q=>∃v c G d,xs=[v,.ty c]/\Same G H/\Rep X.K G v d/\(c = "int" ∨ c = "bool" ∨ c = "str" ∨ c = "list" ∨ c = "tuple" ∨ c = "dict")/\Q (.bl (isTy d c)) H):=by
 intro pins s σ H xs us Q I r h;obtain ⟨v,c,G,d,rfl,sg,rp,hc,q⟩:=h;obtain ⟨u,w',rfl,r1,r2⟩:=zoR r
 cases (show w'=Value.type c from r2)
 by_cases nx:zk2 d=true
 ·cases rp with
  |@exc a C dd bm nm vs ds ck hx hd rr=>
   refine zni (zrA I.ok.mod.kin) pins s σ H [.ref a,.ty c] [u,.type c] Q I r ⟨a,C,dd,bm,false,.ty c,false,rfl,⟨nm,ck⟩,sg _ _ hx,.inr ⟨c,rfl,zpc c hc,?_⟩,?_⟩
   ·rw[ck.ty];rcases hc with rfl|rfl|rfl|rfl|rfl|rfl <;> rfl
   ·have e:isTy (.dict [(.none,.tuple [.str nm,.list ds])]) c=false:=by rcases hc with rfl|rfl|rfl|rfl|rfl|rfl <;> rfl
    rw[e] at q;exact q
  |dct e _ _ _ _=>subst e;rw[zor.2] at nx;cases nx
  |dtt e _ _ _=>subst e;cases nx
  |_=>cases nx
 ·have nx:zk2 d=false:=by simpa using nx
  exact zpb I sg rp r1 nx (zpa X.K d c nx hc) λtk=>⟨.bl _,H,I.tok tk,rfl,q⟩
theorem zeM:bootBuiltins "isinstance" = some (.builtin "isinstance"):=by decide +kernel
theorem zbb{f:M D}{p2 p3:Pos}{c:String}(hc:c = "int" ∨ c = "bool" ∨ c = "str" ∨ c = "list" ∨ c = "tuple" ∨ c = "dict")(hg:Gl X "isinstance")(hm:X.mg "isinstance" = none)(hg2:Gl X (Str.ofString c))(hm2:X.mg (Str.ofString c)=none)
  (hv2:bootBuiltins (Str.ofString c)=some (.type c)) (ha:PE X e (tD X.K B G0 f)) (hn2:(Str.ofString c) ≠ "__name__") (hd2:((Str.ofString c)==("__debug__" : Str))=false)
  (hs:starEach [e,.Name (Str.ofString c) p3] X.env=(false,eval e X.env)::starEach [.Name (Str.ofString c) p3] X.env:=by rfl)
  (hs2:starEach [.Name (Str.ofString c) p3] X.env=[(false,eval (.Name (Str.ofString c) p3) X.env)]:=by rfl) :
  PE X (.Call (.Name "isinstance" p2) [e,.Name (Str.ofString c) p3] [] pos) (tD X.K B G0 (mMap (λd=>.bool (isTy d c)) f)):=by
 refine peof (zeS znn hg hm zeM (zdF ha (zdF (zoI (v:=.ty c) hg2 hm2 hv2 rfl hn2 hd2) zfN (by rw[hs2];rfl)) hs) (by decide) (by decide) hs (by rw[hs2];rfl)) λσ H Q q=>?_
 refine tM.one (R:=Rep X.K) q λv H2 G Z x k r a=>?_;exact ⟨v,c,G,x,rfl,k.gh,r,hc,aft.now a k (.bl _)⟩
end
def spD(K:Frag)(n:Nat)(F:List D->Option D):Sp:=λvs H Q _=>∃G ds d,vs.length=n/\Same G H/\Reps K G vs ds/\F ds=some d/\∀v G' H',Ext G H G' H'->Rep K G' v d->Q v H'
section
variable{K:Frag}{B G0 G H:Hp}{σ:St}{Z:DEnv}
theorem EOk.exit(k:EOk K B G0 G H σ Z):Ext G0 B G H:=⟨k.bh,k.g0,k.gh,k.np⟩
theorem zbr{α:Type}{l:List α}{i:Nat}{x y:α}(h:(l.set i x)[i]?=some y):y=x:=by
 by_cases hl:i<l.length
 ·rw[QF hl] at h;cases h;rfl
 ·rw[QB (by rw[Q6];omega)] at h;cases h
theorem DpOk.setOther{i:Nat}{x:Option V}{y:Option Sl}(k:DpOk K B G H σ Z)(hy:∀s,y=some s->∃d,s=.pub d):DpOk K B G H (σ.set i x) (Z.set i y):=by
 have nz:∀{m:Nat}{s:Sl},(Z.set i y)[m]?=some (some s)->(∃d,s=.pub d)∨(Z[m]?=some (some s)/\(σ.set i x)[m]?=σ[m]?):=λ{m s} q=>by
  by_cases z:i=m
  ·subst z
   exact .inl (hy s (zbr q).symm)
  ·rw[Qs z] at q ⊢;exact .inr ⟨q,rfl⟩
 refine k.map (λm p d q=>?_) (λm es q=>?_) λm p d v fp q s r w n=>⟨r,w⟩
 ·rcases nz q with ⟨_,e⟩|q
  ·cases e
  ·exact q
 ·rcases nz q with ⟨_,e⟩|q
  ·cases e
  ·exact ⟨es,q⟩
theorem EOk.setPub{i:Nat}{v:V}{d:D}(k:EOk K B G0 G H σ Z)(r:Rep K G v d)(hi:i<Z.length):EOk K B G0 G H (σ.set i (some v)) (Z.set i (some (.pub d))) where
 bh:=k.bh
 gh:=k.gh
 g0:=k.g0
 np:=k.np
 len:=by rw[Q6,Q6];exact k.len
 pub:=λj d' q=>by
  by_cases z:i=j
  ·subst z
   have:=zbr q
   cases this;exact ⟨v,QF (by rw[←k.len];exact hi),r⟩
  ·rw[Qs z] at q ⊢
   exact k.pub j d' q
 own:=λj ds q=>by
  by_cases z:i=j
  ·subst z
   have:=zbr q
   cases this
  ·rw[Qs z] at q ⊢
   exact k.own j ds q
 sep:=λj l c es fs q1 q2 s1 s2=>by
  have z1:i≠j:=λz=>by subst z;have:=zbr q1;cases this
  have z2:i≠l:=λz=>by subst z;have:=zbr q2;cases this
  rw[Qs z1] at q1 s1;rw[Qs z2] at q2 s2;exact k.sep j l c es fs q1 q2 s1 s2
 dp:=k.dp.setOther (λs e=>by cases e;exact ⟨_,rfl⟩)
structure NewL(K:Frag)(B G H:Hp)(σ:St)(Z:DEnv)(a:Addr)(vs:List V)(ds:List D):Prop where
 b:B a=none
 g:G a=none
 h:H a=some (.lst vs)
 r:Reps K G vs ds
 f:∀(j:Nat) es,Z[j]?=some (some (.own es))->σ[j]?≠some (some (.ref a))
 dp:∀(j:Nat) p d v fp,Z[j]?=some (some (.deep p d))->σ[j]?=some (some v)->RepO K G H p v d fp->a∉fp
theorem EOk.freshD{H':Hp}{a:Addr}(k:EOk K B G0 G H σ Z)(e:Same H H')(ha:H a=none){G':Hp}{j:Nat}{p:Pat}{d:D}{v:V}{fp:List Addr}(q:Z[j]?=some (some (.deep p d)))(s:σ[j]?=some (some v))(r:RepO K G' H' p v d fp):a∉fp:=λm=>by
 obtain ⟨ω,k1,k2⟩:=k.dp;obtain ⟨v',fp',s',r',n,w⟩:=k1 j p d q;rw[s] at s';cases s';have u:=r'.uniq e r;subst u;obtain ⟨ws,hl⟩:=r'.isl a m;rw[ha] at hl;cases hl
theorem EOk.setOwn{i:Nat}{a:Addr}{vs:List V}{ds:List D}(k:EOk K B G0 G H σ Z)(n:NewL K B G H σ Z a vs ds)(hi:i<Z.length):EOk K B G0 G H (σ.set i (some (.ref a))) (Z.set i (some (.own ds))) where
 bh:=k.bh
 gh:=k.gh
 g0:=k.g0
 np:=k.np
 len:=by rw[Q6,Q6];exact k.len
 pub:=λj d' q=>by
  by_cases z:i=j
  ·subst z
   have:=zbr q
   cases this
  ·rw[Qs z] at q ⊢
   exact k.pub j d' q
 own:=λj es q=>by
  by_cases z:i=j
  ·subst z
   have:=zbr q
   cases this;exact ⟨a,vs,QF (by rw[←k.len];exact hi),n.b,n.g,n.h,n.r⟩
  ·rw[Qs z] at q ⊢
   exact k.own j es q
 sep:=λj l c es fs q1 q2 s1 s2=>by
  have hs:i<σ.length:=by rw[←k.len];exact hi
  by_cases z1:i=j
  ·subst z1
   rw[QF hs] at s1;cases s1
   by_cases z2:i=l
   ·exact z2
   ·rw[Qs z2] at q2 s2
    exact absurd s2 (n.f l fs q2)
  ·by_cases z2:i=l
   ·subst z2
    rw[QF hs] at s2;cases s2;rw[Qs z1] at q1 s1;exact absurd s1 (n.f j es q1)
   ·rw[Qs z1] at q1 s1
    rw[Qs z2] at q2 s2;exact k.sep j l c es fs q1 q2 s1 s2
 dp:=by
  obtain ⟨ω,k1,k2⟩:=k.dp;have hs:i<σ.length:=by rw[←k.len];exact hi
  refine ⟨λb=>if b=a then i else ω b,λj p d q=>?_,λj es b q s=>?_⟩
  ·by_cases z:i=j
   ·subst z;have:=zbr q;cases this
   ·rw[Qs z] at q ⊢
    obtain ⟨v,fp,s,r,nn,w⟩:=k1 j p d q;refine ⟨v,fp,s,r,nn,λb m=>⟨(w b m).1,(w b m).2.1,?_⟩⟩;dsimp only;rw[Qy (λz=>n.dp j p d v fp q s r (by rw[←z];exact m))]
    exact (w b m).2.2
  ·by_cases z:i=j
   ·subst z
    rw[QF hs] at s;cases s;dsimp only;rw[Qm rfl]
   ·rw[Qs z] at q s
    dsimp only;rw[Qy (λe=>n.f j es q (by rw[←e];exact s))]
    exact k2 j es b q s
theorem EOk.change{i:Nat}{a:Addr}{vs:List V}{ds es:List D}(k:EOk K B G0 G H σ Z)(q:Z[i]?=some (some (.own ds)))(ha:σ[i]?=some (some (.ref a)))(r:Reps K G vs es) :
  EOk K B G0 G (upd H a (.lst vs)) σ (Z.set i (some (.own es))):=by
 obtain ⟨a',ws,h1,h2,h3,h4,h5⟩:=k.own i ds q;rw[ha] at h1;cases h1;have hi:i<Z.length:=(Qh.mp q).1;refine ⟨λb o e=>?_,λb o e=>?_,k.g0,k.np,by rw[Q6];exact k.len,λj d' e=>?_,λj fs e=>?_,λj l c fs gs q1 q2 s1 s2=>?_,?_⟩
 ·rw[zaU (zba e h2)];exact k.bh b o e
 ·rw[zaU (zba e h3)];exact k.gh b o e
 ·by_cases z:i=j
  ·subst z
   have:=zbr e
   cases this
  ·rw[Qs z] at e
   exact k.pub j d' e
 ·by_cases z:i=j
  ·subst z
   have:=zbr e
   cases this;exact ⟨a,vs,ha,h2,h3,zaT,r⟩
  ·rw[Qs z] at e
   obtain ⟨c,us,g1,g2,g3,g4,g5⟩:=k.own j fs e;have zc:c≠a:=λw=>z (k.sep i j a ds fs q e ha (by rw[←w];exact g1))
   exact ⟨c,us,g1,g2,g3,by rw[zaU zc];exact g4,g5⟩
 ·have f:∀{m:Nat}{ts:List D},(Z.set i (some (Sl.own es)))[m]?=some (some (.own ts))->∃ts',Z[m]?=some (some (.own ts')):=λ{m ts} e=>by
   by_cases z:i=m
   ·subst z;exact ⟨ds,q⟩
   ·rw[Qs z] at e;exact ⟨ts,e⟩
  obtain ⟨f1,w1⟩:=f q1;obtain ⟨f2,w2⟩:=f q2;exact k.sep j l c f1 f2 w1 w2 s1 s2
 ·refine k.dp.map (λj p d e=>?_) (λj fs e=>?_) λj p d v fp qj s rj w n=>⟨rj.upd (λ_ z=>by rw[h4] at z;cases z) (n i ds a q ha),w⟩
  ·by_cases z:i=j
   ·subst z;have:=zbr e;cases this
   ·rw[Qs z] at e;exact ⟨e,rfl⟩
  ·by_cases z:i=j
   ·subst z;exact ⟨ds,q,rfl⟩
   ·rw[Qs z] at e;exact ⟨fs,e,rfl⟩
end
inductive Out where
 |nx (Z:DEnv)|rt (d:D)|bk (Z:DEnv)|ct (Z:DEnv)|ex (Z:DEnv) (d:D)|bad
abbrev SM:=DEnv->Out
section
variable(K:Frag)(B G0:Hp)(KX:XW)
def aftS(o:Out)(G1:Hp)(Dn:Ends):Prop :=
 match o with
 |.nx Z=>∀σ G H,EOk K B G0 G H σ Z->Same G1 G->Dn.nx σ H
 |.bk Z=>∀σ G H,EOk K B G0 G H σ Z->Same G1 G->Dn.bk σ H
 |.ct Z=>∀σ G H,EOk K B G0 G H σ Z->Same G1 G->Dn.ct σ H
 |.rt d=>∀v G H,Ext G0 B G H->Rep K G v d->Dn.rt v H
 |.ex Z d=>∀v σ G H,EOk K B G0 G H σ Z->Same G1 G->Rep K G v d->KX v σ H
 |.bad=>False
def tS(g:SM):TS:=λDn σ H=>∃G Z,EOk K B G0 G H σ Z/\aftS K B G0 KX (g Z) G Dn
def sB{α:Type}(f:M α)(g:α->SM):SM:=λZ=>match f Z with | .ok a Z'=>g a Z' | .bad=>.bad
end
section
variable{X:Cx}{B G0:Hp}{KX:XW}{e a b c:Expr}{pos:Pos}{es rest:List Expr}{st:Stmt}{sts sts2:List Stmt}
theorem aftS.mono{K:Frag}{o:Out}{G G':Hp}{Dn:Ends}(e:Same G G')(h:aftS K B G0 KX o G Dn):aftS K B G0 KX o G' Dn:=by
 cases o with
 |nx Z=>exact λσ G2 H2 k s=>h σ G2 H2 k (e.trans s)
 |bk Z=>exact λσ G2 H2 k s=>h σ G2 H2 k (e.trans s)
 |ct Z=>exact λσ G2 H2 k s=>h σ G2 H2 k (e.trans s)
 |rt d=>exact h
 |ex Z d=>exact λv σ G2 H2 k s r=>h v σ G2 H2 k (e.trans s) r
 |bad=>exact h
theorem tS.bnd{K:Frag}{α γ:Type}{R:Hp->γ->α->Prop}{f:M α}{g:α->SM}{Dn:Ends}{σ:St}{H:Hp}{P:γ->Hp->Prop}(q:tS K B G0 KX (sB f g) Dn σ H)
  (i:∀v H' G' Z' x,EOk K B G0 G' H' σ Z'->R G' v x->aftS K B G0 KX (g x Z') G' Dn->P v H'):tM K B G0 R f σ H P:=by
 obtain ⟨G,Z,k,a⟩:=q;refine ⟨G,Z,k,?_⟩;unfold sB at a
 cases z:f Z with
 |bad=>rw[z] at a;exact a.elim
 |ok d Z1=>
  rw[z] at a;exact λv G' H' e s r=>i v H' G' Z1 d e r (aftS.mono s a)
def sNx:SM:=λZ=>.nx Z
def sSeq(g h:SM):SM:=λZ=>match g Z with | .nx Z'=>h Z'|o=>o
theorem za1:PSs X [] (tS X.K B G0 KX sNx):=zqr zoL λD σ H ⟨G,Z,k,a⟩=>a σ G H k (.refl _)
theorem zaj{g h:SM}(h1:PS X st (tS X.K B G0 KX g))(h2:PSs X sts (tS X.K B G0 KX h)):PSs X (st::sts) (tS X.K B G0 KX (sSeq g h)):=zqr (zm6 h1 h2) λD σ H ⟨G,Z,k,a⟩=>by
 refine ⟨G,Z,k,?_⟩;unfold sSeq at a
 cases z:g Z with
 |nx Z1=>rw[z] at a;exact λσ' G' H' k' s'=>⟨G',Z1,k',aftS.mono s' a⟩
 |rt d=>rw[z] at a;exact a
 |bk Z1=>rw[z] at a;exact a
 |ct Z1=>rw[z] at a;exact a
 |ex Z1 d=>rw[z] at a;exact a
 |bad=>rw[z] at a;exact a.elim
theorem zao{g:SM}(h1:PS X st (tS X.K B G0 KX g)):PSs X [st] (tS X.K B G0 KX g):=zoM h1
def zdz:SM:=λ_=>.bad
theorem zcs:PS X st (tS X.K B G0 KX zdz):=λ_ _ _ _ _ _ ⟨_,_,_,a⟩=>a.elim
def sRet(f:M D):SM:=sB f λd _=>.rt d
theorem zaw{f:M D}(h:PE X e (tD X.K B G0 f)):PS X (.Return (some e) pos) (tS X.K B G0 KX (sRet f)):=psof (zp3 h) λD σ H q=>tS.bnd (R:=Rep X.K) q λv H' G' Z' x k r a=>a v G' H' k.exit r
def ze9(f:M D):SM:=sB f λ_ Z=>.nx Z
theorem zde{f:M D}(h:PE X e (tD X.K B G0 f))(hs:swapsWith e none pos.line X.env=pure false:=by rfl):PS X (.Expr e pos) (tS X.K B G0 KX (ze9 f)):=psof (zkH h hs) λD σ H q=>tS.bnd (R:=Rep X.K) q λv H' G' Z' x k r a=>a σ G' H' k (.refl _)
def sIf(f:M Bool)(g h:SM):SM:=sB f λt=>if t=true then g else h
theorem zbo{f:M Bool}{g h:SM}(hc:PT X c (tBo X.K B G0 f))(ha:PSs X sts (tS X.K B G0 KX g))(hb:PSs X sts2 (tS X.K B G0 KX h)):PS X (.If c sts sts2 pos) (tS X.K B G0 KX (sIf f g h)) :=
 psof (zri hc ha hb) λD σ H q=>tS.bnd (R:=λ_ b c=>b=c) q λv H' G' Z' x k r a=>by
  have r:v=x:=r;subst r
  cases v with
  |true=>exact ⟨G',Z',k,a⟩
  |false=>exact ⟨G',Z',k,a⟩
def tG(K:Frag)(B G0:Hp)(s:D->DEnv->Option DEnv):TG:=λv σ H Q=>∃G Z d Z',EOk K B G0 G H σ Z/\Rep K G v d/\s d Z=some Z'/\∀σ' G' H',EOk K B G0 G' H' σ' Z'->Same G G'->Q σ' H'
def tGs(K:Frag)(B G0:Hp)(s:List D->DEnv->Option DEnv):TGs:=λv σ H Q=>∃G Z d Z',EOk K B G0 G H σ Z/\Reps K G v d/\s d Z=some Z'/\∀σ' G' H',EOk K B G0 G' H' σ' Z'->Same G G'->Q σ' H'
theorem pgof{t t':TG}(h:PG X e t)(i:∀v σ H Q,t' v σ H Q->t v σ H Q):PG X e t':=λpins s σ H v u Q I r q=>h pins s σ H v u Q I r (i v σ H Q q)
theorem zqA{t t':TGs}(h:PGs X es t)(i:∀v σ H Q,t' v σ H Q->t v σ H Q):PGs X es t':=λpins s σ H v u Q I r q=>h pins s σ H v u Q I r (i v σ H Q q)
def gN(i:Nat):D->DEnv->Option DEnv:=λd Z=>if i<Z.length then some (Z.set i (some (.pub d))) else none
theorem zan{i:Nat}(h:PG X e (zoN i)):PG X e (tG X.K B G0 (gN i)):=pgof h λv σ H Q ⟨G,Z,d,Z',k,r,e,q⟩=>by
 unfold gN at e
 split at e
 ·rename_i hi
  cases e;exact q _ G H (k.setPub r hi) (.refl _)
 ·cases e
def gN0:List D->DEnv->Option DEnv:=λd Z=>match d with | []=>some Z|_=>none
def gNC(s:D->DEnv->Option DEnv)(t:List D->DEnv->Option DEnv):List D->DEnv->Option DEnv:=λds Z=>match ds with|d::r=>(s d Z).bind (t r) | []=>none
theorem zbl:PGs X [] (tGs X.K B G0 gN0):=zqA zoO λv σ H Q ⟨G,Z,d,Z',k,r,e,q⟩=>by
 cases r with
 |nil=>cases e;exact ⟨rfl,q σ G H k (.refl _)⟩
 |cons _ _=>cases e
theorem zar{s:D->DEnv->Option DEnv}{t:List D->DEnv->Option DEnv}(h1:PG X e (tG X.K B G0 s))(h2:PGs X es (tGs X.K B G0 t))
  (hs:(assignEach (e::es) X.env).map (·.2)=assign e X.env::(assignEach es X.env).map (·.2):=by rfl):PGs X (e::es) (tGs X.K B G0 (gNC s t)):=zqA (zm7 h1 h2 hs) λv σ H Q ⟨G,Z,d,Z',k,r,e,q⟩=>by
 cases r with
 |nil=>cases e
 |@cons w dw ws dws rw rt=>
  unfold gNC at e;dsimp only at e
  cases z:s dw Z with
  |none=>rw[z] at e;cases e
  |some Z1=>
   rw[z] at e;refine ⟨w,ws,rfl,G,Z,dw,Z1,k,rw,z,λσ' G' H' k' s'=>?_⟩;exact ⟨G',Z1,dws,Z',k',rt.mono s',e,λσ2 G2 H2 k2 s2=>q σ2 G2 H2 k2 (s'.trans s2)⟩
def gT(n:Nat)(t:List D->DEnv->Option DEnv):D->DEnv->Option DEnv:=λd Z=>match d with | .tuple ds=>if ds.length=n then t ds Z else none|_=>none
theorem zbm{k1:Nat}{t:List D->DEnv->Option DEnv}{n:Nat}(hc:X.calm=true)(h:PGs X es (tGs X.K B G0 t))
  (hn:(assignEach es X.env).length=n:=by rfl) (hst:(assignEach es X.env).findIdx? (·.1)=none:=by rfl):PG X (.Tuple es k1 pos) (tG X.K B G0 (gT n t)):=pgof (zp4 hc h hn hst) λv σ H Q ⟨G,Z,d,Z',k,r,e,q⟩=>by
 unfold gT at e
 split at e
 ·split at e
  ·rename_i hl
   obtain ⟨ad,vs,rfl,h1,r1⟩:=r.tup_inv;exact ⟨ad,vs,rfl,zdJ k.gh h1,by rw[r1.length];exact hl,G,Z,_,Z',k,r1,e,q⟩
  ·cases e
 ·cases e
def sAsg(f:M D)(s:D->DEnv->Option DEnv):SM:=sB f λd Z=>match s d Z with|some Z'=>.nx Z'|none=>.bad
theorem zfO{tg:Expr}{f:M D}{s:D->DEnv->Option DEnv}(he:PE X e (tD X.K B G0 f))(hg:PG X tg (tG X.K B G0 s))(hs:swapsWithSole [tg] e pos.line X.env=pure false:=by rfl)(hw:swappedStores [tg] e X.env=pure none:=by rfl)
  (h1:(assignEach [tg] X.env).map (·.2)=[assign tg X.env]:=by rfl):PS X (.Assign [tg] e pos) (tS X.K B G0 KX (sAsg f s)) :=
 psof (zp5 he hg hs hw h1) λD σ H q=>tS.bnd (R:=Rep X.K) q λv H' G' Z' x k r a=>by
  cases z:s x Z' with
  |none=>rw[z] at a;exact a.elim
  |some Z2=>rw[z] at a;exact ⟨G',Z',x,Z2,k,r,z,λσ2 G2 H2 k2 s2=>a σ2 G2 H2 k2 s2⟩
def sSet(i:Nat)(f:M D):SM:=sAsg f (gN i)
theorem zaQ{i:Nat}{x:Str}{f:M D}{p2:Pos}(hN:X.N.Nodup)(hi:X.N[i]?=some x)(hx:Loc X.env.scope x)(he:PE X e (tD X.K B G0 f))(hs:swapsWith e (some (.Name x p2)) pos.line X.env=pure false:=by rfl)
  (hf:X.fn x=true∨X.env.scope.names.lookup x=some .local:=by first|exact .inl rfl|exact .inr rfl|assumption):PS X (.Assign [.Name x p2] e pos) (tS X.K B G0 KX (sSet i f)) :=
 psof (zok hN hi hx he hs hf) λD σ H q=>tS.bnd (R:=Rep X.K) q λv H' G' Z' x k r a=>by
  unfold gN at a
  split at a
  ·rename_i Z2 hz
   split at hz
   ·rename_i hi2
    cases hz;exact a _ G' H' (k.setPub r hi2) (.refl _)
   ·cases hz
  ·exact a.elim
def tL(K:Frag)(B G0:Hp)(f:M (List D)):TE:=λσ H Q=>∃G Z,EOk K B G0 G H σ Z/\match f Z with
 |.ok ds Z'=>∀a vs G' H',EOk K B G0 G' H' σ Z'->Same G G'->NewL K B G' H' σ Z' a vs ds->Q (.ref a) H'
 |.bad=>False
def zbV(i:Nat)(f:M (List D)):SM:=sB f λds Z=>if i<Z.length then .nx (Z.set i (some (.own ds))) else .bad
theorem zcq{i:Nat}{x:Str}{f:M (List D)}{p2:Pos}(hN:X.N.Nodup)(hi:X.N[i]?=some x)(hx:Loc X.env.scope x)(he:PE X e (tL X.K B G0 f))(hs:swapsWith e (some (.Name x p2)) pos.line X.env=pure false:=by rfl)
  (hf:X.fn x=true∨X.env.scope.names.lookup x=some .local:=by first|exact .inl rfl|exact .inr rfl|assumption):PS X (.Assign [.Name x p2] e pos) (tS X.K B G0 KX (zbV i f)) :=
 psof (zok hN hi hx he hs hf) λD σ H ⟨G,Z,k,a⟩=>by
  refine ⟨G,Z,k,?_⟩;unfold zbV sB at a
  cases z:f Z with
  |bad=>rw[z] at a;exact a.elim
  |ok ds Z1=>
   rw[z] at a;intro ad vs G' H' k' s' n;dsimp only at a
   split at a
   ·rename_i hl
    exact a _ G' H' (k'.setOwn n hl) s'
   ·exact a.elim
theorem NewL.of{K:Frag}{G H:Hp}{σ:St}{Z:DEnv}{p:Addr}{vs:List V}{ds:List D}(k:EOk K B G0 G H σ Z)(hp:H p=none)(r:Reps K G vs ds):NewL K B G (upd H p (.lst vs)) σ Z p vs ds where
 b:=k.bh.free hp
 g:=k.gh.free hp
 h:=zaT
 r:=r
 f:=λj es q z=>by
  obtain ⟨a,ws,h1,h2,h3,h4,h5⟩:=k.own j es q;rw[z] at h1;cases h1;rw[hp] at h4;cases h4
 dp:=λj pt d v fp q s rr=>k.freshD (zaX hp) hp q s rr
theorem zeg{f:M (List D)}(h:PA X es (tDs X.K B G0 f)):PE X (.List es pos) (tL X.K B G0 (zau f λxs=>if xs.length<=1000000 then zah xs else λ_=>.bad)) :=
 peof (zon h) λσ H Q ⟨G,Z,k,a⟩=>by
  refine ⟨G,Z,k,?_⟩;unfold zau at a
  cases z:f Z with
  |bad=>rw[z] at a;exact a.elim
  |ok ds Z1=>
   rw[z] at a;dsimp only at a;intro v G' H' k' s' r
   by_cases c:ds.length<=1000000
   ·rw[Qm c] at a
    refine ⟨by rw[r.length];exact QO c lim,λp hp=>?_⟩
    exact a p v G' _ (k'.ext (Ext.hid k'.gh hp)) s' (NewL.of k' hp r)
   ·rw[Qy c] at a;exact a.elim
def sApp(i:Nat)(f:M D):SM:=λZ0=>match Z0[i]? with
 |some (some (.own _))=>sB f (λd Z=>match Z[i]? with
  |some (some (.own ds))=>if ds.length<1000000 then .nx (Z.set i (some (.own (ds++[d])))) else .bad
  |_=>.bad) Z0
 |_=>.bad
theorem zeE{i:Nat}{f:M D}{o:Expr}{apos cpos:Pos}(ho:PE X o (tVar i))(he:PE X e (tD X.K B G0 f))
  (hbase:attributeBase o "append" X.env (eval o X.env)=eval o X.env:=by rfl)
  (hfew:((backTo cpos (starEach [e] X.env)).all (λx=>!x.1)&&(backToKw cpos (keywordEach [] X.env)).all (λx=>x.1.isSome)
   && decide ([e].length+([]:List Keyword).length+(if ([]:List Keyword).isEmpty then 0 else 1)<30))=true:=by rfl)
  (hline:(apos.endLine==cpos.line)=true:=by rfl) (hs:starEach [e] X.env=[(false,eval e X.env)]:=by rfl)
  (hsw:swapsWith (.Call (.Attribute o "append" apos) [e] [] cpos) none pos.line X.env=pure false:=by rfl) :
  PS X (.Expr (.Call (.Attribute o "append" apos) [e] [] cpos) pos) (tS X.K B G0 KX (sApp i f)) :=
 psof (zkH (zoY PySem.F.plainAttrs_list PySem.F.slot_list_append PySem.F.type_list_append zg5 ho (zdF he zfN (by rw[hs];rfl)) hbase hfew hline (by rw[hs];rfl) rfl) hsw) λD σ H ⟨G,Z,k,a⟩=>by
  unfold sApp at a
  cases q0:Z[i]? with
  |none=>rw[q0] at a;exact a.elim
  |some o0=>
   cases o0 with
   |none=>rw[q0] at a;exact a.elim
   |some sl0=>
    cases sl0 with
    |deep _ _=>rw[q0] at a;exact a.elim
    |pub d=>rw[q0] at a;exact a.elim
    |own ds0=>
     rw[q0] at a;obtain ⟨ad,vs0,h1,h2,h3,h4,h5⟩:=k.own i ds0 q0;refine ⟨.ref ad,h1,.inl ⟨rfl,_,SqL.of h4⟩,G,Z,k,?_⟩;unfold sB at a
     cases z:f Z with
     |bad=>rw[z] at a;exact a.elim
     |ok d Z1=>
      rw[z] at a;dsimp only at a;intro v G' H' k' s' r'
      cases q:Z1[i]? with
      |none=>rw[q] at a;exact a.elim
      |some o=>
       cases o with
       |none=>rw[q] at a;exact a.elim
       |some sl=>
        cases sl with
        |deep _ _=>rw[q] at a;exact a.elim
        |pub d=>rw[q] at a;exact a.elim
        |own ds=>
         rw[q] at a;dsimp only at a
         split at a
         ·rename_i hl
          obtain ⟨ad',vs,g1,g2,g3,g4,g5⟩:=k'.own i ds q;rw[h1] at g1;cases g1;refine ⟨ad,vs,v,rfl,rfl,g4,by rw[g5.length];exact QJ hl lim,?_⟩
          exact a σ G' _ (k'.change q h1 (g5.append (.cons r' .nil))) s'
         ·exact a.elim
end
structure zfa(K:Frag)(J:It)(ds:List D)(G1:Hp):Prop where
 go:∀i G H,Same G1 G->Same G H->i<ds.length->J.go i H
 stop:∀i G H,Same G1 G->Same G H->ds.length<=i->J.stop i H
 yld:∀i G H x H' d,Same G1 G->Same G H->ds[i]?=some d->J.yld i H x H'->∃G',Ext G H G' H'/\Rep K G' x d
def iD(K:Frag)(B G0:Hp)(f:M (List D)):TI:=λσ H R=>∃G Z,EOk K B G0 G H σ Z/\match f Z with
 |.ok ds Z'=>∀J G' H',EOk K B G0 G' H' σ Z'->Same G G'->zfa K J ds G'->R J H'
 |.bad=>False
section
variable{X:Cx}{B G0:Hp}{KX:XW}{e a b c tg:Expr}{pos:Pos}{es rest:List Expr}{st:Stmt}{sts sts2:List Stmt}
theorem piof{t t':TI}(h:PI X tg e t)(i:∀σ H R,t' σ H R->t σ H R):PI X tg e t':=λpins s σ H R I q=>h pins s σ H R I (i σ H R q)
theorem tM.toI{K:Frag}{α γ:Type}{R0:Hp->γ->α->Prop}{f:M α}{g:α->M (List D)}{σ:St}{H:Hp}{R:It->Hp->Prop}{P:γ->Hp->Prop}(q:iD K B G0 (zau f g) σ H R)
  (i:∀v H' G' Z' x,EOk K B G0 G' H' σ Z'->R0 G' v x->(match g x Z' with
   |.ok ds Z2=>∀J G2 H2,EOk K B G0 G2 H2 σ Z2->Same G' G2->zfa K J ds G2->R J H2
   |.bad=>False)->P v H'):tM K B G0 R0 f σ H P:=by
 obtain ⟨G,Z,k,a⟩:=q;refine ⟨G,Z,k,?_⟩;unfold zau at a
 cases z:f Z with
 |bad=>rw[z] at a;exact a.elim
 |ok d Z1=>
  rw[z] at a;intro v G' H' e s r;refine i v H' G' Z1 d e r ?_;dsimp only at a
  cases z2:g d Z1 with
  |bad=>rw[z2] at a;exact a.elim
  |ok ds Z2=>
   rw[z2] at a;exact λJ G2 H2 k2 s2 it=>a J G2 H2 k2 (s.trans s2) it
theorem zj1{K:Frag}{G1:Hp}{ad:Addr}{vs:List V}{ds:List D}(h:SqL K G1 ad vs)(r:Reps K G1 vs ds):zfa K (Itl K ad) ds G1 where
 go:=λi G H s1 s2 hi=>by
  have hi':i<vs.length:=by rw[r.length];exact hi
  exact ⟨vs,vs[i],(s1.trans s2).seq h,Qe hi'⟩
 stop:=λi G H s1 s2 hi=>⟨vs,(s1.trans s2).seq h,by rw[r.length];exact hi⟩
 yld:=λi G H x H' d s1 s2 e y=>by
  obtain ⟨rfl,y⟩:=y;obtain ⟨v,e1,r1⟩:=r.get e
  have:=y vs ((s1.trans s2).seq h)
  rw[e1] at this;cases this;exact ⟨G,.refl s2,r1.mono s1⟩
def zbN(lo hi:Int):List D:=(List.range (hi-lo).toNat).map λ(k:Nat)=>.int (lo+k)
theorem zaY(lo hi:Int):(zbN lo hi).length=(hi-lo).toNat:=by unfold zbN;rw[Qb,Qp]
theorem zfb{K:Frag}{G1:Hp}(lo hi:Int):zfa K (Itr lo (hi-lo).toNat) (zbN lo hi) G1 where
 go:=λi G H s1 s2 h=>by rw[zaY] at h;exact h
 stop:=λi G H s1 s2 h=>by rw[zaY] at h;exact h
 yld:=λi G H x H' d s1 s2 e y=>by
  obtain ⟨rfl,rfl⟩:=y;unfold zbN at e;rw[Qd] at e
  have hi:i<(List.range (hi-lo).toNat).length:=by
   refine Nat.lt_of_not_le λz=>?_;rw[QB z] at e;cases e
  rw[Qe hi,J0] at e;cases e;exact ⟨G,.refl s2,.int _⟩
def zj2:List D->Option (List D)
 |[.int j]=>if j<=1000000 /\ -1000000<=j then some (zbN 0 j) else none
 |_=>none
def zj3:List D->Option (List D)
 |[.int i,.int j]=>if j<=1000000 /\ -1000000<=j/\i<=1000000 /\ -1000000<=i then some (zbN i j) else none
 |_=>none
def zeh(f:M (List D)):M (List D):=zau f λx=>mOpt (zj2 x)
def zno(f:M (List D)):M (List D):=zau f λx=>mOpt (zj3 x)
theorem zbY{f:M (List D)}{p2:Pos}(hg:Gl X "range")(hm:X.mg "range" = none)(ha:PA X [a] (tDs X.K B G0 f))(hs:starEach [a] X.env=[(false,eval a X.env)]:=by rfl) :
  PI X tg (.Call (.Name "range" p2) [a] [] pos) (iD X.K B G0 (zeh f)):=piof (zkJ hg hm ha hs) λσ H R q=>tM.toI (R0:=Reps X.K) q λv H' G' Z' x k r a=>by
 cases z:zj2 x with
 |none=>rw[z] at a;exact a.elim
 |some ds=>
  rw[z] at a;unfold zj2 at z
  split at z
  ·split at z
   ·rename_i j c
    cases z;obtain ⟨w,rfl,r'⟩:=r.one_inv
    refine ⟨j,by rw[r'.int_inv],by omega,by omega,?_⟩
    have it:=zfb (K:=X.K) (G1:=G') 0 j;rw[Int.sub_zero] at it;exact a _ G' H' k (.refl _) it
   ·cases z
  ·cases z
theorem zk4{f:M (List D)}{p2:Pos}(hg:Gl X "range")(hm:X.mg "range" = none)(ha:PA X [a,b] (tDs X.K B G0 f))(hs:starEach [a,b] X.env=[(false,eval a X.env),(false,eval b X.env)]:=by rfl)(hs2:starEach [b] X.env=[(false,eval b X.env)]:=by rfl) :
  PI X tg (.Call (.Name "range" p2) [a,b] [] pos) (iD X.K B G0 (zno f)):=piof (zkK hg hm ha hs hs2) λσ H R q=>tM.toI (R0:=Reps X.K) q λv H' G' Z' x k r a=>by
 cases z:zj3 x with
 |none=>rw[z] at a;exact a.elim
 |some ds=>
  rw[z] at a;unfold zj3 at z
  split at z
  ·split at z
   ·rename_i i j c
    cases z;obtain ⟨w,w',rfl,r1,r2⟩:=r.two_inv
    refine ⟨i,j,by rw[r1.int_inv,r2.int_inv],⟨by omega,by omega,by omega,by omega⟩,?_⟩
    exact a _ G' H' k (.refl _) (zfb i j)
   ·cases z
  ·cases z
def zcT(n:Nat):List D->List D
 |[]=>[]
 |d::r=>.tuple [.int n,d]::zcT (n+1) r
theorem zaG:∀(n:Nat)(ds:List D),(zcT n ds).length=ds.length
 |_,[]=>rfl
 |n,d::r=>by rw[zcT,QG,QG,zaG]
theorem zfc:∀(n:Nat)(ds:List D)(i:Nat),(zcT n ds)[i]?=ds[i]?.map λd=>.tuple [.int ((n+i:Nat):Int),d]
 |_,[],i=>by simp[zcT]
 |n,d::r,0=>by simp[zcT]
 |n,d::r,i+1=>by
  rw[zcT,List.getElem?_cons_succ,List.getElem?_cons_succ,zfc (n+1) r i]
  have:n+1+i=n+(i+1):=by omega
  rw[this]
theorem zj4{K:Frag}{G1:Hp}{ad:Addr}{vs:List V}{ds:List D}(h:SqL K G1 ad vs)(r:Reps K G1 vs ds):zfa K (Ite K ad) (zcT 0 ds) G1 where
 go:=λi G H s1 s2 hi=>by
  rw[zaG] at hi;have hi':i<vs.length:=by rw[r.length];exact hi
  exact ⟨vs,vs[i],(s1.trans s2).seq h,Qe hi'⟩
 stop:=λi G H s1 s2 hi=>by
  rw[zaG] at hi;exact ⟨vs,(s1.trans s2).seq h,by rw[r.length];exact hi⟩
 yld:=λi G H x H' d s1 s2 e y=>by
  obtain ⟨p,v,hp,rfl,y,rfl⟩:=y;rw[zfc] at e
  cases z:ds[i]? with
  |none=>rw[z] at e;cases e
  |some d0=>
   rw[z] at e;cases e;obtain ⟨w,e1,r1⟩:=r.get z
   have:=y vs ((s1.trans s2).seq h)
   rw[e1] at this;cases this;refine ⟨upd G p (.tup [.int i,v]),Ext.new s2 hp,.tup (SqT.of zaT) (.cons ?_ (.cons ((r1.mono s1).mono (zaX (s2.free hp))) .nil))⟩;rw[QP];exact .int _
def zk5:List D->Option (List D)
 |[.list ds]=>some (zcT 0 ds)
 |_=>none
def zdy(f:M (List D)):M (List D):=zau f λx=>mOpt (zk5 x)
theorem zcr{f:M (List D)}{p2:Pos}{elts:List Expr}{x1}{tp:Pos}(hg:Gl X "enumerate")(hm:X.mg "enumerate" = none)(ha:PA X [a] (tDs X.K B G0 f))(hs:starEach [a] X.env=[(false,eval a X.env)]:=by rfl) :
  PI X (.Tuple elts x1 tp) (.Call (.Name "enumerate" p2) [a] [] pos) (iD X.K B G0 (zdy f)):=piof (zo1 hg hm ha hs) λσ H R q=>tM.toI (R0:=Reps X.K) q λv H' G' Z' x k r a=>by
 cases z:zk5 x with
 |none=>rw[z] at a;exact a.elim
 |some ds=>
  rw[z] at a;unfold zk5 at z
  split at z
  ·cases z
   obtain ⟨w,rfl,r'⟩:=r.one_inv;obtain ⟨ad,vs,rfl,h1,r1⟩:=r'.lst_inv;exact ⟨ad,vs,rfl,k.gh.seq h1,a _ G' H' k (.refl _) (zj4 h1 r1)⟩
  ·cases z
def zg9(s:D->DEnv->Option DEnv)(g:SM):List D->SM
 |[],Z=>.nx Z
 |d::r,Z=>match s d Z with
  |none=>.bad
  |some Z1=>match g Z1 with
   |.nx Z2=>zg9 s g r Z2
   |.ct Z2=>zg9 s g r Z2
   |.bk Z2=>.nx Z2
   |.rt d=>.rt d
   |.ex Z2 d=>.ex Z2 d
   |.bad=>.bad
def sFor(f:M (List D))(s:D->DEnv->Option DEnv)(g:SM):SM:=sB f λds=>zg9 s g ds
theorem zbt{iter:Expr}{body:List Stmt}{f:M (List D)}{s:D->DEnv->Option DEnv}{g:SM}(hp:PassesOwn (model X.prog X.w) X.A X.env X.xe)(hc:X.calm=true)(hi:PI X tg iter (iD X.K B G0 f))(hg:PG X tg (tG X.K B G0 s))(hb:PSs X body (tS X.K B G0 KX g))
  (hs:∀x,foldedSetIterable iter X.env x=pure x:=by intro _;rfl):PS X (.For tg iter body [] pos) (tS X.K B G0 KX (sFor f s g)) :=
 psof (zp9 hp hc hi hg hb hs) λDn σ H ⟨G,Z,k,a⟩=>by
  refine ⟨G,Z,k,?_⟩;unfold sFor sB at a
  cases z:f Z with
  |bad=>rw[z] at a;exact a.elim
  |ok ds Z1=>
   rw[z] at a;dsimp only at a ⊢;intro J G1 H1 k1 s1 it;refine ⟨λi m σ' H'=>m=ds.length-i/\∃G' Z',EOk X.K B G0 G' H' σ' Z'/\Same G1 G'/\aftS X.K B G0 KX (zg9 s g (ds.drop i) Z') G' Dn,⟨ds.length,by omega,G1,Z1,k1,.refl _,by rw[List.drop_zero];exact aftS.mono s1 a⟩,?_⟩
   rintro i m σ' H' ⟨rfl,G',Z',k',s',a'⟩
   by_cases hi:i<ds.length
   ·right
    refine ⟨it.go i G' H' s' k'.gh hi,λσ2 H2=>∃G2 Z2,EOk X.K B G0 G2 H2 σ2 Z2/\Same G1 G2/\aftS X.K B G0 KX (zg9 s g (ds.drop (i+1)) Z2) G2 Dn,λσ2 H2 h2=>⟨ds.length-(i+1),by omega,rfl,h2⟩,λx H2 y=>?_⟩
    obtain ⟨G2,ex,rx⟩:=it.yld i G' H' x H2 ds[i] s' k'.gh (Qe hi) y;rw[Q8 hi,zg9] at a'
    cases z2:s ds[i] Z' with
    |none=>rw[z2] at a';exact a'.elim
    |some Z2=>
     rw[z2] at a';dsimp only at a';refine ⟨G2,Z',ds[i],Z2,k'.ext ex,rx,z2,λσ3 G3 H3 k3 s3=>⟨G3,Z2,k3,?_⟩⟩;have s13:Same G1 G3:=(s'.trans ex.g).trans s3
     cases z3:g Z2 with
     |nx Z3=>rw[z3] at a';exact λσ4 G4 H4 k4 s4=>⟨G4,Z3,k4,s13.trans s4,aftS.mono ((ex.g.trans s3).trans s4) a'⟩
     |ct Z3=>rw[z3] at a';exact λσ4 G4 H4 k4 s4=>⟨G4,Z3,k4,s13.trans s4,aftS.mono ((ex.g.trans s3).trans s4) a'⟩
     |bk Z3=>rw[z3] at a';exact λσ4 G4 H4 k4 s4=>a' σ4 G4 H4 k4 ((ex.g.trans s3).trans s4)
     |rt d=>rw[z3] at a';exact a'
     |ex Z3 d=>rw[z3] at a';exact λv σ4 G4 H4 k4 s4 r4=>a' v σ4 G4 H4 k4 ((ex.g.trans s3).trans s4) r4
     |bad=>rw[z3] at a';exact a'.elim
   ·left
    rw[J4 (by omega)] at a'
    exact ⟨it.stop i G' H' s' k'.gh (by omega),a' σ' G' H' k' (.refl _)⟩
theorem znp{k:Nat}{f:Addr}{fd:FuncData}{ps:List Str}{F:List D->Option D}{g:M (List D)}{x:Str}{p2:Pos}{n:Nat}(FK:FnOk X.prog X.w X.K X.mg X.base CX0 k f fd ps (spD X.K n F))(hr:Room k X.A)(hg:Gl X x)(hm:X.mg x=some (.ref f))(hk:PySem.W.keepIn X.K (.ref f)=true)
  (hb:zgY X.K fd ps []) (ha:PA X (e::es) (tDs X.K B G0 g)) (hn:(e::es).length=n) (hdb:(x==("__debug__" : Str))=false:=by decide) (he:starEach (e::es) X.env=(false,eval e X.env)::starEach es X.env:=by rfl) (hpl:(backTo pos (starEach es X.env)).any (·.1)=false:=by rfl) :
  PE X (.Call (.Name x p2) (e::es) [] pos) (tD X.K B G0 (zau g λxs=>if xs.length=n then mOpt (F xs) else λ_=>.bad)) :=
 peof (zoS FK hr hg hm hk hb .nil zrx ha hdb he hpl) λσ H Q q=>tM.one (R:=Reps X.K) q λv H2 G Z ds k r a=>by
  split at a
  ·rename_i hl
   obtain ⟨d,e,a⟩:=a.opt;exact ⟨G,ds,d,by rw[Ji,r.length];exact hl,k.gh,by rw[Ji];exact r,e,λw G' H' ex rw=>a.done k ex rw⟩
  ·exact a.elim
end
def zcU(N:List Str)(ds:List D):DEnv:=(ds.map λd=>some (Sl.pub d))++replicate (N.length-ds.length) none
theorem znq{K:Frag}{N:List Str}{G H:Hp}{vs:List V}{ds:List D}(s:Same G H)(r:Reps K G vs ds):EOk K H G G H (L2.ze3 N vs) (zcU N ds) where
 bh:=.refl _
 gh:=s
 g0:=.refl _
 np:=λ_ _ _ n=>n
 len:=by unfold L2.ze3 zcU;rw[Ql,Ql,Qb,Qb,QD,QD,r.length]
 pub:=λi d q=>by
  unfold zcU at q;unfold L2.ze3
  by_cases hi:i<ds.length
  ·rw[Qw (by rw[Qb];exact hi),Qd] at q
   cases z:ds[i]? with
   |none=>rw[z] at q;cases q
   |some d'=>
    rw[z] at q;cases q;obtain ⟨v,e1,r1⟩:=r.get z;refine ⟨v,?_,r1⟩;rw[Qw (by rw[Qb,r.length];exact hi),Qd,e1]
    rfl
  ·rw[Qr (by rw[Qb];omega),QA] at q
   split at q <;> cases q
 own:=λi es q=>by
  unfold zcU at q
  by_cases hi:i<ds.length
  ·rw[Qw (by rw[Qb];exact hi),Qd] at q
   cases z:ds[i]? with
   |none=>rw[z] at q;cases q
   |some d'=>rw[z] at q;cases q
  ·rw[Qr (by rw[Qb];omega),QA] at q
   split at q <;> cases q
 sep:=λi j a es fs q _ _ _=>by
  unfold zcU at q
  by_cases hi:i<ds.length
  ·rw[Qw (by rw[Qb];exact hi),Qd] at q
   cases z:ds[i]? with
   |none=>rw[z] at q;cases q
   |some d'=>rw[z] at q;cases q
  ·rw[Qr (by rw[Qb];omega),QA] at q
   split at q <;> cases q
 dp:=by
  have key:∀{i:Nat}{s:Sl},(zcU N ds)[i]?=some (some s)->∃d,s=.pub d:=λ{i s} q=>by
   unfold zcU at q
   by_cases hi:i<ds.length
   ·rw[Qw (by rw[Qb];exact hi),Qd] at q
    cases z:ds[i]? with
    |none=>rw[z] at q;cases q
    |some d'=>rw[z] at q;cases q;exact ⟨_,rfl⟩
   ·rw[Qr (by rw[Qb];omega),QA] at q
    split at q <;> cases q
  exact .of (λi p d q=>by obtain ⟨_,e⟩:=key q;cases e) λi ds q=>by obtain ⟨_,e⟩:=key q;cases e
def runD(N:List Str)(g:SM)(ds:List D):Option D:=match g (zcU N ds) with
 |.rt d=>some d
 |.nx _=>some .none
 |_=>none
theorem okD{P:Program}{w:World}{K:Frag}{mg:Str->Option Value}{base:Heap}{x qual:Str}{st:Stmt}{f:Addr}{fd:FuncData}{N ps:List Str}{k n:Nat}{g:SM}(F:Fun K x qual st f fd)(S:ze2 N ps (zak st))(hn:ps.length=n)
  (der:∀(cdv:Value)(A:Around)(outer:List Env)(s:Shared)(H:Hp)(E:XK)(B G0:Hp),Room k (A.deeper (envOfC qual (zak st) s.heap.objs.size f cdv)) ->
   PSs (cxOf CX0 P w K mg base N qual (zak st) f cdv A outer s H E).nox (zdc st) (tS K B G0 KX0 g)):FnOk P w K mg base CX0 (k+1) f fd ps (spD K n (runD N g)):=by
 refine F.ok S (λvs H Q E h=>?_) (λcdv A outer s H vs Q E hr h=>?_)
 ·obtain ⟨_,_,_,hl,_⟩:=h
  rw[hl,hn]
 ·obtain ⟨G,ds,d,hl,sg,r,hF,q⟩:=h
  refine ⟨_,der cdv A outer s H E H G hr,G,zcU N ds,znq sg r,?_⟩;unfold runD at hF
  cases z:g (zcU N ds) with
  |rt d'=>
   rw[z] at hF;cases hF;exact λv G' H' ex rr=>q v G' H' ex rr
  |nx Z=>
   rw[z] at hF;cases hF;exact λσ' G' H' k' _=>q .non G' H' k'.exit .non
  |bk Z=>rw[z] at hF;cases hF
  |ct Z=>rw[z] at hF;cases hF
  |ex Z d=>rw[z] at hF;cases hF
  |bad=>rw[z] at hF;cases hF
section
variable{X:Cx}{B G0:Hp}{e a b c tg:Expr}{pos:Pos}{es rest:List Expr}
def oNeg:D->Option D
 |.int i=>some (.int (-i))
 |_=>none
def dNeg(f:M D):M D:=zau f λx=>mOpt (oNeg x)
theorem zei{f:M D}(h:PE X a (tD X.K B G0 f)):PE X (.UnaryOp .USub a pos) (tD X.K B G0 (dNeg f)) :=
 peof (zrn zqg h) λσ H Q q=>tM.one (R:=Rep X.K) q λv H2 G Z x k r a=>by
  cases x with
  |int i=>exact ⟨i,r.int_inv,aft.now a k (.int _)⟩
  |_=>exact a.elim
end
def Def(P:Program)(w:World)(K:Frag)(mg:Str->Option Value)(base:Heap)(x:Str)(k n:Nat)(F:List D->Option D):Prop :=
 ∃(f:Addr)(fd:FuncData)(ps:List Str),mg x=some (.ref f)/\PySem.W.keepIn K (.ref f)=true/\zgY K fd ps []/\FnOk P w K mg base CX0 k f fd ps (spD K n F)
def dFun(n:Nat)(F:List D->Option D)(g:M (List D)):M D:=zau g λxs=>if xs.length=n then mOpt (F xs) else λ_=>.bad
section
variable{X:Cx}{B G0:Hp}{e:Expr}{pos:Pos}{es:List Expr}
theorem zpd{k n:Nat}{F:List D->Option D}{g:M (List D)}{x:Str}{p2:Pos}(d:Def X.prog X.w X.K X.mg X.base x k n F)(hr:Room k X.A)(hg:Gl X x)(ha:PA X (e::es) (tDs X.K B G0 g))(hn:(e::es).length=n:=by rfl)
  (hdb:(x==("__debug__" : Str))=false:=by decide) (he:starEach (e::es) X.env=(false,eval e X.env)::starEach es X.env:=by rfl) (hpl:(backTo pos (starEach es X.env)).any (·.1)=false:=by rfl) :
  PE X (.Call (.Name x p2) (e::es) [] pos) (tD X.K B G0 (dFun n F g)):=by
 obtain ⟨f,fd,ps,h1,h2,h3,h4⟩:=d;exact znp h4 hr hg h1 h2 h3 ha hn hdb he hpl
end
theorem Def.mk{P:Program}{w:World}{K:Frag}{mg:Str->Option Value}{base:Heap}{x:Str}{k n:Nat}{F:List D->Option D}{st:Stmt}{f:Addr}{fd:FuncData}{ps:List Str}(hm:mg x=some (.ref f))(FU:Fun K x x st f fd)(hb:zgY K fd ps [])(ok:FnOk P w K mg base CX0 k f fd ps (spD K n F)) :
  Def P w K mg base x k n F:=⟨f,fd,ps,hm,FU.kp,hb,ok⟩
theorem zqB{K:Frag}{H:Hp}{a:Addr}{ns:List Int}{F:List D->Option D}{E:XK}(hS:SqL K H a (ns.map V.int))(h:F [.list (ns.map int)]=some (.bool true)):spD K 1 F [.ref a] H (λv _=>v=.bl true) E :=
 ⟨H,[.list (ns.map int)],.bool true,rfl,.refl _,.cons (.lst hS (Reps.ints ns)) .nil,h,λ_ _ _ _ r=>r.bl_inv⟩
end DL
namespace L2
open PySem PySem.Spec PyProof.Rows
theorem mem_of_lookup{x:Str}{k:NameKind}:∀{l:List (Str×NameKind)},l.lookup x=some k->(x,k)∈l
 |[],h=>by cases h
 |(y,j)::r,h=>by
  rw[Q0] at h
  split at h
  ·rename_i e
   cases h
   have:x=y:=by simpa using e
   rw[this];exact Qo
  ·exact Qj _ (mem_of_lookup h)
theorem zej{env:Env}:∀(l:List (Str×NameKind))(acc:List (Str×Addr)),(∀y∈l,y.2=.free->∃c,env.cells.lookup y.1=some c) ->
  ∃cl,(forIn l acc (λx r=>if (x.2==NameKind.free)=true then (do let a ←cellOf env x.1;pure (ForInStep.yield ((x.1,a)::r))) else pure (ForInStep.yield r)):Sem (List (Str×Addr)))=pure cl /\
   (∀x c,cl.lookup x=some c->acc.lookup x=some c∨env.cells.lookup x=some c)/\(∀y∈l,y.2=.free->∃c,cl.lookup y.1=some c)/\(∀x c,acc.lookup x=some c->∃c',cl.lookup x=some c')
 |[],acc,_=>⟨acc,rfl,λ_ _ h=>.inl h,λ_ h=>absurd h (by simp),λx c h=>⟨c,h⟩⟩
 |(n,k)::r,acc,h=>by
  by_cases hk:k=.free
  ·subst hk
   obtain ⟨c,hc⟩:=h (n,.free) Qo rfl;obtain ⟨cl,e,p1,p2,p3⟩:=zej r ((n,c)::acc) λy hy=>h y (Qj _ hy);have hco:cellOf env n=pure c:=by unfold cellOf;rw[hc]
   have key:∀x c',((n,c)::acc).lookup x=some c'->acc.lookup x=some c'∨env.cells.lookup x=some c':=λx c' q=>by
    rw[Q0] at q
    split at q
    ·rename_i e1
     cases q
     have:x=n:=by simpa using e1
     subst this;exact .inr hc
    ·exact .inl q
   have own:((n,c)::acc).lookup n=some c:=by rw[List.lookup_cons];simp
   refine ⟨cl,?_,λx c' q=>?_,λy hy hf=>?_,λx c' q=>?_⟩
   ·rw[List.forIn_cons]
    have:(if (((n,NameKind.free):Str×NameKind).2==NameKind.free)=true then (do let a ←cellOf env n;pure (ForInStep.yield ((n,a)::acc))) else pure (ForInStep.yield acc):Sem _)=pure (ForInStep.yield ((n,c)::acc)):=by
     rw[Qm (show ((n,NameKind.free).snd==NameKind.free)=true from rfl),hco];rfl
    refine Eq.trans ?_ e;dsimp only at this ⊢;rw[this]
    rfl
   ·rcases p1 x c' q with z|z
    ·exact key x c' z
    ·exact .inr z
   ·rcases QU.mp hy with z|z
    ·subst z
     exact p3 n c own
    ·exact p2 y z hf
   ·by_cases hx:x=n
    ·subst hx;exact p3 x c own
    ·refine p3 x c' ?_
     have hb:(x==n)=false:=by simpa using hx
     rw[Q0,hb];exact q
  ·obtain ⟨cl,e,p1,p2,p3⟩:=zej r acc λy hy=>h y (Qj _ hy)
   refine ⟨cl,?_,p1,λy hy hf=>?_,p3⟩
   ·rw[List.forIn_cons]
    have hb:(k==NameKind.free)=false:=by cases k <;> first|rfl|exact absurd rfl hk
    refine Eq.trans ?_ e;dsimp only;rw[hb,Qy (by decide)]
    rfl
   ·rcases QU.mp hy with z|z
    ·subst z;exact absurd hf hk
    ·exact p2 y z hf
theorem zj5{scope:Scope}{env:Env}(h:∀y∈scope.names,y.2=.free->∃c,env.cells.lookup y.1=some c) :
  ∃cl,closureFor scope env=pure cl/\(∀x c,cl.lookup x=some c->env.cells.lookup x=some c)/\∀y∈scope.names,y.2=.free->∃c,cl.lookup y.1=some c:=by
 obtain ⟨cl,e,p1,p2,_⟩:=zej scope.names [] h;refine ⟨cl,?_,λx c q=>(p1 x c q).elim (λz=>by cases z) id,p2⟩
 have e2:((forIn scope.names [] (λx r=>if (x.2==NameKind.free)=true then (do let a ←cellOf env x.1;pure (ForInStep.yield ((x.1,a)::r))) else pure (ForInStep.yield r)):Sem (List (Str×Addr))) >>= λs=>pure s)=pure cl:=by
  rw[e];rfl
 exact e2
theorem zfd{env:Env}{x:Str}{k:NameKind}:∀{names:List (Str×NameKind)},(names.map λ(n,k)=>if (k==NameKind.free&&env.scope.kind==.function&&env.kindOf n==some .cell) then (n,NameKind.cell) else (n,k)).lookup x=some k ->
  names.lookup x=some k∨(names.lookup x=some .free/\k=.cell)
 |[],h=>by cases h
 |(n,j)::r,h=>by
  have ih:=@zfd env x k r;have h:List.lookup x ((if (j==NameKind.free&&env.scope.kind==.function&&env.kindOf n==some .cell)=true then (n,NameKind.cell) else (n,j))::_)=some k:=h
  cases hx:x==n with
  |true=>
   by_cases hc:(j==NameKind.free&&env.scope.kind==.function&&env.kindOf n==some .cell)=true
   ·rw[Qm hc] at h
    simp only[Q0,hx] at h ⊢;cases h;simp only[Ja] at hc
    have:j=.free:=by have:=hc.1.1;cases j <;> first|rfl|cases this
    subst this;exact .inr ⟨rfl,rfl⟩
   ·rw[Qy hc] at h
    simp only[Q0,hx] at h ⊢;exact .inl h
  |false=>
   by_cases hc:(j==NameKind.free&&env.scope.kind==.function&&env.kindOf n==some .cell)=true
   ·rw[Qm hc] at h
    simp only[Q0,hx] at h ⊢;exact ih h
   ·rw[Qy hc] at h
    simp only[Q0,hx] at h ⊢;exact ih h
theorem zeF{env:Env}{x:Str}:∀{names:List (Str×NameKind)},names.lookup x=some .free ->
  (names.map λ(n,k)=>if (k==NameKind.free&&env.scope.kind==.function&&env.kindOf n==some .cell) then (n,NameKind.cell) else (n,k)).lookup x=some .free ∨
  (names.map λ(n,k)=>if (k==NameKind.free&&env.scope.kind==.function&&env.kindOf n==some .cell) then (n,NameKind.cell) else (n,k)).lookup x=some .cell
 |[],h=>by cases h
 |(n,j)::r,h=>by
  have ih:=@zeF env x r;show List.lookup x ((if (j==NameKind.free&&env.scope.kind==.function&&env.kindOf n==some .cell)=true then (n,NameKind.cell) else (n,j))::_)=_∨List.lookup x ((if (j==NameKind.free&&env.scope.kind==.function&&env.kindOf n==some .cell)=true then (n,NameKind.cell) else (n,j))::_)=_
  cases hx:x==n with
  |true=>
   simp only[Q0,hx] at h;cases h
   by_cases hc:(NameKind.free==NameKind.free&&env.scope.kind==.function&&env.kindOf n==some .cell)=true
   ·rw[if_pos hc];simp[List.lookup_cons,hx]
   ·rw[if_neg hc];simp[List.lookup_cons,hx]
  |false=>
   simp only[Q0,hx] at h
   by_cases hc:(j==NameKind.free&&env.scope.kind==.function&&env.kindOf n==some .cell)=true
   ·rw[Qm hc];simp only[Q0,hx];exact ih h
   ·rw[Qy hc];simp only[Q0,hx];exact ih h
theorem zfP{env:Env}{x:Str}:∀{names:List (Str×NameKind)},names.lookup x=some .globalImplicit ->
  (names.map λ(n,k)=>if (k==NameKind.free&&env.scope.kind==.function&&env.kindOf n==some .cell) then (n,NameKind.cell) else (n,k)).lookup x=some .globalImplicit
 |[],h=>by cases h
 |(n,j)::r,h=>by
  have ih:=@zfP env x r;show List.lookup x ((if (j==NameKind.free&&env.scope.kind==.function&&env.kindOf n==some .cell)=true then (n,NameKind.cell) else (n,j))::_)=_
  cases hx:x==n with
  |true=>
   simp only[Q0,hx] at h;cases h;rw[if_neg (by simp)]
   simp[List.lookup_cons,hx]
  |false=>
   simp only[Q0,hx] at h
   by_cases hc:(j==NameKind.free&&env.scope.kind==.function&&env.kindOf n==some .cell)=true
   ·rw[Qm hc];simp only[Q0,hx];exact ih h
   ·rw[Qy hc];simp only[Q0,hx];exact ih h
def Cx.blk(X:Cx)(N':List Str)(scope:Scope)(cl:List (Str×Addr))(C:Addr)(s₀:Shared)(H₀:Hp)(ex:List Addr):Cx :=
 { X with N:=N',s₀:=s₀,H₀:=H₀,env:=compEnvC scope cl C X.env,outer:=X.stack,ex:=ex,fn:=λ_=>false,xe:=λ_ _=>False }
section
variable{X:Cx}{N':List Str}{scope:Scope}{cl:List (Str×Addr)}{C:Addr}{s₀:Shared}{H₀:Hp}{ex:List Addr}{x:Str}
theorem zpe(h:scope.names.lookup x=some .local∨scope.names.lookup x=some .free):Vis (X.blk N' scope cl C s₀ H₀ ex).env.scope x:=by
 rcases h with h|h
 ·exact .inl (lookup_relabel_local h)
 ·rcases zeF (env:=X.env) h with z|z
  ·exact .inr (.inr z)
  ·exact .inr (.inl z)
theorem za0(h:scope.names.lookup x=some .local):Loc (X.blk N' scope cl C s₀ H₀ ex).env.scope x:=.inl (lookup_relabel_local h)
theorem zbe(h:scope.names.lookup x=some .local):(X.blk N' scope cl C s₀ H₀ ex).env.scope.names.lookup x=some .local:=lookup_relabel_local h
theorem zdA(h:scope.names.lookup x=some .globalImplicit):Gl (X.blk N' scope cl C s₀ H₀ ex) x:=zfP h
end
def zdL(names:List (Str×NameKind))(N N2:List Str)(k:Nat):Bool :=
 N2.length==N.length+k&&(List.range N2.length).all λi=>match N2[i]? with
  |none=>true
  |some x=>match names.lookup x with
   |some .free=>N[i]?==some x
   |some .local=>decide (N.length<=i)&&decide (i<N.length+k)
   |some .cell=>false
   |_=>true
theorem zha{names:List (Str×NameKind)}{N N2:List Str}{k:Nat}(h:zdL names N N2 k=true) :
  N2.length=N.length+k/\∀(i:Nat) x,N2[i]?=some x->(names.lookup x=some .free->N[i]?=some x)/\(names.lookup x=some .local->N.length<=i/\i<N.length+k):=by
 unfold zdL at h;simp only[Ja,beq_iff_eq,Jq,Q5] at h;refine ⟨h.1,λi x e=>?_⟩;have hi:=(Qh.mp e).1
 have:=h.2 i hi
 rw[e] at this;refine ⟨λq=>?_,λq=>?_⟩
 ·simp only[q] at this
  simpa using this
 ·simp only[q] at this
  simpa using this
theorem Inv.enter{X:Cx}{pins:List (Addr×Obj)}{σ:St}{H:Hp}{s3:Shared}(I:Inv X pins σ H s3){scope:Scope}{cl:List (Str×Addr)}{N2:List Str}{k:Nat}{h':Heap}{fp:List Addr}{t':Nat}{m0:Str->Option Value}
  (hb:zdL scope.names X.N N2 k=true) (hkind:scope.kind=.function) (hcell:∀y∈scope.names,y.2≠.cell)
  (hfree:∀y∈scope.names,y.2=.free->X.env.scope.names.lookup y.1=some .cell∨X.env.scope.names.lookup y.1=some .free)
  (cl1:∀x c,cl.lookup x=some c->X.env.cells.lookup x=some c) (cl2:∀y∈scope.names,y.2=.free->∃c,cl.lookup y.1=some c)
  (hn:h'.Ns s3.heap.objs.size m0) (hk:∀b o,s3.heap.get? b=some o->h'.get? b=some o) (hf:∀b∈fp,FpOk X pins H b) (hfo:∀b∈fp,∃o,s3.heap.get? b=some o) :
  Inv (X.blk N2 scope cl s3.heap.objs.size s3 H fp) pins (σ++replicate k none) H { s3 with heap:=h',toks:=t' }:=by
 obtain ⟨hl,hN⟩:=zha hb;have lt:∀b o,s3.heap.get? b=some o->b≠s3.heap.objs.size:=λb o e=>QT (Qi e);have ofl:∀x,scope.names.lookup x=some .free->(x,NameKind.free)∈scope.names:=λx h=>mem_of_lookup h;have kinv:∀x kk,(X.blk N2 scope cl s3.heap.objs.size s3 H fp).env.scope.names.lookup x=some kk->scope.names.lookup x=some kk∨(scope.names.lookup x=some .free/\kk=.cell):=λx kk h=>zfd (env:=X.env) h
 have isfree:∀x,(X.blk N2 scope cl s3.heap.objs.size s3 H fp).env.scope.names.lookup x=some .cell∨(X.blk N2 scope cl s3.heap.objs.size s3 H fp).env.scope.names.lookup x=some .free->scope.names.lookup x=some .free:=λx h=>by
  rcases h with h|h
  ·rcases kinv x _ h with z|z
   ·exact absurd rfl (hcell _ (mem_of_lookup z))
   ·exact z.1
  ·rcases kinv x _ h with z|z
   ·exact z
   ·exact z.1
 have ok:(X.blk N2 scope cl s3.heap.objs.size s3 H fp).Ok :=
  {
   mod:=I.ok.mod
   kind:=hkind
   glob:=I.ok.glob
   blt:=I.ok.blt
   above:=Qx _
   inj:=λx y c a b=>I.ok.inj x y c (cl1 x c a) (cl1 y c b)
   has:=λx h=>cl2 (x,.free) (ofl x (isfree x h)) rfl
   cab:=λx c h=>by cases h
   hd:=I.ok.hd
   frames:=I.ok.frames
   stk:=.inl rfl
   exf:=λb hb=>⟨let ⟨o,e⟩:=hfo b hb;lt b o e,λx c e=>(hf b hb).2.2.2.2.1 x c (cl1 x c e)⟩
   bs:=I.bs
   bsz:=QO I.ok.bsz I.sz
   noex:=λb o e hb=>by
    rcases (hf b hb).2.2.2.1 with z|z
    ·exact I.ok.noex b o e z
    ·exact absurd (QJ (Qi e) (QO I.ok.bsz z)) (Jv _)
   exfs:=λb hb hx=>by
    rcases QU.mp (I.stkSub b hx) with z|z
    ·exact (hf b hb).2.1 z
    ·exact (hf b hb).2.2.1 z
   funs:=I.stack
   frf:=I.stkFree }
 refine ⟨ok,rfl,I.bare,Un.kept hk,⟨m0,hn,λi x v e1 e2 e3=>?_⟩,λx c e=>?_,I.hok.fresh (Qx _),λx c e=>I.freeC x c (cl1 x c e),λp hp=>?_,I.hok.kept hk,?_⟩
 ·have nl:scope.names.lookup x≠some .local:=λz=>by
   obtain ⟨g1,g2⟩:=(hN i x e1).2 z;rw[←I.len] at g1 g2;rw[Qr g1,QA] at e2
   split at e2 <;> cases e2
  have fr:scope.names.lookup x=some .free:=by
   rcases e3 with z|z|z
   ·rcases kinv x _ z with q|q
    ·exact absurd q nl
    ·cases q.2
   ·exact isfree x (.inl z)
   ·exact isfree x (.inr z)
  have eN:=(hN i x e1).1 fr;have hi:i<σ.length:=by rw[I.len];exact (Qh.mp eN).1
  rw[Qw hi] at e2;obtain ⟨m,hm,hlk⟩:=I.loc;have hkd:=hfree _ (ofl x fr) rfl;obtain ⟨u,r,l⟩:=hlk i x v eN e2 (.inr hkd);refine ⟨u,r,.inr ⟨?_,?_⟩⟩
  ·rcases e3 with z|z|z
   ·rcases kinv x _ z with q|q
    ·exact absurd q nl
    ·cases q.2
   ·exact .inl z
   ·exact .inr z
  ·rcases l with l|⟨_,c,ec,z⟩
   ·have:X.env.scope.names.lookup x=some .local:=l.1
    rcases hkd with q|q <;> (dsimp only at q;rw[this] at q;cases q)
   ·obtain ⟨c',ec'⟩:=cl2 _ (ofl x fr) rfl
    have:=cl1 _ _ ec'
    dsimp only at this ec';rw[ec] at this;cases this;obtain ⟨o,ho,hd⟩:=z;exact ⟨c,ec',o,hk c o ho,hd⟩
 ·obtain ⟨v,o,ho,hd⟩:=I.cell x c (cl1 x c e)
  exact ⟨v,o,hk c o ho,hd⟩
 ·obtain ⟨e,n,ne,nf,d⟩:=I.pin p hp
  refine ⟨hk _ _ e,n,lt _ _ e,λz=>?_,d⟩;rcases QU.mp (I.stkSub _ z) with q|q
  ·exact ne q
  ·exact nf q
 ·rw[Ql,QD,I.len]
  exact hl.symm
section
variable{prog:Program}{w:World}{A:Around}{R:Result->Shared->Prop}{s:Shared}
end
abbrev nox:Value->Shared->Prop:=λ_ _=>False
def zdM(prog:Program)(w:World)(A:Around)(tg:Expr)(ifs:List Expr)(env:Env)(it:Value)(code:Code)(W:(Shared->Prop)->Shared->Prop):Prop :=
 ∀(R:Result->Shared->Prop)(I:Nat->Shared->Prop)(n:Nat)(s:Shared),I n s ->
  (∀n s,I n s->wpAny (model prog w) A (pyNext it) (λr s₁=>match r with
   |none=>R (.ok .next) s₁
   |some v=>wpAny (model prog w) A (letOwnedTupleGo tg it v) (λ_ s₁'=>wpAny (model prog w) A (assign tg env v) (λ_ s₂=>
     wpAny (model prog w) A (forIn ifs true λc r=>if r=true then do let ok ←isTrue c env (eval c env);pure (ForInStep.yield ok) else pure (ForInStep.yield r)) (λok s₃=>
      if ok=true then W (λs₅=>∃m,m<n/\I m s₅) s₃ else ∃m,m<n/\I m s₃) nox s₂) nox s₁') nox s₁) nox s)->codeAny (model prog w) A code R s
section
variable{prog:Program}{w:World}{A:Around}{elt tg i:Expr}{ifs:List Expr}{gens:List Comprehension}{scope:Scope}{pos:Pos}{it acc:Value}{env:Env}{j:Nat}
theorem zk6(hg:gens[j]?=some ⟨tg,i,ifs,0⟩)(hn:gens[j+1]?=none):zdM prog w A tg ifs env it (.compLoop (.ListComp elt gens scope pos) j it acc env)
  (λQ s=>wpAny (model prog w) A (eval elt env) (λx s₄=>wpAny (model prog w) A (call (.builtin "list.append") [acc,x]) (λ_ s₅=>Q s₅) nox s₄) nox s):=by
 intro R I n s h turn;refine codeAny_loop rfl I (λn s hI=>?_) n h;show wpAny _ A ((compTurn (.ListComp elt gens scope pos) j it acc env).onRaise (λx=>do noteFrame x env;theTreesLotGoes x)) _ _ s
 refine wpAny_noted ?_;unfold compTurn;dsimp only;simp only[hg,hn];refine Qf (Jt (Qf (QM (turn n s hI) (λr s₁ h₁=>?_) λ_ _ h'=>h'.elim)))
 cases r with
 |none=>exact Qn h₁
 |some v=>
  refine Qf (QM h₁ (λ_ s₁' h₁'=>?_) λ_ _ h'=>h'.elim);refine Qf (QM h₁' (λ_ s₂ h₂=>Qf (QM h₂ (λok s₃ h₃=>?_) λ_ _ h'=>h'.elim)) λ_ _ h'=>h'.elim)
  cases ok with
  |false=>exact Qn ⟨rfl,h₃⟩
  |true=>exact Qf (Qf (QM h₃ (λx s₄ h₄=>Qf (QM h₄ (λ_ s₅ h₅=>Qn (Qn ⟨rfl,h₅⟩)) λ_ _ h'=>h'.elim)) λ_ _ h'=>h'.elim))
theorem zk7{tg1 i1:Expr}{ifs1:List Expr}(hg:gens[j]?=some ⟨tg,i,ifs,0⟩)(hn:gens[j+1]?=some ⟨tg1,i1,ifs1,0⟩)(hs:∀x,foldedSetIterable i1 env x=pure x):zdM prog w A tg ifs env it (.compLoop (.ListComp elt gens scope pos) j it acc env)
  (λQ s=>wpAny (model prog w) A (eval i1 env) (λx s₄=>wpAny (model prog w) A (pyIter x) (λit1 s₅=>codeAny (model prog w) A (.compStart (.ListComp elt gens scope pos) (j+1) it1 acc env)
   (λr s₆=>match r with | .ok _=>Q s₆ | .error _=>False) s₅) nox s₄) nox s):=by
 intro R I n s h turn;refine codeAny_loop rfl I (λn s hI=>?_) n h;show wpAny _ A ((compTurn (.ListComp elt gens scope pos) j it acc env).onRaise (λx=>do noteFrame x env;theTreesLotGoes x)) _ _ s
 refine wpAny_noted ?_;unfold compTurn;dsimp only;simp only[hg,hn];refine Qf (Jt (Qf (QM (turn n s hI) (λr s₁ h₁=>?_) λ_ _ h'=>h'.elim)))
 cases r with
 |none=>exact Qn h₁
 |some v=>
  refine Qf (QM h₁ (λ_ s₁' h₁'=>?_) λ_ _ h'=>h'.elim);refine Qf (QM h₁' (λ_ s₂ h₂=>Qf (QM h₂ (λok s₃ h₃=>?_) λ_ _ h'=>h'.elim)) λ_ _ h'=>h'.elim)
  cases ok with
  |false=>exact Qn ⟨rfl,h₃⟩
  |true=>
   refine Qf (QM h₃ (λx s₄ h₄=>Qf (Jt (Qf (wpAny_of_eq (hs x) (Qf (wpAny_holding (QM h₄ (λit1 s₅ h₅=>?_) λ_ _ h'=>h'.elim))))))) λ_ _ h'=>h'.elim);refine Qf (wpAny_runOwn (codeAny_mono h₅ λr s₆ h₆=>?_))
   cases r with
   |ok f=>exact Qn ⟨rfl,h₆⟩
   |error x=>exact h₆.elim
theorem zhb{R:Result->Shared->Prop}{s:Shared}(hg:gens[j]?=some ⟨tg,i,ifs,0⟩)
  (h0:codeAny (model prog w) A (.compLoop (.ListComp elt gens scope pos) j it acc env) R s)
  (h:wpAny (model prog w) A (pyIter it) (λit' s'=>codeAny (model prog w) A (.compLoop (.ListComp elt gens scope pos) j it' acc env) R s') nox s) :
  codeAny (model prog w) A (.compStart (.ListComp elt gens scope pos) j it acc env) R s:=by
 refine codeAny_of_tree ?_;show wpAny _ _ ((compStart (.ListComp elt gens scope pos) j it acc env).onRaise (λx=>do noteFrame x env;standAt theWindowsPlace)) _ _ s
 refine wpAny_notedAt ?_;unfold compStart;have hc:(clausesOf (.ListComp elt gens scope pos))[j]?=some ⟨tg,i,ifs,0⟩:=hg;simp only[hc];show wpAny _ _ (ask >>= _) _ _ s;refine Qf (wpAny_askSetting (wpAny_ite ?_));split
 ·first
   |exact Qf (Qn (Qn (And.intro rfl h0)))
   |exact Qn (And.intro rfl h0)
 ·first
   |exact Qf (wpAny_rule (Qf (Jt (Qf (QM h (λit' s' h'=>Qn (And.intro rfl h')) λ_ _ x=>x.elim)))))
   |(refine Qf (wpAny_rule ?_);show wpAny _ _ (standAt _ >>= _) _ _ s;exact Qf (Jt (Qf (QM h (λit' s' h'=>Qn (And.intro rfl h')) λ_ _ x=>x.elim))))
end
end L2
namespace DL
open PySem PySem.Spec L2
open PyProof.Rows hiding St
def zek:Option Sl->Option Sl
 |some (.own _)=>none
 |some (.deep _ _)=>none
 |x=>x
def zaK(Z:DEnv):DEnv:=Z.map zek
theorem zk8{Z:DEnv}{i:Nat}{d:D}(h:(zaK Z)[i]?=some (some (.pub d))):Z[i]?=some (some (.pub d)):=by
 unfold zaK at h;rw[Qd] at h
 cases e:Z[i]? with
 |none=>rw[e] at h;cases h
 |some o=>
  rw[e] at h
  cases o with
  |none=>cases h
  |some sl=>cases sl with
   |pub d'=>cases h;rfl
   |own ds=>cases h
   |deep p d'=>cases h
theorem zb8{Z:DEnv}{i:Nat}{ds:List D}(h:(zaK Z)[i]?=some (some (.own ds))):False:=by
 unfold zaK at h;rw[Qd] at h
 cases e:Z[i]? with
 |none=>rw[e] at h;cases h
 |some o=>
  rw[e] at h
  cases o with
  |none=>cases h
  |some sl=>cases sl with
   |pub d'=>cases h
   |own ds=>cases h
   |deep p d'=>cases h
theorem zel{Z:DEnv}{i:Nat}{p:Pat}{d:D}(h:(zaK Z)[i]?=some (some (.deep p d))):False:=by
 unfold zaK at h;rw[Qd] at h
 cases e:Z[i]? with
 |none=>rw[e] at h;cases h
 |some o=>
  rw[e] at h
  cases o with
  |none=>cases h
  |some sl=>cases sl <;> cases h
def zbz(s:D->DEnv->Option DEnv)(t:M Bool)(g:M D):List D->DEnv->List D->Option (List D)
 |[],_,es=>some es
 |d::r,Z,es=>match s d Z with
  |none=>none
  |some Z1=>match t Z1 with
   |.bad=>none
   |.ok b Z2=>if b=true then (match g Z2 with
     |.bad=>none
     |.ok e Z3=>if es.length<1000000 then zbz s t g r (zaK Z3) (es++[e]) else none)
    else zbz s t g r (zaK Z2) es
def zct(f:M (List D))(k:Nat)(s:D->DEnv->Option DEnv)(t:M Bool)(g:M D):M (List D):=λZ=>match f Z with
 |.bad=>.bad
 |.ok ds Z1=>match zbz s t g ds (zaK Z1++replicate k none) [] with
  |none=>.bad
  |some es=>.ok es Z1
def PIfs(X:Cx)(ifs:List Expr)(t:TT):Prop :=
 ∀(pins:List (Addr×Obj))(s:Shared)(σ:St)(H:Hp)(Q:Bool->Hp->Prop),Inv X pins σ H s->t σ H Q ->
  wpAny (model X.prog X.w) X.A (forIn ifs true λc r=>if r=true then do let ok ←isTrue c X.env (eval c X.env);pure (ForInStep.yield ok) else pure (ForInStep.yield r)) (TP X pins σ Q) X.xe s
section
variable{X:Cx}{B G0:Hp}
theorem zbI:PIfs X [] (tBo X.K B G0 (zah true)):=λpins s σ H Q I ⟨G,Z,k,a⟩=>wpAny_tests_nil ⟨H,I,a true G H k (.refl _) rfl⟩
theorem zem{c:Expr}{t:M Bool}(h:PT X c (tBo X.K B G0 t)):PIfs X [c] (tBo X.K B G0 t):=λpins s σ H Q I q=>wpAny_tests_one (h pins s σ H Q I q)
theorem EOk.rebase{K:Frag}{G H:Hp}{σ:St}{Z:DEnv}(k:EOk K B G0 G H σ Z):EOk K H G G H σ (zaK Z) where
 bh:=.refl _
 gh:=k.gh
 g0:=.refl _
 np:=λ_ _ _ n=>n
 len:=by unfold zaK;rw[Qb];exact k.len
 pub:=λi d q=>k.pub i d (zk8 q)
 own:=λi ds q=>(zb8 q).elim
 sep:=λi j a ds es q=>(zb8 q).elim
 dp:=.of (λ_ _ _ q=>zel q) λ_ _ q=>zb8 q
theorem EOk.more{K:Frag}{G H:Hp}{σ:St}{Z:DEnv}(k:EOk K H G G H σ (zaK Z))(n:Nat):EOk K H G G H (σ++replicate n none) (zaK Z++replicate n none) where
 bh:=.refl _
 gh:=k.gh
 g0:=.refl _
 np:=λ_ _ _ n=>n
 len:=by rw[Ql,Ql,k.len,QD,QD]
 pub:=λi d q=>by
  by_cases hi:i<(zaK Z).length
  ·rw[Qw hi] at q
   rw[Qw (by rw[←k.len];exact hi)]
   exact k.pub i d q
  ·rw[Qr (Q9 hi),QA] at q
   split at q <;> cases q
 own:=λi ds q=>by
  by_cases hi:i<(zaK Z).length
  ·rw[Qw hi] at q
   exact (zb8 q).elim
  ·rw[Qr (Q9 hi),QA] at q
   split at q <;> cases q
 sep:=λi j a ds es q=>by
  by_cases hi:i<(zaK Z).length
  ·rw[Qw hi] at q
   exact (zb8 q).elim
  ·rw[Qr (Q9 hi),QA] at q
   split at q <;> cases q
 dp:=by
  refine .of (λi p d q=>?_) λi ds q=>?_
  ·by_cases hi:i<(zaK Z).length
   ·rw[Qw hi] at q;exact zel q
   ·rw[Qr (Q9 hi),QA] at q;split at q <;> cases q
  ·by_cases hi:i<(zaK Z).length
   ·rw[Qw hi] at q;exact zb8 q
   ·rw[Qr (Q9 hi),QA] at q;split at q <;> cases q
theorem EOk.beside{K:Frag}{G H:Hp}{σ:St}{Z:DEnv}{a:Addr}{o:HO}(k:EOk K B G0 G H σ Z)(hg:G a=none):EOk K (upd H a o) G G (upd H a o) σ (zaK Z) where
 bh:=.refl _
 gh:=λb u e=>by rw[zaU (λz=>by subst z;rw[hg] at e;cases e)];exact k.gh b u e
 g0:=.refl _
 np:=λ_ _ _ n=>n
 len:=k.rebase.len
 pub:=k.rebase.pub
 own:=λi ds q=>(zb8 q).elim
 sep:=λi j a ds es q=>(zb8 q).elim
 dp:=.of (λ_ _ _ q=>zel q) λ_ _ q=>zb8 q
theorem lim1:1000000<=sizeLine:=lim
def zpf:Option Sl->Option Sl
 |some (.own ds)=>some (.pub (.list ds))
 |some (.deep _ d)=>some (.pub d)
 |x=>x
def zcd(Z:DEnv):DEnv:=Z.map zpf
theorem zhc{Z:DEnv}{i:Nat}{d:D}(h:(zcd Z)[i]?=some (some (.pub d))):Z[i]?=some (some (.pub d))∨(∃ds,d=.list ds/\Z[i]?=some (some (.own ds))) ∨ ∃p,Z[i]?=some (some (.deep p d)):=by
 unfold zcd at h;rw[Qd] at h
 cases e:Z[i]? with
 |none=>rw[e] at h;cases h
 |some o=>
  rw[e] at h
  cases o with
  |none=>cases h
  |some sl=>cases sl with
   |pub d'=>cases h;exact .inl rfl
   |own ds=>cases h;exact .inr (.inl ⟨ds,rfl,rfl⟩)
   |deep p d'=>cases h;exact .inr (.inr ⟨p,rfl⟩)
theorem zcV{Z:DEnv}{i:Nat}{ds:List D}(h:(zcd Z)[i]?=some (some (.own ds))):False:=by
 unfold zcd at h;rw[Qd] at h
 cases e:Z[i]? with
 |none=>rw[e] at h;cases h
 |some o=>
  rw[e] at h
  cases o with
  |none=>cases h
  |some sl=>cases sl with
   |pub d'=>cases h
   |own ds=>cases h
   |deep p d'=>cases h
theorem zfQ{Z:DEnv}{i:Nat}{p:Pat}{d:D}(h:(zcd Z)[i]?=some (some (.deep p d))):False:=by
 unfold zcd at h;rw[Qd] at h
 cases e:Z[i]? with
 |none=>rw[e] at h;cases h
 |some o=>
  rw[e] at h
  cases o with
  |none=>cases h
  |some sl=>cases sl <;> cases h
def flat:D->Bool
 |.none=>true | .bool _=>true | .int _=>true | .str _=>true|_=>false
theorem Rep.flat{K:Frag}{G G':Hp}{v:V}{d:D}(r:Rep K G v d)(h:DL.flat d=true):Rep K G' v d:=by
 cases r with
 |non=>exact .non
 |bl b=>exact .bl b
 |int i=>exact .int i
 |str x=>exact .str x
 |lst _ _=>cases h
 |tup _ _=>cases h
 |dic _=>cases h
 |exc _ _ _ _=>cases h
 |dct _ _ _ _ _=>cases h
 |dtt _ _ _ _=>cases h
theorem Reps.flat{K:Frag}{G G':Hp}:∀{vs:List V}{ds:List D},Reps K G vs ds->ds.all DL.flat=true->Reps K G' vs ds
 |_,_,.nil,_=>.nil
 |_,_,.cons r t,h=>by
  rw[List.all_cons,Ja] at h;exact .cons (r.flat h.1) (Reps.flat t h.2)
theorem EOk.lend{K:Frag}{B G0 G H:Hp}{σ:St}{Z:DEnv}{D:Addr}{o:HO}(k:EOk K B G0 G H σ Z)(hD:H D=none)(n:Nat):EOk K (upd H D o) H H (upd H D o) (σ++replicate n none) (zcd Z++replicate n none) where
 bh:=.refl _
 gh:=zaX hD
 g0:=.refl _
 np:=λ_ _ _ n=>n
 len:=by unfold zcd;rw[Ql,Ql,Qb,k.len,QD,QD]
 pub:=λi d q=>by
  have hl:(zcd Z).length=Z.length:=by unfold zcd;rw[Qb]
  by_cases hi:i<(zcd Z).length
  ·rw[Qw hi] at q
   rw[Qw (by rw[←k.len,←hl];exact hi)]
   rcases zhc q with e|⟨ds,rfl,e⟩|⟨p,e⟩
   ·obtain ⟨v,h1,h2⟩:=k.pub i d e
    exact ⟨v,h1,h2.mono k.gh⟩
   ·obtain ⟨a,vs,h1,h2,h3,h4,h5⟩:=k.own i ds e
    exact ⟨.ref a,h1,.lst (SqL.of h4) (h5.mono k.gh)⟩
   ·obtain ⟨ω,k1,k2⟩:=k.dp
    obtain ⟨v,fp,s,r,_⟩:=k1 i p d e;exact ⟨v,s,r.rep k.gh⟩
  ·rw[Qr (Q9 hi),QA] at q
   split at q <;> cases q
 own:=λi ds q=>by
  by_cases hi:i<(zcd Z).length
  ·rw[Qw hi] at q
   exact (zcV q).elim
  ·rw[Qr (Q9 hi),QA] at q
   split at q <;> cases q
 sep:=λi j a ds es q=>by
  by_cases hi:i<(zcd Z).length
  ·rw[Qw hi] at q
   exact (zcV q).elim
  ·rw[Qr (Q9 hi),QA] at q
   split at q <;> cases q
 dp:=by
  refine .of (λi p d q=>?_) λi ds q=>?_
  ·by_cases hi:i<(zcd Z).length
   ·rw[Qw hi] at q;exact zfQ q
   ·rw[Qr (Q9 hi),QA] at q;split at q <;> cases q
  ·by_cases hi:i<(zcd Z).length
   ·rw[Qw hi] at q;exact zcV q
   ·rw[Qr (Q9 hi),QA] at q;split at q <;> cases q
def zhd(f:M (List D))(k:Nat)(s:D->DEnv->Option DEnv)(t:M Bool)(g:M D):M (List D):=λZ=>match f Z with
 |.bad=>.bad
 |.ok ds Z1=>match zbz s t g ds (zcd Z1++replicate k none) [] with
  |none=>.bad
  |some es=>if es.all flat=true then .ok es Z1 else .bad
end
def zcl(s:D->DEnv->Option DEnv)(t:M Bool)(g:M D):List D->DEnv->List D->Option (List D×DEnv)
 |[],Z,es=>some (es,Z)
 |d::r,Z,es=>match s d Z with
  |none=>none
  |some Z1=>match t Z1 with
   |.bad=>none
   |.ok b Z2=>if b=true then (match g Z2 with
     |.bad=>none
     |.ok e Z3=>if es.length<1000000 then zcl s t g r (zaK Z3) (es++[e]) else none)
    else zcl s t g r (zaK Z2) es
def zdf(s0:D->DEnv->Option DEnv)(t0:M Bool)(f1:M (List D))(s1:D->DEnv->Option DEnv)(t1:M Bool)(g:M D):List D->DEnv->List D->Option (List D)
 |[],_,es=>some es
 |d::r,Z,es=>match s0 d Z with
  |none=>none
  |some Z1=>match t0 Z1 with
   |.bad=>none
   |.ok b Z2=>if b=true then (match f1 Z2 with
     |.bad=>none
     |.ok ds Z3=>match zcl s1 t1 g ds (zaK Z3) es with
      |none=>none
      |some (es',Z4)=>zdf s0 t0 f1 s1 t1 g r Z4 es')
    else zdf s0 t0 f1 s1 t1 g r (zaK Z2) es
def zhe(f:M (List D))(k:Nat)(s:D->DEnv->Option DEnv)(t:M Bool)(f1:M (List D))(s1':D->DEnv->Option DEnv)(t1':M Bool)(g:M D):M (List D):=λZ=>match f Z with
 |.bad=>.bad
 |.ok ds Z1=>match zdf s t f1 s1' t1' g ds (zaK Z1++replicate k none) [] with
  |none=>.bad
  |some es=>.ok es Z1
def zcF(s0:D->DEnv->Option DEnv)(t0:M Bool)(f1:M (List D))(Rd:List D->DEnv->List D->Option (List D×DEnv)):List D->DEnv->List D->Option (List D×DEnv)
 |[],Z,es=>some (es,Z)
 |d::r,Z,es=>match s0 d Z with
  |none=>none
  |some Z1=>match t0 Z1 with
   |.bad=>none
   |.ok b Z2=>if b=true then (match f1 Z2 with
     |.bad=>none
     |.ok ds Z3=>match Rd ds (zaK Z3) es with
      |none=>none
      |some (es',Z4)=>zcF s0 t0 f1 Rd r Z4 es')
    else zcF s0 t0 f1 Rd r (zaK Z2) es
def lead(Rd:List D->DEnv->List D->Option (List D×DEnv))(ds:List D)(Z:DEnv)(es:List D):Option (List D):=(Rd ds Z es).map (·.1)
def zhf(f:M (List D))(k:Nat)(s:D->DEnv->Option DEnv)(t:M Bool)(f1:M (List D))(s1':D->DEnv->Option DEnv)(t1':M Bool)(fx2:M (List D))(s2':D->DEnv->Option DEnv)(t2':M Bool)(g:M D):M (List D):=λZ=>match f Z with
 |.bad=>.bad
 |.ok ds Z1=>match lead (zcF s t f1 (zcF s1' t1' fx2 (zcl s2' t2' g))) ds (zaK Z1++replicate k none) [] with
  |none=>.bad
  |some es=>.ok es Z1
abbrev RdB:=DEnv->List D->Option (List D×DEnv)
def rL(g:M D):RdB:=λZ es=>match g Z with
 |.bad=>none
 |.ok e Z3=>if es.length<1000000 then some (es++[e],zaK Z3) else none
def cT(s:D->DEnv->Option DEnv)(t:M Bool)(rd:RdB):List D->DEnv->List D->Option (List D×DEnv)
 |[],Z,es=>some (es,Z)
 |d::r,Z,es=>match s d Z with
  |none=>none
  |some Z1=>match t Z1 with
   |.bad=>none
   |.ok b Z2=>if b=true then (match rd Z2 es with
     |none=>none
     |some (es',Z')=>cT s t rd r Z' es')
    else cT s t rd r (zaK Z2) es
def rN(f:M (List D))(s:D->DEnv->Option DEnv)(t:M Bool)(rd:RdB):RdB:=λZ es=>match f Z with
 |.bad=>none
 |.ok ds Z3=>cT s t rd ds (zaK Z3) es
structure Left(Y:Cx)(D':Addr)(pins:List (Addr×Obj))(H G:Hp)(es':List D)(Z':DEnv)(σ':St)(H' G':Hp)(vs':List V)(s':Shared):Prop where
 inv:Inv Y pins σ' H' s'
 eok:EOk Y.K H' G' G' H' σ' Z'
 hh:∀a o,a≠D'->H a=some o->H' a=some o
 gg:Same G G'
 np:∀a(u:MO),a≠D'->H a=some u.ho->G a=none->G' a=none
 hd:H' D'=some (.lst vs')
 gd:G' D'=none
 rp:Reps Y.K G' vs' es'
def zk9(Y:Cx)(D':Addr)(W:(Shared->Prop)->Shared->Prop)(rd:RdB):Prop :=
 ∀(pins:List (Addr×Obj))(sh:Shared)(σ:St)(B1 G1 H G:Hp)(Z Z':DEnv)(vs:List V)(es es':List D)(Q:Shared->Prop),
  Inv Y pins σ H sh->EOk Y.K B1 G1 G H σ Z->B1 D'=some (.lst vs)->G1 D'=none->Reps Y.K G1 vs es->rd Z es=some (es',Z') ->
  (∀σ' H' G' vs' s',Left Y D' pins B1 G1 es' Z' σ' H' G' vs' s'->Q s')->W Q sh
section
variable{Y:Cx}{D':Addr}
theorem zla{elt:Expr}{g:M D}(hx:Y.xe=nox)(he:∀B1 G1,PE Y elt (tD Y.K B1 G1 g)) :
  zk9 Y D' (λQ s=>wpAny (model Y.prog Y.w) Y.A (eval elt Y.env) (λx s₄=>wpAny (model Y.prog Y.w) Y.A (call (.builtin "list.append") [.ref D',x]) (λ_ s₅=>Q s₅) nox s₄) nox s) (rL g):=by
 intro pins sh σ B1 G1 H G Z Z' vs es es' Q I k hD gD r z fin;unfold rL at z
 cases zg:g Z with
 |bad=>rw[zg] at z;cases z
 |ok e Z4=>
 rw[zg] at z;dsimp only at z
 split at z
 ·rename_i hle
  cases z;have h:=he B1 G1 pins sh σ H (λv H8=>∃G8,EOk Y.K B1 G1 G8 H8 σ Z4/\Rep Y.K G8 v e) I ⟨G,Z,k,by unfold aft;rw[zg];exact λv G8 H8 k8 _ q=>⟨G8,k8,q⟩⟩
  rw[hx] at h;refine thn h λev s8 ⟨v,H8,I8,rv,G8,k8,r8⟩=>?_;have h2:=zg5 pins s8 σ H8 (.ref D') [v] (.ref D') [ev] (λ_ H9=>H9=upd H8 D' (.lst (vs++[v]))) I8 rfl (.cons rv .nil) ⟨D',vs,v,rfl,rfl,k8.bh _ _ hD,by have:=lim1;rw[r.length];omega,rfl⟩
  rw[hx] at h2;refine thn h2 λ_ s9 ⟨_,H9,I9,_,e9⟩=>?_;subst e9;have g8:=k8.np _ (.l _) hD gD;exact fin σ _ G8 _ s9 ⟨I9,k8.beside g8,λa o z q=>by rw[zaU z];exact k8.bh a o q,k8.g0,λa o _ q w=>k8.np a o q w,zaT,g8,(r.mono k8.g0).append (.cons r8 .nil)⟩
 ·cases z
theorem zjd{tg:Expr}{ifs:List Expr}{code:Code}{W:(Shared->Prop)->Shared->Prop}{s:D->DEnv->Option DEnv}{t:M Bool}{rd:RdB}{it:Addr}(hx:Y.xe=nox)(hc:Y.calm=true)(rule:zdM Y.prog Y.w Y.A tg ifs Y.env (.ref it) code W)
  (hg:∀B1 G1,PG Y tg (tG Y.K B1 G1 s)) (ht:∀B1 G1,PIfs Y ifs (tBo Y.K B1 G1 t)) (hb:zk9 Y D' W rd)
  {pins:List (Addr×Obj)} {sh:Shared} {σ:St} {H G:Hp} {Z ZF:DEnv} {fp:List Addr} {tn:Nat->Heap->Prop} {J:It} {ds es esF:List D} {vs:List V} {R:Result->Shared->Prop}
  (I:Inv Y pins σ H sh) (T:Turn Y.prog Y.w Y.K tg J fp it tn) (st:tn 0 sh.heap) (hf:∀b∈fp,FpOk Y pins H b)
  (k:EOk Y.K H G G H σ Z) (its:zfa Y.K J ds G) (hD:H D'=some (.lst vs)) (gD:G D'=none) (r:Reps Y.K G vs es) (zl:cT s t rd ds Z es=some (esF,ZF))
  (hfin:∀σ' H' G' vs' s',Left Y D' pins H G esF ZF σ' H' G' vs' s'->R (.ok .next) s'):codeAny (model Y.prog Y.w) Y.A code R sh:=by
 have stat:∀{H':Hp},(∀b∈fp,H' b=none)->∀b∈fp,FpOk Y pins H' b:=λhn b hb=>⟨hn b hb,(hf b hb).2⟩
 refine rule R (λn s'=>∃i σ' H' G' Z' vs' es',n=ds.length-i/\tn i s'.heap/\(∀b∈fp,H' b=none)/\Left Y D' pins H G es' Z' σ' H' G' vs' s'/\cT s t rd (ds.drop i) Z' es'=some (esF,ZF)) ds.length sh
  ⟨0,σ,H,G,Z,vs,es,rfl,st,λb hb=>(hf b hb).1,⟨I,k,λ_ _ _ q=>q,.refl _,λ_ _ _ _ n=>n,hD,gD,r⟩,by rw[List.drop_zero];exact zl⟩ ?_
 rintro n s' ⟨i,σ',H',G',Z',vs',es',rfl,tn',fr',⟨I',k',sh',sg',np',hD',gD',r'⟩,zc⟩
 by_cases hlt:i<ds.length
 ·rw[Q8 hlt,cT] at zc
  cases zs:s ds[i] Z' with
  |none=>rw[zs] at zc;cases zc
  |some Z2=>
  rw[zs] at zc;dsimp only at zc
  cases zt:t Z2 with
  |bad=>rw[zt] at zc;cases zc
  |ok b Z3=>
  rw[zt] at zc;dsimp only at zc;refine thn (T.item Y rfl rfl rfl hc i pins s' σ' H' nox I' (stat fr') tn' (its.go i G' H' sg' k'.gh hlt)) λrr s4 ⟨u,hr,h4⟩=>?_;subst hr;refine thn h4 λ_ s5 ⟨x,H5,I5,r5,y5,st5,fr5⟩=>?_;obtain ⟨G5,e5,rx⟩:=its.yld i G' H' x H5 ds[i] sg' k'.gh (Qe hlt) y5;have h6:=hg H' G' _ s5 σ' H5 x u (λσ6 H6=>∃G6,EOk Y.K H' G' G6 H6 σ6 Z2) (I5.pinned (stat fr5) (T.obj _ _ st5)) r5 ⟨G5,Z',ds[i],Z2,k'.ext e5,rx,zs,λσ6 G6 H6 k6 _=>⟨G6,k6⟩⟩;rw[hx] at h6;refine thn h6 λ_ s6 ⟨σ6,H6,I6,G6,k6⟩=>?_;have h7:=ht H' G' _ s6 σ6 H6 (λc H7=>c=b/\∃G7,EOk Y.K H' G' G7 H7 σ6 Z3) I6 ⟨G6,Z2,k6,by unfold aft;rw[zt];exact λc G7 H7 k7 _ q=>⟨q,G7,k7⟩⟩
  rw[hx] at h7;refine thn h7 λok s7 ⟨H7,I7,hb7,G7,k7⟩=>?_;subst hb7
  have again:∀{H9:Hp}{σ9:St}{s9:Shared},Inv Y (pins++zgW fp s5.heap) σ9 H9 s9->Inv Y pins σ9 H9 s9/\tn (i+1) s9.heap/\∀b∈fp,H9 b=none:=λ{H9 σ9 s9} I9=>by
   refine ⟨I9.unpinned,T.keep _ _ _ st5 λb hb o e=>(I9.pin (b,o) (QI _ (QI _ (zdp hb e)))).1,λb hb=>?_⟩;obtain ⟨o,e,d⟩:=T.obj _ _ st5 b hb;exact (I9.pin (b,o) (QI _ (QI _ (zdp hb e)))).2.1
  have lt:ds.length-(i+1)<ds.length-i:=Nat.sub_lt_sub_left hlt (Ug i)
  cases ok with
  |false=>
   rw[Qy (by decide)] at zc ⊢
   obtain ⟨J1,J2,J3⟩:=again I7;exact ⟨_,lt,i+1,σ6,H7,G7,zaK Z3,vs',es',rfl,J2,J3,⟨J1,k7.rebase,λa o z q=>k7.bh a o (sh' a o z q),sg'.trans k7.g0,λa o z q w=>k7.np a o (sh' a _ z q) (np' a o z q w),k7.bh _ _ hD',k7.np _ (.l _) hD' gD',r'.mono k7.g0⟩,zc⟩
  |true=>
   rw[Qm rfl] at zc ⊢
   cases ze:rd Z3 es' with
   |none=>rw[ze] at zc;cases zc
   |some pr=>
   obtain ⟨es1,Z5⟩:=pr;rw[ze] at zc;refine hb _ s7 σ6 H' G' H7 G7 Z3 Z5 vs' es' es1 _ I7 k7 hD' gD' r' ze λσ9 H9 G9 vs9 s9 L=>?_;obtain ⟨J1,J2,J3⟩:=again L.inv;exact ⟨_,lt,i+1,σ9,H9,G9,Z5,vs9,es1,rfl,J2,J3,⟨J1,L.eok,λa o z q=>L.hh a o z (sh' a o z q),sg'.trans L.gg,λa o z q w=>L.np a o z (sh' a _ z q) (np' a o z q w),L.hd,L.gd,L.rp⟩,zc⟩
 ·rw[J4 (Q9 hlt),cT] at zc
  cases zc;refine thn (T.done Y rfl rfl rfl hc i pins s' σ' H' nox I' (stat fr') tn' (its.stop i G' H' sg' k'.gh (Q9 hlt))) λrr s4 ⟨hr,I6⟩=>?_
  subst hr;exact hfin σ' H' G' vs' s4 ⟨I6,k',sh',sg',np',hD',gD',r'⟩
theorem zlb{elt tg1 i1:Expr}{ifs1:List Expr}{gens:List Comprehension}{scope:Scope}{pos:Pos}{j:Nat}{W:Value->(Shared->Prop)->Shared->Prop}{f:M (List D)}{s:D->DEnv->Option DEnv}{t:M Bool}{rd:RdB}(hx:Y.xe=nox)(hc:Y.calm=true)
  (hn:gens[j+1]?=some ⟨tg1,i1,ifs1,0⟩) (rule:∀it1,zdM Y.prog Y.w Y.A tg1 ifs1 Y.env it1 (.compLoop (.ListComp elt gens scope pos) (j+1) it1 (.ref D') Y.env) (W it1))
  (hi:∀B1 G1,PI Y tg1 i1 (iD Y.K B1 G1 f)) (hg:∀B1 G1,PG Y tg1 (tG Y.K B1 G1 s)) (ht:∀B1 G1,PIfs Y ifs1 (tBo Y.K B1 G1 t)) (hb:∀it1,zk9 Y D' (W it1) rd) :
  zk9 Y D' (λQ s=>wpAny (model Y.prog Y.w) Y.A (eval i1 Y.env) (λx s₄=>wpAny (model Y.prog Y.w) Y.A (pyIter x) (λit1 s₅=>codeAny (model Y.prog Y.w) Y.A (.compStart (.ListComp elt gens scope pos) (j+1) it1 (.ref D') Y.env)
   (λr s₆=>match r with | .ok _=>Q s₆ | .error _=>False) s₅) nox s₄) nox s) (rN f s t rd):=by
 intro pins sh σ B1 G1 H G Z Z' vs es es' Q I k hD gD r z fin;unfold rN at z
 cases zf:f Z with
 |bad=>rw[zf] at z;cases z
 |ok ds Z3=>
 rw[zf] at z;have h:=hi B1 G1 pins sh σ H (λJ1 H8=>∃G8,EOk Y.K B1 G1 G8 H8 σ Z3/\zfa Y.K J1 ds G8) I ⟨G,Z,k,by rw[zf];exact λJ1 G8 H8 k8 _ q=>⟨G8,k8,q⟩⟩
 rw[hx] at h;refine thn h λxv s8 h8=>thn h8 λitv s9 h9=>?_;obtain ⟨it1,fp1,tn1,J1,H9,rfl,I9,T1,st9,f9,G9,k9,its9⟩:=h9
 have loop:codeAny (model Y.prog Y.w) Y.A (.compLoop (.ListComp elt gens scope pos) (j+1) (.ref it1) (.ref D') Y.env) (λr s₆=>match r with | .ok _=>Q s₆ | .error _=>False) s9 :=
  zjd hx hc (rule (.ref it1)) hg ht (hb _) I9 T1 st9 f9 k9.rebase its9 (k9.bh _ _ hD) (k9.np _ (.l _) hD gD) (r.mono k9.g0) z λσ' H' G' vs' s' L=>
   fin σ' H' G' vs' s' ⟨L.inv,L.eok,λa o z q=>L.hh a o z (k9.bh a o q),k9.g0.trans L.gg,λa o z q w=>L.np a o z (k9.bh a _ q) (k9.np a o q w),L.hd,L.gd,L.rp⟩
 exact zhb hn loop (T1.self Y.A 0 _ _ _ st9 loop)
end
def znr(Y:Cx)(e:Expr)(j:Nat)(tg:Expr)(ifs:List Expr)(rd:RdB):Prop :=
 ∀(D':Addr)(it:Value),∃W,zdM Y.prog Y.w Y.A tg ifs Y.env it (.compLoop e j it (.ref D') Y.env) W/\zk9 Y D' W rd
section
variable{Y:Cx}{elt tg i:Expr}{ifs:List Expr}{gens:List Comprehension}{scope:Scope}{pos:Pos}{j:Nat}
theorem zaV{g:M D}(hx:Y.xe=nox)(hg:gens[j]?=some ⟨tg,i,ifs,0⟩)(hn:gens[j+1]?=none)(he:∀B1 G1,PE Y elt (tD Y.K B1 G1 g)):znr Y (.ListComp elt gens scope pos) j tg ifs (rL g) :=
 λ_ _=>⟨_,zk6 hg hn,zla hx he⟩
theorem zfe{tg1 i1:Expr}{ifs1:List Expr}{f:M (List D)}{s:D->DEnv->Option DEnv}{t:M Bool}{rd:RdB}(hx:Y.xe=nox)(hc:Y.calm=true)(hg:gens[j]?=some ⟨tg,i,ifs,0⟩)(hn:gens[j+1]?=some ⟨tg1,i1,ifs1,0⟩)(hs:∀x,foldedSetIterable i1 Y.env x=pure x)
  (hi:∀B1 G1,PI Y tg1 i1 (iD Y.K B1 G1 f)) (hgt:∀B1 G1,PG Y tg1 (tG Y.K B1 G1 s)) (ht:∀B1 G1,PIfs Y ifs1 (tBo Y.K B1 G1 t)) (hb:znr Y (.ListComp elt gens scope pos) (j+1) tg1 ifs1 rd):znr Y (.ListComp elt gens scope pos) j tg ifs (rN f s t rd) :=
 λD' _=>⟨_,zk7 hg hn hs,zlb hx hc hn (λit1=>(Classical.choose_spec (hb D' it1)).1) hi hgt ht (λit1=>(Classical.choose_spec (hb D' it1)).2)⟩
end
def envB(l:Bool)(Z:DEnv):DEnv:=match l with|true=>zcd Z|false=>zaK Z
theorem zrE{K:Frag}{B G0 G1 H2:Hp}{σ:St}{Z1:DEnv}{D:Addr}(l:Bool)(k1:EOk K B G0 G1 H2 σ Z1)(hfr:H2 D=none)(n:Nat) :
  ∃Gb,EOk K (upd H2 D (.lst [])) Gb Gb (upd H2 D (.lst [])) (σ++replicate n none) (envB l Z1++replicate n none)/\Same G1 Gb/\Gb D=none /\
   ∀(G' H':Hp) vs es,(l=true->es.all flat=true)->Same Gb G'->Same H2 H'->Same G' H'->(∀a(u:MO),H2 a=some u.ho->Gb a=none->G' a=none)->G' D=none->Reps K G' vs es->∃Gf,Ext G1 H2 Gf H'/\Gf D=none/\Reps K Gf vs es:=by
 have gD:G1 D=none:=k1.gh.free hfr
 cases l with
 |false=>exact ⟨G1,(k1.beside gD).more n,.refl _,gD,λG' H' vs es _ g h gh np d r=>⟨G',⟨h,g,gh,np⟩,d,r⟩⟩
 |true=>exact ⟨H2,k1.lend hfr n,k1.gh,hfr,λG' H' vs es fl _ h _ _ _ r=>⟨G1,⟨h,.refl _,k1.gh.trans h,λ_ _ _ n=>n⟩,gD,r.flat (fl rfl)⟩⟩
def dCG(l:Bool)(f:M (List D))(k:Nat)(s:D->DEnv->Option DEnv)(t:M Bool)(rd:RdB):M (List D):=λZ=>match f Z with
 |.bad=>.bad
 |.ok ds Z1=>match cT s t rd ds (envB l Z1++replicate k none) [] with
  |none=>.bad
  |some (es,_)=>if l=true->es.all flat=true then .ok es Z1 else .bad
theorem zig{l:Bool}{f:M (List D)}{k:Nat}{s:D->DEnv->Option DEnv}{t:M Bool}{rd:RdB}{Z Z':DEnv}{es:List D}(h:dCG l f k s t rd Z=.ok es Z'):∃ds ZF,f Z=.ok ds Z'/\cT s t rd ds (envB l Z'++replicate k none) []=some (es,ZF)/\(l=true->es.all flat=true):=by
 unfold dCG at h
 cases zf:f Z with
 |bad=>rw[zf] at h;cases h
 |ok ds Z1=>
 rw[zf] at h;dsimp only at h
 cases zl:cT s t rd ds (envB l Z1++replicate k none) [] with
 |none=>rw[zl] at h;cases h
 |some pr=>
 obtain ⟨esF,ZF⟩:=pr;rw[zl] at h;dsimp only at h
 split at h
 ·rename_i hf
  cases h;exact ⟨ds,ZF,rfl,zl,hf⟩
 ·cases h
section
variable{X:Cx}{B G0:Hp}{KX:XW}
def PBlk(X:Cx)(N2:List Str)(scope:Scope)(e tg:Expr)(ifs:List Expr)(s:D->DEnv->Option DEnv)(t:M Bool)(rd:RdB):Prop :=
 ∀(cl:List (Str×Addr))(C:Addr)(s₀:Shared)(H₀:Hp)(ex:List Addr),(∀B' G',PG (X.blk N2 scope cl C s₀ H₀ ex) tg (tG X.K B' G' s))/\(∀B' G',PIfs (X.blk N2 scope cl C s₀ H₀ ex) ifs (tBo X.K B' G' t))/\znr (X.blk N2 scope cl C s₀ H₀ ex) e 0 tg ifs rd
structure zj6(SC scope:Scope)(N1 N2:List Str)(k:Nat):Prop where
 b:zdL scope.names N1 N2 k=true
 kind:scope.kind=.function
 cell:∀y∈scope.names,y.2≠.cell
 names:∀y∈scope.names,y.2=.local->scope.names.lookup y.1=some .local
 free:∀y∈scope.names,y.2=.free->SC.names.lookup y.1=some .cell∨SC.names.lookup y.1=some .free
theorem zgl{l:Bool}{tg elt iter:Expr}{ifs:List Expr}{gs:List Comprehension}{scope:Scope}{pos pos':Pos}{N2:List Str}{k:Nat}{f:M (List D)}{s:D->DEnv->Option DEnv}{t:M Bool}{rd:RdB}{use:Option (Value->Sem Unit)}{Qc:Value->Shared->Prop}(hc:X.calm=true)
  (hi:PI X tg iter (iD X.K B G0 f)) (hblk:PBlk X N2 scope (.ListComp elt (⟨tg,iter,ifs,0⟩::gs) scope pos) tg ifs s t rd) (hb:zj6 X.env.scope scope X.N N2 k) (hs:∀x,foldedSetIterable iter X.env x=pure x)
  {pins:List (Addr×Obj)} {s0:Shared} {σ:St} {G H:Hp} {Z Z1 ZF:DEnv} {ds esF:List D} (I:Inv X pins σ H s0) (k0:EOk X.K B G0 G H σ Z) (zf:f Z=.ok ds Z1) (zl:cT s t rd ds (envB l Z1++replicate k none) []=some (esF,ZF)) (hfl:l=true->esF.all flat=true)
  (hfin:∀(C D:Addr)(vs:List V)(G' H':Hp)(s4:Shared)(m:Str->Option Value),Inv X pins σ H' s4->s4.heap.Ns C m->H' C=none->C≠X.env.locals->X.s₀.heap.objs.size<=C->(∀x c,X.env.cells.lookup x=some c->c≠C)->(∀p∈X.pn++pins,p.1≠C) ->
   EOk X.K B G0 G' H' σ Z1->Same G G'->NewL X.K B G' H' σ Z1 D vs esF->compPost (model X.prog X.w) X.A X.xe use Qc (.ref D) C (.ok .next) s4) :
  wpAny (model X.prog X.w) X.A (comprehension (.ListComp elt (⟨tg,iter,ifs,0⟩::gs) scope pos) scope X.env pos' (newList []) false (eval iter X.env) use) Qc X.xe s0:=by
 obtain ⟨cl,hcl,cl1,cl2⟩:=zj5 (scope:=scope) (env:=X.env) λy hy hf=>I.ok.has y.1 (hb.free y hy hf);refine wpAny_comprehension_free (use:=use) rfl hs hcl hb.kind hb.names (thn (hi pins s0 σ H (λJ H1=>∃G1,EOk X.K B G0 G1 H1 σ Z1/\Same G G1/\zfa X.K J ds G1) I ⟨G,Z,k0,by rw[zf];exact λJ G1 H1 k1 s1 it=>⟨G1,k1,s1,it⟩⟩) λv s1 h1=>thn h1 λitv s2 h2=>?_)
 obtain ⟨it,fp,tn,J,H2,rfl,I2,T,st2,f2,G1,k1,sg1,its⟩:=h2;refine wpAny_newObj_type (wpAny_newFunctionEnv hb.cell (by intro y hy;simp at hy) (λh₁ hns₁ hsb₁=>?_) hb.kind)
 dsimp only at hns₁ hsb₁ ⊢;have hfr:H2 s2.heap.objs.size=none:=I2.hok.fresh (Qx _)
 have I3:Inv X pins σ (upd H2 s2.heap.objs.size (.lst [])) { s2 with heap:=s2.heap.push { cls:=.type "list", dict:=none,data:=.seq ([]:List Value).toArray } } :=
  I2.laid (t':=s2.toks) (λb u e=>Qk _ e) (Qx _) ⟨JY _,[],0,.nil,QE _ rfl⟩
 generalize hP:s2.heap.push { cls:=.type "list", dict:=none,data:=.seq ([]:List Value).toArray }=P at I3 hns₁ hsb₁ ⊢
 have old:∀b o,s2.heap.get? b=some o->P.get? b=some o:=λb o e=>hP ▸ Qk _ e;have kept:∀b o,P.get? b=some o->h₁.get? b=some o:=λb o e=>hsb₁.extBut b o (QT (Qi e)) (Qk _ e);have fpo:∀b∈fp,∃o,s2.heap.get? b=some o:=λb hb=>let ⟨o,e,_⟩:=T.obj _ _ st2 b hb;⟨o,e⟩
 have fpD:∀b∈fp,b≠s2.heap.objs.size:=λb hb=>let ⟨o,e⟩:=fpo b hb;QT (Qi e)
 have f3:∀b∈fp,FpOk X pins (upd H2 s2.heap.objs.size (.lst [])) b:=λb hb=>⟨by rw[zaU (fpD b hb)];exact (f2 b hb).1,(f2 b hb).2⟩
 have I4:=I3.enter (scope:=scope) (cl:=cl) (N2:=N2) (k:=k) (fp:=fp) (t':=s2.toks+([]:List (Str×Value)).length) hb.b hb.kind hb.cell hb.free cl1 cl2 hns₁ kept f3 (λb hb=>let ⟨o,e⟩:=fpo b hb;⟨o,old b o e⟩)
 dsimp only at I4;obtain ⟨Gb,kb,sgb,gbD,ex⟩:=zrE l k1 hfr k;have sH:Same H2 (upd H2 s2.heap.objs.size (.lst [])):=zaX hfr;have hD3:upd H2 s2.heap.objs.size (.lst []) s2.heap.objs.size=some (.lst []):=zaT;generalize upd H2 s2.heap.objs.size (.lst [])=H3 at I3 I4 f3 kb sH hD3;generalize s2.heap.objs.size=D at *;have tn0:tn 0 h₁:=T.keep 0 _ _ st2 λb hb o e=>kept b o (old b o e)
 have stat:∀b∈fp,FpOk (X.blk N2 scope cl P.objs.size { s2 with heap:=P } H3 fp) pins H3 b:=λb hb=>by
  obtain ⟨z0,z1,z2,z3,z4,z5⟩:=f3 b hb;obtain ⟨o,e⟩:=fpo b hb;refine ⟨z0,QT (Qi (old b o e)),λz=>?_,.inl hb,λx c q=>z4 x c (cl1 x c q),z5⟩;rcases QU.mp (I3.stkSub b z) with q|q
  ·exact z1 q
  ·exact z2 q
 have neD:∀a o,H2 a=some o->a≠D:=λa o q z=>by subst z;rw[hfr] at q;cases q
 obtain ⟨hg,ht,hcl'⟩:=hblk cl P.objs.size { s2 with heap:=P } H3 fp;obtain ⟨W,rule,body⟩:=hcl' D (.ref it)
 have loop:=zjd (Y:=X.blk N2 scope cl P.objs.size { s2 with heap:=P } H3 fp) (D':=D) (R:=compPost (model X.prog X.w) X.A X.xe use Qc (.ref D) P.objs.size) rfl hc rule hg ht body I4 T tn0 stat kb
  ⟨λi G H s1 s2 hi=>its.go i G H (sgb.trans s1) s2 hi,λi G H s1 s2 hi=>its.stop i G H (sgb.trans s1) s2 hi,λi G H x H' d s1 s2 e y=>its.yld i G H x H' d (sgb.trans s1) s2 e y⟩ hD3 gbD .nil zl λσ' H' G' vs' s4 L=>by
   obtain ⟨m,hm,_⟩:=id L.inv.loc;have I7:Inv X pins σ H' s4:=I3.call' (ch:=fp) L.inv.os L.inv.base L.inv.hok L.inv.bare λb hb=>⟨(f3 b hb).2.2.2.1,(f3 b hb).2.1,(f3 b hb).2.2.2.2.1,(f3 b hb).2.2.2.2.2⟩;obtain ⟨Gf,eF,dF,rF⟩:=ex G' H' vs' esF hfl L.gg (λa o q=>L.hh a o (neD a o q) (sH a o q)) L.eok.gh (λa o q z=>L.np a o (neD a _ q) (sH a _ q) z) L.gd L.rp
   refine hfin P.objs.size D vs' Gf H' s4 m I7 hm L.inv.free (JZ I3.lt) I3.sz (λx c e z=>by obtain ⟨_,q⟩:=I3.cell x c e;exact absurd q.lt (by rw[z];exact Jv _)) (λp hp z=>by have:=Qi (I3.pin p hp).1;exact absurd this (by rw[z];exact Jv _))
    (k1.ext eF) (sg1.trans eF.g) ⟨k1.bh.free hfr,dF,L.hd,rF,λj es' q z=>?_,λj pt d v fp q s r=>k1.freshD eF.h hfr q s r⟩
   obtain ⟨a',ws,h1',h2',h3',h4',h5'⟩:=k1.own j es' q;rw[z] at h1';cases h1';rw[hfr] at h4';cases h4'
 exact codeAny_compStart_list loop (T.self X.A 0 _ _ _ tn0 loop)
theorem zrF{l:Bool}{tg elt iter:Expr}{ifs:List Expr}{gs:List Comprehension}{scope:Scope}{pos:Pos}{N2:List Str}{k:Nat}{f:M (List D)}{s:D->DEnv->Option DEnv}{t:M Bool}{rd:RdB}(hc:X.calm=true)
  (hi:PI X tg iter (iD X.K B G0 f)) (hblk:PBlk X N2 scope (.ListComp elt (⟨tg,iter,ifs,0⟩::gs) scope pos) tg ifs s t rd) (hb:zj6 X.env.scope scope X.N N2 k) (hs:∀x,foldedSetIterable iter X.env x=pure x:=by intro _;rfl) :
  PE X (.ListComp elt (⟨tg,iter,ifs,0⟩::gs) scope pos) (tL X.K B G0 (dCG l f k s t rd)):=by
 intro pins s0 σ H Q I ⟨G,Z,k0,a⟩
 cases z:dCG l f k s t rd Z with
 |bad=>rw[z] at a;exact a.elim
 |ok es Z1=>
 rw[z] at a;obtain ⟨ds,ZF,zf,zl,hfl⟩:=zig z;rw[eval_ListComp];refine zgl hc hi hblk hb hs I k0 zf zl hfl λC D vs G' H' s4 m I7 hm hC hL hz hcl hp k' s' n=>?_;exact ⟨m,hm,λh' sb=>⟨.ref D,H',I7.turned (t':=s4.toks) (it:=C) (λb o hb e=>(sb.2 b hb).trans e) hC hL (.inr hz) hcl hp,rfl,a D vs G' H' k' s' n⟩⟩
theorem sD_g{l:Bool}{y:Str}{j:Nat}{py:Pos}{spos:Pos}{tg elt iter:Expr}{ifs:List Expr}{gs:List Comprehension}{scope:Scope}{pos:Pos}{N2:List Str}{k:Nat}{f:M (List D)}{s:D->DEnv->Option DEnv}{t:M Bool}{rd:RdB}(hN:X.N.Nodup)(hj:X.N[j]?=some y)(hy:X.env.scope.names.lookup y=some .local)(hc:X.calm=true)
  (hi:PI X tg iter (iD X.K B G0 f)) (hblk:PBlk X N2 scope (.ListComp elt (⟨tg,iter,ifs,0⟩::gs) scope pos) tg ifs s t rd) (hb:zj6 X.env.scope scope X.N N2 k) (hs:∀x,foldedSetIterable iter X.env x=pure x:=by intro _;rfl)
  (hsw:swapsWith (.ListComp elt (⟨tg,iter,ifs,0⟩::gs) scope pos) (some (.Name y py)) spos.line X.env=pure true:=by rfl) :
  PS X (.Assign [.Name y py] (.ListComp elt (⟨tg,iter,ifs,0⟩::gs) scope pos) spos) (tS X.K B G0 KX (zbV j (dCG l f k s t rd))):=by
 intro pins s0 σ H Dn I ⟨G,Z,k0,a⟩;unfold zbV sB at a
 cases z:dCG l f k s t rd Z with
 |bad=>rw[z] at a;exact a.elim
 |ok es Z1=>
 rw[z] at a;dsimp only at a
 by_cases hl:j<Z1.length
 ·rw[Qm hl] at a
  obtain ⟨ds,ZF,zf,zl,hfl⟩:=zig z;rw[exec_Assign_Name_used _ _ _ _ hsw];refine Qf (Jt (Qf ?_));show wpAny _ X.A (do let _ ←comprehension (.ListComp elt (⟨tg,iter,ifs,0⟩::gs) scope pos) scope X.env _ (newList []) false (eval iter X.env) (some (assign (.Name y py) X.env))) _ _ s0
  refine Qf (QM (zgl (use:=some (assign (.Name y py) X.env)) (Qc:=λ_ s'=>SP X pins Dn .next s') hc hi hblk hb hs I k0 zf zl hfl λC D vs G' H' s4 m I7 hm hC hL hz hcl hp k' s' n=>?_) (λ_ s' hq=>Qn (Qn hq)) λ_ _ e=>e);show wpAny _ X.A (assign (.Name y py) X.env (.ref D)) _ _ s4;refine wpAny_assign_Name (zeZ I7 hN hj (.inl hy) (v:=.ref D) rfl (λs5 I8 ⟨ad,sb,hx⟩=>?_) (.inr hy))
  have hCa:C≠ad:=by
   rcases hx with e|e
   ·rw[e];exact hL
   ·exact Ne.symm (hcl y ad e)
  refine ⟨m,hm.sameBut sb hCa,λh' sb'=>⟨_,H',I8.turned (t':=s5.toks) (it:=C) (λb o hb e=>(sb'.2 b hb).trans e) hC hL (.inr hz) hcl hp,?_⟩⟩;exact a _ G' H' (k'.setOwn n hl) s'
 ·rw[Qy hl] at a;exact a.elim
theorem zrG{K:Frag}{f f':M (List D)}(h:∀Z es Z',f Z=.ok es Z'->f' Z=.ok es Z'){σ:St}{H:Hp}{Q:VK}(q:tL K B G0 f σ H Q):tL K B G0 f' σ H Q:=by
 obtain ⟨G,Z,k,a⟩:=q;refine ⟨G,Z,k,?_⟩
 cases z:f Z with
 |bad=>rw[z] at a;exact a.elim
 |ok es Z'=>rw[z] at a;rw[h Z es Z' z];exact a
theorem zot{K:Frag}{f f':M (List D)}{j:Nat}(h:∀Z es Z',f Z=.ok es Z'->f' Z=.ok es Z'){Dn:_}{σ:St}{H:Hp}(q:tS K B G0 KX (zbV j f) Dn σ H):tS K B G0 KX (zbV j f') Dn σ H:=by
 obtain ⟨G,Z,k,a⟩:=q;refine ⟨G,Z,k,?_⟩;unfold zbV sB at a ⊢
 cases z:f Z with
 |bad=>rw[z] at a;exact a.elim
 |ok es Z'=>rw[z] at a;rw[h Z es Z' z];exact a
end
theorem zeU{s:D->DEnv->Option DEnv}{t:M Bool}{g:M D}:∀{ds:List D}{Z:DEnv}{es esF:List D},zbz s t g ds Z es=some esF->∃ZF,cT s t (rL g) ds Z es=some (esF,ZF)
 |[],Z,es,esF,h=>by rw[zbz] at h;cases h;exact ⟨Z,rfl⟩
 |d::r,Z,es,esF,h=>by
  rw[zbz] at h;rw[cT]
  cases zs:s d Z with
  |none=>rw[zs] at h;cases h
  |some Z1=>
  rw[zs] at h;dsimp only at h ⊢
  cases zt:t Z1 with
  |bad=>rw[zt] at h;cases h
  |ok b Z2=>
  rw[zt] at h;dsimp only at h ⊢
  cases b with
  |false=>exact zeU (ds:=r) h
  |true=>
   rw[Qm rfl] at h ⊢;unfold rL
   cases zg:g Z2 with
   |bad=>rw[zg] at h;cases h
   |ok e Z3=>
   rw[zg] at h;dsimp only at h ⊢
   split at h
   ·rename_i hl
    rw[Qm hl];exact zeU (ds:=r) h
   ·cases h
theorem zdN{s:D->DEnv->Option DEnv}{t:M Bool}{g:M D}:∀{ds:List D}{Z:DEnv}{es:List D},zcl s t g ds Z es=cT s t (rL g) ds Z es
 |[],Z,es=>rfl
 |d::r,Z,es=>by
  rw[zcl,cT]
  cases s d Z with
  |none=>rfl
  |some Z1=>
  dsimp only
  cases t Z1 with
  |bad=>rfl
  |ok b Z2=>
  dsimp only
  cases b with
  |false=>exact zdN (ds:=r)
  |true=>
   rw[Qm rfl,Qm rfl];unfold rL
   cases g Z2 with
   |bad=>rfl
   |ok e Z3=>
   dsimp only;split
   ·exact zdN (ds:=r)
   ·rfl
theorem zdO{s s1:D->DEnv->Option DEnv}{t t1:M Bool}{f:M (List D)}{Rd:List D->DEnv->List D->Option (List D×DEnv)}{rd:RdB}(hR:∀ds Z es,Rd ds Z es=cT s1 t1 rd ds Z es) :
  ∀{ds:List D}{Z:DEnv}{es:List D},zcF s t f Rd ds Z es=cT s t (rN f s1 t1 rd) ds Z es
 |[],Z,es=>rfl
 |d::r,Z,es=>by
  rw[zcF,cT]
  cases s d Z with
  |none=>rfl
  |some Z1=>
  dsimp only
  cases t Z1 with
  |bad=>rfl
  |ok b Z2=>
  dsimp only
  cases b with
  |false=>exact zdO hR (ds:=r)
  |true=>
   rw[Qm rfl,Qm rfl];unfold rN
   cases f Z2 with
   |bad=>rfl
   |ok ds Z3=>
   dsimp only;rw[hR]
   cases cT s1 t1 rd ds (zaK Z3) es with
   |none=>rfl
   |some pr=>exact zdO hR (ds:=r)
theorem zff{s s1:D->DEnv->Option DEnv}{t t1:M Bool}{f:M (List D)}{g:M D}:∀{ds:List D}{Z:DEnv}{es esF:List D},zdf s t f s1 t1 g ds Z es=some esF->∃ZF,cT s t (rN f s1 t1 (rL g)) ds Z es=some (esF,ZF)
 |[],Z,es,esF,h=>by rw[zdf] at h;cases h;exact ⟨Z,rfl⟩
 |d::r,Z,es,esF,h=>by
  rw[zdf] at h;rw[cT]
  cases zs:s d Z with
  |none=>rw[zs] at h;cases h
  |some Z1=>
  rw[zs] at h;dsimp only at h ⊢
  cases zt:t Z1 with
  |bad=>rw[zt] at h;cases h
  |ok b Z2=>
  rw[zt] at h;dsimp only at h ⊢
  cases b with
  |false=>exact zff (ds:=r) h
  |true=>
   rw[Qm rfl] at h ⊢;unfold rN
   cases zg:f Z2 with
   |bad=>rw[zg] at h;cases h
   |ok ds Z3=>
   rw[zg] at h;dsimp only at h ⊢;rw[←zdN]
   cases zl:zcl s1 t1 g ds (zaK Z3) es with
   |none=>rw[zl] at h;cases h
   |some pr=>rw[zl] at h;exact zff (ds:=r) h
theorem zbg{f:M (List D)}{k:Nat}{s:D->DEnv->Option DEnv}{t:M Bool}{g:M D}(Z:DEnv)(es:List D)(Z':DEnv)(h:zct f k s t g Z=.ok es Z'):dCG false f k s t (rL g) Z=.ok es Z':=by
 unfold zct at h;unfold dCG
 cases zf:f Z with
 |bad=>rw[zf] at h;cases h
 |ok ds Z1=>
 rw[zf] at h;dsimp only[envB] at h ⊢
 cases zl:zbz s t g ds (zaK Z1++replicate k none) [] with
 |none=>rw[zl] at h;cases h
 |some esF=>
 rw[zl] at h;cases h;obtain ⟨ZF,e⟩:=zeU zl;rw[e];exact Qm λz=>by cases z
theorem zlc{f:M (List D)}{k:Nat}{s:D->DEnv->Option DEnv}{t:M Bool}{g:M D}(Z:DEnv)(es:List D)(Z':DEnv)(h:zhd f k s t g Z=.ok es Z'):dCG true f k s t (rL g) Z=.ok es Z':=by
 unfold zhd at h;unfold dCG
 cases zf:f Z with
 |bad=>rw[zf] at h;cases h
 |ok ds Z1=>
 rw[zf] at h;dsimp only[envB] at h ⊢
 cases zl:zbz s t g ds (zcd Z1++replicate k none) [] with
 |none=>rw[zl] at h;cases h
 |some esF=>
 rw[zl] at h;dsimp only at h
 split at h
 ·rename_i hf
  cases h;obtain ⟨ZF,e⟩:=zeU zl
  rw[e];exact Qm λ_=>hf
 ·cases h
theorem zld{f f1:M (List D)}{k:Nat}{s s1:D->DEnv->Option DEnv}{t t1:M Bool}{g:M D}(Z:DEnv)(es:List D)(Z':DEnv)(h:zhe f k s t f1 s1 t1 g Z=.ok es Z'):dCG false f k s t (rN f1 s1 t1 (rL g)) Z=.ok es Z':=by
 unfold zhe at h;unfold dCG
 cases zf:f Z with
 |bad=>rw[zf] at h;cases h
 |ok ds Z1=>
 rw[zf] at h;dsimp only[envB] at h ⊢
 cases zl:zdf s t f1 s1 t1 g ds (zaK Z1++replicate k none) [] with
 |none=>rw[zl] at h;cases h
 |some esF=>
 rw[zl] at h;cases h;obtain ⟨ZF,e⟩:=zff zl;rw[e];exact Qm λz=>by cases z
theorem zle{f f1 f2:M (List D)}{k:Nat}{s s1 s2:D->DEnv->Option DEnv}{t t1 t2:M Bool}{g:M D}(Z:DEnv)(es:List D)(Z':DEnv)(h:zhf f k s t f1 s1 t1 f2 s2 t2 g Z=.ok es Z'):dCG false f k s t (rN f1 s1 t1 (rN f2 s2 t2 (rL g))) Z=.ok es Z':=by
 unfold zhf at h;unfold dCG
 cases zf:f Z with
 |bad=>rw[zf] at h;cases h
 |ok ds Z1=>
 rw[zf] at h;dsimp only[envB,lead] at h ⊢;rw[zdO λ_ _ _=>zdO λ_ _ _=>zdN] at h
 cases zl:cT s t (rN f1 s1 t1 (rN f2 s2 t2 (rL g))) ds (zaK Z1++replicate k none) [] with
 |none=>rw[zl] at h;cases h
 |some pr=>
 rw[zl] at h;cases h;exact Qm λz=>by cases z
def zfR(q:Option NameKind->Bool)(SC scope:Scope)(N1 N2:List Str)(k:Nat):Bool :=
 zdL scope.names N1 N2 k&&decide (scope.kind=.function)&&scope.names.all λy=>match y.2 with
  |.cell=>false
  |.local=>decide (scope.names.lookup y.1=some .local)
  |.free=>q (SC.names.lookup y.1)
  |_=>true
def zns:Option NameKind->Bool
 |some .cell=>true|some .free=>true|_=>false
theorem zj7{q:Option NameKind->Bool}{SC SC' scope:Scope}{N1 N2:List Str}{k:Nat}(h:zfR q SC scope N1 N2 k=true)(f:∀x,q (SC.names.lookup x)=true->SC'.names.lookup x=some .cell∨SC'.names.lookup x=some .free):zj6 SC' scope N1 N2 k:=by
 unfold zfR at h;rw[Ja,Ja,Jq] at h;obtain ⟨⟨h1,h2⟩,h3⟩:=h;refine ⟨h1,Qa h2,λy hy e=>?_,λy hy e=>?_,λy hy e=>?_⟩
 ·have:=h3 y hy;rw[e] at this;cases this
 ·have:=h3 y hy;rw[e] at this;exact Qa this
 ·have:=h3 y hy;rw[e] at this;exact f _ this
theorem zih{SC scope:Scope}{N1 N2:List Str}{k:Nat}(h:zfR zns SC scope N1 N2 k=true):zj6 SC scope N1 N2 k:=zj7 h λx e=>by
 cases z:SC.names.lookup x with
 |none=>rw[z] at e;cases e
 |some y=>rw[z] at e;cases y <;> first|exact .inl rfl|exact .inr rfl|cases e
section
variable{X:Cx}{B G0:Hp}{KX:XW}
theorem zdP{l:Bool}{tg elt iter:Expr}{ifs:List Expr}{gs:List Comprehension}{scope:Scope}{pos:Pos}{f:M (List D)}{s:D->DEnv->Option DEnv}{t:M Bool}{rd:RdB}{F:M (List D)}(SC:Scope)(N1 N2:List Str)(k:Nat)(le:∀Z es Z',F Z=.ok es Z'->dCG l f k s t rd Z=.ok es Z')(hc:X.calm=true)
  (hi:PI X tg iter (iD X.K B G0 f)) (hblk:PBlk X N2 scope (.ListComp elt (⟨tg,iter,ifs,0⟩::gs) scope pos) tg ifs s t rd) (h1:X.env.scope=SC) (h2:X.N=N1) (hb:zfR zns SC scope N1 N2 k=true) (hs:∀x,foldedSetIterable iter X.env x=pure x:=by intro _;rfl) :
  PE X (.ListComp elt (⟨tg,iter,ifs,0⟩::gs) scope pos) (tL X.K B G0 F) :=
 peof (zrF hc hi hblk (by rw[h1,h2];exact zih hb) hs) λ_ _ _ q=>zrG le q
theorem sD_1{l:Bool}{y:Str}{j:Nat}{py:Pos}{spos:Pos}{tg elt iter:Expr}{ifs:List Expr}{gs:List Comprehension}{scope:Scope}{pos:Pos}{f:M (List D)}{s:D->DEnv->Option DEnv}{t:M Bool}{rd:RdB}{F:M (List D)}(SC:Scope)(N1 N2:List Str)(k:Nat)(le:∀Z es Z',F Z=.ok es Z'->dCG l f k s t rd Z=.ok es Z')(hN:X.N.Nodup)(hj:X.N[j]?=some y)(hy:X.env.scope.names.lookup y=some .local)(hc:X.calm=true)
  (hi:PI X tg iter (iD X.K B G0 f)) (hblk:PBlk X N2 scope (.ListComp elt (⟨tg,iter,ifs,0⟩::gs) scope pos) tg ifs s t rd) (h1:X.env.scope=SC) (h2:X.N=N1) (hb:zfR zns SC scope N1 N2 k=true) (hs:∀x,foldedSetIterable iter X.env x=pure x:=by intro _;rfl)
  (hsw:swapsWith (.ListComp elt (⟨tg,iter,ifs,0⟩::gs) scope pos) (some (.Name y py)) spos.line X.env=pure true:=by rfl) :
  PS X (.Assign [.Name y py] (.ListComp elt (⟨tg,iter,ifs,0⟩::gs) scope pos) spos) (tS X.K B G0 KX (zbV j F)) :=
 psof (sD_g hN hj hy hc hi hblk (by rw[h1,h2];exact zih hb) hs hsw) λ_ _ _ q=>zot le q
end
theorem znt{f:M (List D)}{k:Nat}{s s1' s2':D->DEnv->Option DEnv}{t t1' t2':M Bool}{f1 f2:M (List D)}{g:M D}{Z Z1 Z2:DEnv}{ds es:List D}(h1:f Z=.ok ds Z1)(h2:zcF s t f1 (zcF s1' t1' f2 (zcl s2' t2' g)) ds (zaK Z1++replicate k none) []=some (es,Z2)) :
  zhf f k s t f1 s1' t1' f2 s2' t2' g Z=.ok es Z1:=by
 unfold zhf;rw[h1];dsimp only[lead];rw[h2];rfl
section
variable{X:Cx}{B G0:Hp}{e a b c tg:Expr}{pos:Pos}{es rest:List Expr}
theorem EOk.given{K:Frag}{G H:Hp}{σ:St}{Z:DEnv}{a:Addr}{vs:List V}{ds:List D}(k:EOk K B G0 G H σ Z)(n:NewL K B G H σ Z a vs ds):EOk K B G0 (upd G a (.lst vs)) H σ Z where
 bh:=k.bh
 gh:=λb u q=>by
  by_cases z:b=a
  ·subst z;rw[zaT] at q;cases q;exact n.h
  ·rw[zaU z] at q;exact k.gh b u q
 g0:=k.g0.trans (zaX n.g)
 np:=λb o q z=>by
  have zb:b≠a:=λz=>by subst z;rw[n.b] at q;cases q
  rw[zaU zb];exact k.np b o q z
 len:=k.len
 pub:=λi d q=>let ⟨v,h1,h2⟩:=k.pub i d q;⟨v,h1,h2.mono (zaX n.g)⟩
 own:=λi ds q=>by
  obtain ⟨b,ws,h1,h2,h3,h4,h5⟩:=k.own i ds q;have zb:b≠a:=λz=>by subst z;exact n.f i ds q h1
  exact ⟨b,ws,h1,h2,by rw[zaU zb];exact h3,h4,h5.mono (zaX n.g)⟩
 sep:=k.sep
 dp:=k.dp.map (λ_ _ _ q=>⟨q,rfl⟩) (λ_ ds q=>⟨ds,q,rfl⟩) λi p d v fp q s r w nn=>⟨r.mono (zaX n.g) (.refl _),λb m=>⟨(w b m).1,by rw[zaU (λz=>n.dp i p d v fp q s r (by rw[←z];exact m))];exact (w b m).2⟩⟩
theorem zb9{f:M (List D)}(h:PE X e (tL X.K B G0 f)):PE X e (tD X.K B G0 (mMap PyData.list f)) :=
 peof h λσ H Q ⟨G,Z,k,a⟩=>by
  refine ⟨G,Z,k,?_⟩;unfold mMap zau at a
  cases z:f Z with
  |bad=>rw[z] at a;exact a.elim
  |ok ds Z1=>
   rw[z] at a;intro ad vs G' H' k' s' n;exact a (.ref ad) _ H' (k'.given n) (s'.trans (zaX n.g)) (.lst (SqL.of zaT) (n.r.mono (zaX n.g)))
theorem znu(hc:X.calm=true):zdb X (.builtin "all") (λxs H Q=>∃l,∃bs:List Bool,xs=[.ref l]/\SqL X.K H l (bs.map V.bl)/\Q (.bl (bs.all id)) H):=by
 intro pins s σ H xs us Q I rx h;obtain ⟨l,bs,rfl,hq,q⟩:=h;obtain ⟨u,rfl,ru⟩:=rx.one;cases ru;obtain ⟨its,rv,p,hz⟩:=I.list hq;have hl:=p.isList;have hlt:l<s.heap.objs.size:=by obtain ⟨_,e,_⟩:=id hl;exact Qi e
 have key:∀(i:Nat) v,its.toArray[i]?=some v->∃t,bs[i]?=some t/\v=.bool t:=λi v e=>by
  have e:its[i]?=some v:=by simpa using e
  have hi:i<bs.length:=by
   have:=(Qh.mp e).1
   have h2:=rv.length;rw[Qb] at h2;omega
  obtain ⟨u,e2,r2⟩:=rv.get (i:=i) (x:=.bl bs[i]) (by rw[Qd,Qe hi];rfl)
  rw[e] at e2;cases e2;exact ⟨bs[i],Qe hi,r2⟩
 refine call_all_walk (JG hl ?_)
 refine ⟨s.heap.objs.size,[s.heap.objs.size,l],[s.heap.objs.size],its.toArray.size,_,_,λi=>(bs[i]?).getD true,rfl,Walks.list (A:=X.A.in1) (I.ok.hd hc) _ l (QT hlt) its.toArray,
  ⟨⟨_,QE _ rfl,rfl,rfl⟩,hl.push _⟩,λi v s' Q' E' hP hQ=>?_,λh' tk hk=>?_⟩
 ·obtain ⟨b,e,rfl⟩:=key i v hP
  simp only[e,JV] at hQ;exact Q2 hQ
 ·have hn:its.toArray.size=bs.length:=by have:=rv.length;rw[List.length_map] at this;simp;omega
  have e:((List.range its.toArray.size).all λi=>(bs[i]?).getD true)=bs.all id:=by
   rw[hn,JO,Jq,Jq];constructor
   ·intro h b hb
    obtain ⟨i,hi,e⟩:=List.getElem_of_mem hb
    have:=h i (Q5.mpr hi)
    simp only[Qe hi,JV,e] at this;exact this
   ·intro h i hi
    have hi':=Q5.mp hi;simp only[Qe hi',JV];exact h _ (JI hi')
  rw[e];exact ⟨.bl (bs.all id),H,I.kept (t':=tk) λb x e=>hk b x (λhm=>by rw[Je.mp hm] at e;exact Jv _ (Qi e)) (Qk _ e),rfl,q⟩
def zdg:List D->Option (List Bool)
 |[]=>some []
 |.bool b::r=>(zdg r).map (b :: ·)
 |_=>none
theorem zeG{K:Frag}{G:Hp}:∀{vs:List V}{ds:List D}{bs:List Bool},Reps K G vs ds->zdg ds=some bs->vs=bs.map V.bl
 |_,_,bs,.nil,e=>by cases e;rfl
 |_,_,bs,.cons (d:=d) r t,e=>by
  cases d with
  |bool b=>
   unfold zdg at e
   cases z:zdg _ with
   |none=>rw[z] at e;cases e
   |some cs=>
    rw[z] at e;cases e;rw[r.bl_inv,zeG t z];rfl
  |_=>cases e
def oAll:List D->Option D
 |[.list ds]=>(zdg ds).map λbs=>.bool (bs.all id)
 |_=>none
theorem znv(hc:X.calm=true):zdx X (.builtin "all") oAll:=by
 refine ⟨_,znu hc,λvs G H ds d Q s r e k=>?_⟩;unfold oAll at e
 split at e
 ·rename_i ds
  cases z:zdg ds with
  |none=>rw[z] at e;cases e
  |some bs=>
   rw[z] at e;cases e;obtain ⟨v,rfl,q⟩:=r.one_inv;obtain ⟨l,ws,rfl,h1,r1⟩:=q.lst_inv;have hw:=zeG r1 z;subst hw;exact ⟨l,bs,rfl,s.seq h1,k _ G H (.refl s) (.bl _)⟩
 ·cases e
def Its(x:Str):It:=⟨λi _=>i<x.cps.size,λi H v H'=>H'=H/\∃c,x.cps[i]?=some c/\v=.str ⟨#[c]⟩,λi _=>x.cps.size<=i⟩
theorem znw{P:Program}{w:World}{K:Frag}{tg:Expr}(x:Str)(t:Tok)(it:Addr):Turn P w K tg (Its x) [it] it (λi h=>h.IsStrIter it (strIterType x) x t i) where
 mem:=by simp
 obj:=λi h st b hb=>by
  have e:b=it:=by simpa using hb
  subst e;obtain ⟨o,e,c,d⟩:=st;exact ⟨o,e,λv z=>by rw[d] at z;cases z⟩
 keep:=λi h h' st k=>by
  obtain ⟨o,e,c,d⟩:=st;exact ⟨o,k it (by simp) o e,c,d⟩
 item:=by
  intro X hP hw hK hc i pins s σ H E I hf st hg;subst hP hw hK;obtain ⟨f0,f1,f2,f3,f4,f5⟩:=hf it (by simp)
  have hx:x.cps[i]?=some x.cps[i]:=JN hg
  have fin:∀h' tk(T:String),strIterType x=T->h'.IsStrIter it T x t (i+1)->Heap.SameBut it s.heap h'->["enumerate", "zip", "dict_itemiterator", "dict_reverseitemiterator", "odict_iterator", "itertools.zip_longest", "itertools.pairwise"].contains T=false ->
    ∃u,some (Value.str ⟨#[x.cps[i]]⟩ s.toks)=some u/\wpAny (model X.prog X.w) X.A (letOwnedTupleGo tg (.ref it) u) (λ_ s2=>∃v H',Inv X pins σ H' s2/\RelV v u/\(Its x).yld i H v H'/\s2.heap.IsStrIter it (strIterType x) x t (i+1)/\∀b∈[it],H' b=none) E { s with heap:=h',toks:=tk }:=by
   intro h' tk T eT st' sb hn;have I1:Inv X pins σ H { s with heap:=h',toks:=tk }:=I.turned (t':=tk) (λb o hb e=>(sb.2 b hb).trans e) f0 f1 f3 f4 f5;obtain ⟨o,e,c,d⟩:=id st';refine ⟨_,rfl,zm9 (s:={ s with heap:=h',toks:=tk }) e c d hn ⟨.str ⟨#[x.cps[i]]⟩,H,I1,⟨_,rfl⟩,⟨rfl,_,hx,rfl⟩,by rw[eT];exact st',λb hb=>(hf b hb).1⟩⟩
  cases ha:x.cps.all (· < 128) with
  |true=>
   have eT:strIterType x = "str_ascii_iterator" := by simp[strIterType,ha]
   rw[eT] at st;exact wpAny_pyNext_ascii_item st hx λh' st' sb=>fin h' _ _ eT st' sb (by decide)
  |false=>
   have eT:strIterType x = "str_iterator" := by simp[strIterType,ha]
   rw[eT] at st;exact wpAny_pyNext_wide_item st hx λh' st' sb=>fin h' _ _ eT st' sb (by decide)
 done:=by
  intro X hP hw hK hc i pins s σ H E I hf st hg;subst hP hw hK;obtain ⟨f0,f1,f2,f3,f4,f5⟩:=hf it (by simp)
  have hx:x.cps[i]?=none:=Array.getElem?_eq_none hg
  cases ha:x.cps.all (· < 128) with
  |true=>
   have eT:strIterType x = "str_ascii_iterator" := by simp[strIterType,ha]
   rw[eT] at st;exact wpAny_pyNext_ascii_end (I.ok.hd hc) st hx λh' eb=>⟨rfl,I.turned (t':=s.toks) (λb o hb e=>eb b o hb e) f0 f1 f3 f4 f5⟩
  |false=>
   have eT:strIterType x = "str_iterator" := by simp[strIterType,ha]
   rw[eT] at st;exact wpAny_pyNext_wide_end (I.ok.hd hc) st hx λh' eb=>⟨rfl,I.turned (t':=s.toks) (λb o hb e=>eb b o hb e) f0 f1 f3 f4 f5⟩
 self:=λA i s Q E st h=>by
  cases ha:x.cps.all (· < 128) with
  |true=>
   have eT:strIterType x = "str_ascii_iterator" := by simp[strIterType,ha]
   rw[eT] at st;exact wpAny_pyIter_striter_ascii st h
  |false=>
   have eT:strIterType x = "str_iterator" := by simp[strIterType,ha]
   rw[eT] at st;exact wpAny_pyIter_striter_wide st h
def iAny(K:Frag)(tl:TE):TI:=λσ H R=>tl σ H λx H1=>(∃a,x=.ref a/\(∃xs,SqL K H1 a xs)/\R (Itl K a) H1)∨(∃a,x=.ref a/\(∃xs,SqT K H1 a xs)/\R (Itt K a) H1) ∨ ∃z,x=.str z/\R (Its z) H1
theorem zqC{l:Expr}{tl:TE}(hl:PE X l tl):PI X tg l (iAny X.K tl):=by
 intro pins s σ H R I h;refine thn (hl pins s σ H _ I h) λv s1 ⟨x,H1,I1,r1,q1⟩=>?_
 have fpOk:∀b∈[s1.heap.objs.size],FpOk X pins H1 b:=λb hb=>by
  have e:b=s1.heap.objs.size:=by simpa using hb
  subst e;exact I1.fpOk (Qx _) (I1.hok.fresh (Qx _))
 rcases q1 with ⟨a,e,⟨xs,hq⟩,q⟩|⟨a,e,⟨xs,hq⟩,q⟩|⟨z,e,q⟩
 ·subst e
  cases r1;obtain ⟨its,rv,p,hz⟩:=I1.list hq
  refine JG p.isList ?_;exact ⟨s1.heap.objs.size,[s1.heap.objs.size],_,_,H1,rfl,I1.kept (t':=s1.toks) λb o e=>Qk _ e,zkI a _,⟨_,QE _ rfl,rfl,rfl⟩,fpOk,q⟩
 ·subst e
  cases r1;obtain ⟨its,rv,p,hz⟩:=I1.tuple hq
  refine wpAny_pyIter_tuple p ?_;exact ⟨s1.heap.objs.size,[s1.heap.objs.size],_,_,H1,rfl,I1.kept (t':=s1.toks) λb o e=>Qk _ e,zjU a _,⟨_,QE _ rfl,rfl,rfl⟩,fpOk,q⟩
 ·subst e
  obtain ⟨t,rfl⟩:=r1;refine wpAny_pyIter_strU ?_;exact ⟨s1.heap.objs.size,[s1.heap.objs.size],_,_,H1,rfl,I1.kept (t':=s1.toks) λb o e=>Qk _ e,znw z t _,⟨_,QE _ rfl,rfl,rfl⟩,fpOk,q⟩
def zhg(z:Str):List D:=z.cps.toList.map λc=>.str ⟨#[c]⟩
def zii:D->Option (List D)
 |.list ds=>some ds
 |.tuple ds=>some ds
 |.str z=>some (zhg z)
 |_=>none
theorem zij{K:Frag}{G1:Hp}{ad:Addr}{vs:List V}{ds:List D}(h:SqT K G1 ad vs)(r:Reps K G1 vs ds):zfa K (Itt K ad) ds G1 where
 go:=λi G H s1 s2 hi=>by
  have hi':i<vs.length:=by rw[r.length];exact hi
  exact ⟨vs,vs[i],zdJ (s1.trans s2) h,Qe hi'⟩
 stop:=λi G H s1 s2 hi=>⟨vs,zdJ (s1.trans s2) h,by rw[r.length];exact hi⟩
 yld:=λi G H x H' d s1 s2 e y=>by
  obtain ⟨rfl,y⟩:=y;obtain ⟨v,e1,r1⟩:=r.get e
  have:=y vs (zdJ (s1.trans s2) h)
  rw[e1] at this;cases this;exact ⟨G,.refl s2,r1.mono s1⟩
theorem zlf{K:Frag}{G1:Hp}{z:Str}:zfa K (Its z) (zhg z) G1 where
 go:=λi G H s1 s2 hi=>by unfold zhg at hi;simpa[Its] using hi
 stop:=λi G H s1 s2 hi=>by unfold zhg at hi;simpa[Its] using hi
 yld:=λi G H x H' d s1 s2 e y=>by
  obtain ⟨rfl,c,hc,rfl⟩:=y;unfold zhg at e;rw[Qd] at e
  have:z.cps.toList[i]?=some c:=by simpa using hc
  rw[this] at e;cases e;exact ⟨G,.refl s2,.str _⟩
def za2(f:M D):M (List D):=zau f λx=>mOpt (zii x)
theorem zbu{f:M D}(h:PE X e (tD X.K B G0 f)):PI X tg e (iD X.K B G0 (za2 f)):=piof (zqC h) λσ H R q=>tM.toI (R0:=Rep X.K) q λv H' G' Z' x k r a=>by
 cases x with
 |list ds=>
  obtain ⟨ad,vs,rfl,h1,r1⟩:=r.lst_inv;exact .inl ⟨ad,rfl,⟨vs,k.gh.seq h1⟩,a _ G' H' k (.refl _) (zj1 h1 r1)⟩
 |tuple ds=>
  obtain ⟨ad,vs,rfl,h1,r1⟩:=r.tup_inv;exact .inr (.inl ⟨ad,rfl,⟨vs,zdJ k.gh h1⟩,a _ G' H' k (.refl _) (zij h1 r1)⟩)
 |str z=>
  have:=r.str_inv
  subst this;exact .inr (.inr ⟨z,rfl,a _ G' H' k (.refl _) zlf⟩)
 |_=>exact a.elim
def inS(i j:Str):Bool:=!(Builtin.Str.occurrences j i 0 j.length 1).isEmpty
def oInS:D->D->Option Bool
 |.str i,.str j=>some (inS i j)
 |_,_=>none
def zqD:D->D->Option Bool
 |.str i,.str j=>some (!inS i j)
 |_,_=>none
theorem zrH:OpB X (compareOp .In) oInS:=⟨_,zkM,λv u G H x y d Q s rx ry e k=>by
 unfold oInS at e
 split at e
 ·cases e
  have:=rx.str_inv;subst this
  have:=ry.str_inv;subst this
  exact ⟨_,_,rfl,rfl,k⟩
 ·cases e⟩
theorem zqE:OpB X (compareOp .NotIn) zqD:=⟨_,zgX,λv u G H x y d Q s rx ry e k=>by
 unfold zqD at e
 split at e
 ·cases e
  have:=rx.str_inv;subst this
  have:=ry.str_inv;subst this
  exact ⟨_,_,rfl,rfl,k⟩
 ·cases e⟩
theorem znx{x:Str}{i:Int}(hg:Gl X x)(hm:∃t,X.mg x=some (.int i t))(hd:(x==("__debug__" : Str))=false:=by decide):PE X (.Name x pos) (tD X.K B G0 (zah (.int i))):=by
 obtain ⟨t,hm⟩:=hm;exact peof (zkG (v:=.int i) hg hm ⟨t,rfl⟩ hd) λσ H Q ⟨G,Z,k,a⟩=>aft.now a k (.int _)
end
section
variable{X:Cx}{B G0:Hp}{KX:XW}{e o a b c tg i:Expr}{pos p2:Pos}{es rest:List Expr}{te to ti:TE}
def zqF(te to ti:TE):TS:=λD σ H=>te σ H λv H1=>to σ H1 λx H2=>ti σ H2 λk H3=>∃l xs n,x=.ref l/\H3 l=some (.lst xs)/\k=.int n/\0<=n/\n<xs.length/\D.nx σ (upd H3 l (.lst (xs.set n.toNat v)))
theorem zny(he:PE X e te)(ho:PE X o to)(hi:PE X i ti)(hs:swapsWith e (some (.Subscript o i p2)) pos.line X.env=pure false:=by rfl):PS X (.Assign [.Subscript o i p2] e pos) (zqF te to ti):=by
 intro pins s σ H D I h;refine wpAny_Assign_Subscript (thn (he pins s σ H _ I h) λv s1 ⟨x,H1,I1,r1,q1⟩=>thn (ho pins s1 σ H1 _ I1 q1) λov s2 ⟨y,H2,I2,r2,q2⟩=>thn (hi pins s2 σ H2 _ I2 q2) λiv s3 ⟨k,H3,I3,r3,q3⟩=>?_) hs;obtain ⟨l,xs,n,rfl,hl,rfl,h0,h1,q⟩:=q3;cases r2;obtain ⟨t,rfl⟩:=r3;obtain ⟨z,its,m,r,hlen,ee⟩:=I3.lstM hl
 refine PySem.W.ki_setAt (items:=its.toArray) (n:=m) ee h0 (by
                                  have:sizeLine<2 ^ 63:=by decide
                                  omega) (by simp;omega) ?_
 refine ⟨σ,_,I3.lset (t':=s3.toks) (its:=its) (its':=its.set n.toNat v) (f:=(·.setIfInBounds n.toNat v)) hl ee (by simp) (r.set r1 n.toNat) (by rw[List.length_set];exact z),q⟩
def zhh(j:Nat)(g f:M D):SM:=sB f λd Z1=>match Z1[j]? with
 |some (some (.own _))=>sB g (λy Z2=>match y with
  |.int k=>(match Z2[j]? with
   |some (some (.own ds))=>if 0<=k/\k<ds.length then .nx (Z2.set j (some (.own (ds.set k.toNat d)))) else .bad
   |_=>.bad)
  |_=>.bad) Z1
 |_=>.bad
theorem zfg{j:Nat}{f g:M D}(he:PE X e (tD X.K B G0 f))(ho:PE X o (tVar j))(hi:PE X i (tD X.K B G0 g))(hs:swapsWith e (some (.Subscript o i p2)) pos.line X.env=pure false:=by rfl) :
  PS X (.Assign [.Subscript o i p2] e pos) (tS X.K B G0 KX (zhh j g f)) :=
 psof (zny he ho hi hs) λD σ H q=>tS.bnd (R:=Rep X.K) q λv H1 G1 Z1 d k r a=>by
  cases q0:Z1[j]? with
  |none=>rw[q0] at a;exact a.elim
  |some o0=>
   cases o0 with
   |none=>rw[q0] at a;exact a.elim
   |some sl0=>
    cases sl0 with
    |deep _ _=>rw[q0] at a;exact a.elim
    |pub d=>rw[q0] at a;exact a.elim
    |own ds0=>
     rw[q0] at a;obtain ⟨ad,vs0,h1,h2,h3,h4,h5⟩:=k.own j ds0 q0;refine ⟨.ref ad,h1,G1,Z1,k,?_⟩;dsimp only at a;unfold sB at a
     cases z:g Z1 with
     |bad=>rw[z] at a;exact a.elim
     |ok y Z2=>
      rw[z] at a;dsimp only at a;intro kv G' H' k' s' r'
      cases y with
      |int n=>
       dsimp only at a
       cases q:Z2[j]? with
       |none=>rw[q] at a;exact a.elim
       |some oo=>
        cases oo with
        |none=>rw[q] at a;exact a.elim
        |some sl=>
         cases sl with
         |deep _ _=>rw[q] at a;exact a.elim
         |pub d=>rw[q] at a;exact a.elim
         |own ds=>
          rw[q] at a;dsimp only at a
          split at a
          ·rename_i hn
           obtain ⟨ad',vs,g1,g2,g3,g4,g5⟩:=k'.own j ds q;rw[h1] at g1;cases g1;refine ⟨ad,vs,n,rfl,g4,r'.int_inv,hn.1,by rw[g5.length];exact hn.2,?_⟩
           exact a σ G' _ (k'.change q h1 (g5.set (r.mono s') n.toNat)) s'
          ·exact a.elim
      |_=>exact a.elim
def cutS(z:Str)(lo hi:Option Int):Str:=if (Builtin.Str.strSliceIndices lo hi 1 z.length).length=z.length then z else ⟨((Builtin.Str.strSliceIndices lo hi 1 z.length).filterMap (z.cps[·]?)).toArray⟩
theorem zqG:SlR X (λx lo hi H Q=>∃z,x=.str z/\(cutS z lo hi).length<=sizeLine/\Q (.str (cutS z lo hi)) H):=by
 intro pins s σ H x v vl vu lo hi sl Q I rx hs pl pu h;obtain ⟨z,rfl,hz,q⟩:=h;obtain ⟨t,rfl⟩:=rx
 refine ⟨"str", _,F.slot_str_getitem.lookup,typeIs_str s z t,?_⟩
 obtain ⟨l,el,e1⟩:∃l:Option (Int×Tok),vl=partValue l/\l.map (·.1)=lo:=by
  cases pl with
  |none=>exact ⟨none,rfl,rfl⟩
  |int k t'=>exact ⟨some (k,t'),rfl,rfl⟩
 obtain ⟨u,eu,e2⟩:∃u:Option (Int×Tok),vu=partValue u/\u.map (·.1)=hi:=by
  cases pu with
  |none=>exact ⟨none,rfl,rfl⟩
  |int k t'=>exact ⟨some (k,t'),rfl,rfl⟩
 subst el eu;refine wpAny_getItem_str_slice (l:=l) (u:=u) (st:=none) hs rfl ?_;unfold sliceMade slicePicked;rw[e1,e2];unfold cutS at hz q
 by_cases hw:(Builtin.Str.strSliceIndices lo hi 1 z.length).length=z.length
 ·rw[Qm hw] at hz q
  rw[if_pos (by simp[hw])]
  exact ⟨.str z,H,I,⟨t,rfl⟩,q⟩
 ·rw[Qy hw] at hz q
  rw[if_neg (by simp[hw])]
  exact ⟨hz,.str _,H,I.tok _,⟨_,rfl⟩,q⟩
end
section
variable{X:Cx}{B G0:Hp}{KX:XW}{e o a b c tg i:Expr}{pos p2:Pos}{es rest:List Expr}{te to ti:TE}
theorem pvb(i:Nat){x:Str}{pos:Pos}{N':List Str}{scope:Scope}{cl:List (Str×Addr)}{C:Addr}{s₀:Shared}{H₀:Hp}{ex:List Addr}(hN:N'[i]?=some x:=by rfl)
  (h:scope.names.lookup x=some .local∨scope.names.lookup x=some .free:=by first|exact .inl rfl|exact .inr rfl) (hd:(x==("__debug__" : Str))=false:=by decide) (hcd:(x==("__classdict__" : Str))=false:=by decide) :
  PE (X.blk N' scope cl C s₀ H₀ ex) (.Name x pos) (tVar i):=zoh hN (zpe h) hd hcd
def oSlA:D->Option Int->Option Int->Option D
 |.list xs,lo,hi=>some (.list (DL.cutD xs lo hi))
 |.str z,lo,hi=>if (cutS z lo hi).length<=1000000 then some (.str (cutS z lo hi)) else none
 |_,_,_=>none
def dSlA(f:M D)(lo hi:M (Option Int)):M D:=zau f λx=>zau lo λl=>zau hi λh=>mOpt (oSlA x l h)
theorem zbQ{lo hi:Option Expr}{f:M D}{l h:M (Option Int)}(he:PE X e (tD X.K B G0 f))(hl:PO X lo (tOi X.K B G0 l))(hu:PO X hi (tOi X.K B G0 h)) :
  PE X (.Subscript e (.Slice lo hi none p2) pos) (tD X.K B G0 (dSlA f l h)) :=
 peof (zne (zoX.or zqG) he hl hu) λσ H Q q=>by
  refine tM.one (R:=Rep X.K) q λv H2 G Z x k r a=>?_;refine tM.nx (R:=λ_ b c=>b=c) k a λl' H3 G3 Z3 xl k3 s3 r3 a3=>?_;refine tM.nx (R:=λ_ b c=>b=c) k3 a3 λh' H4 G4 Z4 xh k4 s4 r4 a4=>?_;have r3:l'=xl:=r3;have r4:h'=xh:=r4;subst r3 r4;unfold mOpt oSlA at a4
  cases x with
  |list xs=>
   obtain ⟨ad,vs,rfl,h1,r1⟩:=((r.mono s3).mono s4).lst_inv;exact .inl ⟨ad,vs,rfl,k4.gh.seq h1,λp hp=>aft.done a4 k4 (Ext.new k4.gh hp) (.lst (SqL.of zaT) ((r1.cut l' h').mono (zaX (k4.gh.free hp))))⟩
  |str z=>
   dsimp only at a4
   have:=r.str_inv;subst this
   by_cases hc:(cutS z l' h').length<=1000000
   ·rw[Qm hc] at a4
    exact .inr ⟨z,rfl,QO hc lim,aft.now a4 k4 (.str _)⟩
   ·rw[Qy hc] at a4;exact a4.elim
  |_=>exact a4.elim
end
section
variable{X:Cx}{B G0:Hp}{e o a b c tg:Expr}{pos p2:Pos}{es rest:List Expr}{te to ti:TE}
def zce{β:Type}(p:D->D->Option β)(i:Nat)(g:M D):M β:=λZ=>match Z[i]? with
 |some (some (.pub d))=>(zau g λy=>mOpt (p d y)) Z
 |some (some (.own _))=>(zau g λy=>λZ'=>match Z'[i]? with|some (some (.own ds))=>mOpt (p (.list ds) y) Z'|_=>.bad) Z
 |_=>.bad
theorem zqH{K:Frag}{σ:St}{H:Hp}{p:D->D->Option Bool}{r:R2}{i:Nat}{g:M D}{Q:Bool->Hp->Prop}{QV:VK}(hq:∀t H3,Q t H3->QV (.bl t) H3)(hr:∀v u G H x y d Q,Same G H->Rep K G v x->Rep K G u y->p x y=some d->Q (.bl d) H->r v u H Q)
  (q:tBo K B G0 (zce p i g) σ H Q):tVar i σ H λx H1=>tD K B G0 g σ H1 λy H2=>r x y H2 QV:=by
 obtain ⟨G,Z,k,a⟩:=q;unfold zce at a
 cases q:Z[i]? with
 |none=>rw[q] at a;exact a.elim
 |some o=>
  cases o with
  |none=>rw[q] at a;exact a.elim
  |some sl=>
   cases sl with
   |deep _ _=>rw[q] at a;exact a.elim
   |pub d=>
    rw[q] at a;obtain ⟨v,h1,h2⟩:=k.pub i d q;refine ⟨v,h1,G,Z,k,?_⟩;dsimp only[zau] at a
    cases z:g Z with
    |bad=>rw[z] at a;exact a.elim
    |ok y Z1=>
     rw[z] at a;intro u G' H' k' s' r';obtain ⟨d',e',a'⟩:=aft.opt a;exact hr v u G' H' d y d' _ k'.gh (h2.mono s') r' e' (hq _ _ (a' d' G' H' k' s' rfl))
   |own ds=>
    rw[q] at a;obtain ⟨ad,vs,h1,h2,h3,h4,h5⟩:=k.own i ds q;refine ⟨.ref ad,h1,G,Z,k,?_⟩;dsimp only[zau] at a
    cases z:g Z with
    |bad=>rw[z] at a;exact a.elim
    |ok y Z1=>
     rw[z] at a;dsimp only at a;intro u G' H' k' s' r'
     cases q1:Z1[i]? with
     |none=>rw[q1] at a;exact a.elim
     |some oo=>
      cases oo with
      |none=>rw[q1] at a;exact a.elim
      |some sl1=>
       cases sl1 with
       |deep _ _=>rw[q1] at a;exact a.elim
       |pub d1=>rw[q1] at a;exact a.elim
       |own ds1=>
        rw[q1] at a;dsimp only at a;obtain ⟨ad',ws,g1,g2,g3,g4,g5⟩:=k'.own i ds1 q1;rw[h1] at g1;cases g1;obtain ⟨d',e',a'⟩:=aft.opt a;have sg:Same G' (upd G' ad (.lst ws)):=zaX g3
        have sh:Same (upd G' ad (.lst ws)) H':=λb o q=>by
         by_cases z:b=ad
         ·subst z;rw[zaT] at q;cases q;exact g4
         ·rw[zaU z] at q;exact k'.gh b o q
        exact hr (.ref ad) u _ H' (.list ds1) y d' _ sh (.lst (SqL.of zaT) (g5.mono sg)) (r'.mono sg) e' (hq _ _ (a' d' G' H' k' s' rfl))
theorem zcf{op:CmpOp}{p:D->D->Option Bool}{i:Nat}{g:M D}(o:OpB X (compareOp op) p)(ha:PE X a (tVar i))(hb:PE X b (tD X.K B G0 g))(hm:behindInMarks op b=false) :
  PT X (.Compare a [op] [b] pos) (tBo X.K B G0 (zce p i g)):=by
 obtain ⟨r,h,j⟩:=o;exact ptof (zia h ha hb hm) λσ H Q q=>zqH (λt H3 z=>⟨t,rfl,z⟩) j q
theorem zlg{op:CmpOp}{p:D->D->Option Bool}{i:Nat}{g:M D}(o:OpB X (compareOp op) p)(ha:PE X a (tVar i))(hb:PE X b (tD X.K B G0 g))(hm:behindInMarks op b=false) :
  PE X (.Compare a [op] [b] pos) (tD X.K B G0 (mMap PyData.bool (zce p i g))):=by
 obtain ⟨r,h,j⟩:=o;exact peof (zkN h ha hb hm) λσ H Q q=>zqH (λt H3 z=>z) j (tBo.val q)
end
end DL
namespace L2
open PySem PySem.Spec PyProof.Rows
section
variable{X:Cx}
end
end L2
namespace DL
open PySem PySem.Spec L2
open PyProof.Rows hiding St
section
variable{X:Cx}{B G0:Hp}{e a b c tg:Expr}{pos:Pos}{es rest:List Expr}
end
section
variable{X:Cx}{B G0:Hp}{e o a b c tg:Expr}{pos p2 p3:Pos}{es rest:List Expr}{te to ti:TE}
def oIn:D->D->Option Bool
 |.str i,.str j=>some (inS i j)
 |x,.list xs=>if x.canLay0=true/\PyData.canLayAll0 xs=true/\x.depth<=60 then some (xs.any λy=>PyData.eqv y x) else none
 |x,.tuple xs=>if x.canLay0=true/\PyData.canLayAll0 xs=true/\x.depth<=60 then some (xs.any λy=>PyData.eqv y x) else none
 |_,_=>none
def oNin(x y:D):Option Bool:=(oIn x y).map λt=>!t
def oInQ(x y:D):Option Bool:=match y with
 |.list xs=>if x.canLay0=true/\PyData.canLayAll0 xs=true/\x.depth<=60 then some (xs.any λy=>PyData.eqv y x) else none
 |.tuple xs=>if x.canLay0=true/\PyData.canLayAll0 xs=true/\x.depth<=60 then some (xs.any λy=>PyData.eqv y x) else none
 |_=>none
theorem zrI(hu:X.A.units+64<cLine):OpB X (compareOp .In) oInQ:=by
 refine ⟨λv u H Q=>∃G x y d,Same G H/\Rep X.K G v x/\Rep X.K G u y/\oInQ x y=some d/\Q (.bl d) H,?_,λv u G H x y d Q s rx ry e k=>⟨G,x,y,d,s,rx,ry,e,k⟩⟩;intro pins s σ H x y v u Q I rx ry ⟨G,dx,dy,d,sg,px,py,e,q⟩;unfold oInQ at e
 split at e
 ·split at e
  ·rename_i c
   cases e;obtain ⟨as,ra⟩:=zbx I sg px rx c.1
   obtain ⟨bs,rb⟩:=zbx I sg py ry (show PyData.canLayAll0 _=true from c.2.1)
   exact SeqAt.in_list_reads rb ra c.2.1 c.1 (by have:=c.2.2;omega) ⟨.bl _,H,I,rfl,q⟩
  ·cases e
 ·split at e
  ·rename_i c
   cases e;obtain ⟨as,ra⟩:=zbx I sg px rx c.1
   obtain ⟨bs,rb⟩:=zbx I sg py ry (show PyData.canLayAll0 _=true from c.2.1)
   exact SeqAt.in_tuple_reads rb ra c.2.1 c.1 (by have:=c.2.2;omega) ⟨.bl _,H,I,rfl,q⟩
  ·cases e
 ·cases e
theorem zqI(hu:X.A.units+64<cLine):OpB X (compareOp .NotIn) (λx y=>(oInQ x y).map λt=>!t):=by
 refine ⟨λv u H Q=>∃G x y d,Same G H/\Rep X.K G v x/\Rep X.K G u y/\(oInQ x y).map (λt=>!t)=some d/\Q (.bl d) H,?_,λv u G H x y d Q s rx ry e k=>⟨G,x,y,d,s,rx,ry,e,k⟩⟩;intro pins s σ H x y v u Q I rx ry ⟨G,dx,dy,d,sg,px,py,e,q⟩;unfold oInQ at e
 split at e
 ·split at e
  ·rename_i c
   cases e;obtain ⟨as,ra⟩:=zbx I sg px rx c.1
   obtain ⟨bs,rb⟩:=zbx I sg py ry (show PyData.canLayAll0 _=true from c.2.1)
   exact SeqAt.notIn_list_reads rb ra c.2.1 c.1 (by have:=c.2.2;omega) ⟨.bl _,H,I,rfl,q⟩
  ·cases e
 ·split at e
  ·rename_i c
   cases e;obtain ⟨as,ra⟩:=zbx I sg px rx c.1
   obtain ⟨bs,rb⟩:=zbx I sg py ry (show PyData.canLayAll0 _=true from c.2.1)
   exact SeqAt.notIn_tuple_reads rb ra c.2.1 c.1 (by have:=c.2.2;omega) ⟨.bl _,H,I,rfl,q⟩
  ·cases e
 ·cases e
theorem B_in(hu:X.A.units+64<cLine):OpB X (compareOp .In) oIn:=(zrH.or (zrI hu)).congr λx y=>by
 cases x <;> cases y <;> rfl
theorem zqJ(hu:X.A.units+64<cLine):OpB X (compareOp .NotIn) oNin:=(zqE.or (zqI hu)).congr λx y=>by
 cases x <;> cases y <;> rfl
theorem zlh{tl th ts:TO}{lo hi:Option Expr}{st:Expr}(he:PE X e te)(hl:PO X lo tl)(hu:PO X hi th)(hst:PO X (some st) ts):PE X (.Subscript e (.Slice lo hi (some st) p2) pos)
  (λσ H Q=>te σ H λx H1=>tl σ H1 λl H2=>th σ H2 λu H3=>ts σ H3 λt H4=>∃a xs,x=.ref a/\SqL X.K H4 a xs/\l=none/\u=none/\t=some (-1)/\∀p,H4 p=none->Q (.ref p) (upd H4 p (.lst xs.reverse))):=by
 intro pins s σ H Q I h;refine Subscript_ (thn (he pins s σ H _ I h) λv s1 ⟨x,H1,I1,r1,q1⟩=>?_);refine wpAny_Slice (thn (hl pins s1 σ H1 _ I1 q1) λvl s2 ⟨l,H2,I2,pl,q2⟩=>thn (hu pins s2 σ H2 _ I2 q2) λvu s3 ⟨u,H3,I3,pu,q3⟩=>thn (hst pins s3 σ H3 _ I3 q3) λvt s4 ⟨t,H4,I4,pt,q4⟩=>?_);obtain ⟨a,xs,rfl,hx,rfl,rfl,rfl,q⟩:=q4;cases r1
 have I5:Inv X pins σ H4 { s4 with heap:=s4.heap.push { cls:=.type "slice", data:=.fields #[vl,vu,vt] } }:=I4.kept (t':=s4.toks) λb ob q=>Qk _ q
 obtain ⟨its,r,ht,hz⟩:=I5.list hx;have hlen:=r.length
 have hg:wpAny (model X.prog X.w) X.A (getItem (.ref a) (.ref s4.heap.objs.size)) (EP X pins σ Q) X.xe { s4 with heap:=s4.heap.push { cls:=.type "slice", data:=.fields #[vl,vu,vt] } }:=by
  refine wpAny_getItem_list_slice ht.isList (Heap.IsSliceOf.new ..) pl pu pt (by simp) ?_ (by rw[List.size_toArray] <;> omega)
  rw[PySem.W.krv_pick];refine ⟨.ref _,_,I5.laid (t':=s4.toks) (o:=.lst xs.reverse) (λb ob q=>Qk _ q) (Qx _) ?_,rfl,q _ (I5.hok.fresh (Qx _))⟩;exact ⟨by rw[JA];exact hz,its.reverse,0,r.reverse,QE _ rfl⟩
 show wpAny (model X.prog X.w) X.A (subscriptTail e (.Slice lo hi (some st) p2) (.ref a) (.ref s4.heap.objs.size)) (EP X pins σ Q) X.xe { s4 with heap:=s4.heap.push { cls:=.type "slice", data:=.fields #[vl,vu,vt] } }
 exact tail_any (ops:=[.ref a,.ref s4.heap.objs.size]) ht.isList.typeIs slot_list_getitem.lookup hg (by with_unfolding_all rfl)
def oRev:D->Option Int->Option Int->Option Int->Option D
 |.list xs,none,none,some i=>if i = -1 then some (.list xs.reverse) else none
 |_,_,_,_=>none
def dRev(f:M D)(lo hi st:M (Option Int)):M D:=zau f λx=>zau lo λl=>zau hi λh=>zau st λt=>mOpt (oRev x l h t)
theorem zpg{lo hi:Option Expr}{st:Expr}{f:M D}{l h t:M (Option Int)}(he:PE X e (tD X.K B G0 f))(hl:PO X lo (tOi X.K B G0 l))(hu:PO X hi (tOi X.K B G0 h))(hst:PO X (some st) (tOi X.K B G0 t)) :
  PE X (.Subscript e (.Slice lo hi (some st) p2) pos) (tD X.K B G0 (dRev f l h t)) :=
 peof (zlh he hl hu hst) λσ H Q q=>by
  refine tM.one (R:=Rep X.K) q λv H2 G Z x k r a=>?_;refine tM.nx (R:=λ_ b c=>b=c) k a λl' H3 G3 Z3 xl k3 s3 r3 a3=>?_;refine tM.nx (R:=λ_ b c=>b=c) k3 a3 λh' H4 G4 Z4 xh k4 s4 r4 a4=>?_;refine tM.nx (R:=λ_ b c=>b=c) k4 a4 λt' H5 G5 Z5 xt k5 s5 r5 a5=>?_;have r3:l'=xl:=r3;have r4:h'=xh:=r4;have r5:t'=xt:=r5;subst r3 r4 r5
  cases x with
  |list xs=>
   cases l' with
   |some _=>exact a5.elim
   |none=>
   cases h' with
   |some _=>exact a5.elim
   |none=>
   cases t' with
   |none=>exact a5.elim
   |some i=>
   obtain ⟨ad,vs,rfl,h1,r1⟩:=(((r.mono s3).mono s4).mono s5).lst_inv
   by_cases hi:i = -1
   ·subst hi
    exact ⟨ad,vs,rfl,k5.gh.seq h1,rfl,rfl,rfl,λp hp=>aft.done a5 k5 (Ext.new k5.gh hp) (.lst (SqL.of zaT) (r1.reverse.mono (zaX (k5.gh.free hp))))⟩
   ·unfold mOpt oRev at a5
    dsimp only at a5;rw[Qy hi] at a5;exact a5.elim
  |_=>
   unfold mOpt oRev at a5;exact a5.elim
def zfh:List D->Option (List D)
 |[.list xs]=>some xs
 |[.tuple xs]=>some xs
 |_=>none
theorem zhi{x l:List D}(h:zfh x=some l):x=[.list l]∨x=[.tuple l]:=by
 unfold zfh at h
 split at h
 ·cases h;exact .inl rfl
 ·cases h;exact .inr rfl
 ·cases h
theorem zfS:bootBuiltins "list" = some (.type "list"):=by decide +kernel
theorem znz{f:M (List D)}(hg:Gl X "list")(hm:X.mg "list" = none)(ha:PA X [a] (tDs X.K B G0 f))(he:starEach [a] X.env=(false,eval a X.env)::starEach [] X.env:=by rfl) :
  PE X (.Call (.Name "list" p2) [a] [] pos) (tL X.K B G0 (zau f λxs=>mOpt (zfh xs))) :=
 peof (zdI zeD hg hm zfS ha (by decide) (by decide) he rfl) λσ H Q ⟨G,Z,k,q⟩=>by
  refine ⟨G,Z,k,?_⟩;unfold zau at q
  cases z:f Z with
  |bad=>rw[z] at q;exact q.elim
  |ok xs Z1=>
   rw[z] at q;dsimp only[mOpt] at q;intro vs G' H' k' s' r
   cases z2:zfh xs with
   |none=>rw[z2] at q;exact q.elim
   |some l=>
    rw[z2] at q;rcases zhi z2 with rfl|rfl
    ·obtain ⟨v,rfl,q1⟩:=r.one_inv
     obtain ⟨p,ws,rfl,h1,r1⟩:=q1.lst_inv;exact ⟨p,ws,rfl,.inl (k'.gh.seq h1),λad hp=>q ad ws G' _ (k'.ext (Ext.hid k'.gh hp)) s' (NewL.of k' hp r1)⟩
    ·obtain ⟨v,rfl,q1⟩:=r.one_inv
     obtain ⟨p,ws,rfl,h1,r1⟩:=q1.tup_inv;exact ⟨p,ws,rfl,.inr (zdJ k'.gh h1),λad hp=>q ad ws G' _ (k'.ext (Ext.hid k'.gh hp)) s' (NewL.of k' hp r1)⟩
def zfT(i:Nat):M (List D):=λZ=>match Z[i]? with
 |some (some (.pub d))=>mOpt (zfh [d]) Z
 |some (some (.own ds))=>.ok ds Z
 |_=>.bad
theorem zhj{i:Nat}(hg:Gl X "list")(hm:X.mg "list" = none)(ho:PE X a (tVar i))(he:starEach [a] X.env=(false,eval a X.env)::starEach [] X.env:=by rfl) :
  PE X (.Call (.Name "list" p2) [a] [] pos) (tL X.K B G0 (zfT i)) :=
 peof (zdI zeD hg hm zfS (zdF ho zfN he) (by decide) (by decide) he rfl) λσ H Q ⟨G,Z,k,q⟩=>by
  unfold zfT at q
  cases z:Z[i]? with
  |none=>rw[z] at q;exact q.elim
  |some oo=>
   cases oo with
   |none=>rw[z] at q;exact q.elim
   |some sl=>
    cases sl with
    |deep _ _=>rw[z] at q;exact q.elim
    |own ds=>
     rw[z] at q;dsimp only at q;obtain ⟨ad,vs,h1,h2,h3,h4,h5⟩:=k.own i ds z;exact ⟨.ref ad,h1,ad,vs,rfl,.inl (SqL.of h4),λl hp=>q l vs G _ (k.ext (Ext.hid k.gh hp)) (.refl _) (NewL.of k hp h5)⟩
    |pub d=>
     rw[z] at q;dsimp only[mOpt] at q;obtain ⟨v,h1,h2⟩:=k.pub i d z
     cases z2:zfh [d] with
     |none=>rw[z2] at q;exact q.elim
     |some l=>
      rw[z2] at q;dsimp only at q;rcases zhi z2 with e|e
      ·cases e
       obtain ⟨p,ws,rfl,g1,r1⟩:=h2.lst_inv;exact ⟨_,h1,p,ws,rfl,.inl (k.gh.seq g1),λad hp=>q ad ws G _ (k.ext (Ext.hid k.gh hp)) (.refl _) (NewL.of k hp r1)⟩
      ·cases e
       obtain ⟨p,ws,rfl,g1,r1⟩:=h2.tup_inv;exact ⟨_,h1,p,ws,rfl,.inr (zdJ k.gh g1),λad hp=>q ad ws G _ (k.ext (Ext.hid k.gh hp)) (.refl _) (NewL.of k hp r1)⟩
def zli:List D->Option D
 |[.int i]=>some (.int i)
 |[.bool b]=>some (.int (if b then 1 else 0))
 |_=>none
theorem zqK:zdx X (.type "int") zli:=by
 refine ⟨_,zkP,λvs G H ds d Q s r e k=>?_⟩;unfold zli at e
 split at e
 ·cases e
  obtain ⟨v,rfl,q⟩:=r.one_inv;rw[q.int_inv];exact .inl ⟨_,rfl,k _ G H (.refl s) (.int _)⟩
 ·cases e
  obtain ⟨v,rfl,q⟩:=r.one_inv;rw[q.bl_inv];exact .inr ⟨_,rfl,k _ G H (.refl s) (.int _)⟩
 ·cases e
theorem zrJ{x:Str}{zs:List Str}(hg:Gl X x)(hm:∃ad o its n,X.mg x=some (.ref ad)/\X.K.lookup ad=some o/\o.cls=.type "tuple" /\ o.data=.seq its n/\its.size<=sizeLine/\Vals (zs.map V.str) its.toList)(hd:(x==("__debug__" : Str))=false:=by decide) :
  PE X (.Name x pos) (tD X.K B G0 (zah (.tuple (zs.map PyData.str)))):=by
 obtain ⟨ad,o,its,n,hm,h1,h2,h3,h4,h5⟩:=hm;refine peof (zkG (v:=.ref ad) hg hm rfl hd) λσ H Q ⟨G,Z,k,a⟩=>aft.now a k (.tup (.inr ⟨o,its,n,h1,h2,h3,h4,h5⟩) ?_)
 have:∀zs:List Str,Reps X.K G (zs.map V.str) (zs.map PyData.str):=λzs=>by
  induction zs with
  |nil=>exact .nil
  |cons z r ih=>exact .cons (.str _) ih
 exact this zs
end
section
variable{X:Cx}{B G0:Hp}{e o a b c tg:Expr}{pos p2 p3 p4:Pos}{es rest:List Expr}{te to ti:TE}
theorem zb7:∀{ns:List Int}{us:List Value},Vals (ns.map V.int) us->PyProof.Rows.IntsAre us ns
 |[],_,.nil=>.nil
 |n::ns,_,.cons h t=>by
  obtain ⟨tk,rfl⟩:=h;exact .cons n tk (zb7 t)
def zfi(ns:List Int):Nat:=(PyProof.Rows.firstMet (λi=>ns.getD i 0) ns.length).length
theorem zlj(hc:X.calm=true):zdb X (.type "set") (λxs H Q=>∃l,∃ns:List Int,xs=[.ref l]/\SqL X.K H l (ns.map V.int)/\ns.length+1<4096/\∀S p,H p=none->Q (.ref p) (upd H p (.set S (zfi ns)))):=by
 intro pins s σ H xs us Q I rx h;obtain ⟨l,ns,rfl,hq,hb,q⟩:=h;obtain ⟨u,rfl,ru⟩:=rx.one;cases ru;obtain ⟨its,rv,p,hz⟩:=I.list hq;have hi:=zb7 rv;have hn:its.toArray.size=ns.length:=by have:=rv.length;rw[List.length_map] at this;simp;omega
 refine call_set_list (I.ok.hd hc) p.isList (ns:=ns) (by simpa using hi) (by rw[hn];exact hb) λh' tk hS hk=>?_
 rw[hn] at hS;refine ⟨.ref s.heap.objs.size,_,I.laid (t':=tk) (λb o e=>hk b o (Qi e) e) (Qx _) (show zcL X.prog X.w _ h' _ (.set _ (zfi ns)) from hS),rfl,q _ _ (I.hok.fresh (Qx _))⟩
theorem zlk:zdb X (.builtin "len") (λxs H Q=>∃p S n,xs=[.ref p]/\H p=some (.set S n)/\Q (.int n) H):=by
 intro pins s σ H xs us Q I rx h;obtain ⟨p,S,n,rfl,hp,q⟩:=h;obtain ⟨u,rfl,ru⟩:=rx.one;cases ru;obtain ⟨o,es,ep,t,h1,h2,h3,h4,h5,h6,h7,h8⟩:=(show s.heap.SetOf (intKind X.prog X.w) p S n from I.hok p _ hp)
 have hsb:scanBound=4096:=rfl;refine call_len_set h1 h2 h3 h7 (by omega) ?_
 rw[h8];exact ⟨.int n,H,I.tok _,⟨_,rfl⟩,q⟩
def zbZ:List D->Option (List Int)
 |[]=>some []
 |.int i::r=>(zbZ r).map (i :: ·)
 |_=>none
theorem zcg{K:Frag}{G:Hp}:∀{vs:List V}{ds:List D}{ns:List Int},Reps K G vs ds->zbZ ds=some ns->vs=ns.map V.int
 |_,_,ns,.nil,e=>by cases e;rfl
 |_,_,ns,.cons (d:=d) r t,e=>by
  cases d with
  |int b=>
   unfold zbZ at e
   cases z:zbZ _ with
   |none=>rw[z] at e;cases e
   |some cs=>
    rw[z] at e;cases e;rw[r.int_inv,zcg t z];rfl
  |_=>cases e
theorem zcy(ns:List Int):zbZ (ns.map int)=some ns:=by
 induction ns with
 |nil=>rfl
 |cons b r ih=>rw[Qz,zbZ,ih];rfl
def zc5:List D->Option D
 |[.list ds]=>(match zbZ ds with
  |some ns=>if ns.length+1<4096 then some (.int (zfi ns)) else none
  |none=>none)
 |_=>none
theorem zik{xs:List D}{d:D}(h:zc5 xs=some d):∃ds ns,xs=[.list ds]/\zbZ ds=some ns/\ns.length+1<4096/\d=.int (zfi ns):=by
 unfold zc5 at h
 split at h
 ·rename_i ds
  cases z:zbZ ds with
  |none=>rw[z] at h;cases h
  |some ns=>
   rw[z] at h;dsimp only at h
   split at h
   ·rename_i c
    cases h;exact ⟨ds,ns,rfl,z,c,rfl⟩
   ·cases h
 ·cases h
theorem zll:bootBuiltins "set" = some (.type "set"):=by decide +kernel
theorem zfU{f:M (List D)}(hc:X.calm=true)(hg:Gl X "len")(hm:X.mg "len" = none)(hg2:Gl X "set")(hm2:X.mg "set" = none)(ha:PA X [a] (tDs X.K B G0 f))(he:starEach [a] X.env=(false,eval a X.env)::starEach [] X.env:=by rfl)
  (he2:starEach [.Call (.Name "set" p2) [a] [] p3] X.env=(false,eval (.Call (.Name "set" p2) [a] [] p3) X.env)::starEach [] X.env:=by rfl) :
  PE X (.Call (.Name "len" p4) [.Call (.Name "set" p2) [a] [] p3] [] pos) (tD X.K B G0 (zbH zc5 f)) :=
 peof (zeS zlk hg hm Jb (zdF (zdI (zlj hc) hg2 hm2 zll ha (by decide) (by decide) he rfl) zfN he2) (by decide) (by decide) he2 rfl) λσ H Q q=>tM.one (R:=Reps X.K) q λvs H2 G Z x k r a=>by
  obtain ⟨d,e,a⟩:=a.opt;obtain ⟨ds,ns,rfl,z,c,rfl⟩:=zik e;obtain ⟨v,rfl,q1⟩:=r.one_inv;obtain ⟨l,ws,rfl,h1,r1⟩:=q1.lst_inv
  have:=zcg r1 z
  subst this;refine ⟨l,ns,rfl,k.gh.seq h1,c,λS p hp=>⟨p,S,zfi ns,rfl,zaT,?_⟩⟩;exact aft.done a k (Ext.hid k.gh hp) (.int _)
end
end DL
namespace L2
open PySem PySem.Spec PyProof.Rows
section
variable{X:Cx}{tg:Expr}
end
end L2
namespace DL
open PySem PySem.Spec L2
open PyProof.Rows hiding St
section
variable{X:Cx}{B G0:Hp}{e a b c tg:Expr}{pos:Pos}{es rest:List Expr}
end
end DL
namespace L2
open PySem PySem.Spec PyProof.Rows
section
variable{prog:Program}{w:World}{A:Around}{E:Value->Shared->Prop}{s:Shared}{M:Model}{env:Env}
theorem zph{pos:Pos}{T:String}{args:List (Bool×Sem Value)}{kws:List (Option Str×Sem Value)}{Q:Value->Shared->Prop}(hp:args.any (·.1)=false)(hk:kws.any (·.1.isNone)=false)
  (h:wpAny M A (evalArgs (.type T) true args kws) (λa s1=>wpAny M A (call (.type T) a.pos a.kw) Q E s1) E s):wpAny M A (callWith pos (.type T) [] args kws) Q E s:=by
 unfold callWith;refine Qf (wpAny_holding (QM h (λa s1 h1=>Qf (Jt ?_)) λ_ _ z=>z));simp only[hp,hk,Bool.false_or];refine Qf (Qn ?_);exact Qf (QM h1 (λr s2 hr=>Qf (wpAny_holding (wpAny_point (Qn hr)))) λ_ _ z=>z)
theorem znA(l:Addr)(t:Tok)(items:Array Value)(n:Nat)(dct:Option Addr)(sl:Array (Option Value)) :
  Meets (Builtin.«enumerate.__new__» ⟨[.type "enumerate", .ref l],[("start", .int 1 t)]⟩) (λ_ R s=>s.heap.get? l=some ⟨.type "list", dct,.seq items n,sl⟩ /\
   R (.ok (.ret (.ref (s.heap.push { cls:=.type "list_iterator", data:=.fields #[.ref l,.int 0 0] }).objs.size))) { s with heap:=(s.heap.push { cls:=.type "list_iterator", data:=.fields #[.ref l,.int 0 0] }).push { cls:=.type "enumerate", data:=.fields #[.none,.bool false,.ref s.heap.objs.size,rawInt 1,.none,.none] } }) :=
 .of_wp λprog w A R s h=>by
  obtain ⟨hp,g,d,tk,os⟩:=s;obtain ⟨hl,h⟩:=h;have hsub:=sub_enumerate;have hL:Heap.IsList (Shared.heap ⟨hp,g,d,tk,os⟩) l items:=⟨_,hl,rfl,n,rfl⟩
  wp_walk using AutoSeq1.wpAny_loadPart' hl
  refine wpAny_stack_any λst=>(Qn ?_);split
  ·rename_i c _ _ _ _ _
   cases (c==Value.type "enumerate") <;> (wp_walk using (AutoSeq1.wpAny_loadPart' hl),(JG hL)) <;> exact ⟨_,rfl,h⟩
  ·(wp_walk using (AutoSeq1.wpAny_loadPart' hl),(JG hL));exact ⟨_,rfl,h⟩
theorem zgm{T newId initId:String}{Bn Bi:Builtin}{args:List Value}{kw:List (Str×Value)}{S:PySem.Spec}{Q Q1:Value->Shared->Prop}(ft:TypeCalled T newId initId)
  (hct:checkTypeCall T ⟨args,kw⟩=pure ()) (hcn:checkBuiltinCall newId ⟨.type T::args,kw⟩=pure ()) (eN:entryFor table newId=some Bn) (eI:entryFor table initId=some Bi)
  (g:Meets (Bn ⟨.type T::args,kw⟩) S) (h:S A.in1 (wants Q1 E) s)
  (hnext:∀obj s1,Q1 obj s1->s1.TypeIs obj T/\argsOk initId ⟨obj::args,kw⟩/\∃Si,Meets (Bi ⟨obj::args,kw⟩) Si/\Si A.in1 (wants (λr s2=>r=.none/\Q obj s2) E) s1) :
  wpAny (model prog w) A (call (.type T) args kw) Q E s:=by
 obtain ⟨c,tl,hmro⟩:=ft.mro;have hmade:=ft.made;have hsub:=ft.sub;refine wpAny_call (codeAny_of_tree ?_);show wpAny _ _ (callAny (.type T) _) _ _ _;refine Qn ⟨Code.quiet_builtin _ (by decide +kernel),(codeAny_builtin F.entry_type_call ?_)⟩
 rw[Around.under_plain (weight_type_call_type T args kw) (units_type_call_type T args kw)];have h1:=ft.notType;have h2:=ft.canCreate
 repeat' (any_goals (first|wp_step|assumption))
 refine codeAny_mono (codeAny_call_builtin ft.plain eN (wpAny_of_eq hcn (g prog w A.in1 _ s h))) λr s1 hr=>?_
 match r,hr with
 |.error e,hr=>exact hr
 |.ok (.ret obj),hr=>
  obtain ⟨hT,hok,Si,gi,hsi⟩:=hnext _ _ hr;have hli:=ft.init.lookup;have hbi:=ft.init.bind obj
  repeat' (any_goals (first|wp_step|assumption))
  refine codeAny_mono (codeAny_call_builtin ft.init.plain eI (ft.init.check _ _ _ _ _ _ _ _ hT hok (gi prog w A.in1 _ s1 hsi))) λr2 s2 hr2=>?_
  match r2,hr2 with
  |.error e,hr2=>exact hr2
  |.ok (.ret r),hr2=>
   obtain ⟨rfl,hq⟩:=hr2
   repeat' (any_goals (first|wp_step|assumption))
  |.ok .next,hr2=>exact hr2.elim
  |.ok .brk,hr2=>exact hr2.elim
  |.ok .cont,hr2=>exact hr2.elim
 |.ok .next,hr=>exact hr.elim
 |.ok .brk,hr=>exact hr.elim
 |.ok .cont,hr=>exact hr.elim
theorem zil{T newId:String}{self:Value}{rest:List Value}{kw:List (Str×Value)}(hl:typeLookup (.type T) "__init__" = pure (some (.builtin "object.__init__")))
  (hm:Bind.madeBy (.type T)=pure (some newId)) (hne:(some newId != some "object.__new__")=true) :
  Meets (Builtin.«object.__init__» ⟨self::rest,kw⟩) (λ_ R s=>s.TypeIs self T/\R (.ok (.ret .none)) s):=by
 refine .of_wp λprog w A R s hs=>?_;obtain ⟨hT,hq⟩:=hs
 cases rest with
 |nil=>
  cases kw with
  |nil=>exact Qn ⟨_,rfl,hq⟩
  |cons k kw=>(repeat' (any_goals (first|wp_step|assumption)));exact ⟨_,rfl,hq⟩
 |cons a rest=>(repeat' (any_goals (first|wp_step|assumption)));exact ⟨_,rfl,hq⟩
theorem zim(a:Value)(t:Tok):checkTypeCall "enumerate" ⟨[a],[("start", .int 1 t)]⟩=pure ():=by kernel_rfl
theorem zj8(a:Value)(t:Tok):checkBuiltinCall "enumerate.__new__" ⟨[.type "enumerate", a],[("start", .int 1 t)]⟩=pure ():=by kernel_rfl
theorem zin(o a:Value)(t:Tok):argsOk "object.__init__" ⟨[o,a],[("start", .int 1 t)]⟩:=by unfold argsOk;kernel_rfl
theorem zj9{l:Addr}{items:Array Value}{t:Tok}{Q:Value->Shared->Prop}(hL:s.heap.IsList l items)
  (h:∀h',IsEnum h' (s.heap.objs.size+1) s.heap.objs.size 1 .none->h'.IsListIter s.heap.objs.size l 0->(∀b o,s.heap.get? b=some o->h'.get? b=some o)->Q (.ref (s.heap.objs.size+1)) { s with heap:=h' }) :
  wpAny (model prog w) A (call (.type "enumerate") [.ref l] [("start", .int 1 t)]) Q E s:=by
 obtain ⟨⟨c,dct,dt,sl⟩,hl,hc,n,hd⟩:=hL
 replace hc:c=.type "list" := hc
 replace hd:dt=.seq items n:=hd
 subst hc hd
 have hz:(s.heap.push { cls:=.type "list_iterator", data:=.fields #[.ref l,.int 0 0] }).objs.size=s.heap.objs.size+1:=Heap.size_push ..
 have he:IsEnum ((s.heap.push { cls:=.type "list_iterator", data:=.fields #[.ref l,.int 0 0] }).push { cls:=.type "enumerate", data:=.fields #[.none,.bool false,.ref s.heap.objs.size,rawInt 1,.none,.none] }) (s.heap.objs.size+1) s.heap.objs.size 1 .none:=by
  rw[←hz];exact QE _ rfl
 refine zgm F.called_enumerate (zim _ t) (zj8 _ t) F.entry_enumerate_new F.entry_object_init (znA l t items n dct sl) (Q1:=λobj s1=>s1.TypeIs obj "enumerate" /\ Q obj s1) ⟨hl,?_⟩ λobj s1 hq=>
  ⟨hq.1,zin obj _ t,_,zil F.called_enumerate.init.lookup F.called_enumerate.made (by decide),hq.1,rfl,hq.2⟩
 show _/\_;rw[hz];exact ⟨⟨_,he,rfl⟩,h _ he ⟨_,Qk _ (QE _ rfl),rfl,rfl⟩ λb o x=>Qk _ (Qk _ x)⟩
end
section
variable{prog:Program}{w:World}{A:Around}{E:Value->Shared->Prop}{s:Shared}
theorem zlm{en it l:Addr}{i:Nat}{j:Int}{items:Array Value}{x old:Value}{Q:Option Value->Shared->Prop}(st:IsEnum s.heap en it j old)(li:s.heap.IsListIter it l i)(ls:s.heap.IsList l items)
  (at_:items[i]?=some x) (ne:en≠it)
  (k:∀h',IsEnumOut h' en it (j+1) x s.heap.objs.size->h'.IsListIter it l (i+1)->h'.get? s.heap.objs.size=some { cls:=.type "tuple", data:=.seq #[.int j s.toks,x] }->(∀b o,b≠en->b≠it->s.heap.get? b=some o->h'.get? b=some o) ->
   Q (some (.ref s.heap.objs.size)) { s with heap:=h',toks:=s.toks+1 }):wpAny (model prog w) A (pyNext (.ref en)) Q E s:=by
 have ty:s.TypeIs (.ref en) "enumerate" := ⟨_,st,rfl⟩
 have lt:en<s.heap.objs.size:=Qi st;unfold pyNext
 refine Qf (wpAny_attempt (wpAny_callSpecial?_slot (name:=Str.ofString "__next__") ty F.slot_enumerate_next (wpAny_call_entry F.slot_enumerate_next ty F.entry_enumerate_next ?_ (F.args_enumerate_next_1 _))))
 show wpAny _ _ (field (.ref en) 2 >>= _) _ _ s;refine Qf (wpAny_field st rfl (x:=.ref it) rfl ?_);refine Qf (wpAny_nextOf_list_item li ls at_ λm1 li1 c1=>?_);have c1:Heap.SameBut it s.heap m1:=c1;have st1:IsEnum m1 en it j old:=(c1.2 en ne).trans st;show wpAny _ _ (field (.ref en) 3 >>= _) _ _ { s with heap:=m1 };refine Qf (wpAny_field st1 rfl (x:=rawInt j) rfl ?_);show wpAny _ _ (field (.ref en) 4 >>= _) _ _ { s with heap:=m1 };refine Qf (wpAny_field st1 rfl (x:=.none) rfl ?_);show wpAny _ _ (mkInt j >>= _) _ _ { s with heap:=m1 };refine Qf (wpAny_mkInt ?_);show wpAny _ _ (setField (.ref en) 3 (rawInt (j+1)) >>= _) _ _ { s with heap:=m1,toks:=s.toks+1 };refine wpAny_bind (wpAny_setField_rec st1 (by simp) λm2 st2 c2=>?_)
 have c2:Heap.SameBut en m1 m2:=c2;have st2:IsEnum m2 en it (j+1) old:=st2;show wpAny _ _ (setField (.ref en) 4 .none >>= _) _ _ { s with heap:=m2,toks:=s.toks+1 };refine wpAny_bind (wpAny_setField_rec st2 (by simp) λm3 st3 c3=>?_)
 have c3:Heap.SameBut en m2 m3:=c3;have st3:IsEnum m3 en it (j+1) old:=st3;show wpAny _ _ (newTuple [.int j s.toks,x] >>= _) _ _ { s with heap:=m3,toks:=s.toks+1 };refine Qf (wpAny_newTuple ?_);have z3:m3.objs.size=s.heap.objs.size:=c3.1.trans (c2.1.trans c1.1)
 have st4:IsEnum (m3.push { cls:=.type "tuple", data:=.seq #[.int j s.toks,x] }) en it (j+1) old:=Qk _ (show IsEnum m3 en it (j+1) old from st3)
 have tp4:(m3.push { cls:=.type "tuple", data:=.seq #[.int j s.toks,x] }).get? s.heap.objs.size=some { cls:=.type "tuple", data:=.seq #[.int j s.toks,x] }:=by rw[←z3];exact QE _ rfl
 have kp4:∀b o,b≠en->b≠it->s.heap.get? b=some o->(m3.push { cls:=.type "tuple", data:=.seq #[.int j s.toks,x] }).get? b=some o:=λb o n1 n2 q=>Qk _ ((c3.2 b n1).trans ((c2.2 b n1).trans ((c1.2 b n2).trans q)))
 have li4:(m3.push { cls:=.type "tuple", data:=.seq #[.int j s.toks,x] }).IsListIter it l (i+1):=by
  obtain ⟨o,q,r⟩:=li1;exact ⟨o,Qk _ ((c3.2 it (Ne.symm ne)).trans ((c2.2 it (Ne.symm ne)).trans q)),r⟩
 generalize m3.push { cls:=.type "tuple", data:=.seq #[.int j s.toks,x] }=m4 at st4 tp4 kp4 li4
 show wpAny _ _ (Builtin.SmallTypes.ownedTupleIsFree (.ref en) >>= _) _ _ { s with heap:=m4,toks:=s.toks+1 };rw[z3];refine Qf ?_;unfold Builtin.SmallTypes.ownedTupleIsFree Builtin.SmallTypes.ownedTupleHandOut;refine Qf (wpAny_field st4 rfl (x:=.none) rfl (Qn ?_));simp only[if_true];refine wpAny_bind (wpAny_rule (wpAny_bind (wpAny_field st4 rfl (x:=old) rfl (wpAny_bind (wpAny_setField_rec st4 (by simp) λm5 st5 c5=>?_)))))
 have c5:Heap.SameBut en m4 m5:=c5;have st5:IsEnum m5 en it (j+1) x:=st5;refine wpAny_bind (wpAny_bind (wpAny_setField_rec st5 (by simp) λm6 st6 c6=>?_))
 have c6:Heap.SameBut en m5 m6:=c6;have st6:IsEnumOut m6 en it (j+1) x s.heap.objs.size:=st6;refine wpAny_setField_rec st6 (by simp) λm7 st7 c7=>?_
 have c7:Heap.SameBut en m6 m7:=c7;have st7:IsEnumOut m7 en it (j+1) x s.heap.objs.size:=st7;have up:∀b,b≠en->m7.get? b=m4.get? b:=λb n=>(c7.2 b n).trans ((c6.2 b n).trans (c5.2 b n));refine Qf (wpAny_letGo (Qn ⟨_,rfl,Qn (k m7 st7 ?_ ((up _ (JZ lt)).trans tp4) λb o n1 n2 q=>(up b n1).trans (kp4 b o n1 n2 q))⟩));obtain ⟨o,q,r⟩:=li4;exact ⟨o,(up it (Ne.symm ne)).trans q,r⟩
theorem zln{en it l:Addr}{i:Nat}{j:Int}{items:Array Value}{old:Value}{Q:Option Value->Shared->Prop}(hh:A.handled=none)(st:IsEnum s.heap en it j old)(li:s.heap.IsListIter it l i)(ls:s.heap.IsList l items)
  (at_:items[i]?=none) (k:∀h',Heap.ExtBut it s.heap h'->Q none { s with heap:=h' }):wpAny (model prog w) A (pyNext (.ref en)) Q E s:=by
 have ty:s.TypeIs (.ref en) "enumerate" := ⟨_,st,rfl⟩
 unfold pyNext
 refine Qf (wpAny_attempt (wpAny_callSpecial?_slot (name:=Str.ofString "__next__") ty F.slot_enumerate_next (wpAny_call_entry F.slot_enumerate_next ty F.entry_enumerate_next ?_ (F.args_enumerate_next_1 _))))
 show wpAny _ _ (field (.ref en) 2 >>= _) _ _ s;refine Qf (wpAny_field st rfl (x:=.ref it) rfl (Qf (m:=Builtin.SmallTypes.nextOf (.ref it)) (wpAny_nextOf_list_end hh li ls at_ λh' z c y=>?_)));obtain ⟨o,q,t⟩:=y
 exact Qf (wpAny_isInstance (T := "StopIteration") (b:=true) ⟨o,q,t⟩ isSubtype_stop (Qn (k _ c)))
end
def Ite1(K:Frag)(a:Addr):It :=
 ⟨λi H=>∃xs x,SqL K H a xs/\xs[i]?=some x,
  λi H v H'=>∃p x,H p=none/\v=.ref p/\(∀xs,SqL K H a xs->xs[i]?=some x)/\H'=upd H p (.tup [.int (1+(i:Int)),x]),
  λi H=>∃xs,SqL K H a xs/\xs.length<=i⟩
theorem zka{P:Program}{w:World}{K:Frag}{elts:List Expr}{x1}{tp:Pos}(a e it:Addr)(hne:e≠it) :
  Turn P w K (.Tuple elts x1 tp) (Ite1 K a) [e,it] e (λi h=>(∃old,IsEnum h e it (1+(i:Int)) old)/\h.IsListIter it a i) where
 mem:=by simp
 obj:=λi h st b hb=>by
  obtain ⟨⟨old,he⟩,o,ho,c,d⟩:=st;have hb':b=e∨b=it:=by simpa using hb
  rcases hb' with rfl|rfl
  ·exact ⟨_,he,λv z=>by
    have z':Data.fields _=Data.cell v:=z;cases z'⟩
  ·exact ⟨o,ho,λv z=>by rw[d] at z;cases z⟩
 keep:=λi h h' st k=>by
  obtain ⟨⟨old,he⟩,hi⟩:=st;exact ⟨⟨old,k e (by simp) _ he⟩,hi.at λo q=>k it (by simp) o q⟩
 item:=by
  intro X hP hw hK hc i pins s σ H E I hf st hg;subst hP hw hK;obtain ⟨⟨old,he⟩,hi⟩:=st;obtain ⟨xs,x,hq,hx⟩:=hg;obtain ⟨its,rv,p,hz⟩:=I.list hq;obtain ⟨u,hu,ru⟩:=rv.get hx;refine zlm he hi p.isList (x:=u) (by simpa using hu) hne λh1 out hi1 ht kk=>?_
  refine ⟨_,rfl,wpAny_letOwnedTupleGo_enum out λh2 he2 hs2=>?_⟩;have hel:e<s.heap.objs.size:=Qi he;have hs2':Heap.SameBut e h1 h2:=hs2
  have ht2:h2.get? s.heap.objs.size=some { cls:=.type "tuple", data:=.seq #[.int (1+(i:Int)) s.toks,u] }:=(hs2'.2 _ (JZ hel)).trans ht
  have kk2:∀b o,b∉[e,it]->s.heap.get? b=some o->h2.get? b=some o:=λb o hb q=>by
   have hbe:b≠e:=λz=>hb (by simp[z])
   have hbi:b≠it:=λz=>hb (by simp[z])
   exact (hs2'.2 b hbe).trans (kk b o hbe hbi q)
  have hn:H s.heap.objs.size=none:=I.hok.fresh (Qx _)
  have I2:Inv X pins σ (upd H s.heap.objs.size (.tup [.int (1+(i:Int)),x])) { s with heap:=h2,toks:=s.toks+1 } :=
   I.turnedNew (fp:=[e,it]) hf kk2 (Qx _) ⟨by show 2<=sizeLine;decide,[.int (1+(i:Int)) s.toks,u],.cons ⟨_,rfl⟩ (.cons ru .nil),⟨_,ht2,rfl,_,rfl⟩⟩
  refine ⟨.ref s.heap.objs.size,_,I2,rfl,⟨_,x,hn,rfl,λys hy=>by rw[I.list_inj hy hq];exact hx,rfl⟩,⟨⟨u,?_⟩,?_⟩,λb hb=>?_⟩
  ·have e2:(1+((i+1:Nat):Int))=1+(i:Int)+1:=by omega
   rw[e2];exact he2
  ·exact hi1.at λo q=>(hs2'.2 it (Ne.symm hne)).trans q
  ·have hlt:b<s.heap.objs.size:=by
    have hb':b=e∨b=it:=by simpa using hb
    rcases hb' with rfl|rfl
    ·exact hel
    ·obtain ⟨o,ho,_⟩:=hi;exact Qi ho
   rw[zaU (QT hlt)];exact (hf b hb).1
 done:=by
  intro X hP hw hK hc i pins s σ H E I hf st hg;subst hP hw hK;obtain ⟨⟨old,he⟩,hi⟩:=st;obtain ⟨xs,hq,hx⟩:=hg;obtain ⟨its,rv,p,hz⟩:=I.list hq;have hl:=rv.length;exact zln (I.ok.hd hc) he hi p.isList (by simp;omega) λh' eb=>⟨rfl,I.turnedL (t':=s.toks) hf λb o hb q=>eb b o (λz=>hb (by simp[z])) q⟩
 self:=λ_ _ _ _ _ st h=>by
  obtain ⟨⟨old,he⟩,_⟩:=st;exact wpAny_pyIter_enum he h
section
variable{X:Cx}
theorem znB{a:Expr}{ta:TA}{p pos k1 k2:Pos}{j}{elts:List Expr}{x1}{tp:Pos}(hg:Gl X "enumerate")(hm:X.mg "enumerate" = none)(ha:PA X [a] ta)
  (hs:backTo pos (starEach [a] X.env)=(false,eval a X.env)::backTo pos (starEach [] X.env):=by rfl) (hpl:(backTo pos (starEach [a] X.env)).any (·.1)=false:=by rfl) :
  PI X (.Tuple elts x1 tp) (.Call (.Name "enumerate" p) [a] [⟨some "start", .Constant (.int 1) j k1,k2⟩] pos) (λσ H R=>ta σ H λvs H1=>∃a xs,vs=[.ref a]/\SqL X.K H1 a xs/\R (Ite1 X.K a) H1):=by
 intro pins s σ H R I h;refine wpAny_Call_Name_kw (ze0 I hg hm boot_enumerate (zph hpl rfl ?_));rw[hs];refine evalArgs_kwB rfl ?_;rw[←hs];refine thn (ha pos pins s σ H _ I h) λus s1 ⟨vs,H1,I1,r1,q1⟩=>?_;refine kws_cons (wpAny_Constant_int (kws_nil ?_));obtain ⟨l,xs,e,hq,q⟩:=q1;subst e
 cases r1 with
 |cons r rr=>
  cases rr
  cases (show _=Value.ref l from r)
  have I1':=I1.tok (s1.toks+1);obtain ⟨its,rv,pl,hz⟩:=I1'.list hq;refine zj9 pl.isList λh' he hi kk=>?_;have I2:Inv X pins σ H1 { s1 with heap:=h',toks:=s1.toks+1 }:=I1'.kept (t':=s1.toks+1) kk;refine wpAny_pyIter_enum he ?_;refine ⟨s1.heap.objs.size+1,[s1.heap.objs.size+1,s1.heap.objs.size],_,_,H1,rfl,I2,zka l _ _ (Nat.succ_ne_self _),⟨⟨_,he⟩,hi⟩,λb hb=>?_,q⟩;have hb':b=s1.heap.objs.size+1∨b=s1.heap.objs.size:=by simpa using hb
  rcases hb' with rfl|rfl
  ·exact I1.fpOk (JX _) (I1.hok.fresh (JX _))
  ·exact I1.fpOk (Qx _) (I1.hok.fresh (Qx _))
end
end L2
namespace DL
open PySem PySem.Spec L2
open PyProof.Rows hiding St
section
variable{X:Cx}{B G0:Hp}{e a b c tg:Expr}{pos:Pos}{es rest:List Expr}
theorem zio{K:Frag}{G1:Hp}{ad:Addr}{vs:List V}{ds:List D}(h:SqL K G1 ad vs)(r:Reps K G1 vs ds):zfa K (Ite1 K ad) (zcT 1 ds) G1 where
 go:=λi G H s1 s2 hi=>by
  rw[zaG] at hi;have hi':i<vs.length:=by rw[r.length];exact hi
  exact ⟨vs,vs[i],(s1.trans s2).seq h,Qe hi'⟩
 stop:=λi G H s1 s2 hi=>by
  rw[zaG] at hi;exact ⟨vs,(s1.trans s2).seq h,by rw[r.length];exact hi⟩
 yld:=λi G H x H' d s1 s2 e y=>by
  obtain ⟨p,v,hp,rfl,y1,rfl⟩:=y;have z1:=y1 vs ((s1.trans s2).seq h);rw[zfc] at e
  cases q:ds[i]? with
  |none=>rw[q] at e;cases e
  |some dd=>
   rw[q] at e;cases e;obtain ⟨v',e1,r1⟩:=r.get q;rw[z1] at e1;cases e1;refine ⟨upd G p (.tup [.int (1+(i:Int)),v]),Ext.new s2 hp,.tup (SqT.of zaT) (.cons ?_ (.cons ((r1.mono s1).mono (zaX (s2.free hp))) .nil))⟩
   have:((1+i:Nat):Int)=1+(i:Int):=by omega
   rw[this];exact .int _
def zfV:List D->Option (List D)
 |[.list ds]=>some (zcT 1 ds)
 |_=>none
def zje(f:M (List D)):M (List D):=zau f λx=>mOpt (zfV x)
theorem zkb{x l:List D}(h:zfV x=some l):∃ds,x=[.list ds]/\l=zcT 1 ds:=by
 unfold zfV at h
 split at h
 ·cases h;exact ⟨_,rfl,rfl⟩
 ·cases h
theorem znC{f:M (List D)}{p2 k1 k2:Pos}{j}{elts:List Expr}{x1}{tp:Pos}(hg:Gl X "enumerate")(hm:X.mg "enumerate" = none)(ha:PA X [a] (tDs X.K B G0 f))
  (hs:backTo pos (starEach [a] X.env)=(false,eval a X.env)::backTo pos (starEach [] X.env):=by rfl) (hpl:(backTo pos (starEach [a] X.env)).any (·.1)=false:=by rfl) :
  PI X (.Tuple elts x1 tp) (.Call (.Name "enumerate" p2) [a] [⟨some "start", .Constant (.int 1) j k1,k2⟩] pos) (iD X.K B G0 (zje f)):=piof (znB hg hm ha hs hpl) λσ H R q=>tM.toI (R0:=Reps X.K) q λv H' G' Z' x k r a=>by
 cases z:zfV x with
 |none=>rw[z] at a;exact a.elim
 |some l=>
  rw[z] at a;obtain ⟨ds,rfl,rfl⟩:=zkb z;obtain ⟨v,rfl,q⟩:=r.one_inv;obtain ⟨l,ws,rfl,h1,r1⟩:=q.lst_inv;exact ⟨l,ws,rfl,k.gh.seq h1,a _ G' H' k (.refl _) (zio h1 r1)⟩
end
section
variable{X:Cx}
def most:List Int->Int
 |[]=>0
 |[n]=>n
 |n::r=>if most r > n then most r else n
theorem zeV:∀{ns:List Int},0<ns.length->most ns∈ns
 |[n],_=>List.mem_singleton.2 rfl
 |n::m::r,_=>by
  have ih:=zeV (ns:=m::r) (Nat.succ_pos _);unfold most;split
  ·exact Qj _ ih
  ·exact Qo ..
theorem ziq:∀{ns:List Int}{a:Int},a∈ns->a<=most ns
 |[n],a,h=>by rw[List.mem_singleton.1 h];exact QW _
 |n::m::r,a,h=>by
  have ih:∀b,b∈m::r->b<=most (m::r):=λb hb=>ziq hb;unfold most;rcases QU.1 h with e|h
  ·subst e;split <;> omega
  ·have:=ih a h;split <;> omega
theorem zpi{ns:List Int}{M:Int}(h1:M∈ns)(h2:∀a,a∈ns->a<=M):most ns=M :=
 JP (h2 _ (zeV (List.length_pos_of_mem h1))) (ziq h1)
theorem zlo(hc:X.calm=true):zdb X (.builtin "max") (λxs H Q=>∃l,∃ns:List Int,xs=[.ref l]/\SqL X.K H l (ns.map V.int)/\0<ns.length/\Q (.int (most ns)) H):=by
 intro pins s σ H xs us Q I rx h;obtain ⟨l,ns,rfl,hq,hb,q⟩:=h;obtain ⟨u,rfl,ru⟩:=rx.one;cases ru;obtain ⟨its,rv,p,hz⟩:=I.list hq;have hi:=zb7 rv;obtain ⟨ys,e⟩:=hi.allInts.items
 have hns:ns=ys.toList.map (·.1):=by
  rw[←hi.numsOf,←nums_intItems,←e]
 have hsz:0<ys.size:=by
  rw[hns,Qb,Jz] at hb;exact hb
 have hl:=p.isList;rw[e] at hl;refine max_intList (I.ok.hd hc) hl hsz λv h' tk hv hk=>?_;obtain ⟨t,rfl⟩:=intItems_at hv;obtain ⟨h1,h2⟩:=argBest_gt (numAt ys) (ys.size-1);refine ⟨.int (most ns),H,I.kept hk,⟨t,?_⟩,q⟩;rw[zpi (M:=_) ?_ ?_]
 ·rw[hns,numAt_eq];exact getD_mem (by rw[Qb,Jz];omega)
 ·intro a ha
  rw[hns] at ha;obtain ⟨j,hj,rfl⟩:=mem_getD ha;rw[Qb,Jz] at hj;rw[←numAt_eq];exact h2 j (by omega)
def zir:List D->Option D
 |[.list ds]=>(match zbZ ds with
  |some ns=>if 0<ns.length then some (.int (most ns)) else none
  |none=>none)
 |_=>none
theorem zlp{xs:List D}{d:D}(h:zir xs=some d):∃ds ns,xs=[.list ds]/\zbZ ds=some ns/\0<ns.length/\d=.int (most ns):=by
 unfold zir at h
 split at h
 ·rename_i ds
  cases z:zbZ ds with
  |none=>rw[z] at h;cases h
  |some ns=>
   rw[z] at h;dsimp only at h
   split at h
   ·rename_i c
    cases h;exact ⟨ds,ns,rfl,z,c,rfl⟩
   ·cases h
 ·cases h
theorem zou(hc:X.calm=true):zdx X (.builtin "max") zir:=by
 refine ⟨_,zlo hc,λvs G H ds d Q s r e k=>?_⟩;obtain ⟨ds,ns,rfl,z,c,rfl⟩:=zlp e;obtain ⟨v,rfl,q1⟩:=r.one_inv;obtain ⟨l,ws,rfl,h1,r1⟩:=q1.lst_inv
 have:=zcg r1 z
 subst this;exact ⟨l,ns,rfl,s.seq h1,c,k _ G H (.refl s) (.int _)⟩
theorem zjf{ns:List Int}(h:0<ns.length):zir [.list (ns.map .int)]=some (.int (most ns)):=by
 unfold zir;simp only[zcy,Qm h]
end
section
variable{X:Cx}{B G0:Hp}{e o:Expr}{es:List Expr}
theorem zis{h:Heap}{vs:List Value}{xs:List D}{as:List Addr}{d:D}(rs:ReadsAll h vs xs as)(hxs:PyData.canLayAll0 xs=true) :
  vs.countP (λy=>PyData.eqv (SeqAt.readOf h y) d)=xs.countP (λy=>PyData.eqv y d):=by
 have key:xs=vs.map (SeqAt.readOf h):=(SeqAt.readsAll_map xs vs as hxs rs).symm;rw[key,List.countP_map]
 rfl
def zdh(y x:D):Option D:=match y with
 |.list ds=>if x.canLay0=true/\PyData.canLayAll0 ds=true/\x.depth<=60 then some (.int (ds.countP λy=>PyData.eqv y x)) else none
 |_=>none
theorem znD(hu:X.A.units+64<cLine):MtR X "list.count" (λv vs H Q=>∃G u y x d,vs=[u]/\Same G H/\Rep X.K G v y/\Rep X.K G u x/\zdh y x=some (.int d)/\Q (.int d) H):=by
 intro pins s σ H x xs v us Q I rx rs h;obtain ⟨G,u,dy,dx,d,rfl,sg,py,px,e,q⟩:=h;obtain ⟨w,rfl,rw'⟩:=rs.one;unfold zdh at e
 split at e
 ·rename_i ds
  split at e
  ·rename_i c
   obtain ⟨bs,rb⟩:=zbx I sg py rx (show PyData.canLayAll0 _=true from c.2.1)
   obtain ⟨as,ra⟩:=zbx I sg px rw' c.1
   cases rb with
   |list h1 h2 h3 h4=>
    rename_i l ob its cs n;obtain ⟨cls,dd,data,sl⟩:=ob;simp only at h2 h3;subst h2 h3;refine call_meets F.slot_list_count ⟨_,h1,rfl⟩ F.entry_list_count (F.args_list_count_2 _ _) (SeqAt.list_countAt _ _ _ dd sl _ (λy=>PyData.eqv (SeqAt.readOf s.heap y) dx)) ⟨h1,SeqAt.items_eqAt h4 ra c.2.1 c.1 (by have:=c.2.2;omega),?_⟩
    rw[zis h4 c.2.1];cases e;exact ⟨.int _,H,I.tok _,⟨_,rfl⟩,q⟩
  ·cases e
 ·cases e
def zgn(y:D)(xs:List D):Option D:=match xs with
 |[x]=>zdh y x
 |_=>none
theorem zit{ds xs:List D}{d:D}(h:zgn (.list ds) xs=some d):∃x n,xs=[x]/\d=.int n/\zdh (.list ds) x=some (.int n):=by
 unfold zgn at h
 split at h
 ·rename_i x
  have h':=h;unfold zdh at h;dsimp only at h
  split at h
  ·cases h;exact ⟨x,_,rfl,rfl,h'⟩
  ·cases h
 ·cases h
def zfW(f:M D)(g:M (List D)):M D:=zau f λy=>zau g λxs=>mOpt (match y with | .list ds=>zgn (.list ds) xs|_=>none)
theorem zhk{apos cpos:Pos}{f:M D}{g:M (List D)}(hu:X.A.units+64<cLine)(ho:PE X o (tD X.K B G0 f))(ha:PA X (e::es) (tDs X.K B G0 g))
  (hbase:attributeBase o "count" X.env (eval o X.env)=eval o X.env:=by rfl)
  (hfew:((backTo cpos (starEach (e::es) X.env)).all (λx=>!x.1)&&(backToKw cpos (keywordEach [] X.env)).all (λx=>x.1.isSome)
   && decide ((e::es).length+([]:List Keyword).length+(if ([]:List Keyword).isEmpty then 0 else 1)<30))=true:=by rfl)
  (hline:(apos.endLine==cpos.line)=true:=by rfl) (hs:starEach (e::es) X.env=(false,eval e X.env)::starEach es X.env:=by rfl) (hplain:(backTo cpos (starEach es X.env)).any (·.1)=false:=by rfl) :
  PE X (.Call (.Attribute o "count" apos) (e::es) [] cpos) (tD X.K B G0 (zfW f g)) :=
 peof (zoY F.plainAttrs_list F.slot_list_count F.type_list_count (znD hu) ho ha hbase hfew hline hs hplain) λσ H Q q=>by
  refine tM.one (R:=Rep X.K) q λv H2 G Z y k r a=>?_
  cases y with
  |list ds=>
   obtain ⟨l,ws,rfl,h1,r1⟩:=r.lst_inv;refine ⟨.inl ⟨rfl,ws,k.gh.seq h1⟩,?_⟩;refine tM.nx (R:=Reps X.K) k a λxs H3 G3 Z3 es k3 s3 r3 a3=>?_;obtain ⟨d,e,a3⟩:=a3.opt;obtain ⟨x,n,rfl,rfl,e'⟩:=zit e;obtain ⟨u,rfl,ru⟩:=r3.one_inv;exact ⟨G3,u,.list ds,x,n,rfl,k3.gh,r.mono s3,ru,e',aft.now a3 k3 (.int _)⟩
  |_=>
   unfold zau at a
   cases z:g Z with
   |bad=>rw[z] at a;exact a.elim
   |ok xs Z1=>rw[z] at a;exact a.elim
theorem zgo{f:M D}{g:M (List D)}{Z Z1 Z2:DEnv}{ds:List D}{x d:D}(h1:f Z=.ok (.list ds) Z1)(h2:g Z1=.ok [x] Z2)(h3:zdh (.list ds) x=some d):zfW f g Z=.ok d Z2:=by
 unfold zfW zau;rw[h1];dsimp only;rw[h2];dsimp only[zgn];rw[h3]
 rfl
end
section
variable{prog:Program}{w:World}{A:Around}{R:Result->Shared->Prop}{h0:Heap}{l I S:Addr}{rs:List (Addr×List Value)}
def Kept(h h':Heap):Prop:=∀b o,h.get? b=some o->h'.get? b=some o
def Ls1(h:Heap)(a:Addr)(its:List Value)(sl:Array (Option Value)):Prop:=∃n,h.get? a=some { cls:=.type "list", dict:=none,data:=.seq its.toArray n,slots:=sl }
def Ls(h:Heap)(a:Addr)(its:List Value):Prop:=∃n sl,h.get? a=some { cls:=.type "list", dict:=none,data:=.seq its.toArray n,slots:=sl }
theorem Ls.kept{h h':Heap}{a:Addr}{its:List Value}(x:Ls h a its)(k:Kept h h'):Ls h' a its:=by
 obtain ⟨n,sl,e⟩:=x;exact ⟨n,sl,k _ _ e⟩
theorem zkc(hh:A.in1.handled=none)(hI:h0.objs.size<=I)(hS:h0.objs.size<=S)(hIS:S≠I)(hl:h0.IsList l (rs.map λp=>Value.ref p.1).toArray)(hr:∀p∈rs,Ls h0 p.1 p.2) :
  ∀(k i:Nat)(s:Shared)(t:Addr)(acc:List Value)(c:Nat)(sl:Array (Option Value)),rs.length-i=k->i<=rs.length->Kept h0 s.heap->s.heap.IsListIter I l i ->
   s.heap.get? S=some { cls:=.type "list", dict:=none,data:=.seq #[.ref t] c,slots:=#[] }->t≠S->t≠I->Ls1 s.heap t acc sl->acc.length+((rs.drop i).map (·.2)).flatten.length<=sizeLine ->
   (∀p h' tk sl',Kept h0 h'->Ls1 h' p (acc++((rs.drop i).map (·.2)).flatten) sl'->(p=t/\i=rs.length/\sl'=sl∨h0.objs.size<=p/\sl'=#[])->R (.ok (.ret (.ref p))) { s with heap:=h',toks:=tk }) ->
   codeAny (model prog w) A (.builtin "sum.loop" ⟨[.ref I,.ref S,rawInt 2,rawInt 0],[]⟩) R s:=by
 intro k
 induction k with
 |zero=>
  intro i s t acc c sl hk hi hK hit hSS htS htI ht hz hR;have hin:i=rs.length:=by omega
  subst hin;refine codeAny_builtin F.entry_sum_loop ?_;rw[Around.under_plainId F.plain_sum_loop _];show wpAny _ A.in1 (seqItems? (.ref S) >>= _) _ _ s;refine Qf (wpAny_seqItems hSS rfl ?_);show wpAny _ A.in1 (tryCatch (pyNext (.ref I)) _ >>= _) _ _ s
  have hl':s.heap.IsList l (rs.map λp=>Value.ref p.1).toArray:=by
   obtain ⟨o,e,r⟩:=hl;exact ⟨o,hK _ _ e,r⟩
  refine wpAny_bind (wpAny_tryCatch (wpAny_pyNext_list_end hh hit hl' (by simp) λh' ex=>?_))
  refine Qn (hR t h' s.toks sl (λb o e=>?_) ?_ (.inl ⟨rfl,rfl,rfl⟩))
  ·exact ex b o (QT (QJ (Qi e) hI)) (hK b o e)
  ·obtain ⟨n,e⟩:=ht
   rw[List.drop_length,Uo,List.flatten_nil,Ji];exact ⟨n,ex _ _ htI e⟩
 |succ k ih=>
  intro i s t acc c sl hk hi hK hit hSS htS htI ht hz hR;have hlt:i<rs.length:=by omega
  refine codeAny_builtin F.entry_sum_loop ?_;rw[Around.under_plainId F.plain_sum_loop _];show wpAny _ A.in1 (seqItems? (.ref S) >>= _) _ _ s;refine Qf (wpAny_seqItems hSS rfl ?_);show wpAny _ A.in1 (tryCatch (pyNext (.ref I)) _ >>= _) _ _ s
  have hl':s.heap.IsList l (rs.map λp=>Value.ref p.1).toArray:=by
   obtain ⟨o,e,r⟩:=hl;exact ⟨o,hK _ _ e,r⟩
  refine wpAny_bind (wpAny_tryCatch (wpAny_pyNext_list_item (x:=.ref (rs[i]'hlt).1) hit hl' (by simp[hlt]) λh' hit' sb=>?_))
  show wpAny _ A.in1 ((holding [Value.ref (rs[i]'hlt).1] (binaryOp .Add (.ref t) (.ref (rs[i]'hlt).1))).attempt >>= _) _ _ _;refine Qf (wpAny_attempt (wpAny_holding ?_));have hm:rs[i]'hlt∈rs:=JI hlt;have hd:rs.drop i=rs[i]'hlt::rs.drop (i+1):=Q8 hlt;have hK':Kept h0 h':=λb o e=>(sb.2 b (QT (QJ (Qi e) hI))).trans (hK b o e);obtain ⟨n1,e1⟩:=ht;have e1':=(sb.2 t htI).trans e1;obtain ⟨n2,s2,e2⟩:=(hr _ hm).kept hK';have hSS':=(sb.2 S hIS).trans hSS;rw[hd,Qz,QL,Ql] at hz;refine concat_meets ⟨_,e1',rfl⟩ ⟨_,e2,rfl⟩ noFill_list_add seq_list_add PySem.F.slot_list_add PySem.F.entry_list_add (PySem.F.args_list_add_2 _ _) (list_addW t _ acc.toArray _ n1 n2 none none sl s2 (by rw[QH,QH];omega)) ⟨e1',e2,?_⟩
  have hlS:S<h'.objs.size:=Qi hSS';have hlI:I<h'.objs.size:=by obtain ⟨o,e,_⟩:=hit';exact Qi e
  have ea:acc.toArray++(rs[i]'hlt).2.toArray=(acc++(rs[i]'hlt).2).toArray:=by simp
  rw[ea]
  have hP:∀b o,h'.get? b=some o->(h'.push { cls:=Value.type "list", data:=Data.seq (acc++(rs[i]'hlt).2).toArray }).get? b=some o:=λb o e=>Qk _ e
  have hS1:=hP _ _ hSS'
  have hNew:(h'.push { cls:=Value.type "list", data:=Data.seq (acc++(rs[i]'hlt).2).toArray }).get? h'.objs.size=some { cls:=Value.type "list", data:=Data.seq (acc++(rs[i]'hlt).2).toArray }:=QE _ rfl
  show wpAny _ A.in1 (updateSeq S (λ_=>#[.ref h'.objs.size]) >>= _) _ _ _;refine Qf (wpAny_updateSeq hS1 rfl ?_);have hS2:=Heap.get?_update_self (Obj.mapSeq λ_=>#[Value.ref h'.objs.size]) hS1 rfl;refine Qf (wpAny_letGo ?_);refine Qf (wpAny_updateSeq hS2 rfl (Qn ⟨plainId_quiet F.plain_sum_loop _,?_⟩))
  have oth:∀b o,b≠S->(h'.push { cls:=Value.type "list", data:=Data.seq (acc++(rs[i]'hlt).2).toArray }).get? b=some o->(((h'.push { cls:=Value.type "list", data:=Data.seq (acc++(rs[i]'hlt).2).toArray }).update S (Obj.mapSeq λx=>#[Value.ref h'.objs.size])).update S (Obj.mapSeq λx=>#[Value.ref h'.objs.size])).get? b=some o:=λb o hb e=>(Heap.get?_update_other _ _ (Ne.symm hb)).trans ((Heap.get?_update_other _ _ (Ne.symm hb)).trans e)
  refine ih (i+1) _ h'.objs.size (acc++(rs[i]'hlt).2) _ #[] (by omega) hlt ?_ ?_ (Heap.get?_update_self _ hS2 rfl) (JZ hlS) (JZ hlI) ?_ (by rw[Ql];omega) λp h'' tk sl' hk'' hp hq=>?_
  ·exact λb o e=>oth b o (QT (QJ (Qi e) hS)) (hP b o (hK' b o e))
  ·obtain ⟨o,e,r⟩:=hit'
   exact ⟨o,oth I o (Ne.symm hIS) (hP I o e),r⟩
  ·exact ⟨_,oth _ _ (JZ hlS) hNew⟩
  ·refine hR p h'' tk sl' hk'' ?_ (.inr ?_)
   ·rw[hd,Qz,QL,←Jl];exact hp
   ·rcases hq with ⟨rfl, -,e⟩|hq
    ·exact ⟨Nat.le_of_lt (Nat.lt_of_le_of_lt hS hlS),e⟩
    ·exact hq
end
section
variable{prog:Program}{w:World}{A:Around}{E:Value->Shared->Prop}{s:Shared}{l z:Addr}{rs:List (Addr×List Value)}
theorem zlq(a b:Value):argsOk "sum" ⟨[a,b],[]⟩:=by unfold argsOk;kernel_rfl
theorem zkd{Q:Value->Shared->Prop}(hh:A.handled=none)(hl:s.heap.IsList l (rs.map λp=>Value.ref p.1).toArray)(hr:∀p∈rs,Ls s.heap p.1 p.2)(hz:Ls s.heap z [])(hb:(rs.map (·.2)).flatten.length<=sizeLine)
  (h:∀p h' tk sl',Kept s.heap h'->Ls1 h' p (rs.map (·.2)).flatten sl'->(p=z/\rs=[]∨s.heap.objs.size<=p/\sl'=#[])->Q (.ref p) { s with heap:=h',toks:=tk }) :
  wpAny (model prog w) A (call (.builtin "sum") [.ref l,.ref z]) Q E s:=by
 refine call_function_tree F.kind_sum F.plain_sum F.entry_sum (zlq _ _) ?_;unfold Builtin.«sum»;simp only[QG,QQ];rw[Qy (by decide)]
 refine Qf (wpAny_of_eq (show Builtin.Builtins.bindParams "sum" ["start"] 0 ⟨[.ref z],[]⟩=pure [some (.ref z)] from rfl) ?_)
 refine Qf (JG hl ?_);refine Qf (Qn ?_);obtain ⟨n,sl,ez⟩:=id hz
 have ty:∀h:Heap,h.get? z=some { cls:=.type "list", dict:=none,data:=.seq [].toArray n,slots:=sl }->({ s with heap:=h }:Shared).TypeIs (.ref z) "list" := λh e=>⟨_,e,rfl⟩
 have ez':(s.heap.push { cls:=.type "list_iterator", data:=.fields #[.ref l,.int 0 0] }).get? z=_:=Qk _ ez
 simp only[List.forIn_cons,List.forIn_nil]
 refine Qf (Qf (Qf (wpAny_isInstance (T := "list") (b:=false) (ty _ ez') F.sub_list_str ?_)))
 simp only[J5,if_false]
 refine Qn (Qf (Qf (wpAny_isInstance (T := "list") (b:=false) (ty _ ez') F.sub_list_bytes ?_)))
 simp only[J5,if_false]
 refine Qn (Qf (Qf (wpAny_isInstance (T := "list") (b:=false) (ty _ ez') F.sub_list_bytearray ?_)))
 simp only[J5,if_false];refine Qn (Qn ?_);refine Qf (wpAny_newObj_type ?_);have hzs:=Qi ez
 have s1:(s.heap.push { cls:=.type "list_iterator", data:=.fields #[.ref l,.int 0 0] }).objs.size=s.heap.objs.size+1:=Heap.size_push ..
 have k2:Kept s.heap ((s.heap.push { cls:=.type "list_iterator", data:=.fields #[.ref l,.int 0 0] }).push { cls:=.type "list", data:=.seq #[.ref z] }):=λb o e=>Qk _ (Qk _ e)
 refine Qn ⟨plainId_quiet F.plain_sum_loop _,zkc (h0:=s.heap) (l:=l) (I:=s.heap.objs.size) (S:=(s.heap.push { cls:=.type "list_iterator", data:=.fields #[.ref l,.int 0 0] }).objs.size) (rs:=rs) hh (Qx _) (by rw[s1];exact JX _) (by rw[s1];exact Nat.succ_ne_self _) hl hr rs.length 0 _ z [] 0 sl rfl (JY _)
  k2 ⟨_,Heap.get?_push_of_some _ (Heap.get?_push_size _ rfl),rfl,rfl⟩ (Heap.get?_push_size _ rfl) (by rw[s1];exact Nat.ne_of_lt (Nat.lt_succ_of_lt hzs)) (Nat.ne_of_lt hzs) ⟨n,k2 _ _ ez⟩ (by simpa using hb) λp h' tk sl' hk hp hq=>?_⟩
 exact h p h' tk sl' hk (by simpa using hp) (hq.imp (λe=>⟨e.1,List.eq_nil_of_length_eq_zero e.2.1.symm⟩) id)
end
section
variable{X:Cx}{pins:List (Addr×Obj)}{σ:St}{H:Hp}{s:Shared}
theorem zlr(I:Inv X pins σ H s):∀{rs:List (Addr×List V)},(∀p∈rs,SqL X.K H p.1 p.2) ->
  ∃ts:List (Addr×List Value),(ts.map λp=>Value.ref p.1)=(rs.map λp=>Value.ref p.1)/\(∀p∈ts,Ls s.heap p.1 p.2)/\Vals (rs.map (·.2)).flatten (ts.map (·.2)).flatten
 |[],_=>⟨[],rfl,(λ_ h=>by cases h),(show Vals [] [] from Paired.nil)⟩
 |p::rs,h=>by
  obtain ⟨ts,e,hl,hv⟩:=zlr I λq hq=>h q (Qj _ hq);obtain ⟨its,rv,⟨⟨c1,d1,t1,sl⟩,n,e1,ec,ed,et⟩,z⟩:=I.list (h p (Qo ..));simp only at ec ed et;subst ec ed et;refine ⟨(p.1,its)::ts,by rw[Qz,Qz,e],λq hq=>?_,?_⟩
  ·rcases QU.1 hq with rfl|hq
   ·exact ⟨n,sl,e1⟩
   ·exact hl q hq
  ·rw[Qz,Qz,QL,QL]
   exact rv.append hv
theorem zhl:∀{as:List Addr}{us:List Value},Vals (as.map V.ref) us->us=as.map Value.ref
 |[],_,.nil=>rfl
 |a::as,_,.cons h t=>by
  cases h;rw[zhl t];rfl
theorem zls(hc:X.calm=true):zdb X (.builtin "sum") (λxs H Q=>∃l z,∃rs:List (Addr×List V),xs=[.ref l,.ref z]/\SqL X.K H l (rs.map λp=>V.ref p.1)/\(∀p∈rs,SqL X.K H p.1 p.2)/\SqL X.K H z []/\(rs.map (·.2)).flatten.length<=sizeLine /\
  (rs=[]->Q (.ref z) H)/\∀p,H p=none->Q (.ref p) (upd H p (.lst (rs.map (·.2)).flatten))):=by
 intro pins s σ H xs us Q I rx h;obtain ⟨l,z,rs,rfl,hq,hr,hz,hb,q0,q⟩:=h;obtain ⟨u,u',rfl,ru,ru'⟩:=zoR rx;cases ru;cases ru';obtain ⟨its,rv,pl, -⟩:=I.list hq;obtain ⟨ts,e,hl,hv⟩:=zlr I hr
 have ei:its=ts.map λp=>Value.ref p.1:=by
  rw[e]
  have:=zhl (as:=rs.map (·.1)) (us:=its) (by rw[Jd];exact rv)
  rw[this,Jd];rfl
 subst ei;obtain ⟨zi,rz,⟨⟨c1,d1,t1,sl⟩,n,e1,ec,ed,et⟩, -⟩:=I.list hz;cases rz;simp only at ec ed et;subst ec ed et;have hlen:=hv.length;refine zkd (I.ok.hd hc) pl.isList hl ⟨n,sl,e1⟩ (by omega) λp h' tk sl' hk hp hq=>?_
 rcases hq with ⟨rfl,rfl⟩|⟨hp',rfl⟩
 ·have hr0:rs=[]:=by
   cases rs with
   |nil=>rfl
   |cons a b=>cases e
  exact ⟨.ref _,H,I.kept hk,rfl,q0 hr0⟩
 ·obtain ⟨m,ep⟩:=hp
  exact ⟨.ref p,_,I.laid (t':=tk) hk hp' (show zcL X.prog X.w _ h' _ (.lst _) from ⟨hb,_,m,hv,ep⟩),rfl,q p (I.hok.fresh hp')⟩
def zdQ:List D->Option (List (List D))
 |[]=>some []
 |.list xs::r=>(zdQ r).map (xs :: ·)
 |_=>none
theorem zfj{K:Frag}{G:Hp}:∀{vs:List V}{ds:List D}{ls:List (List D)},Reps K G vs ds->zdQ ds=some ls ->
  ∃rs:List (Addr×List V),vs=(rs.map λp=>V.ref p.1)/\(∀p∈rs,SqL K G p.1 p.2)/\Reps K G (rs.map (·.2)).flatten ls.flatten/\rs.length=ls.length
 |_,_,ls,.nil,e=>by cases e;exact ⟨[],rfl,(λ_ h=>by cases h),.nil,rfl⟩
 |_,_,ls,.cons (d:=d) r t,e=>by
  cases d with
  |list xs=>
   unfold zdQ at e
   cases z:zdQ _ with
   |none=>rw[z] at e;cases e
   |some cs=>
    rw[z] at e;cases e;obtain ⟨rs,rfl,h1,h2,h3⟩:=zfj t z;obtain ⟨a,ws,rfl,h,rr⟩:=r.lst_inv;refine ⟨(a,ws)::rs,rfl,λp hp=>?_,?_,congrArg (· + 1) h3⟩
    ·rcases QU.1 hp with rfl|hp
     ·exact h
     ·exact h1 p hp
    ·rw[Qz,QL,QL]
     exact rr.append h2
  |_=>cases e
theorem zke(ls:List (List D)):zdQ (ls.map PyData.list)=some ls:=by
 induction ls with
 |nil=>rfl
 |cons b r ih=>rw[Qz,zdQ,ih];rfl
def zkf:List D->Option D
 |[.list ds,.list []]=>(match zdQ ds with
  |some ls=>if ls.flatten.length<=1000000 then some (.list ls.flatten) else none
  |none=>none)
 |_=>none
theorem zlt{xs:List D}{d:D}(h:zkf xs=some d):∃ds ls,xs=[.list ds,.list []]/\zdQ ds=some ls/\ls.flatten.length<=1000000/\d=.list ls.flatten:=by
 unfold zkf at h
 split at h
 ·rename_i ds
  cases z:zdQ ds with
  |none=>rw[z] at h;cases h
  |some ls=>
   rw[z] at h;dsimp only at h
   split at h
   ·rename_i c
    cases h;exact ⟨ds,ls,rfl,z,c,rfl⟩
   ·cases h
 ·cases h
theorem zqL(hc:X.calm=true):zdx X (.builtin "sum") zkf:=by
 refine ⟨_,zls hc,λvs G H ds d Q s r e k=>?_⟩;obtain ⟨ds,ls,rfl,z,c,rfl⟩:=zlt e;obtain ⟨v,v',rfl,q1,q2⟩:=r.two_inv;obtain ⟨l,ws,rfl,h1,r1⟩:=q1.lst_inv;obtain ⟨a,ws2,rfl,h2,r2⟩:=q2.lst_inv
 have:=r2.nil_inv
 subst this;obtain ⟨rs,rfl,g1,g2,g3⟩:=zfj r1 z;refine ⟨l,a,rs,rfl,s.seq h1,λp hp=>s.seq (g1 p hp),s.seq h2,?_,λe0=>?_,λp hp=>?_⟩
 ·rw[g2.length];exact QO c lim
 ·subst e0
  have:ls=[]:=List.eq_nil_of_length_eq_zero g3.symm
  subst this;exact k _ G H (.refl s) (.lst h2 .nil)
 ·exact k _ _ _ (.new s hp) (.lst (SqL.of zaT) (g2.mono (zaX (s.free hp))))
end
section
variable{X:Cx}
def zcO(ns:List Int):List Int:=ns.mergeSort λa b=>decide (a<=b)
theorem zbk(ns:List Int):(zcO ns).Perm ns:=List.mergeSort_perm ..
theorem zfk(ns:List Int):(zcO ns).Pairwise (· <= ·):=by
 have:=List.pairwise_mergeSort (le:=λa b:Int=>decide (a<=b)) (by intro a b c;simp;omega) (by intro a b;simp;omega) ns
 exact this.imp (by simp)
theorem zlu:∀{a b:List Int},a.Perm b->a.Pairwise (· <= ·)->b.Pairwise (· <= ·)->a=b
 |[],b,p,_,_=>by rw[List.nil_perm.1 p]
 |x::a,[],p,_,_=>by have:=p.length_eq;simp at this
 |x::a,y::b,p,ha,hb=>by
  have hx:y<=x:=by
   rcases QU.1 (p.mem_iff.1 (Qo ..)) with e|e
   ·exact Int.le_of_eq e.symm
   ·exact (Jw.1 hb).1 x e
  have hy:x<=y:=by
   rcases QU.1 (p.mem_iff.2 (Qo ..)) with e|e
   ·exact Int.le_of_eq e.symm
   ·exact (Jw.1 ha).1 y e
  have e:=JP hy hx;subst e;rw[zlu (List.Perm.cons_inv p) (Jw.1 ha).2 (Jw.1 hb).2]
theorem zhm:∀{us:List Value}{ns:List Int},PyProof.Rows.IntsAre us ns->Vals (ns.map V.int) us
 |_,_,.nil=>Paired.nil
 |_,_,.cons n t h=>Paired.cons ⟨t,rfl⟩ (zhm h)
theorem zkg:zdb X (.builtin "sorted") (λxs H Q=>∃l,∃ns:List Int,xs=[.ref l]/\SqL X.K H l (ns.map V.int)/\ns.length<64/\∀p,H p=none->Q (.ref p) (upd H p (.lst ((zcO ns).map V.int)))):=by
 intro pins s σ H xs us Q I rx h;obtain ⟨l,ns,rfl,hq,hb,q⟩:=h;obtain ⟨u,rfl,ru⟩:=rx.one;cases ru;obtain ⟨its,rv,p,hz⟩:=I.list hq;have hi:=zb7 rv;have hn:its.length=ns.length:=by have:=rv.length;rw[Qb] at this;omega
 refine sorted_ints p.isList hi (by omega) λout ns' a1 a2 a3=>?_
 obtain ⟨e,he⟩:=sortedAll_at s.heap its out;have en:ns'=zcO ns:=zlu (a2.trans (zbk ns).symm) a3 (zfk ns);subst en;refine ⟨.ref (s.heap.objs.size+1),_,I.laid (t':=s.toks) (λb o=>sortedAll_old) (JX _) (show zcL X.prog X.w _ _ _ (.lst ((zcO ns).map V.int)) from ⟨?_,out.toList,e,zhm a1,he⟩),rfl,q _ (I.hok.fresh (JX _))⟩
 rw[Qb,(zbk ns).length_eq];rw[Qb] at hz;exact hz
def zfl:List D->Option D
 |[.list ds]=>(match zbZ ds with
  |some ns=>if ns.length<64 then some (.list ((zcO ns).map .int)) else none
  |none=>none)
 |_=>none
theorem zkh{xs:List D}{d:D}(h:zfl xs=some d):∃ds ns,xs=[.list ds]/\zbZ ds=some ns/\ns.length<64/\d=.list ((zcO ns).map .int):=by
 unfold zfl at h
 split at h
 ·rename_i ds
  cases z:zbZ ds with
  |none=>rw[z] at h;cases h
  |some ns=>
   rw[z] at h;dsimp only at h
   split at h
   ·rename_i c
    cases h;exact ⟨ds,ns,rfl,z,c,rfl⟩
   ·cases h
 ·cases h
theorem zhn{K:Frag}{G:Hp}:∀ns:List Int,Reps K G (ns.map V.int) (ns.map int)
 |[]=>.nil
 |n::r=>.cons (.int n) (zhn r)
theorem zpj:zdx X (.builtin "sorted") zfl:=by
 refine ⟨_,zkg,λvs G H ds d Q s r e k=>?_⟩;obtain ⟨ds,ns,rfl,z,c,rfl⟩:=zkh e;obtain ⟨v,rfl,q1⟩:=r.one_inv;obtain ⟨l,ws,rfl,h1,r1⟩:=q1.lst_inv
 have:=zcg r1 z
 subst this;exact ⟨l,ns,rfl,s.seq h1,c,λp hp=>k _ _ _ (.new s hp) (.lst (SqL.of zaT) (zhn _))⟩
theorem zlv{ns:List Int}(h:ns.length<64):zfl [.list (ns.map .int)]=some (.list ((zcO ns).map .int)):=by
 unfold zfl;simp only[zcy,Qm h]
end
@[simp] theorem mBind_ok{α β:Type}{f:M α}{k:α->M β}{Z Z':DEnv}{x:α}(h:f Z=.ok x Z'):zau f k Z=k x Z':=by unfold zau;rw[h]
theorem zho{s:D->DEnv->Option DEnv}{g:SM}{P:Nat->DEnv->Prop}{R:Out->Prop}:∀(ds:List D)(n:Nat)(Z:DEnv),P n Z ->
  (∀i d Z,ds[i]?=some d->P (n+i) Z->∃Z1,s d Z=some Z1/\((∃Z2,(g Z1=.nx Z2∨g Z1=.ct Z2)/\P (n+i+1) Z2)∨(∃x,g Z1=.rt x/\R (.rt x))∨(∃Z2,g Z1=.bk Z2/\R (.nx Z2)) ∨ ∃Z2 x,g Z1=.ex Z2 x/\R (.ex Z2 x)))->(∀Z,P (n+ds.length) Z->R (.nx Z))->R (zg9 s g ds Z)
 |[],n,Z,h,_,f=>f Z h
 |d::r,n,Z,h,st,f=>by
  obtain ⟨Z1,e1,e2⟩:=st 0 d Z rfl h;rw[zg9,e1];dsimp only;rcases e2 with ⟨Z2,e2,h2⟩|⟨x,e2,h2⟩|⟨Z2,e2,h2⟩|⟨Z2,x,e2,h2⟩
  ·have goal:=zho (R:=R) r (n+1) Z2 h2 (λi d' Z3 q p=>by
    have e:n+1+i=n+(i+1):=by omega
    rw[e] at p ⊢;exact st (i+1) d' Z3 (by simpa using q) p) (λZ3 p=>f Z3 (by
    have e:n+1+r.length=n+(d::r).length:=by rw[QG];omega
    rw[e] at p;exact p))
   rcases e2 with e2|e2 <;> (rw[e2];exact goal)
  ·rw[e2];exact h2
  ·rw[e2];exact h2
  ·rw[e2];exact h2
theorem zbR{lo hi:Int}{i:Nat}{d:D}(h:(zbN lo hi)[i]?=some d):d=.int (lo+i)/\(i:Int)<hi-lo:=by
 have hl:i<(zbN lo hi).length:=(Qh.mp h).1;rw[zaY] at hl;unfold zbN at h;rw[Qd,Qe (by rw[Qp];exact hl),J0] at h
 cases h;exact ⟨rfl,by omega⟩
theorem zqM{α:Type}{xs:List α}{i:Int}{v:α}(h0:0<=i)(h:xs[i.toNat]?=some v):atI xs i=some v:=by
 have:=zaN (xs:=xs) (j:=i.toNat) h
 rw[Int.toNat_of_nonneg h0] at this;exact this
section
variable{α β:Type}{Z Z1 Z2 Z3 Z':DEnv}{f g h:M D}
theorem zag{a:α}:zah a Z=.ok a Z:=rfl
theorem zai:mNil Z=.ok [] Z:=rfl
theorem zb0{o:Option α}{a:α}(h:o=some a):mOpt o Z=.ok a Z:=by subst h;rfl
theorem zaA{f:M α}{k:α->M β}{x:α}{r:Res β}(h:f Z=.ok x Z1)(h2:k x Z1=r):zau f k Z=r:=by unfold zau;rw[h];exact h2
theorem zaH{f:M α}{k:α->β}{x:α}(h:f Z=.ok x Z1):mMap k f Z=.ok (k x) Z1:=by unfold mMap zau;rw[h];rfl
theorem zad{i:Nat}{d:D}(h:Z[i]?=some (some (.pub d))):dVar i Z=.ok d Z:=by unfold dVar;rw[h]
theorem zbJ{i:Nat}{ds:List D}(h:Z[i]?=some (some (.own ds)))(h2:Z.set i (some (.pub (.list ds)))=Z'):dVar i Z=.ok (.list ds) Z':=by unfold dVar;rw[h];subst h2;rfl
theorem zap{op:D->D->Option β}{x y:D}{r:β}(h1:f Z=.ok x Z1)(h2:g Z1=.ok y Z2)(h3:op x y=some r):dBin op f g Z=.ok r Z2:=by
 unfold dBin;exact zaA h1 (zaA h2 (zb0 h3))
theorem zab{g:M (List D)}{x:D}{xs:List D}(h1:f Z=.ok x Z1)(h2:g Z1=.ok xs Z2):zae f g Z=.ok (x::xs) Z2:=by
 unfold zae;exact zaA h1 (zaA h2 rfl)
theorem zb6{g:M (List D)}{xs:List D}(h1:g Z=.ok xs Z1)(h2:xs.length<=1000000):mTup g Z=.ok (.tuple xs) Z1:=by
 unfold mTup;exact zaA h1 (by rw[Qm h2];rfl)
theorem zbf{g:M (List D)}{xs:List D}(h1:g Z=.ok xs Z1)(h2:xs.length<=1000000):mLst g Z=.ok (.list xs) Z1:=by
 unfold mLst;exact zaA h1 (by rw[Qm h2];rfl)
theorem zen{g:M (List D)}{xs:List D}(h1:g Z=.ok xs Z1)(h2:xs.length<=1000000):(zau g λxs=>if xs.length<=1000000 then zah xs else λ_=>.bad) Z=.ok xs Z1 :=
 zaA h1 (by rw[Qm h2];rfl)
theorem za8{i:Nat}{d y r:D}(h:Z[i]?=some (some (.pub d)))(h1:g Z=.ok y Z1)(h2:oIx d y=some r):dIxN i g Z=.ok r Z1:=by
 unfold dIxN;rw[h];exact zaA h1 (zb0 h2)
theorem zfX{i:Nat}{ds es:List D}{y r:D}(h:Z[i]?=some (some (.own ds)))(h1:g Z=.ok y Z1)(h3:Z1[i]?=some (some (.own es)))(h2:oIx (.list es) y=some r):dIxN i g Z=.ok r Z1:=by
 unfold dIxN;rw[h];exact zaA h1 (by rw[h3];exact zb0 h2)
theorem za4{p:List D->Option D}{g:M (List D)}{xs:List D}{r:D}(h1:g Z=.ok xs Z1)(h2:p xs=some r):zbH p g Z=.ok r Z1:=by
 unfold zbH;exact zaA h1 (zb0 h2)
theorem zas{n:Nat}{F:List D->Option D}{g:M (List D)}{xs:List D}{r:D}(h1:g Z=.ok xs Z1)(h2:xs.length=n)(h3:F xs=some r):dFun n F g Z=.ok r Z1:=by
 unfold dFun;exact zaA h1 (by rw[Qm h2];exact zb0 h3)
theorem zfY{i:Int}(h1:f Z=.ok (.int i) Z1):dNeg f Z=.ok (.int (-i)) Z1:=by
 unfold dNeg;exact zaA h1 rfl
theorem za6{i:Nat}{d r:D}(h:Z[i]?=some (some (.pub d)))(h2:oLen [d]=some r):zbM i Z=.ok r Z:=by
 unfold zbM;rw[h];exact zb0 h2
theorem zlw{i:Nat}{ds:List D}(h:Z[i]?=some (some (.own ds))):zbM i Z=.ok (.int ds.length) Z:=by
 unfold zbM;rw[h]
theorem zcP{g:M (List D)}{i:Int}{r:List D}(h1:g Z=.ok [.int i] Z1)(h2:zj2 [.int i]=some r):zeh g Z=.ok r Z1:=by
 unfold zeh;exact zaA h1 (zb0 h2)
theorem zlx{g:M (List D)}{i j:Int}{r:List D}(h1:g Z=.ok [.int i,.int j] Z1)(h2:zj3 [.int i,.int j]=some r):zno g Z=.ok r Z1:=by
 unfold zno;exact zaA h1 (zb0 h2)
theorem zch{g:M (List D)}{xs r:List D}(h1:g Z=.ok xs Z1)(h2:zk5 xs=some r):zdy g Z=.ok r Z1:=by
 unfold zdy;exact zaA h1 (zb0 h2)
theorem zbW{i:Int}(h1:f Z=.ok (.int i) Z1):(zau f λx=>mOpt (zc4 x)) Z=.ok (some i) Z1:=zaA h1 rfl
theorem zcm{f:M Bool}{t:Bool}(h1:f Z=.ok t Z1):mNot f Z=.ok (!t) Z1:=zaH h1
theorem zbA{t:Bool}(h1:f Z=.ok (.bool t) Z1):zbE f Z=.ok t Z1:=by unfold zbE;exact zaA h1 rfl
theorem zqN{f g:M Bool}{t u:Bool}(h1:f Z=.ok t Z)(h2:t=true->g Z=.ok u Z):mAnd f g Z=.ok (t&&u) Z:=by
 unfold mAnd;refine zaA h1 ?_
 cases t with
 |true=>rw[Qm rfl];exact h2 rfl
 |false=>rfl
theorem zgp{t u:Bool}(h1:f Z=.ok (.bool t) Z)(h2:t=true->g Z=.ok (.bool u) Z):zie f g Z=.ok (.bool (t&&u)) Z:=by
 unfold zie;refine zaA h1 ?_
 cases t with
 |true=>exact h2 rfl
 |false=>rfl
theorem zjg{t u:Bool}(h1:f Z=.ok (.bool t) Z)(h2:t=false->g Z=.ok (.bool u) Z):mOrV f g Z=.ok (.bool (t || u)) Z:=by
 unfold mOrV;refine zaA h1 ?_
 cases t with
 |false=>exact h2 rfl
 |true=>rfl
theorem zly{t:Bool}(h1:f Z=.ok (.bool t) Z1):zk0 f Z=.ok (.bool (!t)) Z1:=by unfold zk0;exact zaA h1 rfl
theorem zov{f:M Bool}{g h:M α}{r:Res α}(h1:f Z=.ok true Z1)(h2:g Z1=r):mIf f g h Z=r:=by unfold mIf;exact zaA h1 (by rw[Qm rfl];exact h2)
theorem zlz{f:M Bool}{g h:M α}{r:Res α}(h1:f Z=.ok false Z1)(h2:h Z1=r):mIf f g h Z=r:=by unfold mIf;exact zaA h1 (by rw[Qy (by decide)];exact h2)
theorem zrK{f:M Bool}{g h:M α}{t:Bool}{x y:α}(h1:f Z=.ok t Z1)(h2:g Z1=.ok x Z1)(h3:h Z1=.ok y Z1):mIf f g h Z=.ok (if t=true then x else y) Z1:=by
 unfold mIf;refine zaA h1 ?_;cases t with
 |true=>rw[Qm rfl,Qm rfl];exact h2
 |false=>rw[Qy (by decide),Qy (by decide)];exact h3
theorem zgq{p q:D->D->Option Bool}{x y z:D}{t u:Bool}(h1:f Z=.ok x Z)(h2:g Z=.ok y Z)(h3:p x y=some t)(h4:t=true->h Z=.ok z Z)(h5:t=true->q y z=some u):ze7 p q f g h Z=.ok (t&&u) Z:=by
 unfold ze7;refine zaA h1 (zaA h2 (zaA (zb0 h3) ?_))
 cases t with
 |true=>rw[Qm rfl];exact zaA (h4 rfl) (zb0 (h5 rfl))
 |false=>rfl
theorem zaW{i j:Int}:oAdd (.int i) (.int j)=some (.int (i+j)):=rfl
theorem zca{x y:List D}(h:x.length+y.length<=1000000):oAdd (.list x) (.list y)=some (.list (x++y)):=by unfold oAdd;exact Qm h
theorem zbX{i j:Int}:oSub (.int i) (.int j)=some (.int (i-j)):=rfl
theorem zeW{i j:Int}(h1 : -18446744073709551616<i)(h2:i<18446744073709551616):oMul (.int i) (.int j)=some (.int (i*j)):=by unfold oMul gMul;exact Qm (.inl ⟨by omega,by omega⟩)
theorem zgr{i j:Int}(h1 : -18446744073709551616<j)(h2:j<18446744073709551616):oMul (.int i) (.int j)=some (.int (i*j)):=by unfold oMul gMul;exact Qm (.inr ⟨by omega,by omega⟩)
theorem zcW{x:List D}{k:Int}(h : -1000000<=k/\k<=1000000/\x.length*k.toNat<=1000000):oMul (.list x) (.int k)=some (.list (replicate k.toNat x).flatten):=by unfold oMul;exact Qm h
theorem ziu{i j:Int}(h:0<j):oMod (.int i) (.int j)=some (.int (i % j)):=by unfold oMod gMod;exact Qm h
theorem zpk{i j:Int}(h:0<j)(h2:j<18446744073709551616):oDiv (.int i) (.int j)=some (.int (i / j)):=by unfold oDiv gDiv;exact Qm ⟨h,h2⟩
theorem zlA{i j:Int}(h:0<=j/\j<=1000000/\i.natAbs<2 ^ 64):oPow (.int i) (.int j)=some (.int (i ^ j.toNat)):=by unfold oPow gPow;exact Qm h
theorem zow{p:Int->Int->Bool}{i j:Int}:oIB p (.int i) (.int j)=some (p i j):=rfl
theorem zb3{i j:Int}:oEq (.int i) (.int j)=some (decide (i=j)):=by
 unfold oEq;rw[if_pos ⟨rfl,rfl,by simp[PyData.depth]⟩];congr 1
theorem zaD{xs:List D}:oLen [.list xs]=some (.int xs.length):=rfl
theorem zlB{i j:Int}:zk3 [.int i,.int j]=some (.int (if j > i then j else i)):=rfl
theorem zcj{j:Int}(h1:j<=1000000)(h2 : -1000000<=j):zj2 [.int j]=some (zbN 0 j):=by unfold zj2;exact Qm ⟨h1,h2⟩
theorem znE{i j:Int}(h1:j<=1000000)(h2 : -1000000<=j)(h3:i<=1000000)(h4 : -1000000<=i):zj3 [.int i,.int j]=some (zbN i j):=by unfold zj3;exact Qm ⟨h1,h2,h3,h4⟩
theorem zbS{xs:List D}:zk5 [.list xs]=some (zcT 0 xs):=rfl
theorem zaZ{i:Nat}{d:D}(h1:f Z=.ok d Z1)(h2:i<Z1.length)(h3:Z1.set i (some (.pub d))=Z'):sSet i f Z=.nx Z':=by
 unfold sSet sAsg sB gN;rw[h1];dsimp only;rw[if_pos h2];subst h3;rfl
theorem zbB{i:Nat}{f:M (List D)}{ds:List D}(h1:f Z=.ok ds Z1)(h2:i<Z1.length)(h3:Z1.set i (some (.own ds))=Z'):zbV i f Z=.nx Z':=by
 unfold zbV sB;rw[h1];dsimp only;rw[if_pos h2];subst h3;rfl
theorem zeH{i:Nat}{d:D}{ds0 ds:List D}(h0:Z[i]?=some (some (.own ds0)))(h1:f Z=.ok d Z1)(h2:Z1[i]?=some (some (.own ds)))(h3:ds.length<1000000)(h4:Z1.set i (some (.own (ds++[d])))=Z'):sApp i f Z=.nx Z':=by
 unfold sApp sB;rw[h0];dsimp only;rw[h1];dsimp only;rw[h2];dsimp only;rw[if_pos h3];subst h4;rfl
theorem zfm{d:D}{s:D->DEnv->Option DEnv}(h1:f Z=.ok d Z1)(h2:s d Z1=some Z'):sAsg f s Z=.nx Z':=by
 unfold sAsg sB;rw[h1];dsimp only;rw[h2]
theorem zc6{d:D}(h1:f Z=.ok d Z1):ze9 f Z=.nx Z1:=by unfold ze9 sB;rw[h1]
theorem tg_N{i:Nat}{d:D}(h:i<Z.length)(h2:Z.set i (some (.pub d))=Z'):gN i d Z=some Z':=by unfold gN;rw[Qm h,h2]
theorem tg_0:gN0 [] Z=some Z:=rfl
theorem tg_C{s:D->DEnv->Option DEnv}{t:List D->DEnv->Option DEnv}{d:D}{r:List D}(h1:s d Z=some Z1)(h2:t r Z1=some Z'):gNC s t (d::r) Z=some Z':=by unfold gNC;dsimp only;rw[h1];exact h2
theorem tg_T{n:Nat}{t:List D->DEnv->Option DEnv}{ds:List D}(h1:ds.length=n)(h2:t ds Z=some Z'):gT n t (.tuple ds) Z=some Z':=by unfold gT;dsimp only;rw[if_pos h1];exact h2
structure Ho(g:SM)(Z:DEnv)(Q:Out->Prop):Prop where
 out:Q (g Z)
def zrL(h:SM)(Q:Out->Prop):Out->Prop
 |.nx Z'=>Ho h Z' Q
 |o=>Q o
structure zpl(h:SM)(Q:Out->Prop)(o:Out):Prop where
 out:zrL h Q o
variable{Q:Out->Prop}{s t u:SM}
theorem zaL(h:Ho s Z (zpl t Q)):Ho (sSeq s t) Z Q:=by
 have h:=h.out.out;constructor;unfold sSeq
 cases e:s Z with
 |nx o=>rw[e] at h;exact h.out
 |_=>rw[e] at h;exact h
theorem zaq(h1:s Z=.nx Z1)(h2:Ho t Z1 Q):Ho (sSeq s t) Z Q:=by
 constructor;unfold sSeq;rw[h1];exact h2.out
theorem zbp{o:Out}(h1:s Z=o)(h2:Q o):Ho s Z Q:=by constructor;rw[h1];exact h2
theorem zbq(h:Q (.nx Z)):Ho sNx Z Q:=⟨h⟩
theorem zaz{o:DEnv}(h:Ho t o Q):zpl t Q (.nx o):=⟨h⟩
theorem zcu{d:D}(h:Q (.rt d)):zpl t Q (.rt d):=⟨h⟩
theorem zbc{f:M Bool}{b:Bool}(h1:f Z=.ok b Z1)(h2:b=true->Ho s Z1 Q)(h3:b=false->Ho t Z1 Q):Ho (sIf f s t) Z Q:=by
 constructor;unfold sIf sB;rw[h1];dsimp only
 cases b with
 |true=>rw[Qm rfl];exact (h2 rfl).out
 |false=>rw[Qy (by decide)];exact (h3 rfl).out
theorem zaB{d:D}(h1:f Z=.ok d Z1)(h2:Q (.rt d)):Ho (sRet f) Z Q:=by constructor;unfold sRet sB;rw[h1];exact h2
theorem zlC{P:Out->Prop}(h:Ho s Z P)(k:∀o,P o->Q o):Ho s Z Q:=⟨k _ h.out⟩
def zrM(I:DEnv->Prop)(Q:Out->Prop):Out->Prop
 |.nx Z | .ct Z=>I Z
 |.bk Z=>Q (.nx Z)
 |.rt d=>Q (.rt d)
 |.ex Z d=>Q (.ex Z d)
 |.bad=>False
structure ziv(I:DEnv->Prop)(Q:Out->Prop)(o:Out):Prop where
 out:zrM I Q o
theorem zaO{I:DEnv->Prop}(h:I Z):ziv I Q (.nx Z):=⟨h⟩
theorem zdR{I:DEnv->Prop}{d:D}(h:Q (.rt d)):ziv I Q (.rt d):=⟨h⟩
theorem zbv{f:M (List D)}{tg:D->DEnv->Option DEnv}{ds:List D}(I:Nat->DEnv->Prop)(h1:f Z=.ok ds Z1)(h0:I 0 Z1)
  (hst:∀i d Z,ds[i]?=some d->I i Z->∃Z2,tg d Z=some Z2/\Ho s Z2 (ziv (I (i+1)) Q)) (hend:∀Z,I ds.length Z->Q (.nx Z)):Ho (sFor f tg s) Z Q:=by
 constructor;unfold sFor sB;rw[h1];dsimp only
 refine zho (P:=I) (R:=Q) ds 0 Z1 h0 (λi d Z e p=>?_) (λZ p=>hend Z (by rw[QP] at p;exact p))
 rw[QP] at p;obtain ⟨Z2,e2,q⟩:=hst i d Z e p;refine ⟨Z2,e2,?_⟩;rw[QP];have q:=q.out.out
 cases z:s Z2 with
 |nx o=>rw[z] at q;exact .inl ⟨o,.inl rfl,q⟩
 |ct o=>rw[z] at q;exact .inl ⟨o,.inr rfl,q⟩
 |rt o=>rw[z] at q;exact .inr (.inl ⟨o,rfl,q⟩)
 |bk o=>rw[z] at q;exact .inr (.inr (.inl ⟨o,rfl,q⟩))
 |ex o x=>rw[z] at q;exact .inr (.inr (.inr ⟨o,x,rfl,q⟩))
 |bad=>rw[z] at q;exact q.elim
theorem zdS{N:List Str}{ds:List D}{P:D->Prop}(h0:zcU N ds=Z)(h:Ho s Z λo=>∃d,o=.rt d/\P d):∃d,runD N s ds=some d/\P d:=by
 subst h0;obtain ⟨d,e,p⟩:=h.out;refine ⟨d,?_,p⟩;unfold runD;rw[e]
theorem za3{N:List Str}{ds:List D}{d:D}(h0:zcU N ds=Z)(h:Ho s Z λo=>o=.rt d):runD N s ds=some d:=by
 obtain ⟨d',e,p⟩:=zdS (P:=λx=>x=d) h0 (zlC h λo e=>⟨d,e,rfl⟩);rw[e,p]
end
section
variable{α β:Type}{Z Z1 Z2 Z3 Z':DEnv}{f g h:M D}
theorem zdB{l u:M (Option Int)}{x r:D}{a b:Option Int}(h1:f Z=.ok x Z1)(h2:l Z1=.ok a Z2)(h3:u Z2=.ok b Z3)(h4:oSlA x a b=some r):dSlA f l u Z=.ok r Z3:=by
 unfold dSlA;exact zaA h1 (zaA h2 (zaA h3 (zb0 h4)))
theorem zcX{f g:M Bool}{u:Bool}(h1:f Z=.ok false Z1)(h2:g Z1=.ok u Z2):mOr f g Z=.ok u Z2:=by unfold mOr;exact zaA h1 (by rw[Qy (by decide)];exact h2)
theorem ziw{f g:M Bool}(h1:f Z=.ok false Z1):mAnd f g Z=.ok false Z1:=by unfold mAnd;exact zaA h1 rfl
theorem zix{f g:M Bool}{u:Bool}(h1:f Z=.ok true Z1)(h2:g Z1=.ok u Z2):mAnd f g Z=.ok u Z2:=by unfold mAnd;exact zaA h1 (by rw[Qm rfl];exact h2)
theorem zcG{c:String}{d:D}{t:Bool}(h:f Z=.ok d Z1)(ht:(!isTy d c)=t):mNot (zbE (mMap (λd=>.bool (isTy d c)) f)) Z=.ok t Z1:=by
 subst ht;exact zcm (zbA (zaH (k:=λd=>PyData.bool (isTy d c)) h))
theorem zaS{x:D}{r:List D}(h1:f Z=.ok x Z1)(h2:zii x=some r):za2 f Z=.ok r Z1:=by
 unfold za2;exact zaA h1 (zb0 h2)
theorem zb4{p:D->D->Option β}{i:Nat}{d y:D}{r:β}(h:Z[i]?=some (some (.pub d)))(h1:g Z=.ok y Z1)(h2:p d y=some r):zce p i g Z=.ok r Z1:=by
 unfold zce;rw[h];exact zaA h1 (zb0 h2)
theorem zjh{p:D->D->Option β}{i:Nat}{ds es:List D}{y:D}{r:β}(h:Z[i]?=some (some (.own ds)))(h1:g Z=.ok y Z1)(h3:Z1[i]?=some (some (.own es)))(h2:p (.list es) y=some r):zce p i g Z=.ok r Z1:=by
 unfold zce;rw[h];exact zaA h1 (by rw[h3];exact zb0 h2)
theorem zbK{f:M (List D)}{k:Nat}{s:D->DEnv->Option DEnv}{t:M Bool}{ds es:List D}(h1:f Z=.ok ds Z1)(h2:zbz s t g ds (zaK Z1++replicate k none) []=some es):zct f k s t g Z=.ok es Z1:=by
 unfold zct;rw[h1];dsimp only;rw[h2]
theorem zcY{s:D->DEnv->Option DEnv}{t:M Bool}(p:D->Bool)(q:D->D)(I:DEnv->Prop):∀(ds:List D)(Z:DEnv)(es:List D),(∀d∈ds,∀Z,I Z->∃Z1,s d Z=some Z1/\t Z1=.ok (p d) Z1/\(p d=true->g Z1=.ok (q d) Z1)/\I (zaK Z1))->I Z->es.length+ds.length<=1000000 ->
  zbz s t g ds Z es=some (es++(ds.filter p).map q)
 |[],Z,es,_,_,_=>by rw[zbz];simp
 |d::r,Z,es,st,h0,hz=>by
  obtain ⟨Z1,e1,e2,e3,h1⟩:=st d Qo Z h0;have ih:=λes' hz'=>zcY p q I r (zaK Z1) es' (λd' hd=>st d' (Qj _ hd)) h1 hz';rw[QG] at hz;rw[zbz,e1];dsimp only;rw[e2];dsimp only
  cases hp:p d with
  |true=>
   rw[Qm rfl,e3 hp];dsimp only;rw[Qm (by omega),ih _ (by rw[Ql,Jh];omega),List.filter_cons_of_pos hp,Qz,Jl]
   rfl
  |false=>
   rw[Qy (by decide),ih _ (by omega),List.filter_cons_of_neg (by rw[hp];decide)]
theorem zeo{j:Nat}{d:D}{k:Int}{ds0 ds:List D}(h1:f Z=.ok d Z1)(h0:Z1[j]?=some (some (.own ds0)))(h2:g Z1=.ok (.int k) Z2)(h3:Z2[j]?=some (some (.own ds)))(h4:0<=k/\k<ds.length)(h5:Z2.set j (some (.own (ds.set k.toNat d)))=Z'):zhh j g f Z=.nx Z':=by
 unfold zhh sB;rw[h1];dsimp only;rw[h0];dsimp only;rw[h2];dsimp only;rw[h3];dsimp only;rw[if_pos h4];subst h5;rfl
theorem zck{xs:List D}{a b:Option Int}:oSlA (.list xs) a b=some (.list (DL.cutD xs a b)):=rfl
theorem zbs{xs:List D}:zii (.list xs)=some xs:=rfl
theorem ziy(bs:List Bool):zdg (bs.map PyData.bool)=some bs:=by
 induction bs with
 |nil=>rfl
 |cons b r ih=>rw[Qz,zdg,ih];rfl
theorem zpm{bs:List Bool}:oAll [.list (bs.map PyData.bool)]=some (.bool (bs.all id)):=by unfold oAll;dsimp only;rw[ziy];rfl
end
section
variable{α β:Type}{Z Z1 Z2 Z3 Z4 Z':DEnv}{f g h:M D}{s:SM}
theorem zqO{l u t:M (Option Int)}{xs:List D}(h1:f Z=.ok (.list xs) Z1)(h2:l Z1=.ok none Z2)(h3:u Z2=.ok none Z3)(h4:t Z3=.ok (some (-1)) Z4):dRev f l u t Z=.ok (.list xs.reverse) Z4:=by
 unfold dRev;exact zaA h1 (zaA h2 (zaA h3 (zaA h4 (zb0 (by unfold oRev;exact Qm rfl)))))
theorem zji{i:Nat}{d:D}{ds:List D}(h:Z[i]?=some (some (.pub d)))(h2:zfh [d]=some ds):zfT i Z=.ok ds Z:=by unfold zfT;rw[h];exact zb0 h2
theorem zhp{N:List Str}{ds:List D}(h0:zcU N ds=Z)(h:Ho s Z λo=>∃Z',o=.nx Z'):runD N s ds=some .none:=by
 subst h0;obtain ⟨Z',e⟩:=h.out;unfold runD;rw[e]
theorem zep{i j:Int}:oNe (.int i) (.int j)=some (!decide (i=j)):=by
 unfold oNe;rw[if_pos ⟨rfl,rfl,by simp[PyData.depth]⟩];congr 1
theorem zgs{xs:List Int}{j:Nat}{v:Int}:(xs.map int).set j (.int v)=(xs.set j v).map int:=by rw[List.map_set]
theorem zgt{xs:List Int}{a b:Int}(ha:0<=a)(hb:0<=b)(hl:b<=xs.length):DL.cutD (xs.map int) (some a) (some b)=((xs.drop a.toNat).take (b.toNat-a.toNat)).map int:=by
 unfold DL.cutD HT.sIx;dsimp only;rw[Qy (by omega),Qy (by omega),Qb,Uk,List.map_drop]
 have e2:min b.toNat xs.length=b.toNat:=by omega
 rw[e2]
 by_cases hab:a.toNat<=xs.length
 ·have e1:min a.toNat xs.length=a.toNat:=by omega
  rw[e1]
 ·have e3:b.toNat-a.toNat=0:=by omega
  have e4:b.toNat-min a.toNat xs.length=0:=by omega
  rw[e3,e4,JU,JU]
end
section
variable{Z Z1:DEnv}
theorem zjj{g:M (List D)}{xs r:List D}(h1:g Z=.ok xs Z1)(h2:zfV xs=some r):zje g Z=.ok r Z1:=by
 unfold zje;exact zaA h1 (zb0 h2)
theorem zhq{xs:List D}:zfV [.list xs]=some (zcT 1 xs):=rfl
end
section
variable{X:Cx}{B G0:Hp}{KX:XW}{e o a b c tg i:Expr}{pos p2:Pos}{es rest:List Expr}
def zcH(f:M Bool)(g:SM):Nat->SM
 |0,_=>.bad
 |n+1,Z=>match f Z with
  |.bad=>.bad
  |.ok t Z1=>if t=true then (match g Z1 with
   |.nx Z2=>zcH f g n Z2
   |.ct Z2=>zcH f g n Z2
   |.bk Z2=>.nx Z2
   |.rt d=>.rt d
   |.ex Z2 d=>.ex Z2 d
   |.bad=>.bad) else .nx Z1
theorem zjk{body:List Stmt}{f:M Bool}{g:SM}(n:Nat)(hp:PassesOwn (model X.prog X.w) X.A X.env X.xe)(hc:PT X c (tBo X.K B G0 f))(hb:PSs X body (tS X.K B G0 KX g)):PS X (.While c body [] pos) (tS X.K B G0 KX (zcH f g n)) :=
 psof (zm8 hp hc hb) λDn σ H ⟨G,Z,k,a⟩=>by
  refine ⟨λm σ' H'=>∃G' Z',EOk X.K B G0 G' H' σ' Z'/\aftS X.K B G0 KX (zcH f g m Z') G' Dn,⟨n,G,Z,k,a⟩,?_⟩;rintro m σ' H' ⟨G',Z',k',a'⟩
  cases m with
  |zero=>exact a'.elim
  |succ m=>
   rw[zcH] at a';refine ⟨G',Z',k',?_⟩
   cases z:f Z' with
   |bad=>rw[z] at a';exact a'.elim
   |ok t Z1=>
    rw[z] at a';dsimp only at a';intro v G1 H1 k1 s1 e1;subst e1
    cases v with
    |false=>
     rw[Qy JK] at a' ⊢;exact a' _ G1 H1 k1 s1
    |true=>
     rw[Qm rfl] at a' ⊢;refine ⟨λσ2 H2=>∃G2 Z2,EOk X.K B G0 G2 H2 σ2 Z2/\aftS X.K B G0 KX (zcH f g m Z2) G2 Dn,λσ2 H2 h2=>⟨m,Ug m,h2⟩,G1,Z1,k1,?_⟩
     cases z2:g Z1 with
     |nx Z2=>rw[z2] at a';exact λσ4 G4 H4 k4 s4=>⟨G4,Z2,k4,aftS.mono (s1.trans s4) a'⟩
     |ct Z2=>rw[z2] at a';exact λσ4 G4 H4 k4 s4=>⟨G4,Z2,k4,aftS.mono (s1.trans s4) a'⟩
     |bk Z2=>rw[z2] at a';exact λσ4 G4 H4 k4 s4=>a' σ4 G4 H4 k4 (s1.trans s4)
     |rt d=>rw[z2] at a';exact a'
     |ex Z2 d=>rw[z2] at a';exact λv σ4 G4 H4 k4 s4 r4=>a' v σ4 G4 H4 k4 (s1.trans s4) r4
     |bad=>rw[z2] at a';exact a'.elim
def sAug(op:Int->Int->Option D)(j:Nat)(f:M D):SM:=λZ=>match Z[j]? with
 |some (some (.pub (.int a)))=>sB f (λy Z1=>match y with
  |.int b=>(match op a b with
   |some d=>if j<Z1.length then .nx (Z1.set j (some (.pub d))) else .bad
   |none=>.bad)
  |_=>.bad) Z
 |_=>.bad
def IpD(X:Cx)(op:Operator)(p:Int->Int->Option D):Prop:=∃ti,PIp X op ti/\∀i j d,p i j=some d->∃v:V,(∀G,Rep X.K G v d)/\∀H(Q:VK),Q v H->ti (.int i) (.int j) H Q
theorem zlD:IpD X .Add (λi j=>some (.int (i+j))):=⟨_,zp7,λi j d e=>by cases e;exact ⟨_,λ_=>.int _,λH Q q=>⟨i,j,rfl,rfl,q⟩⟩⟩
theorem zpn:IpD X .Mult gMul:=⟨_,zoQ,λi j d e=>by
 unfold gMul at e
 split at e
 ·rename_i h
  cases e;exact ⟨_,λ_=>.int _,λH Q q=>⟨i,j,rfl,rfl,h,q⟩⟩
 ·cases e⟩
theorem zqP{j:Nat}{x:Str}{op:Operator}{p:Int->Int->Option D}{f:M D}{pos':Pos}(hN:X.N.Nodup)(hi:X.N[j]?=some x)(hx:Loc X.env.scope x)(ho:IpD X op p)(he:PE X e (tD X.K B G0 f))(hf:X.fn x=true∨X.env.scope.names.lookup x=some .local:=by first|exact .inl rfl|exact .inr rfl|assumption) :
  PS X (.AugAssign (.Name x pos') op e pos) (tS X.K B G0 KX (sAug p j f)):=by
 obtain ⟨ti,hti,hp⟩:=ho;refine psof (zp6 hN hi hx he hti hf) λDn σ H ⟨G,Z,k,a⟩=>?_;unfold sAug at a
 cases q:Z[j]? with
 |none=>rw[q] at a;exact a.elim
 |some o0=>
  cases o0 with
  |none=>rw[q] at a;exact a.elim
  |some sl=>
   cases sl with
   |deep _ _=>rw[q] at a;exact a.elim
   |own ds=>rw[q] at a;exact a.elim
   |pub d0=>
    rw[q] at a
    cases d0 with
    |int i0=>
     dsimp only at a;obtain ⟨v,h1,h2⟩:=k.pub j _ q;cases h2.int_inv;refine ⟨.int i0,h1,G,Z,k,?_⟩;unfold sB at a
     cases z:f Z with
     |bad=>rw[z] at a;exact a.elim
     |ok y Z1=>
      rw[z] at a;dsimp only at a;intro u G1 H1 k1 s1 r1
      cases y with
      |int i1=>
       cases r1.int_inv;dsimp only at a
       cases w:p i0 i1 with
       |none=>rw[w] at a;exact a.elim
       |some d=>
        rw[w] at a;dsimp only at a
        split at a
        ·rename_i hl
         obtain ⟨v',rv,hq⟩:=hp i0 i1 d w;exact hq H1 _ (a _ G1 H1 (k1.setPub (rv G1) hl) s1)
        ·exact a.elim
      |_=>exact a.elim
    |_=>exact a.elim
theorem znF:PGet X (λo i H Q=>∃p xs k v,o=.ref p/\i=.int k/\H p=some (.lst xs)/\atI xs k=some v/\Q v H):=by
 intro pins s σ H x y v u Q I rx ry h;obtain ⟨p,xs,k,z,rfl,rfl,hp,he,q⟩:=h;cases rx;obtain ⟨t,rfl⟩:=ry;obtain ⟨its,n,r,ho,hz⟩:=I.lst hp;obtain ⟨j,h1,h2,h3,h4,h5⟩:=zgh he;have hl:=r.length;have hn:=ze1;obtain ⟨w,ew,rw'⟩:=r.get h2;have fin:EP X pins σ Q w s:=⟨z,H,I,rw',q⟩;have il:s.heap.IsList p its.toArray:=⟨_,ho,rfl,⟨_,rfl⟩⟩
 by_cases h0:0<=k
 ·have hj:k.toNat=j:=by
   rw[seqIndex_of h0 h5] at h1;exact QY h1
  exact wpAny_getItem_list il h0 (by omega) (by rw[hj];simpa using ew) fin
 ·have hj:(k+(its.toArray.size:Int)).toNat=j:=by
   rw[seqIndex_neg (by omega) h4] at h1
   rw[QH,←hl];exact QY h1
  exact wpAny_getItem_list_neg il (by omega) (by rw[List.size_toArray,←hl];exact h4) (by omega) (by rw[hj];simpa using ew) fin
def zfG(Z:DEnv)(j:Nat):Option (List D):=match Z[j]? with
 |some (some (.own ds))=>some ds
 |_=>none
theorem zdT{Z:DEnv}{j:Nat}{ds:List D}(h:zfG Z j=some ds):Z[j]?=some (some (.own ds)):=by
 unfold zfG at h
 split at h
 ·rename_i es e;cases h;exact e
 ·cases h
theorem zgu{Z:DEnv}{j:Nat}{ds:List D}(h:Z[j]?=some (some (.own ds))):zfG Z j=some ds:=by unfold zfG;rw[h]
def zhr(op:Int->Int->Option D)(j:Nat)(g f:M D):SM:=λZ=>match zfG Z j with
 |none=>.bad
 |some _=>sB g (λy Z1=>match y with
  |.int k=>(match (zfG Z1 j).bind (atI · k) with
   |some (.int a)=>sB f (λy2 Z2=>match y2 with
    |.int b=>(match op a b,zfG Z2 j with
     |some d,some es=>(match ixN es.length k with
      |some n=>.nx (Z2.set j (some (.own (es.set n d))))
      |none=>.bad)
     |_,_=>.bad)
    |_=>.bad) Z1
   |_=>.bad)
  |_=>.bad) Z
theorem zlE{j:Nat}{op:Operator}{p:Int->Int->Option D}{f g:M D}{tpos:Pos}(ho:PE X o (tVar j))(hi:PE X i (tD X.K B G0 g))(hp:IpD X op p)(he:PE X e (tD X.K B G0 f))
  (ha:∀ov iv new,augStore i ov iv new=(do holding [new,ov,iv] (setItem ov iv new);release [new,ov,iv] [];pure .next):=by intros;rfl):PS X (.AugAssign (.Subscript o i tpos) op e pos) (tS X.K B G0 KX (zhr p j g f)):=by
 obtain ⟨ti,hti,hp⟩:=hp;refine psof (zoP ho hi znF he hti znf ha) λDn σ H ⟨G,Z,k,a⟩=>?_;unfold zhr at a
 cases q0:zfG Z j with
 |none=>rw[q0] at a;exact a.elim
 |some ds0=>
 rw[q0] at a;dsimp only at a;obtain ⟨ad,vs0,h1,h2,h3,h4,h5⟩:=k.own j ds0 (zdT q0);refine ⟨.ref ad,h1,G,Z,k,?_⟩;unfold sB at a
 cases z:g Z with
 |bad=>rw[z] at a;exact a.elim
 |ok y Z1=>
 rw[z] at a;dsimp only at a;intro kv G1 H1 k1 s1 r1
 cases y with
 |int n=>
  cases r1.int_inv;dsimp only at a
  cases q1:zfG Z1 j with
  |none=>rw[q1] at a;exact a.elim
  |some ds1=>
  rw[q1] at a;dsimp only[Option.bind_some] at a
  cases q2:atI ds1 n with
  |none=>rw[q2] at a;exact a.elim
  |some d1=>
  rw[q2] at a;obtain ⟨ad1,vs1,g1,g2,g3,g4,g5⟩:=k1.own j ds1 (zdT q1);rw[h1] at g1;cases g1;obtain ⟨v1,e1,rv1⟩:=g5.atI q2
  cases d1 with
  |int i0=>
   cases rv1.int_inv;dsimp only at a
   refine ⟨ad,vs1,n,.int i0,rfl,rfl,g4,e1,G1,Z1,k1,?_⟩
   cases z2:f Z1 with
   |bad=>rw[z2] at a;exact a.elim
   |ok y2 Z2=>
   rw[z2] at a;dsimp only at a;intro u G2 H2 k2 s2 r2
   cases y2 with
   |int i1=>
    cases r2.int_inv;dsimp only at a
    cases w:p i0 i1 with
    |none=>rw[w] at a;exact a.elim
    |some d=>
    cases q3:zfG Z2 j with
    |none=>rw[w,q3] at a;exact a.elim
    |some es=>
    rw[w,q3] at a;dsimp only at a;obtain ⟨ad2,vs2,f1,f2,f3,f4,f5⟩:=k2.own j es (zdT q3);rw[h1] at f1;cases f1
    cases q4:ixN es.length n with
    |none=>rw[q4] at a;exact a.elim
    |some m=>
    rw[q4] at a;dsimp only at a;obtain ⟨v',rv,hq⟩:=hp i0 i1 d w;refine hq H2 _ ⟨ad,vs2,n,m,rfl,rfl,f4,by rw[f5.length];exact q4,?_⟩
    exact a σ G2 _ (k2.change (zdT q3) h1 (f5.set (rv G2) m)) (s1.trans s2)
   |_=>exact a.elim
  |_=>exact a.elim
 |_=>exact a.elim
end
section
variable{X:Cx}{B G0:Hp}{KX:XW}
end
section
variable{X:Cx}{B G0:Hp}{e o a b c tg i:Expr}{pos p2:Pos}{es rest:List Expr}
theorem zlF(hc:X.calm=true):zdb X (.builtin "sum") (λxs H Q=>∃l,∃ns:List Int,xs=[.ref l]/\SqL X.K H l (ns.map V.int)/\Q (.int ns.sum) H):=by
 intro pins s σ H xs us Q I rx h;obtain ⟨l,ns,rfl,hq,q⟩:=h;obtain ⟨u,rfl,ru⟩:=rx.one;cases ru;obtain ⟨its,rv,p,hz⟩:=I.list hq;have hi:=zb7 rv;obtain ⟨ys,e⟩:=hi.allInts.items
 have hns:ns=ys.toList.map (·.1):=by
  rw[←hi.numsOf,←nums_intItems,←e]
 have hl:=p.isList;rw[e] at hl;refine sum_intListG (I.ok.hd hc) hl λh' tk t' hk=>?_
 have e2:preSum (numAt ys) ys.size=ns.sum:=by
  rw[preSum_eq,List.take_of_length_le (by simp),hns]
 rw[e2];exact ⟨.int ns.sum,H,I.kept hk,⟨t',rfl⟩,q⟩
def zki:List D->Option D
 |[.list ds]=>(zbZ ds).map λns=>.int ns.sum
 |_=>none
theorem zlG{xs:List D}{d:D}(h:zki xs=some d):∃ds ns,xs=[.list ds]/\zbZ ds=some ns/\d=.int ns.sum:=by
 unfold zki at h
 split at h
 ·rename_i ds
  cases z:zbZ ds with
  |none=>rw[z] at h;cases h
  |some ns=>rw[z] at h;cases h;exact ⟨ds,ns,rfl,z,rfl⟩
 ·cases h
theorem zqQ(hc:X.calm=true):zdx X (.builtin "sum") zki:=by
 refine ⟨_,zlF hc,λvs G H ds d Q s r e k=>?_⟩;obtain ⟨ds,ns,rfl,z,rfl⟩:=zlG e;obtain ⟨v,rfl,q1⟩:=r.one_inv;obtain ⟨l,ws,rfl,h1,r1⟩:=q1.lst_inv
 have:=zcg r1 z
 subst this;exact ⟨l,ns,rfl,s.seq h1,k _ G H (.refl s) (.int _)⟩
theorem zjl{ns:List Int}:zki [.list (ns.map .int)]=some (.int ns.sum):=by
 unfold zki;dsimp only;rw[zcy];rfl
theorem zlH:MtR X "list.index" (λv vs H Q=>∃l k,∃ns:List Int,v=.ref l/\vs=[.int k]/\SqL X.K H l (ns.map V.int)/\PyData.layable0 (.list (ns.map .int))=true/\k∈ns/\Q (.int (ns.idxOf k:Nat)) H):=by
 intro pins s σ H x vs v us Q I rx rv h;obtain ⟨l,k,ns,rfl,rfl,hq,hl,hk,q⟩:=h;cases rx;obtain ⟨u,rfl,ru⟩:=rv.one;obtain ⟨t,rfl⟩:=ru;obtain ⟨its,rv,p,hz⟩:=I.list hq;exact index_list_ints p.isList (zb7 rv) hl hk ⟨.int _,H,I.tok _,⟨_,rfl⟩,q⟩
def zeq(y:D)(xs:List D):Option D:=match y,xs with
 |.list ds,[.int k]=>(match zbZ ds with
  |some ns=>if PyData.layable0 (.list (ns.map .int))=true/\k∈ns then some (.int (ns.idxOf k:Nat)) else none
  |none=>none)
 |_,_=>none
theorem ziz{ds xs:List D}{d:D}(h:zeq (.list ds) xs=some d):∃k ns,xs=[.int k]/\zbZ ds=some ns/\PyData.layable0 (.list (ns.map .int))=true/\k∈ns/\d=.int (ns.idxOf k:Nat):=by
 unfold zeq at h
 split at h
 ·rename_i ds' k e1
  cases e1
  cases z:zbZ ds with
  |none=>rw[z] at h;cases h
  |some ns=>
   rw[z] at h;dsimp only at h
   split at h
   ·rename_i c
    cases h;exact ⟨k,ns,rfl,rfl,c.1,c.2,rfl⟩
   ·cases h
 ·cases h
def zjm(f:M D)(g:M (List D)):M D:=zau f λy=>zau g λxs=>mOpt (match y with | .list ds=>zeq (.list ds) xs|_=>none)
theorem zlI{apos cpos:Pos}{f:M D}{g:M (List D)}(ho:PE X o (tD X.K B G0 f))(ha:PA X (e::es) (tDs X.K B G0 g))
  (hbase:attributeBase o "index" X.env (eval o X.env)=eval o X.env:=by rfl)
  (hfew:((backTo cpos (starEach (e::es) X.env)).all (λx=>!x.1)&&(backToKw cpos (keywordEach [] X.env)).all (λx=>x.1.isSome)
   && decide ((e::es).length+([]:List Keyword).length+(if ([]:List Keyword).isEmpty then 0 else 1)<30))=true:=by rfl)
  (hline:(apos.endLine==cpos.line)=true:=by rfl) (hs:starEach (e::es) X.env=(false,eval e X.env)::starEach es X.env:=by rfl) (hplain:(backTo cpos (starEach es X.env)).any (·.1)=false:=by rfl) :
  PE X (.Call (.Attribute o "index" apos) (e::es) [] cpos) (tD X.K B G0 (zjm f g)) :=
 peof (zoY F.plainAttrs_list F.slot_list_index F.type_list_index zlH ho ha hbase hfew hline hs hplain) λσ H Q q=>by
  refine tM.one (R:=Rep X.K) q λv H2 G Z y k r a=>?_
  cases y with
  |list ds=>
   obtain ⟨l,ws,rfl,h1,r1⟩:=r.lst_inv;refine ⟨.inl ⟨rfl,ws,k.gh.seq h1⟩,?_⟩;refine tM.nx (R:=Reps X.K) k a λxs H3 G3 Z3 es k3 s3 r3 a3=>?_;obtain ⟨d,e,a3⟩:=a3.opt;obtain ⟨x,ns,rfl,z,hl,hk,rfl⟩:=ziz e;obtain ⟨u,rfl,ru⟩:=r3.one_inv
   have:=zcg r1 z
   subst this;exact ⟨l,x,ns,rfl,by rw[ru.int_inv],k3.gh.seq (s3.seq h1),hl,hk,aft.now a3 k3 (.int _)⟩
  |_=>
   unfold zau at a
   cases z:g Z with
   |bad=>rw[z] at a;exact a.elim
   |ok xs Z1=>rw[z] at a;exact a.elim
theorem zjn{f:M D}{g:M (List D)}{Z Z1 Z2:DEnv}{ds:List D}{x d:D}(h1:f Z=.ok (.list ds) Z1)(h2:g Z1=.ok [x] Z2)(h3:zeq (.list ds) [x]=some d):zjm f g Z=.ok d Z2:=by
 unfold zjm zau;rw[h1];dsimp only;rw[h2];dsimp only;rw[h3]
 rfl
end
end DL
namespace DL
open PySem PySem.Spec PySem.W PyProof.Rows
def runT{α:Type}(lt:Nat->Nat->Bool):KasT α->α
 |.ret a=>a
 |.ask i j k=>runT lt (k (lt i j))
theorem zcZ{α β:Type}{lt:Nat->Nat->Bool}{f:α->KasT β}:∀t:KasT α,runT lt (t.bind f)=runT lt (f (runT lt t))
 |.ret _=>rfl
 |.ask i j k=>by show runT lt ((k (lt i j)).bind f)=_;rw[zcZ];rfl
section
variable{key:Nat->Int}{p:Array Nat}
def KA(key:Nat->Int)(p:Array Nat)(i:Nat):Int:=key (p.getD i 0)
def srt(key:Nat->Int)(p:Array Nat)(m:Nat):Prop:=∀i j,i<=j->j<m->KA key p i<=KA key p j
def dsc(key:Nat->Int)(p:Array Nat)(m:Nat):Prop:=∀i j,i<=j->j<m->KA key p j<=KA key p i
abbrev kl(key:Nat->Int)(i j:Nat):Bool:=decide (key i<key j)
theorem zhs{k d i:Nat}(hk:k<p.size)(hd:d<=k):KA key (bubble p k d) i=if i=k-d then KA key p k else if k-d<i/\i<=k then KA key p (i-1) else KA key p i:=by
 unfold KA;simp only[Jg];rw[getElem?_bubble hk d hd]
 repeat' split
 all_goals rfl
theorem zht{i j k:Nat}(hj:j<=p.size):KA key (kas_rev p i j) k=if i<=k/\k<j then KA key p (i+j-1-k) else KA key p k:=by
 unfold KA kas_rev;simp only[Jg];rw[getElem?_mirror_all hj]
 split <;> rfl
theorem zc7{i j:Nat}:(kas_rev p i j).size=p.size:=mirror_size _ _ _ _
theorem zcv{i j:Nat}:(kas_rev p i j).Perm p:=mirror_perm _ _ _ _
theorem zgv:∀(f n:Nat),1<=n->srt key p n->srt key p (runT (kl key) (kas_asc p f n))/\n<=runT (kl key) (kas_asc p f n)/\runT (kl key) (kas_asc p f n)<=n+f /\
  (runT (kl key) (kas_asc p f n)<n+f->KA key p (runT (kl key) (kas_asc p f n))<KA key p (runT (kl key) (kas_asc p f n)-1))
 |0,n,h1,hs=>⟨hs,Qx _,Qx _,λh=>absurd h (Jv _)⟩
 |f+1,n,h1,hs=>by
  unfold kas_asc runT
  cases c:kl key (p.getD n 0) (p.getD (n-1) 0) with
  |true=>
   dsimp only;rw[Qm rfl];exact ⟨hs,Qx _,by show n<=n+(f+1);omega,λ_=>Qa c⟩
  |false=>
   dsimp only;rw[Qy (by decide)]
   have hle:KA key p (n-1)<=KA key p n:=Uq.mp (Jf c)
   obtain ⟨a1,a2,a3,a4⟩:=zgv f (n+1) (by omega) (λi j hij hj=>by
    by_cases hjn:j=n
    ·subst hjn
     by_cases hin:i=j
     ·subst hin;exact QW _
     ·exact JQ (hs i (j-1) (by omega) (by omega)) hle
    ·exact hs i j hij (by omega))
   exact ⟨a1,by omega,by omega,λh=>a4 (by omega)⟩
def eqs(key:Nat->Int)(p:Array Nat)(n q:Nat):Prop:=∀i,n-1-q<=i->i<n->KA key p i=KA key p (n-1)
theorem zdU:∀(f:Nat)(p:Array Nat)(n q:Nat),1<=n->q+1<=n->n+f<=p.size->dsc key p n->eqs key p n q ->
  let r:=runT (kl key) (kas_desc f p n q)
  r.1.Perm p/\r.1.size=p.size/\dsc key r.1 r.2.1/\eqs key r.1 r.2.1 r.2.2/\r.2.2+1<=r.2.1/\n<=r.2.1/\r.2.1<=n+f
 |0,p,n,q,h1,hq,hz,hd,he=>⟨Ul _,rfl,hd,he,hq,Qx _,Qx _⟩
 |f+1,p,n,q,h1,hq,hz,hd,he=>by
  intro r;have hr:r=runT (kl key) (kas_desc (f+1) p n q):=rfl;unfold kas_desc runT at hr
  cases c:kl key (p.getD n 0) (p.getD (n-1) 0) with
  |true=>
   rw[c] at hr;(try dsimp only at hr);rw[if_pos rfl] at hr;have hlt:KA key p n<KA key p (n-1):=Qa c
   have ext:∀p':Array Nat,(∀i,KA key p' i=KA key p i)->dsc key p' (n+1)/\eqs key p' (n+1) 0:=λp' hp=>⟨λi j hij hj=>by
     rw[hp,hp]
     by_cases hjn:j=n
     ·subst hjn
      by_cases hin:i=j
      ·subst hin;exact QW _
      ·exact JQ (Int.le_of_lt hlt) (hd i (j-1) (by omega) (by omega))
     ·exact hd i j hij (by omega),λi hi1 hi2=>by
     have:i=n:=by omega
     subst this;rfl⟩
   by_cases hq0:q > 0
   ·rw[Qm hq0] at hr
    have same:∀i,KA key (kas_rev p (n-(q+1)) n) i=KA key p i:=λi=>by
     rw[zht (by omega)]
     split
     ·rw[he _ (by omega) (by omega),he i (by omega) (by omega)]
     ·rfl
    obtain ⟨d1,e1⟩:=ext _ same;obtain ⟨a1,a2,a3,a4,a5,a6,a7⟩:=zdU f (kas_rev p (n-(q+1)) n) (n+1) 0 (by omega) (by omega) (by rw[zc7];omega) d1 e1
    rw[←hr] at a1 a2 a3 a4 a5 a6 a7;exact ⟨a1.trans zcv,a2.trans zc7,a3,a4,a5,by omega,by omega⟩
   ·rw[Qy hq0] at hr
    obtain ⟨d1,e1⟩:=ext p λ_=>rfl;obtain ⟨a1,a2,a3,a4,a5,a6,a7⟩:=zdU f p (n+1) 0 (by omega) (by omega) (by omega) d1 e1
    rw[←hr] at a1 a2 a3 a4 a5 a6 a7;exact ⟨a1,a2,a3,a4,a5,by omega,by omega⟩
  |false=>
   rw[c] at hr;(try dsimp only at hr);rw[if_neg (by decide)] at hr
   unfold runT at hr;have hle:KA key p (n-1)<=KA key p n:=Uq.mp (Jf c)
   cases d:kl key (p.getD (n-1) 0) (p.getD n 0) with
   |true=>
    rw[d] at hr;(try dsimp only at hr);rw[if_pos rfl] at hr;unfold runT at hr;rw[hr];exact ⟨Ul _,rfl,hd,he,hq,Qx _,by show n<=n+(f+1);omega⟩
   |false=>
    rw[d] at hr;(try dsimp only at hr);rw[if_neg (by decide)] at hr
    have hge:KA key p n<=KA key p (n-1):=Uq.mp (Jf d)
    obtain ⟨a1,a2,a3,a4,a5,a6,a7⟩:=zdU f p (n+1) (q+1) (by omega) (by omega) (by omega) (λi j hij hj=>by
     by_cases hjn:j=n
     ·subst hjn
      by_cases hin:i=j
      ·subst hin;exact QW _
      ·exact JQ hge (hd i (j-1) (by omega) (by omega))
     ·exact hd i j hij (by omega)) (λi hi1 hi2=>by
     have e0:KA key p n=KA key p (n-1):=JP hge hle;show KA key p i=KA key p (n+1-1);rw[J6,e0]
     by_cases hin:i=n
     ·subst hin;exact e0
     ·exact he i (by omega) (by omega))
    rw[←hr] at a1 a2 a3 a4 a5 a6 a7;exact ⟨a1,a2,a3,a4,a5,by omega,by omega⟩
theorem zfZ{n nrem:Nat}(h1:1<=n)(hn:n<=nrem)(hz:nrem<=p.size)(hd:dsc key p n) :
  let r:=runT (kl key) (kas_tail3 n nrem p)
  r.2.Perm p/\r.2.size=p.size/\srt key r.2 r.1/\1<=r.1/\r.1<=nrem:=by
 intro r;have hr:r=runT (kl key) (kas_tail3 n nrem p):=rfl;unfold kas_tail3 at hr;rw[zcZ] at hr
 have hs:srt key (kas_rev p 0 n) n:=λi j hij hj=>by
  rw[zht (by omega),zht (by omega),Qm (by omega),Qm (by omega)]
  exact hd _ _ (by omega) (by omega)
 obtain ⟨a1,a2,a3,_⟩:=zgv (key:=key) (p:=kas_rev p 0 n) (nrem-n) n h1 hs;rw[hr];exact ⟨zcv,zc7,a1,by show 1<=runT _ _;omega,by show runT _ _<=_;omega⟩
theorem zdV{n nrem:Nat}(h1:1<=n)(hn:n+1<=nrem)(hz:nrem<=p.size)(hd:dsc key p (n+1)) :
  let r:=runT (kl key) (kas_descPart n nrem p)
  r.2.Perm p/\r.2.size=p.size/\srt key r.2 r.1/\1<=r.1/\r.1<=nrem:=by
 intro r;have hr:r=runT (kl key) (kas_descPart n nrem p):=rfl;unfold kas_descPart at hr;rw[zcZ] at hr
 obtain ⟨a1,a2,a3,a4,a5,a6,a7⟩:=zdU (key:=key) (nrem-(n+1)) p (n+1) 0 (by omega) (by omega) (by omega) hd (λi hi1 hi2=>by
  have:i=n:=by omega
  subst this;rfl)
 generalize runT (kl key) (kas_desc (nrem-(n+1)) p (n+1) 0)=d at hr a1 a2 a3 a4 a5 a6 a7;obtain ⟨p1,n1,q1⟩:=d;dsimp only at hr a1 a2 a3 a4 a5 a6 a7
 by_cases hq:q1 > 0
 ·rw[Qm hq] at hr
  have same:∀i,KA key (kas_rev p1 (n1-(q1+1)) n1) i=KA key p1 i:=λi=>by
   rw[zht (by omega)]
   split
   ·rw[a4 _ (by omega) (by omega),a4 i (by omega) (by omega)]
   ·rfl
  obtain ⟨b1,b2,b3,b4,b5⟩:=zfZ (key:=key) (p:=kas_rev p1 (n1-(q1+1)) n1) (n:=n1) (nrem:=nrem) (by omega) (by omega) (by rw[zc7];omega) (λi j hij hj=>by rw[same,same];exact a3 i j hij hj)
  rw[hr];exact ⟨(b1.trans zcv).trans a1,(b2.trans zc7).trans a2,b3,b4,b5⟩
 ·rw[Qy hq] at hr
  obtain ⟨b1,b2,b3,b4,b5⟩:=zfZ (key:=key) (p:=p1) (n:=n1) (nrem:=nrem) (by omega) (by omega) (by omega) a3
  rw[hr];exact ⟨b1.trans a1,b2.trans a2,b3,b4,b5⟩
theorem zkj{nrem:Nat}(h1:1<=nrem)(hz:nrem<=p.size) :
  let r:=runT (kl key) (kas_count nrem p)
  r.2.Perm p/\r.2.size=p.size/\srt key r.2 r.1/\1<=r.1/\r.1<=nrem:=by
 intro r;have hr:r=runT (kl key) (kas_count nrem p):=rfl;unfold kas_count at hr;rw[zcZ] at hr
 obtain ⟨a1,a2,a3,a4⟩:=zgv (key:=key) (p:=p) (nrem-1) 1 (Qx _) (λi j hij hj=>by
  have:i=j:=by omega
  subst this;exact QW _)
 generalize runT (kl key) (kas_asc p (nrem-1) 1)=n at hr a1 a2 a3 a4
 by_cases hn:(n==nrem)=true
 ·rw[Qm hn] at hr
  unfold runT at hr;rw[hr];exact ⟨Ul _,rfl,a1,a2,by show n<=nrem;omega⟩
 ·rw[Qy hn] at hr
  have hne:n≠nrem:=by simpa using hn
  have hlt:=a4 (by omega)
  by_cases hn1:n > 1
  ·rw[Qm hn1] at hr
   unfold runT at hr
   cases c:kl key (p.getD 0 0) (p.getD (n-1) 0) with
   |true=>
    rw[c] at hr;(try dsimp only at hr);rw[if_pos rfl] at hr;unfold runT at hr;rw[hr];exact ⟨Ul _,rfl,a1,a2,by show n<=nrem;omega⟩
   |false=>
    rw[c] at hr;(try dsimp only at hr);rw[if_neg (by decide)] at hr
    have hge:KA key p (n-1)<=KA key p 0:=Uq.mp (Jf c);have all:∀i,i<n->KA key p i=KA key p 0:=λi hi=>JP (JQ (a1 i (n-1) (by omega) (by omega)) hge) (a1 0 i (by omega) hi)
    have same:∀i,KA key (kas_rev p 0 n) i=KA key p i:=λi=>by
     rw[zht (by omega)]
     split
     ·rw[all _ (by omega),all i (by omega)]
     ·rfl
    obtain ⟨b1,b2,b3,b4,b5⟩:=zdV (key:=key) (p:=kas_rev p 0 n) (n:=n) (nrem:=nrem) a2 (by omega) (by rw[zc7];exact hz) (λi j hij hj=>by
     rw[same,same]
     by_cases hjn:j=n
     ·subst hjn
      by_cases hin:i=j
      ·subst hin;exact QW _
      ·rw[all i (by omega)]
       rw[all (j-1) (by omega)] at hlt
       exact Int.le_of_lt hlt
     ·rw[all i (by omega),all j (by omega)];exact QW _)
    rw[hr];exact ⟨b1.trans zcv,b2.trans zc7,b3,b4,b5⟩
  ·rw[Qy hn1] at hr
   have:n=1:=by omega
   subst this
   obtain ⟨b1,b2,b3,b4,b5⟩:=zdV (key:=key) (p:=p) (n:=1) (nrem:=nrem) (Qx _) (by omega) hz (λi j hij hj=>by
    by_cases hij2:i=j
    ·subst hij2;exact QW _
    ·have h0:i=0:=by omega
     have h1:j=1:=by omega
     subst h0;subst h1;exact Int.le_of_lt hlt)
   rw[hr];exact ⟨b1,b2,b3,b4,b5⟩
theorem zer{k:Nat}(hs:srt key p k):∀(f l r:Nat),l<=r->r<=k->r-l<=f->(∀i,i<l->KA key p i<=KA key p k)->(∀i,r<=i->i<k->KA key p k<KA key p i) ->
  let m:=runT (kl key) (kas_place p k f l r)
  m<=k/\(∀i,i<m->KA key p i<=KA key p k)/\(∀i,m<=i->i<k->KA key p k<KA key p i)
 |0,l,r,hlr,hrk,hf,h1,h2=>⟨by show l<=k;omega,h1,λi (hi:l<=i)=>h2 i (by omega)⟩
 |f+1,l,r,hlr,hrk,hf,h1,h2=>by
  intro m;have hm:m=runT (kl key) (kas_place p k (f+1) l r):=rfl;unfold kas_place at hm
  by_cases hge:l ≥ r
  ·rw[Qm hge] at hm
   unfold runT at hm;rw[hm];exact ⟨by omega,h1,λi hi=>h2 i (by omega)⟩
  ·rw[Qy hge] at hm
   unfold runT at hm
   cases c:kl key (p.getD k 0) (p.getD ((l+r) / 2) 0) with
   |true=>
    rw[c] at hm;(try dsimp only at hm);rw[if_pos rfl] at hm;rw[hm];have hlt:KA key p k<KA key p ((l+r) / 2):=Qa c;exact zer hs f l ((l+r) / 2) (by omega) (by omega) (by omega) h1 λi hi hik=>Int.lt_of_lt_of_le hlt (hs _ _ hi hik)
   |false=>
    rw[c] at hm;(try dsimp only at hm);rw[if_neg (by decide)] at hm
    rw[hm];have hle:KA key p ((l+r) / 2)<=KA key p k:=Uq.mp (Jf c);exact zer hs f ((l+r) / 2+1) r (by omega) hrk (by omega) (λi hi=>JQ (hs i ((l+r) / 2) (by omega) (by omega)) hle) h2
theorem zjo:∀(f:Nat)(p:Array Nat)(k:Nat),k+f<=p.size->srt key p k->let r:=runT (kl key) (kas_bin f p k);r.Perm p/\r.size=p.size/\srt key r (k+f)
 |0,p,k,_,hs=>⟨Ul _,rfl,hs⟩
 |f+1,p,k,hz,hs=>by
  intro r;have hr:r=runT (kl key) (kas_bin (f+1) p k):=rfl;unfold kas_bin at hr;rw[zcZ] at hr;obtain ⟨a1,a2,a3⟩:=zer (key:=key) hs k 0 k (JY _) (Qx _) (by omega) (λi hi=>by omega) (λi h1 h2=>by omega)
  generalize runT (kl key) (kas_place p k k 0 k)=l at hr a1 a2 a3;have hk:k<p.size:=by omega
  obtain ⟨b1,b2,b3⟩:=zjo f (bubble p k (k-l)) (k+1) (by rw[bubble_size];omega) (λi j hij hj=>by
   rw[zhs hk (by omega),zhs hk (by omega),show k-(k-l)=l by omega]
   by_cases hi:i=l
   ·rw[Qm hi]
    by_cases hjl:j=l
    ·rw[Qm hjl];exact QW _
    ·rw[Qy hjl,Qm (by omega)]
     exact Int.le_of_lt (a3 (j-1) (by omega) (by omega))
   ·rw[Qy hi]
    by_cases hi2:l<i/\i<=k
    ·rw[Qm hi2,Qy (show ¬j=l by omega),Qm (by omega)]
     exact hs _ _ (by omega) (by omega)
    ·rw[Qy hi2]
     by_cases hjl:j=l
     ·rw[Qm hjl];exact a2 i (by omega)
     ·rw[Qy hjl]
      split
      ·exact hs _ _ (by omega) (by omega)
      ·exact hs _ _ (by omega) (by omega))
  rw[hr];exact ⟨b1.trans (bubble_perm _ _ _),b2.trans (bubble_size _ _ _),by rw[show k+(f+1)=k+1+f by omega];exact b3⟩
theorem zlJ{n:Nat}(h1:1<=n):let r:=runT (kl key) (kas_sort n);r.Perm (List.toArray (List.range n))/\r.size=n/\srt key r n:=by
 intro r;have hr:r=runT (kl key) (kas_sort n):=rfl;unfold kas_sort at hr;rw[zcZ] at hr;have hsz:(List.toArray (List.range n)).size=n:=by simp
 obtain ⟨a1,a2,a3,a4,a5⟩:=zkj (key:=key) (p:=List.toArray (List.range n)) (nrem:=n) h1 (by rw[hsz];exact Qx _)
 generalize runT (kl key) (kas_count n (List.toArray (List.range n)))=d at hr a1 a2 a3 a4 a5
 by_cases hlt:d.1<n
 ·rw[Qm hlt] at hr
  have hmax:max d.1 1=d.1:=by omega
  rw[hmax] at hr;obtain ⟨b1,b2,b3⟩:=zjo (key:=key) (n-d.1) d.2 d.1 (by omega) a3
  rw[hr];exact ⟨b1.trans a1,by omega,by rw[show d.1+(n-d.1)=n by omega] at b3;exact b3⟩
 ·rw[Qy hlt] at hr
  unfold runT at hr;rw[hr];exact ⟨a1,by omega,by rw[show d.1=n by omega] at a3;exact a3⟩
def Asks{α:Type}(N:Nat)(R:α->Prop):KasT α->Prop
 |.ret a=>R a
 |.ask i j k=>i<N/\j<N/\∀b,Asks N R (k b)
theorem Asks.bind{α β:Type}{N:Nat}{R:α->Prop}{S:β->Prop}{f:α->KasT β}(hf:∀a,R a->Asks N S (f a)):∀{t:KasT α},Asks N R t->Asks N S (t.bind f)
 |.ret a,h=>hf a h
 |.ask _ _ k,⟨h1,h2,h3⟩=>⟨h1,h2,λb=>Asks.bind hf (h3 b)⟩
theorem zjp{α:Type}{lt:Nat->Nat->Bool}{cmp:Nat->Nat->(Bool->Shared->Prop)->Shared->Prop}{s:Shared}{N:Nat}{R:α->Prop}(hc:∀i j C,i<N->j<N->C (lt i j) s->cmp i j C s):∀(t:KasT α)(Q:α->Shared->Prop),Asks N R t->Q (runT lt t) s->t.kasWp cmp Q s
 |.ret _,_,_,h=>h
 |.ask i j k,Q,⟨h1,h2,h3⟩,h=>hc i j _ h1 h2 (zjp hc (k (lt i j)) Q (h3 _) h)
def bnd(N:Nat)(p:Array Nat):Prop:=∀i,p.getD i 0<N
theorem zdr{N:Nat}{p q:Array Nat}(hN:0<N)(h:bnd N p)(e:q.Perm p):bnd N q:=λi=>by
 rw[Jg]
 cases z:q[i]? with
 |none=>exact hN
 |some v=>
  have hm:v∈q:=Array.mem_of_getElem? z;have hm2:v∈p:=e.mem_iff.mp hm;obtain ⟨j,hj,e2⟩:=Array.mem_iff_getElem.mp hm2
  have:=h j
  rw[Jg,JN hj,e2] at this;exact this
section
variable{N:Nat}(hN:0<N)
include hN
theorem zgw{p:Array Nat}(h:bnd N p):∀(f n:Nat),Asks N (λ_=>True) (kas_asc p f n)
 |0,_=>trivial
 |f+1,n=>⟨h _,h _,λb=>by
  cases b with
  |true=>(try dsimp only);rw[if_pos rfl];trivial
  |false=>(try dsimp only);rw[if_neg (by decide)];exact zgw h f (n+1)⟩
theorem zdW:∀(f:Nat)(p:Array Nat)(n q:Nat),bnd N p->Asks N (λr=>bnd N r.1) (kas_desc f p n q)
 |0,p,_,_,h=>h
 |f+1,p,n,q,h=>⟨h _,h _,λb=>by
  cases b with
  |true=>
   dsimp only;rw[Qm rfl];split
   ·exact zdW f _ _ _ (zdr hN h zcv)
   ·exact zdW f _ _ _ h
  |false=>
   dsimp only;rw[Qy (by decide)]
   refine ⟨h _,h _,λb=>?_⟩
   cases b with
   |true=>(try dsimp only);rw[if_pos rfl];exact h
   |false=>(try dsimp only);rw[if_neg (by decide)];exact zdW f _ _ _ h⟩
theorem zf0{p:Array Nat}{n nrem:Nat}(h:bnd N p):Asks N (λr=>bnd N r.2) (kas_tail3 n nrem p) :=
 Asks.bind (N:=N) (R:=λ_=>True) (S:=λr:Nat×Array Nat=>bnd N r.2) (f:=λm=>.ret (m,kas_rev p 0 n)) (λ_ _=>zdr (p:=p) (q:=kas_rev p 0 n) hN h zcv) (zgw hN (zdr hN h zcv) _ _)
theorem zdX{p:Array Nat}{n nrem:Nat}(h:bnd N p):Asks N (λr=>bnd N r.2) (kas_descPart n nrem p) :=
 Asks.bind (λr hr=>by
  split
  ·exact zf0 hN (zdr hN hr zcv)
  ·exact zf0 hN hr) (zdW hN _ _ _ _ h)
theorem zkk{p:Array Nat}{nrem:Nat}(h:bnd N p):Asks N (λr=>bnd N r.2) (kas_count nrem p) :=
 Asks.bind (R:=λ_=>True) (λn _=>by
  split
  ·exact h
  ·split
   ·refine ⟨h _,h _,λb=>?_⟩
    cases b with
    |true=>(try dsimp only);rw[if_pos rfl];exact h
    |false=>(try dsimp only);rw[if_neg (by decide)];exact zdX hN (zdr hN h zcv)
   ·exact zdX hN h) (zgw hN h _ _)
theorem zes{p:Array Nat}(h:bnd N p)(k:Nat):∀(f l r:Nat),Asks N (λ_=>True) (kas_place p k f l r)
 |0,_,_=>trivial
 |f+1,l,r=>by
  unfold kas_place;split
  ·trivial
  ·refine ⟨h _,h _,λb=>?_⟩
   cases b with
   |true=>(try dsimp only);rw[if_pos rfl];exact zes h k f _ _
   |false=>(try dsimp only);rw[if_neg (by decide)];exact zes h k f _ _
theorem zjq:∀(f:Nat)(p:Array Nat)(k:Nat),bnd N p->Asks N (λ_=>True) (kas_bin f p k)
 |0,_,_,_=>trivial
 |f+1,p,k,h=>Asks.bind (R:=λ_=>True) (λl _=>zjq f _ _ (zdr hN h (bubble_perm _ _ _))) (zes hN h k _ _ _)
end
theorem zlK{n:Nat}(hn:0<n):Asks n (λ_=>True) (kas_sort n):=by
 have hb:bnd n (List.toArray (List.range n)):=λi=>by
  rw[Jg]
  by_cases hi:i<n
  ·simp[hi]
  ·simp[hi,hn]
 refine Asks.bind (λr hr=>?_) (zkk hn hb);split
 ·exact zjq hn _ _ _ hr
 ·trivial
end
def keyP(q:Int×Int):Int:=q.1*10000000+q.2
def okP(q:Int×Int):Prop:=-1000000<=q.2/\q.2<=1000000
theorem zpo{x y:Int×Int}(hx:okP x)(hy:okP y):keyP x<keyP y ↔ (x.1<y.1∨x.1=y.1/\x.2<y.2):=by
 unfold keyP okP at *;omega
theorem znG{x y:Int×Int}(hx:okP x)(hy:okP y)(h:keyP x=keyP y):x=y:=by
 unfold keyP okP at *;have h1:x.1=y.1:=by omega
 have h2:x.2=y.2:=by omega
 exact Prod.ext h1 h2
section
variable{prog:Program}{w:World}{A:Around}{E:Value->Shared->Prop}{s:Shared}
def zjr(h:Heap)(v:Value)(q:Int×Int):Prop:=∃a t u o n,v=.ref a/\h.get? a=some o/\o.cls=.type "tuple" /\ o.data=.seq #[.int q.1 t,.int q.2 u] n
theorem zpp{x y:Value}{p q:Int×Int}{Q:Bool->Shared->Prop}(hx:zjr s.heap x p)(hy:zjr s.heap y q)(h:Q (decide (p.1<q.1∨p.1=q.1/\p.2<q.2)) s):wpAny (model prog w) A (keyLt' (tuples' true) x y) Q E s:=by
 obtain ⟨a,t,u,o,n,rfl,e1,c1,d1⟩:=hx;obtain ⟨b,t',u',o',n',rfl,e2,c2,d2⟩:=hy;refine kat_lt e1 d1 e2 d2 ?_;show KatLex prog w A true _ Q [(Value.int p.1 t,Value.int q.1 t'),(Value.int p.2 u,Value.int q.2 u')] 0 s;refine kat_cons (wpAny_eqBool_int ?_)
 by_cases h1:p.1=q.1
 ·have e:(p.1==q.1)=true:=by simpa using h1
  rw[e];refine kat_yes (kat_cons (wpAny_eqBool_int ?_))
  by_cases h2:p.2=q.2
  ·have e:(p.2==q.2)=true:=by simpa using h2
   rw[e];refine kat_yes (kat_nil ?_)
   have:decide (p.1<q.1∨p.1=q.1/\p.2<q.2)=false:=QN (by omega)
   rw[this] at h;exact h
  ·have e:(p.2==q.2)=false:=by simpa using h2
   rw[e];refine kat_no (kat_one _ _ (PyProof.Rows.lt_int ?_))
   have:decide (p.1<q.1∨p.1=q.1/\p.2<q.2)=decide (p.2<q.2):=by
    by_cases z:p.2<q.2
    ·rw[Q3 z,Q3 (.inr ⟨h1,z⟩)]
    ·rw[QN z,QN (by omega)]
   rw[this] at h;exact h
 ·have e:(p.1==q.1)=false:=by simpa using h1
  rw[e];refine kat_no (oneLt_int ?_)
  have:decide (p.1<q.1∨p.1=q.1/\p.2<q.2)=decide (p.1<q.1):=by
   by_cases z:p.1<q.1
   ·rw[Q3 z,Q3 (.inl z)]
   ·rw[QN z,QN (by omega)]
  rw[this] at h;exact h
def zbO(h:Heap):List Value->LP->Prop
 |[],[]=>True
 |v::vs,q::qs=>zjr h v q/\zbO h vs qs
 |_,_=>False
theorem zbO.get{h:Heap}:∀{vs:List Value}{qs:LP},zbO h vs qs->vs.length=qs.length/\∀(i:Nat)(hi:i<vs.length),zjr h (vs.getD i .none) (qs.getD i (0,0))
 |[],[],_=>⟨rfl,λi hi=>absurd hi (J9 _)⟩
 |v::vs,q::qs,⟨h1,h2⟩=>by
  obtain ⟨e,f⟩:=zbO.get h2;refine ⟨by simp[e],λi hi=>?_⟩
  cases i with
  |zero=>exact h1
  |succ i=>exact f i (by simpa using hi)
theorem zbO.tups{h:Heap}:∀{vs:List Value}{qs:LP},zbO h vs qs->∃fs:List Value,KatTups h vs fs/\fs.length=vs.length/\∀v∈fs,∃i t,v=.int i t
 |[],[],_=>⟨[],trivial,rfl,λ_ h=>by cases h⟩
 |v::vs,q::qs,⟨hp,h2⟩=>by
  obtain ⟨a,t,u,o,n,rfl,e1,c1,d1⟩:=hp;obtain ⟨fs,f1,f2,f3⟩:=zbO.tups h2;refine ⟨.int q.1 t::fs,.cons e1 c1 d1 rfl f1,by simp[f2],λv hv=>?_⟩
  rcases QU.mp hv with rfl|hv
  ·exact ⟨_,_,rfl⟩
  ·exact f3 v hv
theorem zbO.mono{h h':Heap}(k:∀b o,h.get? b=some o->h'.get? b=some o):∀{vs:List Value}{qs:LP},zbO h vs qs->zbO h' vs qs
 |[],[],_=>trivial
 |v::vs,q::qs,⟨hp,h2⟩=>by
  obtain ⟨a,t,u,o,n,rfl,e1,c1,d1⟩:=hp;exact ⟨⟨a,t,u,o,n,rfl,k _ _ e1,c1,d1⟩,zbO.mono k h2⟩
def znH(qs:LP)(π:List Nat):Prop:=π.Perm (List.range qs.length)/\(π.map λi=>qs.getD i (0,0)).Pairwise λx y=>keyP x<=keyP y
theorem zfn{a:Addr}{vs:List Value}{qs:LP}{n:Nat}{P:Fin->Shared->Prop}(ho:s.heap.get? a=some (seqObj "list" vs.toArray n))
  (hp:zbO ((s.heap.update a (Obj.mapSeq λ_=>#[]))) vs qs) (hq:∀q∈qs,okP q) (h64:vs.length<64)
  (h:∀π:List Nat,znH qs π->P (.done (.ret .none)) { s with heap:=sortedHeap s.heap a vs (List.toArray (π.map λi=>vs.getD i .none)) }) :
  wpAny (model prog w) A (Builtin.«list.sort» ⟨[.ref a],[]⟩) P E s:=by
 obtain ⟨hl,hget⟩:=hp.get;rw[list_sort_plain];have ha:a<s.heap.objs.size:=Qi ho;refine Qf (listItems_at ho rfl ?_);refine Qf (listUpdate_at ho rfl ?_)
 obtain ⟨e1,ho1⟩:∃e1,(s.heap.update a (Obj.mapSeq λ_=>#[])).get? a=some (seqObj "list" #[] e1):=⟨_,get?_update_seq ho (λ_=>#[])⟩
 refine Qf (seqEpoch_at ho1 rfl ?_);refine Qf (wpAny_newTuple ?_);refine Qf (wpAny_newList ?_);refine wpAny_holding ?_
 have ho6:(((s.heap.update a (Obj.mapSeq λ_=>#[])).push (seqObj "tuple" vs.toArray 0)).push (seqObj "list" #[] 0)).get? a=some (seqObj "list" #[] e1):=by
  rw[Heap.get?_push_ne _ _ _ (by rw[size_push',Heap.size_update];exact QT (Ue ha)),Heap.get?_push_ne _ _ _ (by rw[Heap.size_update];exact QT ha)]
  exact ho1
 have hp6:zbO (((s.heap.update a (Obj.mapSeq λ_=>#[])).push (seqObj "tuple" vs.toArray 0)).push (seqObj "list" #[] 0)) vs qs:=hp.mono λb o e=>Qk _ (Qk _ e)
 show wpAny (model prog w) A _ P E { s with heap:=((s.heap.update a (Obj.mapSeq λ_=>#[])).push (seqObj "tuple" vs.toArray 0)).push (seqObj "list" #[] 0) }
 dsimp only;have hsz:vs.toArray.size=vs.length:=by simp
 by_cases h2:vs.toArray.size<2
 ·rw[Qm h2,Qm h2]
  refine Qf (Qn ?_);rw[StateT.run_pure];refine Qf (Qn ?_);dsimp only;refine Qf (seqEpoch_at ho6 rfl ?_);refine Qf (listUpdate_at ho6 rfl ?_ (hsz2:=by rw[Array.size_map];show (pairsOf vs).size<=_;rw[pairsOf_size,sizeLine_eq];omega))
  simp only[bne_self_eq_false,J5,if_false]
  have hid:(arrOf (SortSt.mk' general' (vs.toArray.zip vs.toArray) #[] 7 none)).map (·.2)=List.toArray ((List.range vs.length).map λi=>vs.getD i .none):=by
   show (vs.toArray.zip vs.toArray).map (·.2)=_;apply Array.toList_inj.mp;apply Jm;intro i;simp only[Array.toList_map,Array.toList_zip,Qd,List.getElem?_zip_eq_some]
   by_cases hi:i<vs.length
   ·simp[List.getElem?_zip_eq_some,hi,List.getElem?_range]
   ·simp[hi]
  rw[hid];refine Qn (h (List.range vs.length) ⟨by rw[hl],?_⟩)
  rw[Uf];rw[hsz] at h2;rcases (show vs.length=0∨vs.length=1 by omega) with z|z <;> rw[z]
  ·exact .nil
  ·exact List.pairwise_singleton _ _
 ·rw[Qy h2,Qy h2]
  rw[hsz] at h2;obtain ⟨fs,f1,f2,f3⟩:=hp6.tups
  refine Qf (kat_kind (T:=.type "int") f1 (by omega) (λv hv=>by obtain ⟨i,t,rfl⟩:=f3 v hv;exact (show Looks _ _ (pure (Value.type "int")) _ from .now)) rfl ?_)
  refine Qf (QM (kat_run (ks:=vs) (G:=λp s'=>s' = { s with heap:=((s.heap.update a (Obj.mapSeq λ_=>#[])).push (seqObj "tuple" vs.toArray 0)).push (seqObj "list" #[] 0) }/\p=runT (kl λi=>keyP (qs.getD i (0,0))) (kas_sort vs.length))
   (Q:=λst' s'=>s' = { s with heap:=((s.heap.update a (Obj.mapSeq λ_=>#[])).push (seqObj "tuple" vs.toArray 0)).push (seqObj "list" #[] 0) }/\failedOf st'=none/\arrOf st'=(runT (kl λi=>keyP (qs.getD i (0,0))) (kas_sort vs.length)).map (kas_item (vs.toArray.zip vs.toArray)))
   rfl (by omega) h64 (λp st' s' a1 a2 a3 a4=>⟨a4.1,a3,by rw[a2,a4.2]⟩) ?_) ?_ λ_ _ e=>e)
  ·refine zjp (N:=vs.length) (R:=λ_=>True) (lt:=kl λi=>keyP (qs.getD i (0,0))) (λi j C hi hj hC=>?_) _ _ (zlK (by omega)) ⟨rfl,rfl⟩
   refine zpp (zbO.get hp6 |>.2 i hi) (zbO.get hp6 |>.2 j hj) ?_;have oi:okP (qs.getD i (0,0)):=hq _ (by rw[Qg,Qe (by omega)];exact JI _)
   have oj:okP (qs.getD j (0,0)):=hq _ (by rw[Qg,Qe (by omega)];exact JI _)
   have e:decide ((qs.getD i (0,0)).1<(qs.getD j (0,0)).1∨(qs.getD i (0,0)).1=(qs.getD j (0,0)).1/\(qs.getD i (0,0)).2<(qs.getD j (0,0)).2)=kl (λi=>keyP (qs.getD i (0,0))) i j:=by
    unfold kl;exact decide_eq_decide.mpr (zpo oi oj).symm
   rw[e];exact hC
  ·rintro ⟨⟨⟩,st'⟩ s' ⟨rfl,hf,har⟩
   dsimp only;obtain ⟨b1,b2,b3⟩:=zlJ (key:=λi=>keyP (qs.getD i (0,0))) (n:=vs.length) (by omega)
   generalize runT (kl λi=>keyP (qs.getD i (0,0))) (kas_sort vs.length)=p at har b1 b2 b3;have hout:=kat_snds (ks:=vs) (vs:=vs) rfl har;have hsz2:((arrOf st').map (·.2)).size=vs.length:=by rw[hout,QH,Qb,Jz,b2]
   refine Qf (seqEpoch_at ho6 rfl ?_);refine Qf (listUpdate_at ho6 rfl ?_ (hsz2:=by rw[hsz2,sizeLine_eq];omega))
   rw[hf];simp only[bne_self_eq_false,J5,if_false];rw[hout];refine Qn (h p.toList ⟨?_,?_⟩)
   ·have:=Array.perm_iff_toList_perm.mp b1
    rw[←hl];exact this
   ·rw[Uf,List.pairwise_iff_getElem]
    intro i j hi hj hij;rw[Jz,b2] at hi hj
    have:=b3 i j (by omega) hj
    unfold KA at this;rw[Jg,Jg,JN (by omega),JN (by omega)] at this
    simpa using this
end
section
variable{prog:Program}{w:World}{A:Around}{E:Value->Shared->Prop}{s:Shared}
theorem zhu{l:Addr}{vs:List Value}{qs:LP}{Q:Value->Shared->Prop}(hl:s.heap.IsList l vs.toArray)(hp:zbO s.heap vs qs)(hq:∀q∈qs,okP q)(h64:vs.length<64)
  (h:∀π:List Nat,znH qs π->Q (.ref (s.heap.objs.size+1)) { s with heap:=sortedAll s.heap vs (List.toArray (π.map λi=>vs.getD i .none)) }) :
  wpAny (model prog w) A (call (.builtin "sorted") [.ref l]) Q E s:=by
 refine Calls.call_function_entry kind_sorted plain_sorted entry_sorted (args_sorted1 _) ?_;unfold Builtin.«sorted»
 refine Qf (m:=checkCount "sorted" 1 1 _) (Qn ?_)
 refine Qf (collect_list hl ?_);refine Qf (wpAny_newList ?_)
 have hsz:((s.heap.push (seqObj "list" #[] 0)).update s.heap.objs.size (Obj.mapSeq (· ++ vs.toArray))).objs.size=s.heap.objs.size+1:=by
  rw[Heap.size_update,size_push']
 have hoL:(((s.heap.push (seqObj "list" #[] 0)).update s.heap.objs.size (Obj.mapSeq (· ++ vs.toArray))).push (seqObj "list" vs.toArray 0)).get? (s.heap.objs.size+1)=some (seqObj "list" vs.toArray 0):=by
  rw[←hsz];exact QE _ rfl
 show wpAny _ _ _ _ _ { s with heap:=((s.heap.push (seqObj "list" #[] 0)).update s.heap.objs.size (Obj.mapSeq (· ++ vs.toArray))).push (seqObj "list" vs.toArray 0) }
 rw[hsz];refine Qf (wpAny_holding (wpAny_call_entry slot_list_sort ⟨_,hoL,rfl⟩ entry_list_sort (zfn (qs:=qs) hoL (hp.mono λb o e=>?_) hq h64 λπ a1=>⟨_,rfl,?_⟩) (args_list_sort _)))
 ·have hlt:b<s.heap.objs.size:=Qi e
  dsimp only;have hlt':(b:Nat)<s.heap.objs.size:=hlt;rw[Heap.get?_update_ne _ _ _ _ (QT (Ue hlt')),Heap.get?_push_ne _ _ _ (by rw[hsz];exact QT (Ue hlt')),Heap.get?_update_ne _ _ _ _ (QT hlt),Heap.get?_push_ne _ _ _ (QT hlt)]
  exact e
 ·exact Qn ⟨_,rfl,h π a1⟩
end
end DL
namespace DL
open PySem PySem.Spec L2
open PyProof.Rows hiding St
section
variable{X:Cx}
theorem zjs{pins:List (Addr×Obj)}{s:Shared}{σ:St}{H:Hp}(I:Inv X pins σ H s):∀{as:List Addr}{us:List Value}{qs:LP},Vals (as.map V.ref) us->as.length=qs.length->(∀(i:Nat) a q,as[i]?=some a->qs[i]?=some q->SqT X.K H a [.int q.1,.int q.2])->zbO s.heap us qs
 |[],_,[],.nil,_,_=>trivial
 |a::as,_,q::qs,.cons r t,hl,h=>by
  refine ⟨?_,zjs I t (by simpa using hl) λi a q h1 h2=>h (i+1) a q (by simpa using h1) (by simpa using h2)⟩
  cases r;obtain ⟨its,rv,⟨o,e,c,n,d⟩,_⟩:=I.tuple (h 0 a q rfl rfl)
  obtain ⟨u,v,rfl,r1,r2⟩:=rv.two;obtain ⟨t1,rfl⟩:=r1;obtain ⟨t2,rfl⟩:=r2;exact ⟨a,t1,t2,o,n,rfl,e,c,by simpa using d⟩
theorem zhv{as:List Addr}{us:List Value}(r:Vals (as.map V.ref) us):∀(π:List Nat),(∀i∈π,i<as.length)->Vals (π.map λi=>V.ref (as.getD i 0)) (π.map λi=>us.getD i .none)
 |[],_=>.nil
 |i::π,h=>by
  refine .cons ?_ (zhv r π λj hj=>h j (Qj _ hj));have hi:=h i Qo;have e:(as.map V.ref)[i]?=some (.ref (as.getD i 0)):=by rw[List.getElem?_map,List.getElem?_eq_getElem hi];simp[List.getD,List.getElem?_eq_getElem hi]
  obtain ⟨u,e2,ru⟩:=r.get e;simp only[List.getD,e2,JV];exact ru
theorem zkl:zdb X (.builtin "sorted") (λxs H Q=>∃l,∃as:List Addr,∃qs:LP,xs=[.ref l]/\SqL X.K H l (as.map V.ref)/\as.length=qs.length/\(∀(i:Nat) a q,as[i]?=some a->qs[i]?=some q->SqT X.K H a [.int q.1,.int q.2])/\(∀q∈qs,okP q)/\qs.length<64 /\
  ∀π p,znH qs π->H p=none->Q (.ref p) (upd H p (.lst (π.map λi=>V.ref (as.getD i 0))))):=by
 intro pins s σ H xs us Q I rx h;obtain ⟨l,as,qs,rfl,hq,hl,ht,ho,hb,q⟩:=h;obtain ⟨u,rfl,ru⟩:=rx.one;cases ru;obtain ⟨its,rv,p,hz⟩:=I.list hq;have hn:its.length=qs.length:=by have:=rv.length;rw[Qb] at this;omega
 refine zhu (qs:=qs) p.isList (zjs I rv hl ht) ho (by omega) λπ hπ=>?_
 obtain ⟨e,he⟩:=sortedAll_at s.heap its (List.toArray (π.map λi=>its.getD i .none))
 have hπl:∀i∈π,i<as.length:=λi hi=>by
  have:=hπ.1.mem_iff.mp hi
  rw[Q5] at this;omega
 refine ⟨.ref (s.heap.objs.size+1),_,I.laid (t':=s.toks) (λb o=>sortedAll_old) (JX _) (show zcL X.prog X.w _ _ _ (.lst (π.map λi=>V.ref (as.getD i 0))) from ⟨?_,_,e,zhv rv π hπl,he⟩),rfl,q π _ hπ (I.hok.fresh (JX _))⟩
 rw[Qb,hπ.1.length_eq,Qp];rw[Qb] at hz;omega
def zjt:D->Option (Int×Int)
 |.tuple [.int a,.int b]=>some (a,b)
 |_=>none
def zcI:List D->Option LP
 |[]=>some []
 |d::r=>(zjt d).bind λq=>(zcI r).map (q :: ·)
def duoD(q:Int×Int):D:=.tuple [.int q.1,.int q.2]
theorem zlL{d:D}{q:Int×Int}(h:zjt d=some q):d=duoD q:=by
 unfold zjt at h
 split at h
 ·cases h;rfl
 ·cases h
theorem zfo:∀{ds:List D}{qs:LP},zcI ds=some qs->ds=qs.map duoD
 |[],qs,h=>by cases h;rfl
 |d::r,qs,h=>by
  unfold zcI at h
  cases z:zjt d with
  |none=>rw[z] at h;cases h
  |some q=>
   rw[z] at h
   cases z2:zcI r with
   |none=>rw[z2] at h;cases h
   |some qs'=>rw[z2] at h;cases h;rw[zlL z,zfo z2];rfl
theorem zeI:∀qs:LP,zcI (qs.map duoD)=some qs
 |[]=>rfl
 |q::r=>by rw[Qz,zcI,zeI r];rfl
def zgx(qs:LP):LP:=qs.mergeSort λx y=>decide (keyP x<=keyP y)
theorem zf1(qs:LP):(zgx qs).Perm qs:=List.mergeSort_perm ..
theorem zhw(qs:LP):(zgx qs).Pairwise λx y=>keyP x<=keyP y:=by
 have:=List.pairwise_mergeSort (le:=λx y:Int×Int=>decide (keyP x<=keyP y)) (by intro a b c;simp;omega) (by intro a b;simp;omega) qs
 exact this.imp (by simp)
theorem zgy:∀{a b:LP},(∀x∈a,okP x)->a.Perm b->a.Pairwise (λx y=>keyP x<=keyP y)->b.Pairwise (λx y=>keyP x<=keyP y)->a=b
 |[],b,_,p,_,_=>by rw[List.nil_perm.1 p]
 |x::a,[],_,p,_,_=>by have:=p.length_eq;simp at this
 |x::a,y::b,ok,p,ha,hb=>by
  have hx:keyP y<=keyP x:=by
   rcases QU.1 (p.mem_iff.1 (Qo ..)) with e|e
   ·rw[e];exact QW _
   ·exact (Jw.1 hb).1 x e
  have hy:keyP x<=keyP y:=by
   rcases QU.1 (p.mem_iff.2 (Qo ..)) with e|e
   ·rw[e];exact QW _
   ·exact (Jw.1 ha).1 y e
  have oky:okP y:=ok y (p.mem_iff.2 (Qo ..));have e:=znG (ok x (Qo ..)) oky (JP hy hx);subst e;rw[zgy (λz hz=>ok z (Qj _ hz)) (List.Perm.cons_inv p) (Jw.1 ha).2 (Jw.1 hb).2]
theorem znI{qs:LP}{π:List Nat}(ok:∀q∈qs,okP q)(h:znH qs π):(π.map λi=>qs.getD i (0,0))=zgx qs:=by
 have hp:(π.map λi=>qs.getD i (0,0)).Perm qs:=by
  have h1:=h.1.map λi=>qs.getD i (0,0)
  have e:(List.range qs.length).map (λi=>qs.getD i (0,0))=qs:=by
   apply Jm;intro i;rw[Qd]
   by_cases hi:i<qs.length
   ·rw[List.getElem?_range hi,List.getElem?_eq_getElem hi];simp[List.getD,List.getElem?_eq_getElem hi]
   ·rw[QB (by rw[Qp];omega),QB (by omega)];rfl
  rw[e] at h1;exact h1
 exact zgy (λx hx=>ok x (hp.mem_iff.mp hx)) (hp.trans (zf1 qs).symm) h.2 (zhw qs)
def okPB(q:Int×Int):Bool:=decide (-1000000<=q.2/\q.2<=1000000)
def zhx:List D->Option D
 |[.list ds]=>(match zcI ds with
  |some qs=>if qs.length<64/\qs.all okPB=true then some (.list ((zgx qs).map duoD)) else none
  |none=>none)
 |_=>none
theorem zkm{xs:List D}{d:D}(h:zhx xs=some d):∃qs:LP,xs=[.list (qs.map duoD)]/\qs.length<64/\(∀q∈qs,okP q)/\d=.list ((zgx qs).map duoD):=by
 unfold zhx at h
 split at h
 ·rename_i ds
  cases z:zcI ds with
  |none=>rw[z] at h;cases h
  |some qs=>
   rw[z] at h;dsimp only at h
   split at h
   ·rename_i c
    cases h;exact ⟨qs,by rw[zfo z],c.1,λq hq=>(show -1000000<=q.2/\q.2<=1000000 from Qa (Jq.mp c.2 q hq)),rfl⟩
   ·cases h
 ·cases h
theorem zhy{K:Frag}{G:Hp}:∀{vs:List V}{qs:LP},Reps K G vs (qs.map duoD)->∃as:List Addr,vs=as.map V.ref/\as.length=qs.length/\∀(i:Nat) a q,as[i]?=some a->qs[i]?=some q->SqT K G a [.int q.1,.int q.2]
 |_,[],.nil=>⟨[],rfl,rfl,λi a q h=>by simp at h⟩
 |_,q::qs,.cons r t=>by
  obtain ⟨as,rfl,hl,h⟩:=zhy t;obtain ⟨a,ws,rfl,h1,r1⟩:=r.tup_inv
  cases r1 with
  |cons ra rb=>
   obtain ⟨v,rfl,rb'⟩:=rb.one_inv;refine ⟨a::as,rfl,by simp[hl],λi a' q' e1 e2=>?_⟩
   cases i with
   |zero=>
    cases e1;cases e2
    rw[ra.int_inv,rb'.int_inv] at h1;exact h1
   |succ i=>exact h i a' q' (by simpa using e1) (by simpa using e2)
theorem znJ{K:Frag}{G:Hp}{a:Addr}{q:Int×Int}(h:SqT K G a [.int q.1,.int q.2]):Rep K G (.ref a) (duoD q):=.tup h (.cons (.int _) (.cons (.int _) .nil))
theorem zhz{K:Frag}{G:Hp}{as:List Addr}{qs:LP}(hl:as.length=qs.length)(h:∀(i:Nat) a q,as[i]?=some a->qs[i]?=some q->SqT K G a [.int q.1,.int q.2]):∀π:List Nat,(∀i∈π,i<qs.length)->Reps K G (π.map λi=>V.ref (as.getD i 0)) ((π.map λi=>qs.getD i (0,0)).map duoD)
 |[],_=>.nil
 |i::π,hb=>by
  refine .cons ?_ (zhz hl h π λj hj=>hb j (Qj _ hj));have hi:=hb i Qo;refine znJ (h i _ _ ?_ ?_)
  ·rw[List.getElem?_eq_getElem (by omega)];simp[List.getD,List.getElem?_eq_getElem (show i<as.length by omega)]
  ·rw[List.getElem?_eq_getElem hi];simp[List.getD,List.getElem?_eq_getElem hi]
theorem zpq:zdx X (.builtin "sorted") zhx:=by
 refine ⟨_,zkl,λvs G H ds d Q s r e k=>?_⟩;obtain ⟨qs,rfl,h64,ok,rfl⟩:=zkm e;obtain ⟨v,rfl,q1⟩:=r.one_inv;obtain ⟨l,ws,rfl,h1,r1⟩:=q1.lst_inv;obtain ⟨as,rfl,hl,ht⟩:=zhy r1;refine ⟨l,as,qs,rfl,s.seq h1,hl,λi a q e1 e2=>zdJ s (ht i a q e1 e2),ok,h64,λπ p hπ hp=>?_⟩;have hb:∀i∈π,i<qs.length:=λi hi=>Q5.mp (hπ.1.mem_iff.mp hi);have rr:=(zhz hl ht π hb).mono (zaX (s.free hp):Same G (upd G p (.lst (π.map λi=>V.ref (as.getD i 0)))));rw[znI ok hπ] at rr;exact k _ _ _ (Ext.new s hp) (.lst (SqL.of zaT) rr)
theorem zdx.or{f:Value}{p q:List D->Option D}(h1:zdx X f p)(h2:zdx X f q):zdx X f (λxs=>(p xs).orElse λ_=>q xs):=by
 obtain ⟨r1,c1,k1⟩:=h1;obtain ⟨r2,c2,k2⟩:=h2;refine ⟨λxs H Q=>r1 xs H Q∨r2 xs H Q,λpins s σ H xs us Q I rx h=>?_,λvs G H ds d Q s r e k=>?_⟩
 ·rcases h with h|h
  ·exact c1 pins s σ H xs us Q I rx h
  ·exact c2 pins s σ H xs us Q I rx h
 ·dsimp only at e
  cases z:p ds with
  |some d'=>rw[z] at e;cases e;exact .inl (k1 vs G H ds _ Q s r z k)
  |none=>rw[z] at e;exact .inr (k2 vs G H ds _ Q s r e k)
def zgz(xs:List D):Option D:=(zfl xs).orElse λ_=>zhx xs
theorem zlM:zdx X (.builtin "sorted") zgz:=zpj.or zpq
theorem zet{ns:List Int}(h:ns.length<64):zgz [.list (ns.map .int)]=some (.list ((zcO ns).map .int)):=by unfold zgz;rw[zlv h];rfl
theorem zlN{qs:LP}(h:qs.length<64)(ok:∀q∈qs,okP q):zgz [.list (qs.map duoD)]=some (.list ((zgx qs).map duoD)):=by
 cases qs with
 |nil=>
  have e1:zgx []=[]:=by unfold zgx;simp
  have e2:zcO []=[]:=by unfold zcO;simp
  have:=zet (ns:=[]) (by decide)
  rw[e2] at this;rw[e1];exact this
 |cons q r=>
  have e1:zfl [.list ((q::r).map duoD)]=none:=rfl;unfold zgz;rw[e1,Option.orElse];unfold zhx;dsimp only;rw[zeI];exact Qm ⟨h,Jq.mpr λq hq=>Q3 (show -1000000<=q.2/\q.2<=1000000 from ok q hq)⟩
end
section
variable{X:Cx}
end
section
variable{X:Cx}{B G0:Hp}{e o a b c tg:Expr}{pos p2:Pos}{es rest:List Expr}{te to ti:TE}
def zgA{β:Type}(p:D->D->Option β)(f:M D)(j:Nat):M β:=zau f λx=>λZ=>match Z[j]? with
 |some (some (.pub d))=>mOpt (p x d) Z
 |some (some (.own ds))=>mOpt (p x (.list ds)) Z
 |_=>.bad
theorem zrN{K:Frag}{σ:St}{H:Hp}{p:D->D->Option Bool}{r:R2}{j:Nat}{f:M D}{Q:Bool->Hp->Prop}{QV:VK}(hq:∀t H3,Q t H3->QV (.bl t) H3)
  (hr:∀v u G H x y d Q,Same G H->Rep K G v x->Rep K G u y->p x y=some d->Q (.bl d) H->r v u H Q)
  (q:tBo K B G0 (zgA p f j) σ H Q):tD K B G0 f σ H λx H1=>tVar j σ H1 λy H2=>r x y H2 QV:=by
 refine tM.one (R:=Rep K) q λv H2 G Z x k rx a=>?_
 cases z:Z[j]? with
 |none=>rw[z] at a;exact a.elim
 |some o=>
  cases o with
  |none=>rw[z] at a;exact a.elim
  |some sl=>
   cases sl with
   |deep _ _=>rw[z] at a;exact a.elim
   |pub d=>
    rw[z] at a;dsimp only at a;obtain ⟨d',e',a'⟩:=aft.opt a;obtain ⟨u,h1,h2⟩:=k.pub j d z;exact ⟨u,h1,hr v u G H2 x d d' _ k.gh rx h2 e' (hq _ _ (a' d' G H2 k (.refl _) rfl))⟩
   |own ds=>
    rw[z] at a;dsimp only at a;obtain ⟨d',e',a'⟩:=aft.opt a;obtain ⟨ad,vs,h1,h2,h3,h4,h5⟩:=k.own j ds z;exact ⟨.ref ad,h1,hr v (.ref ad) H2 H2 x (.list ds) d' _ (.refl _) (rx.mono k.gh) (.lst (SqL.of h4) (h5.mono k.gh)) e' (hq _ _ (a' d' G H2 k (.refl _) rfl))⟩
theorem zlO{op:CmpOp}{p:D->D->Option Bool}{j:Nat}{f:M D}(o:OpB X (compareOp op) p)(ha:PE X a (tD X.K B G0 f))(hb:PE X b (tVar j))(hm:behindInMarks op b=false) :
  PT X (.Compare a [op] [b] pos) (tBo X.K B G0 (zgA p f j)):=by
 obtain ⟨r,h,i⟩:=o;exact ptof (zia h ha hb hm) λσ H Q q=>zrN (λt H3 z=>⟨t,rfl,z⟩) i q
theorem zpr{β:Type}{p:D->D->Option β}{f:M D}{j:Nat}{Z Z1:DEnv}{x d:D}{r:β}(h1:f Z=.ok x Z1)(h2:Z1[j]?=some (some (.pub d)))(h3:p x d=some r):zgA p f j Z=.ok r Z1:=by
 unfold zgA;exact zaA h1 (by rw[h2];exact zb0 h3)
theorem zju{β:Type}{p:D->D->Option β}{f:M D}{j:Nat}{Z Z1:DEnv}{x:D}{ds:List D}{r:β}(h1:f Z=.ok x Z1)(h2:Z1[j]?=some (some (.own ds)))(h3:p x (.list ds)=some r):zgA p f j Z=.ok r Z1:=by
 unfold zgA;exact zaA h1 (by rw[h2];exact zb0 h3)
end
def zhA(Z:DEnv)(j:Nat):Option D:=match Z[j]? with
 |some (some (.pub d))=>some d
 |some (some (.own ds))=>some (.list ds)
 |some (some (.deep _ d))=>some d
 |_=>none
theorem EOk.tree{K:Frag}{B G0 G H:Hp}{σ:St}{Z:DEnv}{j:Nat}{d:D}(k:EOk K B G0 G H σ Z)(h:zhA Z j=some d):∃v,σ[j]?=some (some v)/\Rep K H v d:=by
 unfold zhA at h
 split at h
 ·rename_i d' e
  cases h;obtain ⟨v,h1,h2⟩:=k.pub j _ e
  exact ⟨v,h1,h2.mono k.gh⟩
 ·rename_i ds e
  cases h;obtain ⟨a,vs,h1,h2,h3,h4,h5⟩:=k.own j ds e
  exact ⟨.ref a,h1,.lst (SqL.of h4) (h5.mono k.gh)⟩
 ·rename_i p d' e
  cases h;obtain ⟨ω,k1,k2⟩:=k.dp
  obtain ⟨v,fp,s,r,_⟩:=k1 j p _ e;exact ⟨v,s,r.rep k.gh⟩
 ·cases h
section
variable{X:Cx}{B G0:Hp}{e o a b c tg:Expr}{pos p2:Pos}{es rest:List Expr}
end
end DL
namespace HT
open PySem PyProof.Rows
section
open PySem.SeqAt
open PySem.AutoSeq1 (wpAny_loadPart')
open PySem.MeetsSeq PySem.MeetsSeq2 PySem.MeetsSeq3
end
section
variable{prog:Program}{w:World}{A:Around}{E:Value->Shared->Prop}{s:Shared}
end
end HT
namespace DL
open PySem PySem.Spec L2
open PyProof.Rows hiding St
section
variable{X:Cx}
end
section
variable{X:Cx}
def zkn(x y:D):Option (List D):=match x,y with
 |.list xs,.int k=>if -1000000<=k/\k<=1000000/\xs.length*k.toNat<=1000000 then some (replicate k.toNat xs).flatten else none
 |_,_=>none
theorem zlP{x y:D}{ds:List D}(h:zkn x y=some ds):∃xs k,x=.list xs/\y=.int k/\(-1000000<=k/\k<=1000000/\xs.length*k.toNat<=1000000)/\ds=(replicate k.toNat xs).flatten:=by
 unfold zkn at h
 split at h
 ·split at h
  ·rename_i xs k c
   cases h;exact ⟨xs,k,rfl,rfl,c,rfl⟩
  ·cases h
 ·cases h
def ziA(f g:M D):M (List D):=zau f λx=>zau g λy=>mOpt (zkn x y)
theorem ziB{f g:M D}(ha:PE X a (tD X.K B G0 f))(hb:PE X b (tD X.K B G0 g)):PE X (.BinOp a .Mult b pos) (tL X.K B G0 (ziA f g)) :=
 peof (zqa zkY ha hb) λσ H Q ⟨G,Z,k,q⟩=>by
  refine ⟨G,Z,k,?_⟩;unfold ziA zau at q
  cases z:f Z with
  |bad=>rw[z] at q;exact q.elim
  |ok x Z1=>
   rw[z] at q;dsimp only at q;intro v G1 H1 k1 s1 r1;refine ⟨G1,Z1,k1,?_⟩
   cases z2:g Z1 with
   |bad=>rw[z2] at q;exact q.elim
   |ok y Z2=>
    rw[z2] at q;dsimp only[mOpt] at q;intro u G2 H2 k2 s2 r2
    cases z3:zkn x y with
    |none=>rw[z3] at q;exact q.elim
    |some ds=>
     rw[z3] at q;obtain ⟨xs,i,rfl,rfl,c,rfl⟩:=zlP z3;obtain ⟨l,vs,rfl,h1,w⟩:=r1.lst_inv;exact ⟨l,i,vs,rfl,r2.int_inv,k2.gh.seq (s2.seq h1),by omega,by omega,by rw[w.length];exact QO c.2.2 lim,λp hp=>q p _ G2 _ (k2.ext (Ext.hid k2.gh hp)) (s1.trans s2) (NewL.of k2 hp ((w.mono s2).rep _))⟩
theorem ziC{f g:M D}{Z Z1 Z2:DEnv}{x:D}{n:Nat}(h1:f Z=.ok (.list [x]) Z1)(h2:g Z1=.ok (.int n) Z2)(h:n<=1000):ziA f g Z=.ok (replicate n x) Z2:=by
 unfold ziA zau;rw[h1];dsimp only;rw[h2];dsimp only[mOpt]
 have e:zkn (.list [x]) (.int n)=some (replicate n x):=by
  unfold zkn;dsimp only;rw[Qm ⟨by omega,by omega,by show 1*_<=_;omega⟩]
  congr 1
  rw[Qu];clear h2 h
  induction n with
  |zero=>rfl
  |succ n ih=>rw[QR,QL,ih,QR];rfl
 rw[e]
end
end DL
namespace DL
open PySem
theorem lz0{P:List Value->Prop}{us:List Value}(hl:us.length=0)(h:P []):P us:=by
 cases us with
 |nil=>exact h
 |cons a r=>cases hl
theorem lzS{P:List Value->Prop}{us:List Value}{n:Nat}(hl:us.length=n+1)(h:∀a r,r.length=n->P (a::r)):P us:=by
 cases us with
 |nil=>cases hl
 |cons a r=>exact h a r (Nat.succ.inj hl)
theorem lz1{P:List Value->Prop}{us:List Value}(hl:us.length=1)(h:∀a,P [a]):P us:=lzS hl λa r e=>lz0 (P:=λr=>P (a::r)) e (h a)
theorem lz2{P:List Value->Prop}{us:List Value}(hl:us.length=2)(h:∀a b,P [a,b]):P us:=lzS hl λa r e=>lz1 (P:=λr=>P (a::r)) e (h a)
theorem lz3{P:List Value->Prop}{us:List Value}(hl:us.length=3)(h:∀a b c,P [a,b,c]):P us:=lzS hl λa r e=>lz2 (P:=λr=>P (a::r)) e (h a)
theorem lz4{P:List Value->Prop}{us:List Value}(hl:us.length=4)(h:∀a b c d,P [a,b,c,d]):P us:=lzS hl λa r e=>lz3 (P:=λr=>P (a::r)) e (h a)
theorem lz5{P:List Value->Prop}{us:List Value}(hl:us.length=5)(h:∀a b c d e,P [a,b,c,d,e]):P us:=lzS hl λa r e=>lz4 (P:=λr=>P (a::r)) e (h a)
theorem bz1{fd:FuncData}{ps:List Str}{us:List Value}(hl:us.length=1)(h:∀a,bindArgs fd { pos:=[a] }=pure (ps.zip [a])):bindArgs fd { pos:=us }=pure (ps.zip us):=lz1 (P:=λus=>bindArgs fd { pos:=us }=pure (ps.zip us)) hl h
theorem bz2{fd:FuncData}{ps:List Str}{us:List Value}(hl:us.length=2)(h:∀a b,bindArgs fd { pos:=[a,b] }=pure (ps.zip [a,b])):bindArgs fd { pos:=us }=pure (ps.zip us):=lz2 (P:=λus=>bindArgs fd { pos:=us }=pure (ps.zip us)) hl h
theorem bz3{fd:FuncData}{ps:List Str}{us:List Value}(hl:us.length=3)(h:∀a b c,bindArgs fd { pos:=[a,b,c] }=pure (ps.zip [a,b,c])):bindArgs fd { pos:=us }=pure (ps.zip us):=lz3 (P:=λus=>bindArgs fd { pos:=us }=pure (ps.zip us)) hl h
theorem bz4{fd:FuncData}{ps:List Str}{us:List Value}(hl:us.length=4)(h:∀a b c d,bindArgs fd { pos:=[a,b,c,d] }=pure (ps.zip [a,b,c,d])):bindArgs fd { pos:=us }=pure (ps.zip us):=lz4 (P:=λus=>bindArgs fd { pos:=us }=pure (ps.zip us)) hl h
theorem bz5{fd:FuncData}{ps:List Str}{us:List Value}(hl:us.length=5)(h:∀a b c d e,bindArgs fd { pos:=[a,b,c,d,e] }=pure (ps.zip [a,b,c,d,e])):bindArgs fd { pos:=us }=pure (ps.zip us):=lz5 (P:=λus=>bindArgs fd { pos:=us }=pure (ps.zip us)) hl h
end DL
namespace DL
open PySem PySem.Spec L2
open PyProof.Rows hiding St
def whole(h:Heap):Frag:=(List.range h.objs.size).filterMap λa=>(h.get? a).map λo=>(a,o)
theorem zhB{g:Addr->Option Obj}{x:Addr}:∀l:List Addr,(l.filterMap λa=>(g a).map λo=>(a,o)).lookup x=if x∈l then g x else none
 |[]=>rfl
 |y::l=>by
  have ih:=zhB (g:=g) (x:=x) l
  by_cases e:x=y
  ·subst e
   rw[Qm Qo]
   cases z:g x with
   |none=>rw[List.filterMap_cons_none (by rw[z];rfl),ih,z];split <;> rfl
   |some o=>rw[List.filterMap_cons_some (by rw[z];rfl),Q0,beq_self_eq_true]
  ·have m:(x∈y::l)=(x∈l):=by simp[List.mem_cons,e]
   have b:(x==y)=false:=by simpa using e
   have ih':(if x∈y::l then g x else none)=_:=(by simp only[m];exact ih.symm)
   rw[ih']
   cases z:g y with
   |none=>rw[List.filterMap_cons_none (by rw[z];rfl)]
   |some o=>rw[List.filterMap_cons_some (by rw[z];rfl),Q0,b]
theorem zdi{h:Heap}{a:Addr}:(whole h).lookup a=h.get? a:=by
 unfold whole;rw[zhB];split
 ·rfl
 ·rename_i n
  cases z:h.get? a with
  |none=>rfl
  |some o=>exact absurd (Q5.mpr (Qi z)) n
theorem znK(h:Heap):(whole h).In h:=λa o e=>by rw[zdi] at e;exact e
def zrO(st:Stmt):Option DefRec:=match st with
 |.FunctionDef name a b _ _ _ sc _ _ pos=>some ⟨name,a,b,sc,pos⟩
 |_=>none
def zlQ(st:Stmt):Option Str:=match st with
 |.FunctionDef name _ _ _ _ _ _ _ _ _=>some name
 |_=>none
def zrP(st:Stmt):Pos:=match st with
 |.FunctionDef _ _ _ _ _ _ _ _ _ pos=>pos
 |_=>⟨0,0,0,0⟩
abbrev stAt(p:Program)(i:Nat):Stmt:=p.main.body.getD i (.Pass ⟨0,0,0,0⟩)
def zhC(p:Program)(ix:List Nat):List DefRec:=ix.filterMap λi=>zrO (stAt p i)
section
variable{p q:Program}{loose:List Str}{mean:ExcName->Option Value}{mg mb:Str->Option Value}{h:Heap}{w:World}
theorem zox{ix:List Nat}(T:Top q loose mean mg mb h)(e:recsOf q=zhC p ix)(i:Nat)(x:Str)(hi:ix.contains i=true)(hn:zlQ (stAt p i)=some x):∃f fd,mg x=some (.ref f)/\Fun (whole h) x x (stAt p i) f fd:=by
 cases hs:stAt p i with
 |FunctionDef name a b _ _ _ sc _ _ pos=>
  rw[hs] at hn;cases hn
  have hd:(⟨x,a,b,sc,pos⟩:DefRec)∈recsOf q:=by
   rw[e];exact List.mem_filterMap.mpr ⟨i,by simpa using hi,by rw[hs];rfl⟩
  obtain ⟨f,⟨oc,od,dt,osl⟩,pm,cd,doc,h1,h2,h3,h4⟩:=T.fn _ hd;have h3:dt=_:=h3;subst h3;refine ⟨f,_,h1,⟨⟨oc,od,.none,doc,pm,_,cd,_,osl,rfl,by rw[zdi];exact h2,?_⟩,?_⟩⟩
  ·obtain ⟨c,⟨_,_,dc,_⟩,vs,t,rfl,g1,g2,g3⟩:=h4
   have g2:dc=_:=g2;subst g2;unfold PySem.W.codeIn;dsimp only;rw[zdi,g1];dsimp only;have g4:vs.toList[1]?=some (.str x t):=by rw[Array.getElem?_toList];exact g3
   cases hv:vs.toList with
   |nil=>rw[hv] at g4;cases g4
   |cons v0 r=>
    rw[hv] at g4
    cases r with
    |nil=>cases g4
    |cons v1 r=>cases g4;exact beq_self_eq_true _
  ·unfold PySem.W.keepIn
   dsimp only;rw[zdi,h2]
 |_=>rw[hs] at hn;cases hn
theorem zlR{K:Frag}{x qual y:Str}{st:Stmt}{f:Addr}{fd:FuncData}(F:Fun K x qual st f fd)
  (hb:∀(kV doc pm:Value)(an:Option Addr)(cdv ct v:Value),bindArgs (PySem.W.fnOf x qual (zee st) (zdc st) (zak st) .none kV doc pm an cdv ct) ⟨[v],[]⟩=pure [(y,v)]) (s:Shared) (v:Value):BindsTo s fd ⟨[v],[]⟩ [(y,v)]:=by
 obtain ⟨oc,od,kV,doc,pm,an,cdv,ct,osl,rfl,lk,hcd⟩:=F.ex;exact .of_eq (hb kV doc pm an cdv ct v)
def znL(q:Program)(loose:List Str)(x:Str):Bool :=
 !startupNames.contains x && !loose.contains x && !((recsOf q).map (·.name)).contains x && !((litsOf q).map (·.1)).contains x && !((clssOf q loose).map (·.name)).contains x
theorem zcb(T:Top q loose mean mg mb h){xs:List Str}(e:xs.all (znL q loose)=true){x:Str}(hx:x∈xs):mg x=none:=by
 have:=Jq.mp e x hx
 unfold znL at this;simp only[Ja,Bool.not_eq_true',List.contains_eq_mem,decide_eq_false_iff_not] at this;exact T.free x this.1.1.1.1 this.1.1.1.2 this.1.1.2 this.1.2 this.2
theorem zdY(T:Top q loose mean mg mb h){x:Str}{i:Int}(e:valOf q x=some (.int i)):∃t,mg x=some (.int i t):=by
 obtain ⟨v,h1,h2⟩:=T.const x _ e
 have:=h2 h
 cases this;exact ⟨_,h1⟩
theorem zqR:∀{vs:List Value}{ss:List Str},StrsAre vs ss->Vals (ss.map V.str) vs
 |_,_,.nil=>.nil
 |_,_,.cons y t r=>.cons ⟨t,rfl⟩ (zqR r)
theorem zlS(B:Tables q w mg h){x:Str}{ss:List Str}(e:tupStrsOf q x=some ss)(hl:ss.length<=1000) :
  ∃ad o its n,mg x=some (.ref ad)/\(whole h).lookup ad=some o/\o.cls=.type "tuple" /\ o.data=.seq its n/\its.size<=sizeLine/\Vals (ss.map V.str) its.toList:=by
 obtain ⟨a,vs,h1,⟨o,h2,h3,n,h4⟩,h5⟩:=B.tupS x ss e;have r:=zqR h5;refine ⟨a,o,_,n,h1,by rw[zdi];exact h2,h3,h4,?_,r⟩
 have:=r.length
 rw[Qb] at this;have l:(1000:Nat)<=sizeLine:=by decide
 rw[QH];omega
end
def scOk(sc:Scope)(N gl:List Str):Bool:=(N.all λx=>match sc.names.lookup x with|some .local=>true|some .cell=>true|_=>false)&&gl.all λx=>match sc.names.lookup x with|some .globalImplicit=>true|_=>false
def fnB(sc:Scope)(N gl:List Str):Bool:=decide (sc.kind=.function) && !sc.isCoroutine && !sc.isGenerator&&decide N.Nodup&&(sc.names.all λy=>match y.2 with | .free=>false|_=>true)&&scOk sc N gl
structure FnNm(sc:Scope)(N gl:List Str):Prop where
 kind:sc.kind=.function
 co:sc.isCoroutine=false
 gen:sc.isGenerator=false
 nd:N.Nodup
 nofree:∀y∈sc.names,y.2≠.free
 nm:∀x∈N,sc.names.lookup x=some .local∨sc.names.lookup x=some .cell
 gl:∀x∈gl,sc.names.lookup x=some .globalImplicit
theorem zaI{sc:Scope}{N gl:List Str}(H:fnB sc N gl=true):FnNm sc N gl:=by
 unfold fnB scOk at H;simp only[Ja,Jn,Bool.not_eq_true',Jq] at H;obtain ⟨⟨⟨⟨⟨h1,h2⟩,h3⟩,h4⟩,h5⟩,h6,h7⟩:=H;refine ⟨h1,h2,h3,h4,λy hy e=>?_,λx hx=>?_,λx hx=>?_⟩
 ·have:=h5 y hy;rw[e] at this;cases this
 ·have:=h6 x hx
  split at this
  ·rename_i e;exact .inl e
  ·rename_i e;exact .inr e
  ·cases this
 ·have:=h7 x hx
  split at this
  ·rename_i e;exact e
  ·cases this
section
variable{sc:Scope}{N gl:List Str}{x:Str}
theorem nq(H:FnNm sc N gl):N.Nodup:=H.nd
theorem fq(H:FnNm sc N gl)(n:Nat):ze2 N (N.take n) sc:=⟨H.kind,H.co,H.gen,H.nd,by rw[QZ,List.take_eq_take_iff];omega,λx hx=>H.nm x (List.mem_of_mem_take hx),H.nofree⟩
theorem lq(H:FnNm sc N gl)(i:Nat)(h:N[i]?=some x:=by rfl):L2.Loc sc x:=H.nm x (Qq h)
theorem gq(H:FnNm sc N gl)(i:Nat)(h:gl[i]?=some x:=by rfl):sc.names.lookup x=some .globalImplicit:=H.gl x (Qq h)
theorem pq{X:Cx}{pos:Pos}(H:FnNm X.env.scope X.N gl)(i:Nat)(h:X.N[i]?=some x:=by rfl)(hd:(x==("__debug__" : Str))=false:=by decide)(hc:(x==("__classdict__" : Str))=false:=by decide):PE X (.Name x pos) (tVar i) :=
 zoh h ((H.nm x (Qq h)).elim .inl λz=>.inr (.inl z)) hd hc
end
theorem za9{q p:Program}{loose:List Str}{mean:ExcName->Option Value}{mg mb:Str->Option Value}{h:Heap}{ix:List Nat}(P:Program)(w:World)(base:Heap){ps:List Str}{k n:Nat}{F:List D->Option D}(T:Top q loose mean mg mb h)(e:recsOf q=zhC p ix)(i:Nat)(x:Str)(hi:ix.contains i=true)(hn:zlQ (stAt p i)=some x)
  (ok:∀{f:Addr}{fd:FuncData},Fun (whole h) x x (stAt p i) f fd->FnOk P w (whole h) mg base CX0 k f fd ps (spD (whole h) n F))
  (hb:∀(kV doc pm:Value)(an:Option Addr)(cdv ct:Value)(us:List Value),us.length=ps.length->bindArgs (PySem.W.fnOf x x (zee (stAt p i)) (zdc (stAt p i)) (zak (stAt p i)) .none kV doc pm an cdv ct) ⟨us,[]⟩=pure (ps.zip us)):Def P w (whole h) mg base x k n F:=by
 obtain ⟨f,fd,m,FU⟩:=zox T e i x hi hn;exact Def.mk m FU (FU.binds hb) (ok FU)
section
variable{X:Cx}{B G0:Hp}{e:Expr}{pos:Pos}{es:List Expr}
theorem pdf{k kk n:Nat}{F:List D->Option D}{g:M (List D)}{x:Str}{p2:Pos}(d:Def X.prog X.w X.K X.mg X.base x k n F)(hr:Room kk X.A)(hg:Gl X x)(ha:PA X (e::es) (tDs X.K B G0 g))(hk:k<=kk:=by decide)(hn:(e::es).length=n:=by rfl)
  (hdb:(x==("__debug__" : Str))=false:=by decide) (he:starEach (e::es) X.env=(false,eval e X.env)::starEach es X.env:=by rfl) (hpl:(backTo pos (starEach es X.env)).any (·.1)=false:=by rfl) :
  PE X (.Call (.Name x p2) (e::es) [] pos) (tD X.K B G0 (dFun n F g)):=zpd d (hr.mono hk) hg ha hn hdb he hpl
end
theorem zrQ{q p:Program}{loose:List Str}{mean:ExcName->Option Value}{mg mb:Str->Option Value}{h:Heap}{ix:List Nat}{P:Program}{w:World}{k:Nat}{F:List D->Option D}{y:Str}{fa:Addr}(T:Top q loose mean mg mb h)(e:recsOf q=zhC p ix)(i:Nat)(x:Str)(hi:ix.contains i=true)(hn:zlQ (stAt p i)=some x)(hfa:mg x=some (.ref fa))
  (hb:∀(kV doc pm:Value)(an:Option Addr)(cdv ct v:Value),bindArgs (PySem.W.fnOf x x (zee (stAt p i)) (zdc (stAt p i)) (zak (stAt p i)) .none kV doc pm an cdv ct) ⟨[v],[]⟩=pure [(y,v)])
  (ok:∀(base:Heap){f:Addr}{fd:FuncData},Fun (whole h) x x (stAt p i) f fd->FnOk P w (whole h) mg base CX0 k f fd [y] (spD (whole h) 1 F)) :
  ∃fd:FuncData,(∀(s:Shared)(v:Value),BindsTo s fd ⟨[v],[]⟩ [(y,v)])/\∀base:Heap,FnOk P w (whole h) mg base CX0 k fa fd [y] (spD (whole h) 1 F):=by
 obtain ⟨f,fd,m,FU⟩:=zox T e i x hi hn
 cases hfa.symm.trans m
 exact ⟨fd,zlR FU hb,λbase=>ok base FU⟩
theorem znM{l:PySem.W.OpenLaw}{n k:Nat}{q:Program}{loose:List Str}{XP:(Str->Option Value)->Heap->Prop}{YP:World->Heap->Prop}{d:DefRec}{F:List D->Option D}{x:Str}
  (hn:l.most=some n) (hn2:n<=sizeLine) (hdf:d.params.defaults=[]) (hr:Room k callerA)
  (hF:∀(w:World)(s₀:Shared)(mg mb:Str->Option Value)(fa:Addr)(h:Heap),PySem.W.Ground q loose [] XP w s₀ mg mb h->mg d.name=some (.ref fa) ->
   ∃fd:FuncData,(∀(s:Shared)(u:Value),BindsTo s fd ⟨[u],[]⟩ [(x,u)])/\∀base:Heap,FnOk l.prog w (whole h) mg base CX0 k fa fd [x] (spD (whole h) 1 F))
  (hl:∀ns:List Int,ns.length<=n->F [.list (ns.map int)]=some (.bool true)) :
  PySem.W.WalkO q loose XP YP l.row.toRowW d [] (λf vs=>PySem.call f vs):=by
 refine Att.attach_call hn hdf λw s₀ s₁ mg mb fa o pm cd doc a vs ns G Y ho hd hcd hmg hobj hints hlen hg=>?_;obtain ⟨fd,hb,hF⟩:=hF w s₀ mg mb fa _ G hmg;exact znh (znK _) G.T.g G.T.b G.T.builtins G.T.nolimit hg hobj hints (QO hlen hn2) hr (λbase _ _=>hF base) hb (λH hO hS=>zqB hS (hl ns hlen)) λH e s' z=>z
section
variable{K:Frag}{G H H':Hp}{nm:Str}{C a:Addr}{bm:List Value}{vs:List V}{ds fs:List D}{dd:Option Addr}
end
section
variable{X:Cx}{B G0:Hp}{KX:XW}{e a b c:Expr}{pos p2 cpos:Pos}{es:List Expr}{st:Stmt}{sts:List Stmt}{nm x:Str}{k kk n:Nat}
end
section
variable{K:Frag}{B G0 G H:Hp}{σ:St}{Z:DEnv}
end
section
variable{X:Cx}{B G0:Hp}{KX:XW}{e a b c:Expr}{pos p2 cpos np hpos:Pos}{es:List Expr}{x n:Str}{k kk:Nat}
end
section
variable{P:Program}{w:World}{K:Frag}{mg:Str->Option Value}{base:Heap}{st:Stmt}{f f0 D:Addr}{fd fd0:FuncData}{q:Str}{p1 p2 p3 p4 p5 p6 p7 p8 p9 r1 r2 r3 r4 r5 r6 r7 r8 r9 q1 q2:Pos}{j1 j2:Nat}
end
section
variable{h h':Heap}{nm:Str}{own:Option Stmt}{C N:Addr}{bm:List Value}{mN:Str->Option Value}
end
section
variable{h h':Heap}{nm:Str}{own ownD:Option Stmt}{C N D ND:Addr}{bm:List Value}{mN mD:Str->Option Value}{M:Model}
end
section
variable{h:Heap}{mg:Str->Option Value}{p:Program}{l:XL0}{i j:Nat}{c:Str×Option Nat}{p1 p2 p3 p4 p5 p6 p7 p8 p9 r1 r2 r3 r4 r5 r6 r7 r8 r9 q1 q2:Pos}{j1 j2:Nat}
end
section
variable{α β:Type}{Z Z1 Z2 Z3 Z':DEnv}{f:M D}{s t:SM}{Q:Out->Prop}{d:D}{ds fs:List D}{nm x:Str}{o:Out}
end
section
variable{X:Cx}{B G0:Hp}{KX:XW}{e o a b c:Expr}{pos p2:Pos}{es rest:List Expr}
end
end DL
namespace L2
open PySem PySem.Spec PyProof.Rows
end L2
namespace DL
open PySem PySem.Spec L2
open PyProof.Rows hiding St
section
variable{K:Frag}{B G0 G H:Hp}{σ:St}{Z:DEnv}
end
section
variable{X:Cx}{B G0:Hp}{KX:XW}{e o a b c:Expr}{pos p2:Pos}{es rest:List Expr}
end
section
variable{X:Cx}{B G0:Hp}{KX:XW}{e o a b c:Expr}{pos p2 cpos:Pos}{es rest:List Expr}
end
section
variable{X:Cx}
end
end DL
namespace DL
open PySem PySem.Spec L2 PySem.SeqAt PySem.AutoSeq1
open PyProof.Rows hiding St
section
variable{X:Cx}{pins:List (Addr×Obj)}{s:Shared}{σ:L2.St}{G H:Hp}{A:Around}
end
section
variable{X:Cx}{pins:List (Addr×Obj)}{s:Shared}{σ:L2.St}{G H:Hp}{A:Around}
end
end DL
namespace DL
open PySem PySem.Spec L2
open PyProof.Rows hiding St
section
variable{X:Cx}{pins:List (Addr×Obj)}{s:Shared}{σ:L2.St}{G H:Hp}
end
section
variable{X:Cx}
end
section
variable{X:Cx}{B G0:Hp}{KX:XW}{e:Expr}{pos cpos:Pos}{sts sts2:List Stmt}
end
end DL
namespace L2
open PySem PySem.Spec PyProof.Rows
section
variable{prog:Program}{w:World}{A:Around}{E:Value->Shared->Prop}{s:Shared}{d it:Addr}{o:Obj}{es:Array DictEntry}{ep i:Nat}
end
section
variable{X:Cx}{tg:Expr}
end
end L2
namespace DL
open PySem PySem.Spec L2
open PyProof.Rows hiding St
section
variable{K:Frag}{B G0 G H:Hp}{σ:St}{Z:DEnv}
end
section
variable{X:Cx}{B G0:Hp}{KX:XW}{e a b c tg:Expr}{pos:Pos}
end
section
variable{X:Cx}{B G0:Hp}{KX:XW}{e a b c tg iter:Expr}{pos:Pos}
end
section
variable{X:Cx}
end
end DL
namespace L2
open PySem PySem.Spec PyProof.Rows
end L2
namespace DL
open PySem PySem.Spec L2
open PyProof.Rows hiding St
section
variable{X:Cx}{B G0:Hp}{KX:XW}{e1 e2 e3:Expr}{pos:Pos}
end
section
variable{X:Cx}{B G0:Hp}{e:Expr}{pos:Pos}{es:List Expr}{st:Stmt}{sts:List Stmt}
end
section
variable{prog:Program}{w:World}{A:Around}{E:Value->Shared->Prop}{s:Shared}
end
end DL
namespace L2
open PySem PySem.Spec PyProof.Rows
section
variable{X:Cx}
end
end L2
namespace DL
open PySem PySem.Spec L2
open PyProof.Rows hiding St
section
variable{X:Cx}{B G0:Hp}{e a b c tg:Expr}{pos:Pos}{es rest:List Expr}
end
theorem EOk.lent{K:Frag}{B G0 G H:Hp}{σ:St}{Z:DEnv}(k:EOk K B G0 G H σ Z):EOk K H H H H σ (zcd Z) where
 bh:=.refl _
 gh:=.refl _
 g0:=.refl _
 np:=λ_ _ e n=>by rw[n] at e;cases e
 len:=by unfold zcd;rw[Qb];exact k.len
 pub:=λi d e=>by
  rcases zhc e with e2|⟨ds,rfl,e2⟩|⟨p,e2⟩
  ·exact k.tree (by unfold zhA;rw[e2])
  ·exact k.tree (by unfold zhA;rw[e2])
  ·exact k.tree (by unfold zhA;rw[e2])
 own:=λi ds e=>(zcV e).elim
 sep:=λi j a ds es e=>(zcV e).elim
 dp:=.of (λ_ _ _ q=>zfQ q) λ_ _ q=>zcV q
section
variable{X:Cx}{B G0:Hp}{KX:XW}{e a b c tg iter:Expr}{pos:Pos}
end
end DL
namespace L2
open PySem PySem.Spec PyProof.Rows
section
variable{X:Cx}
end
end L2
namespace DL
open PySem PySem.Spec L2
open PyProof.Rows hiding St
section
variable{X:Cx}{B G0:Hp}{e a b c tg:Expr}{pos:Pos}{es rest:List Expr}
end
section
variable{prog:Program}{w:World}{A:Around}{E:Value->Shared->Prop}{s:Shared}
end
section
variable{X:Cx}{B G0:Hp}{e a b c:Expr}{pos p2 p3:Pos}
end
section
variable{X:Cx}{B G0:Hp}{KX:XW}{e o a b c tg i:Expr}{pos p2:Pos}{es rest:List Expr}{te to ti:TE}
end
section
variable{prog:Program}{w:World}{A:Around}{E:Value->Shared->Prop}{s:Shared}
end
section
variable{prog:Program}{w:World}{A:Around}{E:Value->Shared->Prop}
variable{K:Type}[DecidableEq K]{knd:KeyKind prog w K}
end
section
variable{prog:Program}{w:World}{A:Around}{E:Value->Shared->Prop}{h:Heap}{g:Array GenState}{d:Drawn}{t:Nat}{os:OsState}{a:Addr}{o:Obj}
end
section
variable{prog:Program}{w:World}{A:Around}{E:Value->Shared->Prop}
variable{K:Type}[DecidableEq K]{knd:KeyKind prog w K}
end
end DL
namespace L2
open PySem PySem.Spec PyProof.Rows
section
variable{X:Cx}
end
end L2
namespace DL
open PySem PySem.Spec L2
open PyProof.Rows hiding St
section
variable{X:Cx}{B G0:Hp}{a:Expr}{p p2 p3 pos:Pos}
end
section
variable{K:Frag}{B G0 G H:Hp}{σ:St}{Z:DEnv}
end
section
variable{X:Cx}{B G0:Hp}{KX:XW}{e o a b c:Expr}{pos:Pos}{es:List Expr}{st:Stmt}{sts:List Stmt}{pt:Pat}
end
section
variable{K:Frag}{B G0 G H:Hp}{σ:St}{Z:DEnv}
end
section
variable{X:Cx}{B G0:Hp}{KX:XW}{e o a b c:Expr}{pos:Pos}{es:List Expr}
end
section
variable{X:Cx}{B G0:Hp}{KX:XW}{e o a b c:Expr}{pos:Pos}{es:List Expr}
end
def isT:Option HO->Bool
 |some (.tup _)=>true
 |some (.frz _ (.tup _))=>true
 |_=>false
theorem zqS{u:MO}:isT (some u.ho)=false:=by cases u <;> rfl
def pubG(fp:List Addr)(G H:Hp):Hp:=λb=>if b∈fp∨isT (H b)=true then H b else G b
section
variable{K:Frag}{B G0 G H:Hp}{fp:List Addr}
theorem zlT(gh:Same G H):Same G (pubG fp G H):=λb o e=>by
 unfold pubG;split
 ·exact gh b o e
 ·exact e
theorem zps(gh:Same G H):Same (pubG fp G H) H:=λb o e=>by
 unfold pubG at e
 split at e
 ·exact e
 ·exact gh b o e
theorem zlU{b:Addr}(h:b∈fp∨isT (H b)=true):pubG fp G H b=H b:=by unfold pubG;rw[Qm h]
theorem zlV{b:Addr}(h:b∉fp)(h2:isT (H b)=false):pubG fp G H b=G b:=by
 unfold pubG;rw[Qy];rintro (z|z)
 ·exact h z
 ·rw[h2] at z;cases z
theorem Ext.pubT{G' H':Hp}(ex:Ext G H G' H')(fr:∀a∈fp,H a=none):Ext G H (pubG fp G' H') H' :=
 ⟨ex.h,ex.g.trans (zlT ex.gh),zps ex.gh,λa u e n=>by
  rw[zlV (λm=>by rw[fr a m] at e;cases e) (by rw[ex.h a _ e];exact zqS)]
  exact ex.np a u e n⟩
def nl0:D->Bool
 |.tuple ds=>ds.all flat
 |d=>flat d
theorem Rep.nl{G' G2 H':Hp}{v:V}{d:D}(r:Rep K G' v d)(h:nl0 d=true)(gh:Same G' H'):Rep K (pubG fp G2 H') v d:=by
 cases r with
 |tup hs rr=>
  refine .tup ?_ (rr.flat h);rcases hs with (hs|⟨o,hs⟩)|hs
  ·have:=gh _ _ hs
   exact .inl (.inl ((zlU (.inr (by rw[this];rfl))).trans this))
  ·have:=gh _ _ hs
   exact .inl (.inr ⟨o,(zlU (.inr (by rw[this];rfl))).trans this⟩)
  ·exact .inr hs
 |non=>exact .non
 |bl b=>exact .bl b
 |int i=>exact .int i
 |str x=>exact .str x
 |lst _ _=>cases h
 |dic _=>cases h
 |exc _ _ _ _=>cases h
 |dct _ _ _ _ _=>cases h
 |dtt _ _ _ _=>cases h
theorem Reps.nl{G' G2 H':Hp}(gh:Same G' H'):∀{vs:List V}{ds:List D},Reps K G' vs ds->ds.all nl0=true->Reps K (pubG fp G2 H') vs ds
 |_,_,.nil,_=>.nil
 |_,_,.cons r t,h=>by
  rw[List.all_cons,Ja] at h;exact .cons (r.nl h.1 gh) (Reps.nl gh t h.2)
end
def zdC(f:M (List D)):M (List D):=λZ=>match f (zcd Z) with
 |.ok ds _=>if ds.all nl0=true then .ok ds Z else .bad
 |.bad=>.bad
section
variable{X:Cx}{B G0:Hp}{KX:XW}{e o a b c:Expr}{pos:Pos}{es:List Expr}{pt:Pat}
end
section
variable{Z Z1 Z2 Z':DEnv}{pt:Pat}
theorem znN{f:M (List D)}{ds:List D}(h:f (zcd Z)=.ok ds Z')(hf:ds.all nl0=true):zdC f Z=.ok ds Z:=by unfold zdC;rw[h];dsimp only;rw[if_pos hf]
end
section
variable{X:Cx}{B G0:Hp}{e:Expr}
end
section
variable{X:Cx}{B G0:Hp}{e o a b c:Expr}{pos:Pos}{es:List Expr}
end
section
variable{X:Cx}{B G0:Hp}{KX:XW}{e1 e2 e3 a b:Expr}{pos:Pos}{es:List Expr}
end
section
variable{K:Frag}{B G0 G H:Hp}{fp:List Addr}
end
section
variable{X:Cx}{B G0:Hp}{KX:XW}{e a b:Expr}{pos:Pos}{es:List Expr}
end
theorem NewL.back{K:Frag}{B G0 G H G' H':Hp}{σ:St}{Z Z1:DEnv}{ad:Addr}{vs:List V}{ds:List D}(k:EOk K B G0 G H σ Z)(k':EOk K H H G' H' σ Z1)(n:NewL K H G' H' σ Z1 ad vs ds)(hf:ds.all nl0=true) :
  EOk K B G0 (pubG [] G H') H' σ Z/\Same G (pubG [] G H')/\NewL K B (pubG [] G H') H' σ Z ad vs ds:=by
 have ex:Ext G H G H':=⟨k'.bh,.refl _,k.gh.trans k'.bh,λ_ _ _ n=>n⟩;have ex2:Ext G H (pubG [] G H') H':=ex.pubT (λa m=>by cases m)
 refine ⟨k.ext ex2,ex2.g,⟨k.bh.free n.b,?_,n.h,n.r.nl k'.gh hf,λj es q w=>?_,λj pt d v fp q s r=>k.freshD k'.bh n.b q s r⟩⟩
 ·rw[zlV (by simp) (by rw[n.h];rfl)]
  exact k.gh.free n.b
 ·obtain ⟨b,us,g1,g2,g3,g4,g5⟩:=k.own j es q
  rw[g1] at w;cases w;rw[n.b] at g4;cases g4
section
variable{X:Cx}{B G0:Hp}{KX:XW}
theorem zrR{l:Bool}{y:Str}{j:Nat}{py:Pos}{spos:Pos}{tg elt iter:Expr}{ifs:List Expr}{gs:List Comprehension}{scope:Scope}{pos:Pos}{N2:List Str}{k:Nat}{f:M (List D)}{s:D->DEnv->Option DEnv}{t:M Bool}{rd:RdB}(hN:X.N.Nodup)(hj:X.N[j]?=some y)(hy:X.env.scope.names.lookup y=some .local)(hc:X.calm=true)
  (hi:∀B' G',PI X tg iter (iD X.K B' G' f)) (hblk:PBlk X N2 scope (.ListComp elt (⟨tg,iter,ifs,0⟩::gs) scope pos) tg ifs s t rd) (hb:zj6 X.env.scope scope X.N N2 k) (hs:∀x,foldedSetIterable iter X.env x=pure x:=by intro _;rfl)
  (hsw:swapsWith (.ListComp elt (⟨tg,iter,ifs,0⟩::gs) scope pos) (some (.Name y py)) spos.line X.env=pure true:=by rfl) :
  PS X (.Assign [.Name y py] (.ListComp elt (⟨tg,iter,ifs,0⟩::gs) scope pos) spos) (tS X.K B G0 KX (zbV j (zdC (dCG l f k s t rd)))):=by
 intro pins s0 σ H Dn I ⟨G,Z,k0,a⟩;unfold zbV sB zdC at a
 cases z:dCG l f k s t rd (zcd Z) with
 |bad=>rw[z] at a;exact a.elim
 |ok es Z1=>
 rw[z] at a;dsimp only at a
 by_cases hnl:es.all nl0=true
 case neg=>rw[Qy hnl] at a;exact a.elim
 rw[Qm hnl] at a;dsimp only at a
 by_cases hl:j<Z.length
 ·rw[Qm hl] at a
  obtain ⟨ds,ZF,zf,zl,hfl⟩:=zig z;rw[exec_Assign_Name_used _ _ _ _ hsw];refine Qf (Jt (Qf ?_));show wpAny _ X.A (do let _ ←comprehension (.ListComp elt (⟨tg,iter,ifs,0⟩::gs) scope pos) scope X.env _ (newList []) false (eval iter X.env) (some (assign (.Name y py) X.env))) _ _ s0
  refine Qf (QM (zgl (use:=some (assign (.Name y py) X.env)) (Qc:=λ_ s'=>SP X pins Dn .next s') hc (hi H H) hblk hb hs I k0.lent zf zl hfl λC D vs G' H' s4 m I7 hm hC hL hz hcl hp k' s' n=>?_) (λ_ s' hq=>Qn (Qn hq)) λ_ _ e=>e);show wpAny _ X.A (assign (.Name y py) X.env (.ref D)) _ _ s4;refine wpAny_assign_Name (zeZ I7 hN hj (.inl hy) (v:=.ref D) rfl (λs5 I8 ⟨ad,sb,hx⟩=>?_) (.inr hy))
  have hCa:C≠ad:=by
   rcases hx with e|e
   ·rw[e];exact hL
   ·exact Ne.symm (hcl y ad e)
  refine ⟨m,hm.sameBut sb hCa,λh' sb'=>⟨_,H',I8.turned (t':=s5.toks) (it:=C) (λb o hb e=>(sb'.2 b hb).trans e) hC hL (.inr hz) hcl hp,?_⟩⟩;obtain ⟨k2,s2,n2⟩:=NewL.back k0 k' n hnl;exact a _ _ H' (k2.setOwn n2 hl) s2
 ·rw[Qy hl] at a;exact a.elim
theorem zlW{F F':M (List D)}(h:∀Z es Z',F Z=.ok es Z'->F' Z=.ok es Z')(Z:DEnv)(es:List D)(Z':DEnv)(e:zdC F Z=.ok es Z'):zdC F' Z=.ok es Z':=by
 unfold zdC at e ⊢
 cases z:F (zcd Z) with
 |bad=>rw[z] at e;cases e
 |ok ds Z1=>rw[z] at e;rw[h _ _ _ z];exact e
theorem zrS{l:Bool}{y:Str}{j:Nat}{py:Pos}{spos:Pos}{tg elt iter:Expr}{ifs:List Expr}{gs:List Comprehension}{scope:Scope}{pos:Pos}{f:M (List D)}{s:D->DEnv->Option DEnv}{t:M Bool}{rd:RdB}{F:M (List D)}(SC:Scope)(N1 N2:List Str)(k:Nat)(le:∀Z es Z',F Z=.ok es Z'->dCG l f k s t rd Z=.ok es Z')(hN:X.N.Nodup)(hj:X.N[j]?=some y)(hy:X.env.scope.names.lookup y=some .local)(hc:X.calm=true)
  (hi:∀B' G',PI X tg iter (iD X.K B' G' f)) (hblk:PBlk X N2 scope (.ListComp elt (⟨tg,iter,ifs,0⟩::gs) scope pos) tg ifs s t rd) (h1:X.env.scope=SC) (h2:X.N=N1) (hb:zfR zns SC scope N1 N2 k=true) (hs:∀x,foldedSetIterable iter X.env x=pure x:=by intro _;rfl)
  (hsw:swapsWith (.ListComp elt (⟨tg,iter,ifs,0⟩::gs) scope pos) (some (.Name y py)) spos.line X.env=pure true:=by rfl) :
  PS X (.Assign [.Name y py] (.ListComp elt (⟨tg,iter,ifs,0⟩::gs) scope pos) spos) (tS X.K B G0 KX (zbV j (zdC F))) :=
 psof (zrR hN hj hy hc hi hblk (by rw[h1,h2];exact zih hb) hs hsw) λ_ _ _ q=>zot (zlW le) q
end
def zfp(f:M D):M Bool:=zau f λx=>match x with | .list ds=>zah (!ds.isEmpty)|_=>λ_=>.bad
def FUEL:Nat:=10 ^ 60
section
variable{X:Cx}{B G0:Hp}{e:Expr}
theorem ziD{α β:Type}{xs:List α}{ys:List β}(h:xs.length=ys.length):xs.isEmpty=ys.isEmpty:=by
 cases xs <;> cases ys <;> first|rfl|(simp at h)
theorem zpt{f:M D}(h:PE X e (tD X.K B G0 f))(he:∀whole,isTrue e X.env whole=(do let v ←whole;standAt e.pos;holding [v] (truthy v)):=by intro _;rfl):PT X e (tBo X.K B G0 (zfp f)) :=
 ptof (znc h he) λσ H Q q=>tM.one (R:=Rep X.K) q λv H2 G Z x k r a=>by
  cases x with
  |list ds=>
   obtain ⟨l,vs,rfl,h1,r1⟩:=r.lst_inv;refine ⟨!vs.isEmpty,.inl ⟨vs,k.gh.seq h1,rfl⟩,?_⟩;exact aft.now (v:=!vs.isEmpty) a k (by rw[ziD r1.length])
  |_=>exact a.elim
theorem zhD{f:M D}{Z Z1:DEnv}{ds:List D}(h1:f Z=.ok (.list ds) Z1):zfp f Z=.ok (!ds.isEmpty) Z1:=by unfold zfp;exact zaA h1 rfl
end
end DL
namespace W
open PySem PySem.Spec L2 DL
open PyProof.Rows hiding St
def top(i:Nat):Stmt:=PySem.Challenge.pw_wishdeal_k54_whole_levels_and_counts.main.body.getD i (.Pass ⟨0,0,0,0⟩)
abbrev GG(s:Stmt)(x:Str):Prop:=(zak s).names.lookup x=some NameKind.globalImplicit
abbrev VV(s:Stmt)(x:Str):Prop:=L2.Vis (zak s) x
abbrev LL(s:Stmt)(x:Str):Prop:=L2.Loc (zak s) x
theorem vk{s:Stmt}{x:Str}(h:(zak s).names.lookup x=some .local∨(zak s).names.lookup x=some .cell∨(zak s).names.lookup x=some .free):VV s x:=h
theorem lk{s:Stmt}{x:Str}(h:(zak s).names.lookup x=some .local∨(zak s).names.lookup x=some .cell):LL s x:=h
structure Txt(K:Frag)(mg:Str->Option Value):Prop where
 b_all:mg "all" = none
 b_bool:mg "bool" = none
 b_enumerate:mg "enumerate" = none
 b_int:mg "int" = none
 b_isinstance:mg "isinstance" = none
 b_len:mg "len" = none
 b_list:mg "list" = none
 b_max:mg "max" = none
 b_range:mg "range" = none
 b_set:mg "set" = none
 b_sorted:mg "sorted" = none
 b_str:mg "str" = none
 b_sum:mg "sum" = none
 b_tuple:mg "tuple" = none
 c_MOST_ASKERS:∃t,mg "MOST_ASKERS" = some (Value.int 7 t)
 c_MOST_COPIES:∃t,mg "MOST_COPIES" = some (Value.int 7 t)
 c_MOST_RANKS:∃t,mg "MOST_RANKS" = some (Value.int 5 t)
 c_MOST_THINGS:∃t,mg "MOST_THINGS" = some (Value.int 6 t)
 c_ORDERS:∃ad o its n,mg "ORDERS" = some (.ref ad)/\K.lookup ad=some o/\o.cls=.type "tuple" /\ o.data=.seq its n/\its.size<=sizeLine/\Vals ((["firsts", "full", "lasts"]:List Str).map V.str) its.toList
abbrev Sbn:Stmt:=top 59
abbrev N_bn:List Str:=["_law_script", "_law_k"]
theorem Hbn:FnNm (zak Sbn) N_bn ["len"]:=zaI (by decide +kernel)
def g_bn:SM :=
 sSeq (sIf (zce (oIB λi j=>decide (i<j)) 1 (zbM 0))
 (sRet (dIxN 0 (dVar 1)))
 (sNx))
 (sRet (zah (.int 0)))
def F_bn:List D->Option D:=runD N_bn g_bn
abbrev Sbs:Stmt:=top 64
abbrev N_bs:List Str:=["_law_wishes_here", "_law_asker"]
theorem Hbs:FnNm (zak Sbs) N_bs ["sum", "sorted"]:=zaI (by decide +kernel)
def g_bs:SM :=
 sRet (zbH zgz (zae (zbH zkf (zae (dBin oIx (dIxN 0 (zah (.int 1))) (dVar 1)) (zae (mLst (mNil)) (mNil)))) (mNil)))
def F_bs:List D->Option D:=runD N_bs g_bs
abbrev Sbo:Stmt:=top 60
abbrev N_bo:List Str:=["_law_cell", "_law_salt", "_law_sizes", "_law_number", "_law_left", "_law_found", "_law_k", "_law_one"]
theorem Hbo:FnNm (zak Sbo) N_bo ["len", "range", "max"]:=zaI (by decide +kernel)
def ziE:SM :=
 sIf (mAnd (zce (oIB λi j=>decide (j<=i)) 3 (dBin oPow (zah (.int 10)) (zah (.int 18)))) (zce (oIB λi j=>decide (j<i)) 4 (zah (.int 0))))
 (sSeq (sApp 5 (dBin oMod (dVar 4) (dIxN 2 (dVar 6))))
 (sSet 4 (dBin oDiv (dVar 4) (dIxN 2 (dVar 6)))))
 (sSeq (sSet 7 (dBin oMod (dBin oAdd (dBin oAdd (dBin oAdd (dVar 3) (dBin oMul (zah (.int 7919)) (dVar 1))) (dBin oMul (dBin oMul (zah (.int 101)) (dVar 6)) (dVar 6))) (dVar 6)) (zah (.int 2147483647))))
 (sSeq (sSet 7 (dBin oMod (dBin oMul (dVar 7) (zah (.int 48271))) (zah (.int 2147483647))))
 (sSeq (sSet 7 (dBin oMod (dBin oMul (dBin oMod (dBin oMul (dVar 7) (dVar 7)) (zah (.int 2147483629))) (zah (.int 48271))) (zah (.int 2147483647))))
 (sApp 5 (dBin oMod (dBin oDiv (dVar 7) (zah (.int 16))) (dIxN 2 (dVar 6)))))))
def g_bo:SM :=
 sSeq (sSet 3 (zbH zk3 (zae (dVar 0) (zae (dBin oSub (dNeg (zah (.int 1))) (dVar 0)) (mNil)))))
 (sSeq (sSet 4 (dVar 3))
 (sSeq (zbV 5 (zau (mNil) λxs=>if xs.length<=1000000 then zah xs else λ_=>.bad))
 (sSeq (sFor (zeh (zae (zbM 2) (mNil))) (gN 6) ziE)
 (sRet (dVar 5)))))
def F_bo:List D->Option D:=runD N_bo g_bo
abbrev Sbu:Stmt:=top 66
abbrev N_bu:List Str:=["_law_wishes_here", "_law_cell", "_law_salt", "_law_left", "_law_digits", "_law_found", "_law_asker", "_law_some", "_law_thing"]
theorem Hbu:FnNm (zak Sbu) N_bu ["len", "range", "_law_wished", "_law_numbers", "list"]:=zaI (by decide +kernel)
def ziF:SM :=
 sSeq (sSet 7 (dBin oAdd (mMap PyData.list (zhd (za2 (dFun 2 F_bs (zae (dVar 0) (zae (dVar 6) (mNil))))) 1 (gN 9) (dBin (oIB λi j=>decide (j<i)) (dIxN 3 (dVar 9)) (zah (.int 0))) (dVar 9))) (mLst (zae (zah .none) (mNil)))))
 (sSeq (sSet 8 (dIxN 7 (dBin oMod (dIxN 4 (dVar 6)) (zbM 7))))
 (sSeq (sIf (mMap (λd=>!isNon d) (dVar 8))
 (zhh 3 (dVar 8) (dBin oSub (dIxN 3 (dVar 8)) (zah (.int 1))))
 (sNx))
 (sApp 5 (dVar 8))))
def g_bu:SM :=
 sSeq (zbV 3 (zau (zae (dIxN 0 (zah (.int 0))) (mNil)) λxs=>mOpt (zfh xs)))
 (sSeq (sSet 4 (dFun 3 F_bo (zae (dVar 1) (zae (dVar 2) (zae (dBin oMul (mLst (zae (zah (.int 61)) (mNil))) (zbH oLen (zae (dIxN 0 (zah (.int 1))) (mNil)))) (mNil))))))
 (sSeq (zbV 5 (zau (mNil) λxs=>if xs.length<=1000000 then zah xs else λ_=>.bad))
 (sSeq (sFor (zeh (zae (zbH oLen (zae (dIxN 0 (zah (.int 1))) (mNil))) (mNil))) (gN 6) ziF)
 (sRet (dVar 5)))))
def F_bu:List D->Option D:=runD N_bu g_bu
abbrev Sbq:Stmt:=top 62
abbrev N_bq:List Str:=["_law_wishes_here", "_law_asker", "_law_thing", "_law_k", "_law_row"]
theorem Hbq:FnNm (zak Sbq) N_bq ["enumerate"]:=zaI (by decide +kernel)
def zlX:SM :=
 sIf (zce oIn 2 (dVar 4))
 (sRet (dBin oAdd (dVar 3) (zah (.int 1))))
 (sNx)
def g_bq:SM :=
 sSeq (sFor (zdy (zae (dBin oIx (dIxN 0 (zah (.int 1))) (dVar 1)) (mNil))) (gT 2 (gNC (gN 3) (gNC (gN 4) (gN0)))) zlX)
 (sRet (zah (.int 0)))
def F_bq:List D->Option D:=runD N_bq g_bq
abbrev Sbr:Stmt:=top 63
abbrev N_br:List Str:=["_law_wishes_here"]
theorem Hbr:FnNm (zak Sbr) N_br ["max"]:=zaI (by decide +kernel)
def g_br:SM :=
 sRet (zbH zir (zae (mMap PyData.list (zct (za2 (dIxN 0 (zah (.int 1)))) 1 (gN 1) (zah true) (zbM 1))) (mNil)))
def F_br:List D->Option D:=runD N_br g_br
abbrev Sbv:Stmt:=top 67
abbrev N_bv:List Str:=["_law_wishes_here", "_law_dealing", "_law_counts_here", "_law_asker", "_law_thing"]
theorem Hbv:FnNm (zak Sbv) N_bv ["enumerate", "_law_rank", "_law_longest"]:=zaI (by decide +kernel)
def zlY:SM :=
 sIf (mMap isNon (dVar 4))
 (zhr (λi j=>some (.int (i+j))) 2 (dNeg (zah (.int 1))) (zah (.int 1)))
 (zhr (λi j=>some (.int (i+j))) 2 (dBin oSub (dFun 3 F_bq (zae (dVar 0) (zae (dVar 3) (zae (dVar 4) (mNil))))) (zah (.int 1))) (zah (.int 1)))
def g_bv:SM :=
 sSeq (zbV 2 (ziA (mLst (zae (zah (.int 0)) (mNil))) (dBin oAdd (dFun 1 F_br (zae (dVar 0) (mNil))) (zah (.int 1)))))
 (sSeq (sFor (zdy (zae (dVar 1) (mNil))) (gT 2 (gNC (gN 3) (gNC (gN 4) (gN0)))) zlY)
 (sRet (dVar 2)))
def F_bv:List D->Option D:=runD N_bv g_bv
abbrev Sby:Stmt:=top 70
abbrev N_by:List Str:=["_law_wishes_here", "_law_levels", "_law_dealing", "_law_counts_here", "_law_ranks"]
theorem Hby:FnNm (zak Sby) N_by ["len", "range", "sum", "_law_counts"]:=zaI (by decide +kernel)
def zlZ:SM :=
 sIf (dBin (oIB λi j=>decide (j<i)) (zbH zki (zae (dSlA (dVar 3) (zah none) (zau (dVar 4) λx=>mOpt (zc4 x))) (mNil))) (dIxN 1 (dVar 4)))
 (sRet (zah (.bool false)))
 (sNx)
def g_by:SM :=
 sSeq (sSet 3 (dFun 2 F_bv (zae (dVar 0) (zae (dVar 2) (mNil)))))
 (sSeq (sFor (zeh (zae (zbM 3) (mNil))) (gN 4) zlZ)
 (sRet (zah (.bool true))))
def F_by:List D->Option D:=runD N_by g_by
abbrev Sbz:Stmt:=top 71
abbrev N_bz:List Str:=["_law_wishes_here", "_law_levels", "_law_order", "_law_dealing", "_law_counts_here"]
theorem Hbz:FnNm (zak Sbz) N_bz ["len", "_law_counts"]:=zaI (by decide +kernel)
def g_bz:SM :=
 sSeq (sSet 4 (dFun 2 F_bv (zae (dVar 0) (zae (dVar 3) (mNil)))))
 (sSeq (sIf (zce oEq 2 (zah (.str "firsts")))
 (sRet (mOrV (mMap PyData.bool (dBin oEq (zbM 4) (zah (.int 1)))) (mMap PyData.bool (dBin oEq (dIxN 4 (zah (.int 0))) (dIxN 1 (zah (.int 1)))))))
 (sNx))
 (sRet (mMap PyData.bool (dBin oEq (dIxN 4 (dNeg (zah (.int 1)))) (dBin oSub (zbH oLen (zae (dIxN 0 (zah (.int 1))) (mNil))) (dIxN 1 (dBin oSub (zbM 4) (zah (.int 1)))))))))
def F_bz:List D->Option D:=runD N_bz g_bz
abbrev Sbw:Stmt:=top 68
abbrev N_bw:List Str:=["_law_thing"]
theorem Hbw:FnNm (zak Sbw) N_bw ["isinstance", "int", "bool"]:=zaI (by decide +kernel)
def g_bw:SM :=
 sRet (zie (mMap (λd=>.bool (isTy d "int")) (dVar 0)) (zk0 (mMap (λd=>.bool (isTy d "bool")) (dVar 0))))
def F_bw:List D->Option D:=runD N_bw g_bw
abbrev Sbx:Stmt:=top 69
abbrev N_bx:List Str:=["_law_wishes_here", "_law_thing", "_law_asker", "_law_one"]
theorem Hbx:FnNm (zak Sbx) N_bx ["enumerate", "_law_is_number", "_law_wished", "isinstance", "list", "len"]:=zaI (by decide +kernel)
def zl0:SM :=
 sSeq (sIf (mAnd (mMap (λd=>!isNon d) (dVar 3)) (mOr (mNot (zbE (dFun 1 F_bw (zae (dVar 3) (mNil))))) (zce oNin 3 (dFun 2 F_bs (zae (dVar 0) (zae (dVar 2) (mNil)))))))
 (sRet (zah (.bool false)))
 (sNx))
 (sIf (mAnd (mMap (λd=>!isNon d) (dVar 3)) (dBin (oIB λi j=>decide (j<i)) (zfW (dVar 1) (zae (dVar 3) (mNil))) (dBin oIx (dIxN 0 (zah (.int 0))) (dVar 3))))
 (sRet (zah (.bool false)))
 (sNx))
def g_bx:SM :=
 sSeq (sIf (mOr (mNot (zbE (mMap (λd=>.bool (isTy d "list")) (dVar 1)))) (dBin oNe (zbM 1) (zbH oLen (zae (dIxN 0 (zah (.int 1))) (mNil)))))
 (sRet (zah (.bool false)))
 (sNx))
 (sSeq (sFor (zdy (zae (dVar 1) (mNil))) (gT 2 (gNC (gN 2) (gNC (gN 3) (gN0)))) zl0)
 (sRet (zah (.bool true))))
def F_bx:List D->Option D:=runD N_bx g_bx
abbrev Sbh:Stmt:=top 50
abbrev N_bh:List Str:=["askers", "worths", "prices", "asks", "asker", "thing", "worth"]
theorem Hbh:FnNm (zak Sbh) N_bh ["max"]:=zaI (by decide +kernel)
def zl1:SM :=
 zhh 3 (dVar 4) (zbH zk3 (zae (dIxN 3 (dVar 4)) (zae (dBin oSub (dVar 6) (dIxN 2 (dVar 5))) (mNil))))
def g_bh:SM :=
 sSeq (zbV 3 (ziA (mLst (zae (zah (.int 0)) (mNil))) (dVar 0)))
 (sSeq (sFor (za2 (dVar 1)) (gT 3 (gNC (gN 4) (gNC (gN 5) (gNC (gN 6) (gN0))))) zl1)
 (sRet (dVar 3)))
def F_bh:List D->Option D:=runD N_bh g_bh
abbrev Saw:Stmt:=top 39
abbrev N_aw:List Str:=["nothing", "got"]
theorem Haw:FnNm (zak Saw) N_aw []:=zaI (by decide +kernel)
def g_aw:SM :=
 sRet (mIf (mMap isNon (dVar 1)) (dVar 0) (dVar 1))
def F_aw:List D->Option D:=runD N_aw g_aw
abbrev Sax:Stmt:=top 40
abbrev N_ax:List Str:=["nothing", "worths", "dealing", "had", "asker", "thing", "worth", "told"]
theorem Hax:FnNm (zak Sax) N_ax ["place_of", "enumerate", "len"]:=zaI (by decide +kernel)
def zl2:SM :=
 sIf (dBin oNe (dIxN 2 (dVar 4)) (dVar 5))
 (sApp 7 (mTup (zae (dFun 2 F_aw (zae (dVar 0) (zae (dIxN 2 (dVar 4)) (mNil)))) (zae (dVar 5) (zae (dBin oSub (dVar 6) (dIxN 3 (dVar 4))) (zae (dVar 4) (mNil)))))))
 (sNx)
def zl3:SM :=
 sIf (dBin oEq (dIxN 2 (dVar 4)) (dVar 5))
 (zhh 3 (dVar 4) (dVar 6))
 (sNx)
def g_ax:SM :=
 sSeq (zbV 3 (ziA (mLst (zae (zah (.int 0)) (mNil))) (zbM 2)))
 (sSeq (sFor (za2 (dVar 1)) (gT 3 (gNC (gN 4) (gNC (gN 5) (gNC (gN 6) (gN0))))) zl3)
 (sSeq (zbV 7 (zdC (zct (zdy (zae (dVar 2) (mNil))) 2 (gT 2 (gNC (gN 8) (gNC (gN 9) (gN0)))) (mMap (λd=>!isNon d) (dVar 9)) (mTup (zae (dVar 9) (zae (dVar 0) (zae (dNeg (dIxN 3 (dVar 8))) (zae (dVar 8) (mNil)))))))))
 (sSeq (sFor (za2 (dVar 1)) (gT 3 (gNC (gN 4) (gNC (gN 5) (gNC (gN 6) (gN0))))) zl2)
 (sRet (dVar 7)))))
def F_ax:List D->Option D:=runD N_ax g_ax
abbrev Saa:Stmt:=top 1
abbrev N_aa:List Str:=["thing"]
theorem Haa:FnNm (zak Saa) N_aa ["isinstance", "int", "bool"]:=zaI (by decide +kernel)
def g_aa:SM :=
 sRet (zie (mMap (λd=>.bool (isTy d "int")) (dVar 0)) (zk0 (mMap (λd=>.bool (isTy d "bool")) (dVar 0))))
def F_aa:List D->Option D:=runD N_aa g_aa
abbrev Sab:Stmt:=top 2
abbrev N_ab:List Str:=["thing", "many"]
theorem Hab:FnNm (zak Sab) N_ab ["is_whole"]:=zaI (by decide +kernel)
def g_ab:SM :=
 sRet (zie (dFun 1 F_aa (zae (dVar 0) (mNil))) (mMap PyData.bool (ze7 (oIB λi j=>decide (i<=j)) (oIB λi j=>decide (i<j)) (zah (.int 0)) (dVar 0) (dVar 1))))
def F_ab:List D->Option D:=runD N_ab g_ab
abbrev Sad:Stmt:=top 13
abbrev N_ad:List Str:=["thing", "things"]
theorem Had:FnNm (zak Sad) N_ad ["all", "isinstance", "list", "len"]:=zaI (by decide +kernel)
def g_ad:SM :=
 sSeq (sIf (mOr (mNot (zbE (mMap (λd=>.bool (isTy d "list")) (dVar 0)))) (dBin oEq (zbM 0) (zah (.int 0))))
 (sRet (zah (.bool false)))
 (sNx))
 (sRet (zbH oAll (zae (mMap PyData.list (zct (za2 (dVar 0)) 1 (gN 2) (zah true) (dFun 2 F_ab (zae (dVar 2) (zae (dVar 1) (mNil)))))) (mNil))))
def F_ad:List D->Option D:=runD N_ad g_ad
abbrev Sae:Stmt:=top 14
abbrev N_ae:List Str:=["thing", "things", "wished"]
theorem Hae:FnNm (zak Sae) N_ae ["len", "set", "all", "isinstance", "list", "MOST_RANKS"]:=zaI (by decide +kernel)
def g_ae:SM :=
 sSeq (sIf (mOr (mNot (zbE (mMap (λd=>.bool (isTy d "list")) (dVar 0)))) (dBin (oIB λi j=>decide (j<i)) (zbM 0) (zah (.int 5))))
 (sRet (zah (.bool false)))
 (sNx))
 (sSeq (sIf (mNot (zbE (zbH oAll (zae (mMap PyData.list (zct (za2 (dVar 0)) 1 (gN 3) (zah true) (dFun 2 F_ad (zae (dVar 3) (zae (dVar 1) (mNil)))))) (mNil)))))
 (sRet (zah (.bool false)))
 (sNx))
 (sSeq (zbV 2 (zhe (za2 (dVar 0)) 2 (gN 3) (zah true) (za2 (dVar 3)) (gN 4) (zah true) (dVar 4)))
 (sRet (mMap PyData.bool (dBin oEq (zbH zc5 (zae (dVar 2) (mNil))) (zbM 2))))))
def F_ae:List D->Option D:=runD N_ae g_ae
abbrev Saf:Stmt:=top 15
abbrev N_af:List Str:=["lists", "things", "asker", "ranks"]
theorem Haf:FnNm (zak Saf) N_af ["enumerate", "is_asker_list", "isinstance", "list", "len", "MOST_ASKERS"]:=zaI (by decide +kernel)
def zl4:SM :=
 sIf (mNot (zbE (dFun 2 F_ae (zae (dVar 3) (zae (dVar 1) (mNil))))))
 (zdz)
 (sNx)
def g_af:SM :=
 sSeq (sIf (mOr (mNot (zbE (mMap (λd=>.bool (isTy d "list")) (dVar 0)))) (mNot (ze7 (oIB λi j=>decide (i<=j)) (oIB λi j=>decide (i<=j)) (zah (.int 1)) (zbM 0) (zah (.int 7)))))
 (zdz)
 (sNx))
 (sFor (zdy (zae (dVar 0) (mNil))) (gT 2 (gNC (gN 2) (gNC (gN 3) (gN0)))) zl4)
def F_af:List D->Option D:=runD N_af g_af
abbrev Sac:Stmt:=top 12
abbrev N_ac:List Str:=["copies", "number", "many"]
theorem Hac:FnNm (zak Sac) N_ac ["enumerate", "MOST_COPIES", "is_number_below", "isinstance", "list", "len", "MOST_THINGS"]:=zaI (by decide +kernel)
def zl5:SM :=
 sIf (mNot (zbE (dFun 2 F_ab (zae (dVar 2) (zae (dBin oAdd (zah (.int 7)) (zah (.int 1))) (mNil))))))
 (zdz)
 (sNx)
def g_ac:SM :=
 sSeq (sIf (mOr (mNot (zbE (mMap (λd=>.bool (isTy d "list")) (dVar 0)))) (mNot (ze7 (oIB λi j=>decide (i<=j)) (oIB λi j=>decide (i<=j)) (zah (.int 1)) (zbM 0) (zah (.int 6)))))
 (zdz)
 (sNx))
 (sFor (zdy (zae (dVar 0) (mNil))) (gT 2 (gNC (gN 1) (gNC (gN 2) (gN0)))) zl5)
def F_ac:List D->Option D:=runD N_ac g_ac
abbrev Sag:Stmt:=top 16
abbrev N_ag:List Str:=["thing", "copies", "lists"]
theorem Hag:FnNm (zak Sag) N_ag ["len", "look_at_lists", "look_at_copies", "isinstance", "tuple"]:=zaI (by decide +kernel)
def g_ag:SM :=
 sSeq (sIf (mOr (mNot (zbE (mMap (λd=>.bool (isTy d "tuple")) (dVar 0)))) (dBin oNe (zbM 0) (zah (.int 2))))
 (zdz)
 (sNx))
 (sSeq (sAsg (dVar 0) (gT 2 (gNC (gN 1) (gNC (gN 2) (gN0)))))
 (sSeq (ze9 (dFun 1 F_ac (zae (dVar 1) (mNil))))
 (ze9 (dFun 2 F_af (zae (dVar 2) (zae (zbM 1) (mNil)))))))
def F_ag:List D->Option D:=runD N_ag g_ag
abbrev Sak:Stmt:=top 21
abbrev N_ak:List Str:=["wishes", "dealing"]
theorem Hak:FnNm (zak Sak) N_ak ["enumerate", "look_at_wishes"]:=zaI (by decide +kernel)
def g_ak:SM :=
 sSeq (ze9 (dFun 1 F_ag (zae (dVar 0) (mNil))))
 (sRet (mMap PyData.list (zct (zdy (zae (dIxN 0 (zah (.int 0))) (mNil))) 2 (gT 2 (gNC (gN 2) (gNC (gN 3) (gN0)))) (zah true) (dBin oSub (dVar 3) (zfW (dVar 1) (zae (dVar 2) (mNil)))))))
def F_ak:List D->Option D:=runD N_ak g_ak
abbrev Say:Stmt:=top 41
abbrev N_ay:List Str:=["wishes", "dealing", "nothing", "left", "to_nothing"]
theorem Hay:FnNm (zak Say) N_ay ["range", "enumerate", "copies_left", "len"]:=zaI (by decide +kernel)
def g_ay:SM :=
 sSeq (sSet 2 (zbH oLen (zae (dIxN 0 (zah (.int 0))) (mNil))))
 (sSeq (sSet 3 (dFun 2 F_ak (zae (dVar 0) (zae (dVar 1) (mNil)))))
 (sSeq (zbV 4 (zct (zdy (zae (dVar 3) (mNil))) 2 (gT 2 (gNC (gN 5) (gNC (gN 6) (gN0)))) (zce (oIB λi j=>decide (j<i)) 6 (zah (.int 0))) (mTup (zae (dVar 5) (zae (dVar 2) (zae (zah (.int 0)) (zae (zah .none) (mNil))))))))
 (sRet (dBin oAdd (dVar 4) (mMap PyData.list (zct (zeh (zae (dVar 2) (mNil))) 1 (gN 5) (zah true) (mTup (zae (dVar 2) (zae (dVar 5) (zae (zah (.int 0)) (zae (zah .none) (mNil))))))))))))
def F_ay:List D->Option D:=runD N_ay g_ay
abbrev Saz:Stmt:=top 42
abbrev N_az:List Str:=["wishes", "worths", "dealing"]
theorem Haz:FnNm (zak Saz) N_az ["len", "steps_of_askers", "steps_of_copies"]:=zaI (by decide +kernel)
def g_az:SM :=
 sRet (dBin oAdd (dFun 3 F_ax (zae (zbH oLen (zae (dIxN 0 (zah (.int 0))) (mNil))) (zae (dVar 1) (zae (dVar 2) (mNil))))) (dFun 2 F_ay (zae (dVar 0) (zae (dVar 2) (mNil)))))
def F_az:List D->Option D:=runD N_az g_az
abbrev Sba:Stmt:=top 43
abbrev N_ba:List Str:=["walks", "steps", "told", "step", "ahead", "behind", "gain", "asker", "gained", "walked"]
theorem Hba:FnNm (zak Sba) N_ba ["list"]:=zaI (by decide +kernel)
def zl6:SM :=
 sSeq (sAsg (dVar 3) (gT 4 (gNC (gN 4) (gNC (gN 5) (gNC (gN 6) (gNC (gN 7) (gN0)))))))
 (sSeq (sAsg (dIxN 0 (dVar 4)) (gT 2 (gNC (gN 8) (gNC (gN 9) (gN0)))))
 (sIf (dBin (oIB λi j=>decide (j<i)) (dBin oAdd (dVar 8) (dVar 6)) (dBin oIx (dIxN 2 (dVar 5)) (zah (.int 0))))
 (zhh 2 (dVar 5) (mTup (zae (dBin oAdd (dVar 8) (dVar 6)) (zae (dBin oAdd (dVar 9) (mLst (zae (dVar 3) (mNil)))) (mNil)))))
 (sNx)))
def g_ba:SM :=
 sSeq (zbV 2 (zfT 0))
 (sSeq (sFor (za2 (dVar 1)) (gN 3) zl6)
 (sRet (dVar 2)))
def F_ba:List D->Option D:=runD N_ba g_ba
abbrev Sbb:Stmt:=top 44
abbrev N_bb:List Str:=["places", "steps", "told", "turn"]
theorem Hbb:FnNm (zak Sbb) N_bb ["range", "longer_walks"]:=zaI (by decide +kernel)
def zl7:SM :=
 sSet 2 (dFun 2 F_ba (zae (dVar 2) (zae (dVar 1) (mNil))))
def g_bb:SM :=
 sSeq (sSet 2 (dBin oMul (mLst (zae (mTup (zae (zah (.int 0)) (zae (mLst (mNil)) (mNil)))) (mNil))) (dVar 0)))
 (sSeq (sFor (zeh (zae (dVar 0) (mNil))) (gN 3) zl7)
 (sRet (dVar 2)))
def F_bb:List D->Option D:=runD N_bb g_bb
abbrev Sbg:Stmt:=top 49
abbrev N_bg:List Str:=["wishes", "worths", "dealing", "nothing", "walks"]
theorem Hbg:FnNm (zak Sbg) N_bg ["all_steps", "widest_walks", "len"]:=zaI (by decide +kernel)
def g_bg:SM :=
 sSeq (sSet 3 (zbH oLen (zae (dIxN 0 (zah (.int 0))) (mNil))))
 (sSeq (sSet 4 (dFun 2 F_bb (zae (dBin oAdd (dVar 3) (zah (.int 1))) (zae (dFun 3 F_az (zae (dVar 0) (zae (dVar 1) (zae (dVar 2) (mNil))))) (mNil)))))
 (sRet (mMap PyData.list (zct (za2 (dSlA (dVar 4) (zah none) (zau (dVar 3) λx=>mOpt (zc4 x)))) 2 (gT 2 (gNC (gN 5) (gNC (gN 6) (gN0)))) (zah true) (dVar 5)))))
def F_bg:List D->Option D:=runD N_bg g_bg
abbrev Sbi:Stmt:=top 51
abbrev N_bi:List Str:=["wishes", "worths", "dealing", "prices"]
theorem Hbi:FnNm (zak Sbi) N_bi ["len", "asks_beyond", "prices_for"]:=zaI (by decide +kernel)
def g_bi:SM :=
 sSeq (sSet 3 (dFun 3 F_bg (zae (dVar 0) (zae (dVar 1) (zae (dVar 2) (mNil))))))
 (sRet (mTup (zae (zah (.int 1)) (zae (dFun 3 F_bh (zae (zbH oLen (zae (dIxN 0 (zah (.int 1))) (mNil))) (zae (dVar 1) (zae (dVar 3) (mNil))))) (zae (dVar 3) (mNil))))))
def F_bi:List D->Option D:=runD N_bi g_bi
abbrev Sbc:Stmt:=top 45
abbrev N_bc:List Str:=["walk", "end", "step", "begin"]
theorem Hbc:FnNm (zak Sbc) N_bc ["enumerate", "range"]:=zaI (by decide +kernel)
def zl8:SM :=
 sIf (dBin oEq (dBin oIx (dIxN 0 (dVar 3)) (zah (.int 0))) (dIxN 2 (zah (.int 1))))
 (sRet (dSlA (dVar 0) (zau (dVar 3) λx=>mOpt (zc4 x)) (zau (dBin oAdd (dVar 1) (zah (.int 1))) λx=>mOpt (zc4 x))))
 (sNx)
def zl9:SM :=
 sFor (zeh (zae (dBin oAdd (dVar 1) (zah (.int 1))) (mNil))) (gN 3) zl8
def g_bc:SM :=
 sSeq (sFor (zdy (zae (dVar 0) (mNil))) (gT 2 (gNC (gN 1) (gNC (gN 2) (gN0)))) zl9)
 (sRet (mLst (mNil)))
def F_bc:List D->Option D:=runD N_bc g_bc
abbrev Sbd:Stmt:=top 46
abbrev N_bd:List Str:=["nothing", "steps", "begin", "number", "step", "way", "ahead", "behind", "gain", "asker"]
theorem Hbd:FnNm (zak Sbd) N_bd ["enumerate"]:=zaI (by decide +kernel)
def zma:SM :=
 sIf (mMap (λd=>!isNon d) (dVar 9))
 (sApp 5 (mTup (zae (dVar 9) (zae (mIf (zce oEq 7 (dVar 0)) (zah .none) (dVar 7)) (mNil)))))
 (sNx)
def zmb:SM :=
 sIf (dBin oEq (dIxN 4 (zah (.int 0))) (dVar 0))
 (sSet 2 (dVar 3))
 (sNx)
def g_bd:SM :=
 sSeq (sSet 2 (zah (.int 0)))
 (sSeq (sFor (zdy (zae (dVar 1) (mNil))) (gT 2 (gNC (gN 3) (gNC (gN 4) (gN0)))) zmb)
 (sSeq (zbV 5 (zau (mNil) λxs=>if xs.length<=1000000 then zah xs else λ_=>.bad))
 (sSeq (sFor (za2 (dBin oAdd (dSlA (dVar 1) (zau (dVar 2) λx=>mOpt (zc4 x)) (zah none)) (dSlA (dVar 1) (zah none) (zau (dVar 2) λx=>mOpt (zc4 x))))) (gT 4 (gNC (gN 6) (gNC (gN 7) (gNC (gN 8) (gNC (gN 9) (gN0)))))) zma)
 (sRet (dVar 5)))))
def F_bd:List D->Option D:=runD N_bd g_bd
abbrev Sbe:Stmt:=top 47
abbrev N_be:List Str:=["wishes", "worths", "dealing", "nothing", "gained", "walk"]
theorem Hbe:FnNm (zak Sbe) N_be ["all_steps", "widest_walks", "len", "round_within", "way_round"]:=zaI (by decide +kernel)
def zmc:SM :=
 sIf (dBin oEq (zbM 5) (dBin oAdd (dVar 3) (zah (.int 1))))
 (sRet (dFun 2 F_bd (zae (dVar 3) (zae (dFun 1 F_bc (zae (dVar 5) (mNil))) (mNil)))))
 (sNx)
def g_be:SM :=
 sSeq (sSet 3 (zbH oLen (zae (dIxN 0 (zah (.int 0))) (mNil))))
 (sSeq (sFor (za2 (dFun 2 F_bb (zae (dBin oAdd (dVar 3) (zah (.int 1))) (zae (dFun 3 F_az (zae (dVar 0) (zae (dVar 1) (zae (dVar 2) (mNil))))) (mNil))))) (gT 2 (gNC (gN 4) (gNC (gN 5) (gN0)))) zmc)
 (sRet (mLst (mNil))))
def F_be:List D->Option D:=runD N_be g_be
abbrev Sav:Stmt:=top 37
abbrev N_av:List Str:=["dealing", "way", "told", "asker", "taken"]
theorem Hav:FnNm (zak Sav) N_av ["list"]:=zaI (by decide +kernel)
def zmd:SM :=
 zhh 2 (dVar 3) (dVar 4)
def g_av:SM :=
 sSeq (zbV 2 (zfT 0))
 (sSeq (sFor (za2 (dVar 1)) (gT 2 (gNC (gN 3) (gNC (gN 4) (gN0)))) zmd)
 (sRet (dVar 2)))
def F_av:List D->Option D:=runD N_av g_av
abbrev Sbf:Stmt:=top 48
abbrev N_bf:List Str:=["wishes", "worths", "dealing", "way"]
theorem Hbf:FnNm (zak Sbf) N_bf ["gaining_way", "behind_way", "len"]:=zaI (by decide +kernel)
def zgB:SM :=
 sSeq (sSet 2 (dFun 2 F_av (zae (dVar 2) (zae (dVar 3) (mNil)))))
 (sSet 3 (dFun 3 F_be (zae (dVar 0) (zae (dVar 1) (zae (dVar 2) (mNil))))))
def g_bf:SM :=
 sSeq (sSet 2 (dBin oMul (mLst (zae (zah .none) (mNil))) (zbH oLen (zae (dIxN 0 (zah (.int 1))) (mNil)))))
 (sSeq (sSet 3 (dFun 3 F_be (zae (dVar 0) (zae (dVar 1) (zae (dVar 2) (mNil))))))
 (sSeq (zcH (zfp (dVar 3)) zgB FUEL)
 (sRet (dVar 2))))
def F_bf:List D->Option D:=runD N_bf g_bf
abbrev Saj:Stmt:=top 19
abbrev N_aj:List Str:=["wishes"]
theorem Haj:FnNm (zak Saj) N_aj ["enumerate", "sorted", "look_at_wishes"]:=zaI (by decide +kernel)
def g_aj:SM :=
 sSeq (ze9 (dFun 1 F_ag (zae (dVar 0) (mNil))))
 (sRet (zbH zgz (zae (mMap PyData.list (zhf (zdy (zae (dIxN 0 (zah (.int 1))) (mNil))) 4 (gT 2 (gNC (gN 1) (gNC (gN 2) (gN0)))) (zah true) (za2 (dVar 2)) (gN 3) (zah true) (za2 (dVar 3)) (gN 4) (zah true) (mTup (zae (dVar 1) (zae (dVar 4) (mNil)))))) (mNil))))
def F_aj:List D->Option D:=runD N_aj g_aj
abbrev Saq:Stmt:=top 31
abbrev N_aq:List Str:=["base", "times", "told", "step"]
theorem Haq:FnNm (zak Saq) N_aq ["range"]:=zaI (by decide +kernel)
def zme:SM :=
 sAug gMul 2 (dVar 0)
def g_aq:SM :=
 sSeq (sSet 2 (zah (.int 1)))
 (sSeq (sFor (zeh (zae (dVar 1) (mNil))) (gN 3) zme)
 (sRet (dVar 2)))
def F_aq:List D->Option D:=runD N_aq g_aq
abbrev Sas:Stmt:=top 33
abbrev N_as:List Str:=["turns", "base", "asker", "rank", "behind"]
theorem Has:FnNm (zak Sas) N_as ["power", "len"]:=zaI (by decide +kernel)
def g_as:SM :=
 sSeq (sIf (zce oNin 2 (dVar 0))
 (sRet (zah (.int 0)))
 (sNx))
 (sSeq (sSet 4 (dBin oSub (dBin oSub (zbM 0) (zah (.int 1))) (zjm (dVar 0) (zae (dVar 2) (mNil)))))
 (sRet (dBin oMul (dBin oSub (dVar 1) (dVar 3)) (dFun 2 F_aq (zae (dVar 1) (zae (dVar 4) (mNil)))))))
def F_as:List D->Option D:=runD N_as g_as
abbrev Sar:Stmt:=top 32
abbrev N_ar:List Str:=["order", "base", "most", "rank"]
theorem Har:FnNm (zak Sar) N_ar ["power"]:=zaI (by decide +kernel)
def g_ar:SM :=
 sSeq (sIf (zce oEq 0 (zah (.str "firsts")))
 (sRet (dFun 2 F_aq (zae (dVar 1) (zae (dBin oSub (dVar 2) (dVar 3)) (mNil)))))
 (sNx))
 (sSeq (sIf (zce oEq 0 (zah (.str "full")))
 (sRet (dBin oAdd (dFun 2 F_aq (zae (dVar 1) (zae (dVar 2) (mNil)))) (dFun 2 F_aq (zae (dVar 1) (zae (dBin oSub (dVar 2) (dVar 3)) (mNil))))))
 (sNx))
 (sRet (dBin oSub (dFun 2 F_aq (zae (dVar 1) (zae (dVar 2) (mNil)))) (dFun 2 F_aq (zae (dVar 1) (zae (dBin oSub (dVar 3) (zah (.int 1))) (mNil)))))))
def F_ar:List D->Option D:=runD N_ar g_ar
abbrev Sah:Stmt:=top 17
abbrev N_ah:List Str:=["ranks", "thing", "number", "rank"]
theorem Hah:FnNm (zak Sah) N_ah ["enumerate"]:=zaI (by decide +kernel)
def zmf:SM :=
 sIf (zce oIn 1 (dVar 3))
 (sRet (dVar 2))
 (sNx)
def g_ah:SM :=
 sSeq (sFor (zje (zae (dVar 0) (mNil))) (gT 2 (gNC (gN 2) (gNC (gN 3) (gN0)))) zmf)
 (sRet (zah (.int 0)))
def F_ah:List D->Option D:=runD N_ah g_ah
abbrev Sat:Stmt:=top 34
abbrev N_at:List Str:=["wishes", "aim", "most", "asker", "thing", "order", "old", "turns", "lists", "rank", "base", "kept", "by_counts"]
theorem Hat:FnNm (zak Sat) N_at ["len", "power", "worth_by_turns", "worth_by_order", "rank_in"]:=zaI (by decide +kernel)
def g_at:SM :=
 sSeq (sAsg (dVar 1) (gT 3 (gNC (gN 5) (gNC (gN 6) (gNC (gN 7) (gN0))))))
 (sSeq (sSet 8 (dIxN 0 (zah (.int 1))))
 (sSeq (sSet 9 (dFun 2 F_ah (zae (dIxN 8 (dVar 3)) (zae (dVar 4) (mNil)))))
 (sSeq (sSet 10 (dBin oAdd (zbM 8) (zah (.int 1))))
 (sSeq (sSet 11 (mIf (mAnd (mMap (λd=>!isNon d) (dVar 6)) (dBin oEq (dIxN 6 (dVar 3)) (dVar 4))) (zah (.int 1)) (zah (.int 0))))
 (sSeq (sSet 12 (dBin oAdd (dBin oMul (dFun 4 F_ar (zae (dVar 5) (zae (dVar 10) (zae (dVar 2) (zae (dVar 9) (mNil)))))) (dVar 10)) (dVar 11)))
 (sRet (dBin oAdd (dBin oMul (dVar 12) (dFun 2 F_aq (zae (dBin oAdd (dVar 2) (zah (.int 1))) (zae (zbM 7) (mNil))))) (dFun 4 F_as (zae (dVar 7) (zae (dBin oAdd (dVar 2) (zah (.int 1))) (zae (dVar 3) (zae (dVar 9) (mNil)))))))))))))
def F_at:List D->Option D:=runD N_at g_at
abbrev Sai:Stmt:=top 18
abbrev N_ai:List Str:=["wishes"]
theorem Hai:FnNm (zak Sai) N_ai ["max", "look_at_wishes"]:=zaI (by decide +kernel)
def g_ai:SM :=
 sSeq (ze9 (dFun 1 F_ag (zae (dVar 0) (mNil))))
 (sRet (zbH zir (zae (mMap PyData.list (zct (za2 (dIxN 0 (zah (.int 1)))) 1 (gN 1) (zah true) (zbM 1))) (mNil))))
def F_ai:List D->Option D:=runD N_ai g_ai
abbrev Sao:Stmt:=top 28
abbrev N_ao:List Str:=["thing", "askers"]
theorem Hao:FnNm (zak Sao) N_ao ["len", "set", "isinstance", "list", "all"]:=zaI (by decide +kernel)
def g_ao:SM :=
 sSeq (sIf (mOr (mNot (zbE (mMap (λd=>.bool (isTy d "list")) (dVar 0)))) (mNot (zbE (zbH oAll (zae (mMap PyData.list (zct (za2 (dVar 0)) 1 (gN 2) (zah true) (dFun 2 F_ab (zae (dVar 2) (zae (dVar 1) (mNil)))))) (mNil))))))
 (sRet (zah (.bool false)))
 (sNx))
 (sRet (mMap PyData.bool (dBin oEq (zbH zc5 (zae (dVar 0) (mNil))) (zbM 0))))
def F_ao:List D->Option D:=runD N_ao g_ao
abbrev San:Stmt:=top 27
abbrev N_an:List Str:=["thing", "askers", "things"]
theorem Han:FnNm (zak San) N_an ["all", "isinstance", "list", "len"]:=zaI (by decide +kernel)
def g_an:SM :=
 sSeq (sIf (mMap isNon (dVar 0))
 (sRet (zah (.bool true)))
 (sNx))
 (sSeq (sIf (mOr (mNot (zbE (mMap (λd=>.bool (isTy d "list")) (dVar 0)))) (dBin oNe (zbM 0) (dVar 1)))
 (sRet (zah (.bool false)))
 (sNx))
 (sRet (zbH oAll (zae (mMap PyData.list (zct (za2 (dVar 0)) 1 (gN 3) (zah true) (mOrV (mMap (λd=>.bool (isNon d)) (dVar 3)) (dFun 2 F_ab (zae (dVar 3) (zae (dVar 2) (mNil))))))) (mNil)))))
def F_an:List D->Option D:=runD N_an g_an
abbrev Sal:Stmt:=top 24
abbrev N_al:List Str:=["thing"]
theorem Hal:FnNm (zak Sal) N_al ["isinstance", "str", "ORDERS"]:=zaI (by decide +kernel)
def g_al:SM :=
 sRet (zie (mMap (λd=>.bool (isTy d "str")) (dVar 0)) (mMap PyData.bool (zce oIn 0 (zah (.tuple ((["firsts", "full", "lasts"]:List Str).map PyData.str))))))
def F_al:List D->Option D:=runD N_al g_al
abbrev Sam:Stmt:=top 25
abbrev N_am:List Str:=["thing"]
theorem Ham:FnNm (zak Sam) N_am ["is_order"]:=zaI (by decide +kernel)
def g_am:SM :=
 sIf (mNot (zbE (dFun 1 F_al (zae (dVar 0) (mNil)))))
 (zdz)
 (sNx)
def F_am:List D->Option D:=runD N_am g_am
abbrev Sap:Stmt:=top 29
abbrev N_ap:List Str:=["wishes", "thing", "copies", "lists", "order", "old", "turns"]
theorem Hap:FnNm (zak Sap) N_ap ["len", "is_turns", "is_old", "look_at_order", "isinstance", "tuple", "look_at_wishes"]:=zaI (by decide +kernel)
def g_ap:SM :=
 sSeq (ze9 (dFun 1 F_ag (zae (dVar 0) (mNil))))
 (sSeq (sIf (mOr (mNot (zbE (mMap (λd=>.bool (isTy d "tuple")) (dVar 1)))) (dBin oNe (zbM 1) (zah (.int 3))))
 (zdz)
 (sNx))
 (sSeq (sAsg (dVar 0) (gT 2 (gNC (gN 2) (gNC (gN 3) (gN0)))))
 (sSeq (sAsg (dVar 1) (gT 3 (gNC (gN 4) (gNC (gN 5) (gNC (gN 6) (gN0))))))
 (sSeq (ze9 (dFun 1 F_am (zae (dVar 4) (mNil))))
 (sSeq (sIf (mNot (zbE (dFun 3 F_an (zae (dVar 5) (zae (zbM 3) (zae (zbM 2) (mNil)))))))
 (zdz)
 (sNx))
 (sIf (mNot (zbE (dFun 2 F_ao (zae (dVar 6) (zae (zbM 3) (mNil))))))
 (zdz)
 (sNx)))))))
def F_ap:List D->Option D:=runD N_ap g_ap
abbrev Sau:Stmt:=top 35
abbrev N_au:List Str:=["wishes", "aim", "most"]
theorem Hau:FnNm (zak Sau) N_au ["all_wishes", "longest", "look_at_aim"]:=zaI (by decide +kernel)
def g_au:SM :=
 sSeq (ze9 (dFun 2 F_ap (zae (dVar 0) (zae (dVar 1) (mNil)))))
 (sSeq (sSet 2 (dFun 1 F_ai (zae (dVar 0) (mNil))))
 (sRet (mMap PyData.list (zct (za2 (dFun 1 F_aj (zae (dVar 0) (mNil)))) 2 (gT 2 (gNC (gN 3) (gNC (gN 4) (gN0)))) (zah true) (mTup (zae (dVar 3) (zae (dVar 4) (zae (dFun 5 F_at (zae (dVar 0) (zae (dVar 1) (zae (dVar 2) (zae (dVar 3) (zae (dVar 4) (mNil))))))) (mNil)))))))))
def F_au:List D->Option D:=runD N_au g_au
abbrev Sbm:Stmt:=top 57
abbrev N_bm:List Str:=["wishes", "aim", "worths", "dealing"]
theorem Hbm:FnNm (zak Sbm) N_bm ["paper_for", "best_by", "all_worths"]:=zaI (by decide +kernel)
def g_bm:SM :=
 sSeq (sSet 2 (dFun 2 F_au (zae (dVar 0) (zae (dVar 1) (mNil)))))
 (sSeq (sSet 3 (dFun 2 F_bf (zae (dVar 0) (zae (dVar 2) (mNil)))))
 (sRet (mTup (zae (dVar 3) (zae (dFun 3 F_bi (zae (dVar 0) (zae (dVar 2) (zae (dVar 3) (mNil))))) (mNil))))))
def F_bm:List D->Option D:=runD N_bm g_bm
abbrev Sbj:Stmt:=top 53
abbrev N_bj:List Str:=["wishes", "ranks"]
theorem Hbj:FnNm (zak Sbj) N_bj ["all_wishes"]:=zaI (by decide +kernel)
def g_bj:SM :=
 sRet (mMap PyData.list (zct (za2 (dFun 1 F_aj (zae (dVar 0) (mNil)))) 2 (gT 2 (gNC (gN 2) (gNC (gN 3) (gN0)))) (dBin (oIB λi j=>decide (i<=j)) (dFun 2 F_ah (zae (dBin oIx (dIxN 0 (zah (.int 1))) (dVar 2)) (zae (dVar 3) (mNil)))) (dVar 1)) (mTup (zae (dVar 2) (zae (dVar 3) (zae (zah (.int 1)) (mNil)))))))
def F_bj:List D->Option D:=runD N_bj g_bj
abbrev Sbk:Stmt:=top 54
abbrev N_bk:List Str:=["wishes", "ranks"]
theorem Hbk:FnNm (zak Sbk) N_bk ["worths_within", "best_by"]:=zaI (by decide +kernel)
def g_bk:SM :=
 sRet (dFun 2 F_bf (zae (dVar 0) (zae (dFun 2 F_bj (zae (dVar 0) (zae (dVar 1) (mNil)))) (mNil))))
def F_bk:List D->Option D:=runD N_bk g_bk
abbrev Sbl:Stmt:=top 55
abbrev N_bl:List Str:=["wishes", "ranks"]
theorem Hbl:FnNm (zak Sbl) N_bl ["level_dealing", "len"]:=zaI (by decide +kernel)
def g_bl:SM :=
 sRet (zbH oLen (zae (mMap PyData.list (zct (za2 (dFun 2 F_bk (zae (dVar 0) (zae (dVar 1) (mNil))))) 1 (gN 2) (mMap (λd=>!isNon d) (dVar 2)) (dVar 2))) (mNil)))
def F_bl:List D->Option D:=runD N_bl g_bl
abbrev Sbt:Stmt:=top 65
abbrev N_bt:List Str:=["_law_wishes_here", "_law_cell", "_law_salt", "_law_askers", "_law_sizes", "_law_digits", "_law_old", "_law_turns", "_law_digit"]
theorem Hbt:FnNm (zak Sbt) N_bt ["_law_numbers", "len"]:=zaI (by decide +kernel)
def zgC:SM :=
 sSet 8 (dBin oMod (dBin oAdd (dVar 8) (zah (.int 1))) (dVar 3))
def zmg:SM :=
 sSeq (zcH (zgA oIn (dVar 8) 7) zgC 1000)
 (sApp 7 (dVar 8))
def g_bt:SM :=
 sSeq (sSet 3 (zbH oLen (zae (dIxN 0 (zah (.int 1))) (mNil))))
 (sSeq (sSet 4 (dBin oAdd (mLst (zae (zah (.int 3)) (zae (zah (.int 2)) (zae (dBin oAdd (dVar 3) (zah (.int 1))) (mNil))))) (dBin oMul (mLst (zae (dBin oAdd (zbH oLen (zae (dIxN 0 (zah (.int 0))) (mNil))) (zah (.int 1))) (mNil))) (dVar 3))))
 (sSeq (sSet 5 (dFun 3 F_bo (zae (dVar 1) (zae (dVar 2) (zae (dBin oAdd (dVar 4) (dBin oMul (mLst (zae (dVar 3) (mNil))) (dVar 3))) (mNil))))))
 (sSeq (sSet 6 (zah .none))
 (sSeq (sIf (dBin oEq (dIxN 5 (zah (.int 1))) (zah (.int 1)))
 (zbV 6 (zct (za2 (dSlA (dVar 5) (zau (zah (.int 3)) λx=>mOpt (zc4 x)) (zau (dBin oAdd (zah (.int 3)) (dVar 3)) λx=>mOpt (zc4 x)))) 1 (gN 9) (zah true) (dBin oIx (mLst (zae (zah .none) (zae (dBin oSub (dVar 9) (zah (.int 1))) (mNil)))) (zbH zli (zae (mMap PyData.bool (zce (oIB λi j=>decide (j<i)) 9 (zah (.int 0)))) (mNil))))))
 (sNx))
 (sSeq (zbV 7 (zau (mNil) λxs=>if xs.length<=1000000 then zah xs else λ_=>.bad))
 (sSeq (sFor (za2 (dSlA (dVar 5) (zau (dBin oAdd (zah (.int 3)) (dVar 3)) λx=>mOpt (zc4 x)) (zau (dBin oAdd (dBin oAdd (zah (.int 3)) (dVar 3)) (dIxN 5 (zah (.int 2)))) λx=>mOpt (zc4 x)))) (gN 8) zmg)
 (sRet (mTup (zae (dBin oIx (mLst (zae (zah (.str "firsts")) (zae (zah (.str "full")) (zae (zah (.str "lasts")) (mNil))))) (dIxN 5 (zah (.int 0)))) (zae (dVar 6) (zae (dVar 7) (mNil))))))))))))
def F_bt:List D->Option D:=runD N_bt g_bt
abbrev Sbp:Stmt:=top 61
abbrev N_bp:List Str:=["_law_script", "_law_at", "_law_most_things", "_law_most_askers", "_law_most_ranks", "_law_sizes", "_law_digits", "_law_copies", "_law_lists", "_law_asker", "_law_cell", "_law_places", "_law_ranks", "_law_rank_here", "_law_row"]
theorem Hbp:FnNm (zak Sbp) N_bp ["range", "len", "_law_numbers", "_law_cell_at"]:=zaI (by decide +kernel)
def ziG:SM :=
 sSeq (zbV 14 (zct (zeh (zae (zbM 7) (mNil))) 1 (gN 15) (dBin oEq (dIxN 11 (dVar 15)) (dVar 13)) (dVar 15)))
 (sIf (zce oNe 14 (mLst (mNil)))
 (sApp 12 (dBin oIx (mLst (zae (dVar 14) (zae (dRev (dVar 14) (zah none) (zah none) (zau (dNeg (zah (.int 1))) λx=>mOpt (zc4 x))) (mNil)))) (dIxN 11 (dNeg (zah (.int 1))))))
 (sNx))
def ziH:SM :=
 sSeq (sSet 10 (dFun 2 F_bn (zae (dVar 0) (zae (dBin oAdd (dBin oAdd (dVar 1) (zah (.int 1))) (dVar 9)) (mNil)))))
 (sSeq (sSet 11 (dFun 3 F_bo (zae (dVar 10) (zae (dBin oAdd (dBin oAdd (dBin oMul (zah (.int 11)) (dVar 1)) (dBin oMul (zah (.int 3)) (dVar 9))) (zah (.int 1))) (zae (dBin oAdd (dBin oMul (mLst (zae (dBin oAdd (dVar 4) (zah (.int 1))) (mNil))) (dVar 2)) (mLst (zae (zah (.int 2)) (mNil)))) (mNil))))))
 (sSeq (zbV 12 (zau (mNil) λxs=>if xs.length<=1000000 then zah xs else λ_=>.bad))
 (sSeq (sFor (zno (zae (zah (.int 1)) (zae (dBin oAdd (dVar 4) (zah (.int 1))) (mNil)))) (gN 13) ziG)
 (sApp 8 (dVar 12)))))
def g_bp:SM :=
 sSeq (sSet 5 (dBin oAdd (mLst (zae (dVar 2) (zae (dVar 3) (mNil)))) (dBin oMul (mLst (zae (zah (.int 11)) (mNil))) (dVar 2))))
 (sSeq (sSet 6 (dFun 3 F_bo (zae (dFun 2 F_bn (zae (dVar 0) (zae (dVar 1) (mNil)))) (zae (dVar 1) (zae (dVar 5) (mNil))))))
 (sSeq (zbV 7 (zct (za2 (dSlA (dVar 6) (zau (zah (.int 2)) λx=>mOpt (zc4 x)) (zau (dBin oAdd (zah (.int 3)) (dIxN 6 (zah (.int 0)))) λx=>mOpt (zc4 x)))) 1 (gN 15) (zah true) (dBin oIx (mLst (zae (zah (.int 1)) (zae (zah (.int 1)) (zae (zah (.int 2)) (zae (zah (.int 0)) (zae (zah (.int 3)) (zae (zah (.int 7)) (zae (zah (.int 1)) (zae (zah (.int 4)) (zae (zah (.int 5)) (zae (zah (.int 6)) (zae (zah (.int 1)) (mNil))))))))))))) (dVar 15))))
 (sSeq (zbV 8 (zau (mNil) λxs=>if xs.length<=1000000 then zah xs else λ_=>.bad))
 (sSeq (sFor (zeh (zae (dBin oAdd (zah (.int 1)) (dIxN 6 (zah (.int 1)))) (mNil))) (gN 9) ziH)
 (sRet (mTup (zae (dVar 7) (zae (dVar 8) (mNil)))))))))
def F_bp:List D->Option D:=runD N_bp g_bp
abbrev Sca:Stmt:=top 72
abbrev N_ca:List Str:=["_law_script", "_law_wishes_here", "_law_aim_here", "_law_levels", "_law_order", "_law_old", "_law_turns", "_law_best", "_law_k", "_law_cell"]
theorem Hca:FnNm (zak Sca) N_ca ["_law_cell_at", "enumerate", "_law_dealt", "_law_below", "_law_ends", "_law_is_dealing", "best_dealing", "level_of", "_law_longest", "sorted", "len", "range", "_law_aim", "_law_wishes"]:=zaI (by decide +kernel)
def zmh:SM :=
 sIf (mNot (zbE (dFun 3 F_by (zae (dVar 1) (zae (dVar 3) (zae (dFun 3 F_bu (zae (dVar 1) (zae (dVar 9) (zae (dBin oAdd (zah (.int 31)) (dVar 8)) (mNil))))) (mNil)))))))
 (sRet (zah (.bool false)))
 (sNx)
def ziI:SM :=
 sSeq (sSet 7 (dBin oIx (dFun 2 F_bm (zae (dVar 1) (zae (mTup (zae (dVar 4) (zae (dVar 5) (zae (dVar 6) (mNil))))) (mNil)))) (zah (.int 0))))
 (sSeq (sIf (mOr (mNot (zbE (dFun 2 F_bx (zae (dVar 1) (zae (dVar 7) (mNil)))))) (mNot (zbE (dFun 3 F_by (zae (dVar 1) (zae (dVar 3) (zae (dVar 7) (mNil))))))))
 (sRet (zah (.bool false)))
 (sNx))
 (sIf (mNot (zbE (dFun 4 F_bz (zae (dVar 1) (zae (dVar 3) (zae (dVar 4) (zae (dVar 7) (mNil))))))))
 (sRet (zah (.bool false)))
 (sNx)))
def g_ca:SM :=
 sSeq (sSet 1 (dFun 5 F_bp (zae (dVar 0) (zae (zah (.int 1)) (zae (zah (.int 6)) (zae (zah (.int 7)) (zae (zah (.int 5)) (mNil))))))))
 (sSeq (sSet 2 (dFun 3 F_bt (zae (dVar 1) (zae (dFun 2 F_bn (zae (dVar 0) (zae (zah (.int 0)) (mNil)))) (zae (zah (.int 5)) (mNil))))))
 (sSeq (zbV 3 (zct (zeh (zae (zah (.int 7)) (mNil))) 1 (gN 10) (zah true) (dFun 2 F_bl (zae (dVar 1) (zae (dVar 10) (mNil))))))
 (sSeq (sIf (mOr (dBin oNe (dIxN 3 (zah (.int 0))) (zah (.int 0))) (mOr (zgA oNe (zbH zgz (zae (dVar 3) (mNil))) 3) (dBin (oIB λi j=>decide (j<i)) (dIxN 3 (zah (.int 6))) (zbH oLen (zae (dIxN 1 (zah (.int 1))) (mNil))))))
 (sRet (zah (.bool false)))
 (sNx))
 (sSeq (sIf (dBin oNe (dFun 2 F_bl (zae (dVar 1) (zae (dBin oPow (zah (.int 10)) (zah (.int 59))) (mNil)))) (dIxN 3 (dFun 1 F_br (zae (dVar 1) (mNil)))))
 (sRet (zah (.bool false)))
 (sNx))
 (sSeq (sFor (za2 (mLst (zae (dVar 2) (zae (mTup (zae (zah (.str "firsts")) (zae (zah .none) (zae (mLst (mNil)) (mNil))))) (zae (mTup (zae (zah (.str "full")) (zae (zah .none) (zae (mLst (mNil)) (mNil))))) (zae (mTup (zae (zah (.str "lasts")) (zae (zah .none) (zae (mLst (mNil)) (mNil))))) (mNil))))))) (gT 3 (gNC (gN 4) (gNC (gN 5) (gNC (gN 6) (gN0))))) ziI)
 (sSeq (sFor (zdy (zae (dBin oAdd (mLst (zae (dFun 2 F_bn (zae (dVar 0) (zae (zah (.int 3)) (mNil)))) (mNil))) (dSlA (dVar 0) (zau (zah (.int 9)) λx=>mOpt (zc4 x)) (zau (zah (.int 63)) λx=>mOpt (zc4 x)))) (mNil))) (gT 2 (gNC (gN 8) (gNC (gN 9) (gN0)))) zmh)
 (sRet (zah (.bool true)))))))))
def F_ca:List D->Option D:=runD N_ca g_ca
section
variable{P:Program}{w:World}{K:Frag}{mg:Str->Option Value}{base:Heap}{f:Addr}{fd:FuncData}(T:Txt K mg)
include T
theorem Kbn(F:Fun K "_law_cell_at" "_law_cell_at" Sbn f fd):FnOk P w K mg base CX0 1 f fd ["_law_script", "_law_k"] (spD K 2 F_bn) :=
 okD (k:=0) (g:=g_bn) F (fq Hbn 2) rfl λcdv A outer s H E B G0 hr=>
 have hu:=hr.units;have hgd:=hr.gd
 (zaj (zbo (zcf B_lt (pq Hbn 1) (zaP (gq Hbn 0) T.b_len (pq Hbn 0)) (za7 _))
 (zao (zaw (zat (pq Hbn 0) (zac (pq Hbn 1)) (λ_ _=>rfl))))
 za1)
 (zao (zaw zal)))
theorem Kbs(F:Fun K "_law_wished" "_law_wished" Sbs f fd):FnOk P w K mg base CX0 1 f fd ["_law_wishes_here", "_law_asker"] (spD K 2 F_bs) :=
 okD (k:=0) (g:=g_bs) F (fq Hbs 2) rfl λcdv A outer s H E B G0 hr=>
 have hu:=hr.units;have hgd:=hr.gd
 (zao (zaw (zaF zlM (gq Hbs 1) T.b_sorted PyProof.Rows.boot_sorted (zaa (zaF (zqL rfl) (gq Hbs 0) T.b_sum PyProof.Rows.boot_sum (zaa (zdd (zat (pq Hbs 0) zal (λ_ _=>rfl)) (zac (pq Hbs 1)) (λ_ _=>rfl)) (zaa (za5 zaf) zaf))) zaf))))
theorem Kbo(F:Fun K "_law_numbers" "_law_numbers" Sbo f fd):FnOk P w K mg base CX0 1 f fd ["_law_cell", "_law_salt", "_law_sizes"] (spD K 3 F_bo) :=
 okD (k:=0) (g:=g_bo) F (fq Hbo 3) rfl λcdv A outer s H E B G0 hr=>
 have hu:=hr.units;have hgd:=hr.gd
 (zaj (zaQ (i:=3) (nq Hbo) rfl (lq Hbo 3) (zaF (zos rfl) (gq Hbo 2) T.b_max boot_max (zaa (zac (pq Hbo 0)) (zaa (zaC zdw (zei zal) (zac (pq Hbo 0))) zaf))))
 (zaj (zaQ (i:=4) (nq Hbo) rfl (lq Hbo 4) (zac (pq Hbo 3)))
 (zaj (zcq (i:=5) (nq Hbo) rfl (lq Hbo 5) (zeg zaf))
 (zaj (zbt Qt rfl (zbY (gq Hbo 1) T.b_range (zaa (zaP (gq Hbo 0) T.b_len (pq Hbo 2)) zaf)) (zan (zam (i:=6) (nq Hbo) rfl (lq Hbo 6)))
 (zao (zbo (PW.pt (zgj (zcf B_ge (pq Hbo 3) (zaC zqy zal zal) (za7 _)) (zeT (zcf B_gt (pq Hbo 4) zal (za7 _)))))
 (zaj (zeE (pq Hbo 5) (zaC zg7 (zac (pq Hbo 4)) (zat (pq Hbo 2) (zac (pq Hbo 6)) (λ_ _=>rfl))))
 (zao (zaQ (i:=4) (nq Hbo) rfl (lq Hbo 4) (zaC zqx (zac (pq Hbo 4)) (zat (pq Hbo 2) (zac (pq Hbo 6)) (λ_ _=>rfl))))))
 (zaj (zaQ (i:=7) (nq Hbo) rfl (lq Hbo 7) (zaC zg7 (zaC zbi (zaC zbi (zaC zbi (zac (pq Hbo 3)) (zaC zda zal (zac (pq Hbo 1)))) (zaC zda (zaC zda zal (zac (pq Hbo 6))) (zac (pq Hbo 6)))) (zac (pq Hbo 6))) zal))
 (zaj (zaQ (i:=7) (nq Hbo) rfl (lq Hbo 7) (zaC zg7 (zaC zda (zac (pq Hbo 7)) zal) zal))
 (zaj (zaQ (i:=7) (nq Hbo) rfl (lq Hbo 7) (zaC zg7 (zaC zda (zaC zg7 (zaC zda (zac (pq Hbo 7)) (zac (pq Hbo 7))) zal) zal) zal))
 (zao (zeE (pq Hbo 5) (zaC zg7 (zaC zqx (zac (pq Hbo 7)) zal) (zat (pq Hbo 2) (zac (pq Hbo 6)) (λ_ _=>rfl)))))))))))
 (zao (zaw (zac (pq Hbo 5))))))))
theorem Kbu(d_bs:Def P w K mg base "_law_wished" 1 2 F_bs)(d_bo:Def P w K mg base "_law_numbers" 1 3 F_bo)(F:Fun K "_law_dealt" "_law_dealt" Sbu f fd):FnOk P w K mg base CX0 2 f fd ["_law_wishes_here", "_law_cell", "_law_salt"] (spD K 3 F_bu) :=
 okD (k:=1) (g:=g_bu) F (fq Hbu 3) rfl λcdv A outer s H E B G0 hr=>
 have hu:=hr.units;have hgd:=hr.gd
 (zaj (zcq (i:=3) (nq Hbu) rfl (lq Hbu 3) (znz (gq Hbu 4) T.b_list (zaa (zat (pq Hbu 0) zal (λ_ _=>rfl)) zaf)))
 (zaj (zaQ (i:=4) (nq Hbu) rfl (lq Hbu 4) (pdf d_bo hr (gq Hbu 3) (zaa (zac (pq Hbu 1)) (zaa (zac (pq Hbu 2)) (zaa (zaC zda (za5 (zaa zal zaf)) (zaF zdG (gq Hbu 0) T.b_len Jb (zaa (zat (pq Hbu 0) zal (λ_ _=>rfl)) zaf))) zaf)))))
 (zaj (zcq (i:=5) (nq Hbu) rfl (lq Hbu 5) (zeg zaf))
 (zaj (zbt Qt rfl (zbY (gq Hbu 1) T.b_range (zaa (zaF zdG (gq Hbu 0) T.b_len Jb (zaa (zat (pq Hbu 0) zal (λ_ _=>rfl)) zaf)) zaf)) (zan (zam (i:=6) (nq Hbu) rfl (lq Hbu 6)))
 (zaj (zaQ (i:=7) (nq Hbu) rfl (lq Hbu 7) (zaC zbi (zb9 (zdP (zak Sbu) N_bu ["_law_wishes_here", "_law_cell", "_law_salt", "_law_left", "_law_digits", "_law_found", "_law_asker", "_law_some", "._law_thing", "_law_thing"] 1 zlc rfl (zbu (pdf d_bs hr (gq Hbu 2) (zaa (zac (pq Hbu 0)) (zaa (zac (pq Hbu 6)) zaf)))) (λcl C s0 H0 ex=>⟨λB' G'=>(zan (zam (i:=9) (show (["_law_wishes_here", "_law_cell", "_law_salt", "_law_left", "_law_digits", "_law_found", "_law_asker", "_law_some", "._law_thing", "_law_thing"]:List Str).Nodup by decide +kernel) rfl (za0 rfl) (.inr (zbe rfl)))),λB' G'=>(zem (zbj B_gt (zat (pvb 3) (zac (pvb 9)) (λ_ _=>rfl)) zal (za7 _))),(zaV rfl rfl rfl λB' G'=>(zac (pvb 9)))⟩) rfl rfl (by decide +kernel))) (za5 (zaa zcN zaf))))
 (zaj (zaQ (i:=8) (nq Hbu) rfl (lq Hbu 8) (zat (pq Hbu 7) (zaC zg7 (zat (pq Hbu 4) (zac (pq Hbu 6)) (λ_ _=>rfl)) (zaP (gq Hbu 0) T.b_len (pq Hbu 7))) (λ_ _=>rfl)))
 (zaj (zbo (zc3 (zac (pq Hbu 8)))
 (zao (zfg (zaC zdw (zat (pq Hbu 3) (zac (pq Hbu 8)) (λ_ _=>rfl)) zal) (pq Hbu 3) (zac (pq Hbu 8))))
 za1)
 (zao (zeE (pq Hbu 5) (zac (pq Hbu 8))))))))
 (zao (zaw (zac (pq Hbu 5))))))))
theorem Kbq(F:Fun K "_law_rank" "_law_rank" Sbq f fd):FnOk P w K mg base CX0 1 f fd ["_law_wishes_here", "_law_asker", "_law_thing"] (spD K 3 F_bq) :=
 okD (k:=0) (g:=g_bq) F (fq Hbq 3) rfl λcdv A outer s H E B G0 hr=>
 have hu:=hr.units;have hgd:=hr.gd
 (zaj (zbt Qt rfl (zcr (gq Hbq 0) T.b_enumerate (zaa (zdd (zat (pq Hbq 0) zal (λ_ _=>rfl)) (zac (pq Hbq 1)) (λ_ _=>rfl)) zaf)) (zbm rfl (zar (zan (zam (i:=3) (nq Hbq) rfl (lq Hbq 3))) (zar (zan (zam (i:=4) (nq Hbq) rfl (lq Hbq 4))) zbl)))
 (zao (zbo (zcf (B_in hu) (pq Hbq 2) (zac (pq Hbq 4)) rfl)
 (zao (zaw (zaC zbi (zac (pq Hbq 3)) zal)))
 za1)))
 (zao (zaw zal)))
theorem Kbr(F:Fun K "_law_longest" "_law_longest" Sbr f fd):FnOk P w K mg base CX0 1 f fd ["_law_wishes_here"] (spD K 1 F_br) :=
 okD (k:=0) (g:=g_br) F (fq Hbr 1) rfl λcdv A outer s H E B G0 hr=>
 have hu:=hr.units;have hgd:=hr.gd
 (zao (zaw (zaF (zou rfl) (gq Hbr 0) T.b_max boot_max (zaa (zb9 (zdP (zak Sbr) N_br ["_law_wishes_here", "_law_ranks"] 1 zbg rfl (zbu (zat (pq Hbr 0) zal (λ_ _=>rfl))) (λcl C s0 H0 ex=>⟨λB' G'=>(zan (zam (i:=1) (show (["_law_wishes_here", "_law_ranks"]:List Str).Nodup by decide +kernel) rfl (za0 rfl) (.inr (zbe rfl)))),λB' G'=>zbI,(zaV rfl rfl rfl λB' G'=>(zaP (zdA rfl) T.b_len (pvb 1)))⟩) rfl rfl (by decide +kernel))) zaf))))
theorem Kbv(d_bq:Def P w K mg base "_law_rank" 1 3 F_bq)(d_br:Def P w K mg base "_law_longest" 1 1 F_br)(F:Fun K "_law_counts" "_law_counts" Sbv f fd):FnOk P w K mg base CX0 2 f fd ["_law_wishes_here", "_law_dealing"] (spD K 2 F_bv) :=
 okD (k:=1) (g:=g_bv) F (fq Hbv 2) rfl λcdv A outer s H E B G0 hr=>
 have hu:=hr.units;have hgd:=hr.gd
 (zaj (zcq (i:=2) (nq Hbv) rfl (lq Hbv 2) (ziB (za5 (zaa zal zaf)) (zaC zbi (pdf d_br hr (gq Hbv 2) (zaa (zac (pq Hbv 0)) zaf)) zal)))
 (zaj (zbt Qt rfl (zcr (gq Hbv 0) T.b_enumerate (zaa (zac (pq Hbv 1)) zaf)) (zbm rfl (zar (zan (zam (i:=3) (nq Hbv) rfl (lq Hbv 3))) (zar (zan (zam (i:=4) (nq Hbv) rfl (lq Hbv 4))) zbl)))
 (zao (zbo (zif (zac (pq Hbv 4)))
 (zao (zlE (pq Hbv 2) (zei zal) zlD zal))
 (zao (zlE (pq Hbv 2) (zaC zdw (pdf d_bq hr (gq Hbv 1) (zaa (zac (pq Hbv 0)) (zaa (zac (pq Hbv 3)) (zaa (zac (pq Hbv 4)) zaf)))) zal) zlD zal)))))
 (zao (zaw (zac (pq Hbv 2))))))
theorem Kby(d_bv:Def P w K mg base "_law_counts" 2 2 F_bv)(F:Fun K "_law_below" "_law_below" Sby f fd):FnOk P w K mg base CX0 3 f fd ["_law_wishes_here", "_law_levels", "_law_dealing"] (spD K 3 F_by) :=
 okD (k:=2) (g:=g_by) F (fq Hby 3) rfl λcdv A outer s H E B G0 hr=>
 have hu:=hr.units;have hgd:=hr.gd
 (zaj (zaQ (i:=3) (nq Hby) rfl (lq Hby 3) (pdf d_bv hr (gq Hby 3) (zaa (zac (pq Hby 0)) (zaa (zac (pq Hby 2)) zaf))))
 (zaj (zbt Qt rfl (zbY (gq Hby 1) T.b_range (zaa (zaP (gq Hby 0) T.b_len (pq Hby 3)) zaf)) (zan (zam (i:=4) (nq Hby) rfl (lq Hby 4)))
 (zao (zbo (zbj B_gt (zaF (zqQ rfl) (gq Hby 2) T.b_sum PyProof.Rows.boot_sum (zaa (zbQ (zac (pq Hby 3)) zdq (zby (zac (pq Hby 4)))) zaf)) (zat (pq Hby 1) (zac (pq Hby 4)) (λ_ _=>rfl)) (za7 _))
 (zao (zaw zbF))
 za1)))
 (zao (zaw zbF))))
theorem Kbz(d_bv:Def P w K mg base "_law_counts" 2 2 F_bv)(F:Fun K "_law_ends" "_law_ends" Sbz f fd):FnOk P w K mg base CX0 3 f fd ["_law_wishes_here", "_law_levels", "_law_order", "_law_dealing"] (spD K 4 F_bz) :=
 okD (k:=2) (g:=g_bz) F (fq Hbz 4) rfl λcdv A outer s H E B G0 hr=>
 have hu:=hr.units;have hgd:=hr.gd
 (zaj (zaQ (i:=4) (nq Hbz) rfl (lq Hbz 4) (pdf d_bv hr (gq Hbz 1) (zaa (zac (pq Hbz 0)) (zaa (zac (pq Hbz 3)) zaf))))
 (zaj (zbo (zcf (B_eq hu) (pq Hbz 2) zdK (za7 _))
 (zao (zaw (zop (ze6 (B_eq hu) (zaP (gq Hbz 0) T.b_len (pq Hbz 4)) zal (za7 _)) (zef (ze6 (B_eq hu) (zat (pq Hbz 4) zal (λ_ _=>rfl)) (zat (pq Hbz 1) zal (λ_ _=>rfl)) (za7 _))))))
 za1)
 (zao (zaw (ze6 (B_eq hu) (zat (pq Hbz 4) (zei zal) (λ_ _=>rfl)) (zaC zdw (zaF zdG (gq Hbz 0) T.b_len Jb (zaa (zat (pq Hbz 0) zal (λ_ _=>rfl)) zaf)) (zat (pq Hbz 1) (zaC zdw (zaP (gq Hbz 0) T.b_len (pq Hbz 4)) zal) (λ_ _=>rfl))) (za7 _))))))
theorem Kbw(F:Fun K "_law_is_number" "_law_is_number" Sbw f fd):FnOk P w K mg base CX0 1 f fd ["_law_thing"] (spD K 1 F_bw) :=
 okD (k:=0) (g:=g_bw) F (fq Hbw 1) rfl λcdv A outer s H E B G0 hr=>
 have hu:=hr.units;have hgd:=hr.gd
 (zao (zaw (zgk (zbb (c := "int") (by decide) (gq Hbw 0) T.b_isinstance (gq Hbw 1) T.b_int (by decide +kernel) (zac (pq Hbw 0)) (by decide) (by decide)) (zef (zk1 (zbb (c := "bool") (by decide) (gq Hbw 0) T.b_isinstance (gq Hbw 2) T.b_bool (by decide +kernel) (zac (pq Hbw 0)) (by decide) (by decide)))))))
theorem Kbx(d_bw:Def P w K mg base "_law_is_number" 1 1 F_bw)(d_bs:Def P w K mg base "_law_wished" 1 2 F_bs)(F:Fun K "_law_is_dealing" "_law_is_dealing" Sbx f fd):FnOk P w K mg base CX0 2 f fd ["_law_wishes_here", "_law_thing"] (spD K 2 F_bx) :=
 okD (k:=1) (g:=g_bx) F (fq Hbx 2) rfl λcdv A outer s H E B G0 hr=>
 have hu:=hr.units;have hgd:=hr.gd
 (zaj (zbo (PW.pt (zcS (zbd (zbn (zbb (c := "list") (by decide) (gq Hbx 3) T.b_isinstance (gq Hbx 4) T.b_list (by decide +kernel) (zac (pq Hbx 1)) (by decide) (by decide)))) (zcp (zbj (B_ne hu) (zaP (gq Hbx 5) T.b_len (pq Hbx 1)) (zaF zdG (gq Hbx 5) T.b_len Jb (zaa (zat (pq Hbx 0) zal (λ_ _=>rfl)) zaf)) (za7 _)))))
 (zao (zaw zbF))
 za1)
 (zaj (zbt Qt rfl (zcr (gq Hbx 0) T.b_enumerate (zaa (zac (pq Hbx 1)) zaf)) (zbm rfl (zar (zan (zam (i:=2) (nq Hbx) rfl (lq Hbx 2))) (zar (zan (zam (i:=3) (nq Hbx) rfl (lq Hbx 3))) zbl)))
 (zaj (zbo (PW.pt (zgj (zc3 (zac (pq Hbx 3))) (zeT (PW.pt (zcS (zbd (zbn (pdf d_bw hr (gq Hbx 1) (zaa (zac (pq Hbx 3)) zaf)))) (zcp (zcf (zqJ hu) (pq Hbx 3) (pdf d_bs hr (gq Hbx 2) (zaa (zac (pq Hbx 0)) (zaa (zac (pq Hbx 2)) zaf))) rfl)))))))
 (zao (zaw zbF))
 za1)
 (zao (zbo (PW.pt (zgj (zc3 (zac (pq Hbx 3))) (zeT (zbj B_gt (zhk hu (zac (pq Hbx 1)) (zaa (zac (pq Hbx 3)) zaf)) (zdd (zat (pq Hbx 0) zal (λ_ _=>rfl)) (zac (pq Hbx 3)) (λ_ _=>rfl)) (za7 _)))))
 (zao (zaw zbF))
 za1))))
 (zao (zaw zbF))))
theorem Kbh(F:Fun K "asks_beyond" "asks_beyond" Sbh f fd):FnOk P w K mg base CX0 1 f fd ["askers", "worths", "prices"] (spD K 3 F_bh) :=
 okD (k:=0) (g:=g_bh) F (fq Hbh 3) rfl λcdv A outer s H E B G0 hr=>
 have hu:=hr.units;have hgd:=hr.gd
 (zaj (zcq (i:=3) (nq Hbh) rfl (lq Hbh 3) (ziB (za5 (zaa zal zaf)) (zac (pq Hbh 0))))
 (zaj (zbt Qt rfl (zbu (zac (pq Hbh 1))) (zbm rfl (zar (zan (zam (i:=4) (nq Hbh) rfl (lq Hbh 4))) (zar (zan (zam (i:=5) (nq Hbh) rfl (lq Hbh 5))) (zar (zan (zam (i:=6) (nq Hbh) rfl (lq Hbh 6))) zbl))))
 (zao (zfg (zaF (zos rfl) (gq Hbh 0) T.b_max boot_max (zaa (zat (pq Hbh 3) (zac (pq Hbh 4)) (λ_ _=>rfl)) (zaa (zaC zdw (zac (pq Hbh 6)) (zat (pq Hbh 2) (zac (pq Hbh 5)) (λ_ _=>rfl))) zaf))) (pq Hbh 3) (zac (pq Hbh 4)))))
 (zao (zaw (zac (pq Hbh 3))))))
theorem Kaw(F:Fun K "place_of" "place_of" Saw f fd):FnOk P w K mg base CX0 1 f fd ["nothing", "got"] (spD K 2 F_aw) :=
 okD (k:=0) (g:=g_aw) F (fq Haw 2) rfl λcdv A outer s H E B G0 hr=>
 have hu:=hr.units;have hgd:=hr.gd
 (zao (zaw (ze8 (zif (zac (pq Haw 1))) (zac (pq Haw 0)) (zac (pq Haw 1)))))
theorem Kax(d_aw:Def P w K mg base "place_of" 1 2 F_aw)(F:Fun K "steps_of_askers" "steps_of_askers" Sax f fd):FnOk P w K mg base CX0 2 f fd ["nothing", "worths", "dealing"] (spD K 3 F_ax) :=
 okD (k:=1) (g:=g_ax) F (fq Hax 3) rfl λcdv A outer s H E B G0 hr=>
 have hu:=hr.units;have hgd:=hr.gd
 (zaj (zcq (i:=3) (nq Hax) rfl (lq Hax 3) (ziB (za5 (zaa zal zaf)) (zaP (gq Hax 2) T.b_len (pq Hax 2))))
 (zaj (zbt Qt rfl (zbu (zac (pq Hax 1))) (zbm rfl (zar (zan (zam (i:=4) (nq Hax) rfl (lq Hax 4))) (zar (zan (zam (i:=5) (nq Hax) rfl (lq Hax 5))) (zar (zan (zam (i:=6) (nq Hax) rfl (lq Hax 6))) zbl))))
 (zao (zbo (zbj (B_eq hu) (zat (pq Hax 2) (zac (pq Hax 4)) (λ_ _=>rfl)) (zac (pq Hax 5)) (za7 _))
 (zao (zfg (zac (pq Hax 6)) (pq Hax 3) (zac (pq Hax 4))))
 za1)))
 (zaj (zrS (j:=7) (zak Sax) N_ax ["nothing", "worths", "dealing", "had", ".asker", "thing", "worth", "told", "asker", "got"] 2 zbg (nq Hax) rfl rfl rfl (λB' G'=>(zcr (gq Hax 1) T.b_enumerate (zaa (zac (pq Hax 2)) zaf))) (λcl C s0 H0 ex=>⟨λB' G'=>(zbm rfl (zar (zan (zam (i:=8) (show (["nothing", "worths", "dealing", "had", ".asker", "thing", "worth", "told", "asker", "got"]:List Str).Nodup by decide +kernel) rfl (za0 rfl) (.inr (zbe rfl)))) (zar (zan (zam (i:=9) (show (["nothing", "worths", "dealing", "had", ".asker", "thing", "worth", "told", "asker", "got"]:List Str).Nodup by decide +kernel) rfl (za0 rfl) (.inr (zbe rfl)))) zbl))),λB' G'=>(zem (zc3 (zac (pvb 9)))),(zaV rfl rfl rfl λB' G'=>(zbG (zaa (zac (pvb 9)) (zaa (zac (pvb 0)) (zaa (zei (zat (pvb 3) (zac (pvb 8)) (λ_ _=>rfl))) (zaa (zac (pvb 8)) zaf))))))⟩) rfl rfl (by decide +kernel))
 (zaj (zbt Qt rfl (zbu (zac (pq Hax 1))) (zbm rfl (zar (zan (zam (i:=4) (nq Hax) rfl (lq Hax 4))) (zar (zan (zam (i:=5) (nq Hax) rfl (lq Hax 5))) (zar (zan (zam (i:=6) (nq Hax) rfl (lq Hax 6))) zbl))))
 (zao (zbo (zbj (B_ne hu) (zat (pq Hax 2) (zac (pq Hax 4)) (λ_ _=>rfl)) (zac (pq Hax 5)) (za7 _))
 (zao (zeE (pq Hax 7) (zbG (zaa (pdf d_aw hr (gq Hax 0) (zaa (zac (pq Hax 0)) (zaa (zat (pq Hax 2) (zac (pq Hax 4)) (λ_ _=>rfl)) zaf))) (zaa (zac (pq Hax 5)) (zaa (zaC zdw (zac (pq Hax 6)) (zat (pq Hax 3) (zac (pq Hax 4)) (λ_ _=>rfl))) (zaa (zac (pq Hax 4)) zaf)))))))
 za1)))
 (zao (zaw (zac (pq Hax 7))))))))
theorem Kaa(F:Fun K "is_whole" "is_whole" Saa f fd):FnOk P w K mg base CX0 1 f fd ["thing"] (spD K 1 F_aa) :=
 okD (k:=0) (g:=g_aa) F (fq Haa 1) rfl λcdv A outer s H E B G0 hr=>
 have hu:=hr.units;have hgd:=hr.gd
 (zao (zaw (zgk (zbb (c := "int") (by decide) (gq Haa 0) T.b_isinstance (gq Haa 1) T.b_int (by decide +kernel) (zac (pq Haa 0)) (by decide) (by decide)) (zef (zk1 (zbb (c := "bool") (by decide) (gq Haa 0) T.b_isinstance (gq Haa 2) T.b_bool (by decide +kernel) (zac (pq Haa 0)) (by decide) (by decide)))))))
theorem Kab(d_aa:Def P w K mg base "is_whole" 1 1 F_aa)(F:Fun K "is_number_below" "is_number_below" Sab f fd):FnOk P w K mg base CX0 2 f fd ["thing", "many"] (spD K 2 F_ab) :=
 okD (k:=1) (g:=g_ab) F (fq Hab 2) rfl λcdv A outer s H E B G0 hr=>
 have hu:=hr.units;have hgd:=hr.gd
 (zao (zaw (zgk (pdf d_aa hr (gq Hab 0) (zaa (zac (pq Hab 0)) zaf)) (zef (zkZ B_le B_lt zal (zac (pq Hab 0)) (zac (pq Hab 1)))))))
theorem Kad(d_ab:Def P w K mg base "is_number_below" 2 2 F_ab)(F:Fun K "is_rank" "is_rank" Sad f fd):FnOk P w K mg base CX0 3 f fd ["thing", "things"] (spD K 2 F_ad) :=
 okD (k:=2) (g:=g_ad) F (fq Had 2) rfl λcdv A outer s H E B G0 hr=>
 have hu:=hr.units;have hgd:=hr.gd
 (zaj (zbo (PW.pt (zcS (zbd (zbn (zbb (c := "list") (by decide) (gq Had 1) T.b_isinstance (gq Had 2) T.b_list (by decide +kernel) (zac (pq Had 0)) (by decide) (by decide)))) (zcp (zbj (B_eq hu) (zaP (gq Had 3) T.b_len (pq Had 0)) zal (za7 _)))))
 (zao (zaw zbF))
 za1)
 (zao (zaw (zaF (znv rfl) (gq Had 0) T.b_all Ub (zaa (zb9 (zdP (zak Sad) N_ad ["thing", "things", "number"] 1 zbg rfl (zbu (zac (pq Had 0))) (λcl C s0 H0 ex=>⟨λB' G'=>(zan (zam (i:=2) (show (["thing", "things", "number"]:List Str).Nodup by decide +kernel) rfl (za0 rfl) (.inr (zbe rfl)))),λB' G'=>zbI,(zaV rfl rfl rfl λB' G'=>(pdf d_ab hr (zdA rfl) (zaa (zac (pvb 2)) (zaa (zac (pvb 1)) zaf))))⟩) rfl rfl (by decide +kernel))) zaf)))))
theorem Kae(d_ad:Def P w K mg base "is_rank" 3 2 F_ad)(F:Fun K "is_asker_list" "is_asker_list" Sae f fd):FnOk P w K mg base CX0 4 f fd ["thing", "things"] (spD K 2 F_ae) :=
 okD (k:=3) (g:=g_ae) F (fq Hae 2) rfl λcdv A outer s H E B G0 hr=>
 have hu:=hr.units;have hgd:=hr.gd
 (zaj (zbo (PW.pt (zcS (zbd (zbn (zbb (c := "list") (by decide) (gq Hae 3) T.b_isinstance (gq Hae 4) T.b_list (by decide +kernel) (zac (pq Hae 0)) (by decide) (by decide)))) (zcp (zbj B_gt (zaP (gq Hae 0) T.b_len (pq Hae 0)) (znx (gq Hae 5) T.c_MOST_RANKS) (za7 _)))))
 (zao (zaw zbF))
 za1)
 (zaj (zbo (zbd (zbn (zaF (znv rfl) (gq Hae 2) T.b_all Ub (zaa (zb9 (zdP (zak Sae) N_ae ["thing", "things", "wished", "rank"] 1 zbg rfl (zbu (zac (pq Hae 0))) (λcl C s0 H0 ex=>⟨λB' G'=>(zan (zam (i:=3) (show (["thing", "things", "wished", "rank"]:List Str).Nodup by decide +kernel) rfl (za0 rfl) (.inr (zbe rfl)))),λB' G'=>zbI,(zaV rfl rfl rfl λB' G'=>(pdf d_ad hr (zdA rfl) (zaa (zac (pvb 3)) (zaa (zac (pvb 1)) zaf))))⟩) rfl rfl (by decide +kernel))) zaf))))
 (zao (zaw zbF))
 za1)
 (zaj (sD_1 (j:=2) (zak Sae) N_ae ["thing", "things", "wished", "rank", "number"] 2 zld (nq Hae) rfl rfl rfl (zbu (zac (pq Hae 0))) (λcl C s0 H0 ex=>⟨λB' G'=>(zan (zam (i:=3) (show (["thing", "things", "wished", "rank", "number"]:List Str).Nodup by decide +kernel) rfl (za0 rfl) (.inr (zbe rfl)))),λB' G'=>zbI,(zfe rfl rfl rfl rfl (λ_=>rfl) (λB' G'=>(zbu (zac (pvb 3)))) (λB' G'=>(zan (zam (i:=4) (show (["thing", "things", "wished", "rank", "number"]:List Str).Nodup by decide +kernel) rfl (za0 rfl) (.inr (zbe rfl))))) (λB' G'=>zbI) (zaV rfl rfl rfl λB' G'=>(zac (pvb 4))))⟩) rfl rfl (by decide +kernel))
 (zao (zaw (ze6 (B_eq hu) (zfU rfl (gq Hae 0) T.b_len (gq Hae 1) T.b_set (zaa (zac (pq Hae 2)) zaf)) (zaP (gq Hae 0) T.b_len (pq Hae 2)) (za7 _)))))))
theorem Kaf(d_ae:Def P w K mg base "is_asker_list" 4 2 F_ae)(F:Fun K "look_at_lists" "look_at_lists" Saf f fd):FnOk P w K mg base CX0 5 f fd ["lists", "things"] (spD K 2 F_af) :=
 okD (k:=4) (g:=g_af) F (fq Haf 2) rfl λcdv A outer s H E B G0 hr=>
 have hu:=hr.units;have hgd:=hr.gd
 (zaj (zbo (PW.pt (zcS (zbd (zbn (zbb (c := "list") (by decide) (gq Haf 2) T.b_isinstance (gq Haf 3) T.b_list (by decide +kernel) (zac (pq Haf 0)) (by decide) (by decide)))) (zcp (zbd (zg8 B_le B_le zal (zaP (gq Haf 4) T.b_len (pq Haf 0)) (znx (gq Haf 5) T.c_MOST_ASKERS))))))
 (zao zcs)
 za1)
 (zao (zbt Qt rfl (zcr (gq Haf 0) T.b_enumerate (zaa (zac (pq Haf 0)) zaf)) (zbm rfl (zar (zan (zam (i:=2) (nq Haf) rfl (lq Haf 2))) (zar (zan (zam (i:=3) (nq Haf) rfl (lq Haf 3))) zbl)))
 (zao (zbo (zbd (zbn (pdf d_ae hr (gq Haf 1) (zaa (zac (pq Haf 3)) (zaa (zac (pq Haf 1)) zaf)))))
 (zao zcs)
 za1)))))
theorem Kac(d_ab:Def P w K mg base "is_number_below" 2 2 F_ab)(F:Fun K "look_at_copies" "look_at_copies" Sac f fd):FnOk P w K mg base CX0 3 f fd ["copies"] (spD K 1 F_ac) :=
 okD (k:=2) (g:=g_ac) F (fq Hac 1) rfl λcdv A outer s H E B G0 hr=>
 have hu:=hr.units;have hgd:=hr.gd
 (zaj (zbo (PW.pt (zcS (zbd (zbn (zbb (c := "list") (by decide) (gq Hac 3) T.b_isinstance (gq Hac 4) T.b_list (by decide +kernel) (zac (pq Hac 0)) (by decide) (by decide)))) (zcp (zbd (zg8 B_le B_le zal (zaP (gq Hac 5) T.b_len (pq Hac 0)) (znx (gq Hac 6) T.c_MOST_THINGS))))))
 (zao zcs)
 za1)
 (zao (zbt Qt rfl (zcr (gq Hac 0) T.b_enumerate (zaa (zac (pq Hac 0)) zaf)) (zbm rfl (zar (zan (zam (i:=1) (nq Hac) rfl (lq Hac 1))) (zar (zan (zam (i:=2) (nq Hac) rfl (lq Hac 2))) zbl)))
 (zao (zbo (zbd (zbn (pdf d_ab hr (gq Hac 2) (zaa (zac (pq Hac 2)) (zaa (zaC zbi (znx (gq Hac 1) T.c_MOST_COPIES) zal) zaf)))))
 (zao zcs)
 za1)))))
theorem Kag(d_af:Def P w K mg base "look_at_lists" 5 2 F_af)(d_ac:Def P w K mg base "look_at_copies" 3 1 F_ac)(F:Fun K "look_at_wishes" "look_at_wishes" Sag f fd):FnOk P w K mg base CX0 6 f fd ["thing"] (spD K 1 F_ag) :=
 okD (k:=5) (g:=g_ag) F (fq Hag 1) rfl λcdv A outer s H E B G0 hr=>
 have hu:=hr.units;have hgd:=hr.gd
 (zaj (zbo (PW.pt (zcS (zbd (zbn (zbb (c := "tuple") (by decide) (gq Hag 3) T.b_isinstance (gq Hag 4) T.b_tuple (by decide +kernel) (zac (pq Hag 0)) (by decide) (by decide)))) (zcp (zbj (B_ne hu) (zaP (gq Hag 0) T.b_len (pq Hag 0)) zal (za7 _)))))
 (zao zcs)
 za1)
 (zaj (zfO (zac (pq Hag 0)) (zbm rfl (zar (zan (zam (i:=1) (nq Hag) rfl (lq Hag 1))) (zar (zan (zam (i:=2) (nq Hag) rfl (lq Hag 2))) zbl))))
 (zaj (zde (pdf d_ac hr (gq Hag 2) (zaa (zac (pq Hag 1)) zaf)))
 (zao (zde (pdf d_af hr (gq Hag 1) (zaa (zac (pq Hag 2)) (zaa (zaP (gq Hag 0) T.b_len (pq Hag 1)) zaf))))))))
theorem Kak(d_ag:Def P w K mg base "look_at_wishes" 6 1 F_ag)(F:Fun K "copies_left" "copies_left" Sak f fd):FnOk P w K mg base CX0 7 f fd ["wishes", "dealing"] (spD K 2 F_ak) :=
 okD (k:=6) (g:=g_ak) F (fq Hak 2) rfl λcdv A outer s H E B G0 hr=>
 have hu:=hr.units;have hgd:=hr.gd
 (zaj (zde (pdf d_ag hr (gq Hak 1) (zaa (zac (pq Hak 0)) zaf)))
 (zao (zaw (zb9 (zdP (zak Sak) N_ak ["wishes", "dealing", "thing", "many"] 2 zbg rfl (zcr (gq Hak 0) T.b_enumerate (zaa (zat (pq Hak 0) zal (λ_ _=>rfl)) zaf)) (λcl C s0 H0 ex=>⟨λB' G'=>(zbm rfl (zar (zan (zam (i:=2) (show (["wishes", "dealing", "thing", "many"]:List Str).Nodup by decide +kernel) rfl (za0 rfl) (.inr (zbe rfl)))) (zar (zan (zam (i:=3) (show (["wishes", "dealing", "thing", "many"]:List Str).Nodup by decide +kernel) rfl (za0 rfl) (.inr (zbe rfl)))) zbl))),λB' G'=>zbI,(zaV rfl rfl rfl λB' G'=>(zaC zdw (zac (pvb 3)) (zhk hu (zac (pvb 1)) (zaa (zac (pvb 2)) zaf))))⟩) rfl rfl (by decide +kernel))))))
theorem Kay(d_ak:Def P w K mg base "copies_left" 7 2 F_ak)(F:Fun K "steps_of_copies" "steps_of_copies" Say f fd):FnOk P w K mg base CX0 8 f fd ["wishes", "dealing"] (spD K 2 F_ay) :=
 okD (k:=7) (g:=g_ay) F (fq Hay 2) rfl λcdv A outer s H E B G0 hr=>
 have hu:=hr.units;have hgd:=hr.gd
 (zaj (zaQ (i:=2) (nq Hay) rfl (lq Hay 2) (zaF zdG (gq Hay 3) T.b_len Jb (zaa (zat (pq Hay 0) zal (λ_ _=>rfl)) zaf)))
 (zaj (zaQ (i:=3) (nq Hay) rfl (lq Hay 3) (pdf d_ak hr (gq Hay 2) (zaa (zac (pq Hay 0)) (zaa (zac (pq Hay 1)) zaf))))
 (zaj (sD_1 (j:=4) (zak Say) N_ay ["wishes", "dealing", "nothing", "left", "to_nothing", "thing", "many"] 2 zbg (nq Hay) rfl rfl rfl (zcr (gq Hay 1) T.b_enumerate (zaa (zac (pq Hay 3)) zaf)) (λcl C s0 H0 ex=>⟨λB' G'=>(zbm rfl (zar (zan (zam (i:=5) (show (["wishes", "dealing", "nothing", "left", "to_nothing", "thing", "many"]:List Str).Nodup by decide +kernel) rfl (za0 rfl) (.inr (zbe rfl)))) (zar (zan (zam (i:=6) (show (["wishes", "dealing", "nothing", "left", "to_nothing", "thing", "many"]:List Str).Nodup by decide +kernel) rfl (za0 rfl) (.inr (zbe rfl)))) zbl))),λB' G'=>(zem (zcf B_gt (pvb 6) zal (za7 _))),(zaV rfl rfl rfl λB' G'=>(zbG (zaa (zac (pvb 5)) (zaa (zac (pvb 2)) (zaa zal (zaa zcN zaf))))))⟩) rfl rfl (by decide +kernel))
 (zao (zaw (zaC zbi (zac (pq Hay 4)) (zb9 (zdP (zak Say) N_ay ["wishes", "dealing", "nothing", "left", "to_nothing", "thing"] 1 zbg rfl (zbY (gq Hay 0) T.b_range (zaa (zac (pq Hay 2)) zaf)) (λcl C s0 H0 ex=>⟨λB' G'=>(zan (zam (i:=5) (show (["wishes", "dealing", "nothing", "left", "to_nothing", "thing"]:List Str).Nodup by decide +kernel) rfl (za0 rfl) (.inr (zbe rfl)))),λB' G'=>zbI,(zaV rfl rfl rfl λB' G'=>(zbG (zaa (zac (pvb 2)) (zaa (zac (pvb 5)) (zaa zal (zaa zcN zaf))))))⟩) rfl rfl (by decide +kernel)))))))))
theorem Kaz(d_ax:Def P w K mg base "steps_of_askers" 2 3 F_ax)(d_ay:Def P w K mg base "steps_of_copies" 8 2 F_ay)(F:Fun K "all_steps" "all_steps" Saz f fd):FnOk P w K mg base CX0 9 f fd ["wishes", "worths", "dealing"] (spD K 3 F_az) :=
 okD (k:=8) (g:=g_az) F (fq Haz 3) rfl λcdv A outer s H E B G0 hr=>
 have hu:=hr.units;have hgd:=hr.gd
 (zao (zaw (zaC zbi (pdf d_ax hr (gq Haz 1) (zaa (zaF zdG (gq Haz 0) T.b_len Jb (zaa (zat (pq Haz 0) zal (λ_ _=>rfl)) zaf)) (zaa (zac (pq Haz 1)) (zaa (zac (pq Haz 2)) zaf)))) (pdf d_ay hr (gq Haz 2) (zaa (zac (pq Haz 0)) (zaa (zac (pq Haz 2)) zaf))))))
theorem Kba(F:Fun K "longer_walks" "longer_walks" Sba f fd):FnOk P w K mg base CX0 1 f fd ["walks", "steps"] (spD K 2 F_ba) :=
 okD (k:=0) (g:=g_ba) F (fq Hba 2) rfl λcdv A outer s H E B G0 hr=>
 have hu:=hr.units;have hgd:=hr.gd
 (zaj (zcq (i:=2) (nq Hba) rfl (lq Hba 2) (zhj (gq Hba 0) T.b_list (pq Hba 0)))
 (zaj (zbt Qt rfl (zbu (zac (pq Hba 1))) (zan (zam (i:=3) (nq Hba) rfl (lq Hba 3)))
 (zaj (zfO (zac (pq Hba 3)) (zbm rfl (zar (zan (zam (i:=4) (nq Hba) rfl (lq Hba 4))) (zar (zan (zam (i:=5) (nq Hba) rfl (lq Hba 5))) (zar (zan (zam (i:=6) (nq Hba) rfl (lq Hba 6))) (zar (zan (zam (i:=7) (nq Hba) rfl (lq Hba 7))) zbl))))))
 (zaj (zfO (zat (pq Hba 0) (zac (pq Hba 4)) (λ_ _=>rfl)) (zbm rfl (zar (zan (zam (i:=8) (nq Hba) rfl (lq Hba 8))) (zar (zan (zam (i:=9) (nq Hba) rfl (lq Hba 9))) zbl))))
 (zao (zbo (zbj B_gt (zaC zbi (zac (pq Hba 8)) (zac (pq Hba 6))) (zdd (zat (pq Hba 2) (zac (pq Hba 5)) (λ_ _=>rfl)) zal (λ_ _=>rfl)) (za7 _))
 (zao (zfg (zbG (zaa (zaC zbi (zac (pq Hba 8)) (zac (pq Hba 6))) (zaa (zaC zbi (zac (pq Hba 9)) (za5 (zaa (zac (pq Hba 3)) zaf))) zaf))) (pq Hba 2) (zac (pq Hba 5))))
 za1)))))
 (zao (zaw (zac (pq Hba 2))))))
theorem Kbb(d_ba:Def P w K mg base "longer_walks" 1 2 F_ba)(F:Fun K "widest_walks" "widest_walks" Sbb f fd):FnOk P w K mg base CX0 2 f fd ["places", "steps"] (spD K 2 F_bb) :=
 okD (k:=1) (g:=g_bb) F (fq Hbb 2) rfl λcdv A outer s H E B G0 hr=>
 have hu:=hr.units;have hgd:=hr.gd
 (zaj (zaQ (i:=2) (nq Hbb) rfl (lq Hbb 2) (zaC zda (za5 (zaa (zbG (zaa zal (zaa (za5 zaf) zaf))) zaf)) (zac (pq Hbb 0))))
 (zaj (zbt Qt rfl (zbY (gq Hbb 0) T.b_range (zaa (zac (pq Hbb 0)) zaf)) (zan (zam (i:=3) (nq Hbb) rfl (lq Hbb 3)))
 (zao (zaQ (i:=2) (nq Hbb) rfl (lq Hbb 2) (pdf d_ba hr (gq Hbb 1) (zaa (zac (pq Hbb 2)) (zaa (zac (pq Hbb 1)) zaf))))))
 (zao (zaw (zac (pq Hbb 2))))))
theorem Kbg(d_az:Def P w K mg base "all_steps" 9 3 F_az)(d_bb:Def P w K mg base "widest_walks" 2 2 F_bb)(F:Fun K "prices_for" "prices_for" Sbg f fd):FnOk P w K mg base CX0 10 f fd ["wishes", "worths", "dealing"] (spD K 3 F_bg) :=
 okD (k:=9) (g:=g_bg) F (fq Hbg 3) rfl λcdv A outer s H E B G0 hr=>
 have hu:=hr.units;have hgd:=hr.gd
 (zaj (zaQ (i:=3) (nq Hbg) rfl (lq Hbg 3) (zaF zdG (gq Hbg 2) T.b_len Jb (zaa (zat (pq Hbg 0) zal (λ_ _=>rfl)) zaf)))
 (zaj (zaQ (i:=4) (nq Hbg) rfl (lq Hbg 4) (pdf d_bb hr (gq Hbg 1) (zaa (zaC zbi (zac (pq Hbg 3)) zal) (zaa (pdf d_az hr (gq Hbg 0) (zaa (zac (pq Hbg 0)) (zaa (zac (pq Hbg 1)) (zaa (zac (pq Hbg 2)) zaf)))) zaf))))
 (zao (zaw (zb9 (zdP (zak Sbg) N_bg ["wishes", "worths", "dealing", "nothing", "walks", "gained", "walk"] 2 zbg rfl (zbu (zbQ (zac (pq Hbg 4)) zdq (zby (zac (pq Hbg 3))))) (λcl C s0 H0 ex=>⟨λB' G'=>(zbm rfl (zar (zan (zam (i:=5) (show (["wishes", "worths", "dealing", "nothing", "walks", "gained", "walk"]:List Str).Nodup by decide +kernel) rfl (za0 rfl) (.inr (zbe rfl)))) (zar (zan (zam (i:=6) (show (["wishes", "worths", "dealing", "nothing", "walks", "gained", "walk"]:List Str).Nodup by decide +kernel) rfl (za0 rfl) (.inr (zbe rfl)))) zbl))),λB' G'=>zbI,(zaV rfl rfl rfl λB' G'=>(zac (pvb 5)))⟩) rfl rfl (by decide +kernel)))))))
theorem Kbi(d_bh:Def P w K mg base "asks_beyond" 1 3 F_bh)(d_bg:Def P w K mg base "prices_for" 10 3 F_bg)(F:Fun K "paper_for" "paper_for" Sbi f fd):FnOk P w K mg base CX0 11 f fd ["wishes", "worths", "dealing"] (spD K 3 F_bi) :=
 okD (k:=10) (g:=g_bi) F (fq Hbi 3) rfl λcdv A outer s H E B G0 hr=>
 have hu:=hr.units;have hgd:=hr.gd
 (zaj (zaQ (i:=3) (nq Hbi) rfl (lq Hbi 3) (pdf d_bg hr (gq Hbi 2) (zaa (zac (pq Hbi 0)) (zaa (zac (pq Hbi 1)) (zaa (zac (pq Hbi 2)) zaf)))))
 (zao (zaw (zbG (zaa zal (zaa (pdf d_bh hr (gq Hbi 1) (zaa (zaF zdG (gq Hbi 0) T.b_len Jb (zaa (zat (pq Hbi 0) zal (λ_ _=>rfl)) zaf)) (zaa (zac (pq Hbi 1)) (zaa (zac (pq Hbi 3)) zaf)))) (zaa (zac (pq Hbi 3)) zaf)))))))
theorem Kbc(F:Fun K "round_within" "round_within" Sbc f fd):FnOk P w K mg base CX0 1 f fd ["walk"] (spD K 1 F_bc) :=
 okD (k:=0) (g:=g_bc) F (fq Hbc 1) rfl λcdv A outer s H E B G0 hr=>
 have hu:=hr.units;have hgd:=hr.gd
 (zaj (zbt Qt rfl (zcr (gq Hbc 0) T.b_enumerate (zaa (zac (pq Hbc 0)) zaf)) (zbm rfl (zar (zan (zam (i:=1) (nq Hbc) rfl (lq Hbc 1))) (zar (zan (zam (i:=2) (nq Hbc) rfl (lq Hbc 2))) zbl)))
 (zao (zbt Qt rfl (zbY (gq Hbc 1) T.b_range (zaa (zaC zbi (zac (pq Hbc 1)) zal) zaf)) (zan (zam (i:=3) (nq Hbc) rfl (lq Hbc 3)))
 (zao (zbo (zbj (B_eq hu) (zdd (zat (pq Hbc 0) (zac (pq Hbc 3)) (λ_ _=>rfl)) zal (λ_ _=>rfl)) (zat (pq Hbc 2) zal (λ_ _=>rfl)) (za7 _))
 (zao (zaw (zbQ (zac (pq Hbc 0)) (zby (zac (pq Hbc 3))) (zby (zaC zbi (zac (pq Hbc 1)) zal)))))
 za1)))))
 (zao (zaw (za5 zaf))))
theorem Kbd(F:Fun K "way_round" "way_round" Sbd f fd):FnOk P w K mg base CX0 1 f fd ["nothing", "steps"] (spD K 2 F_bd) :=
 okD (k:=0) (g:=g_bd) F (fq Hbd 2) rfl λcdv A outer s H E B G0 hr=>
 have hu:=hr.units;have hgd:=hr.gd
 (zaj (zaQ (i:=2) (nq Hbd) rfl (lq Hbd 2) zal)
 (zaj (zbt Qt rfl (zcr (gq Hbd 0) T.b_enumerate (zaa (zac (pq Hbd 1)) zaf)) (zbm rfl (zar (zan (zam (i:=3) (nq Hbd) rfl (lq Hbd 3))) (zar (zan (zam (i:=4) (nq Hbd) rfl (lq Hbd 4))) zbl)))
 (zao (zbo (zbj (B_eq hu) (zat (pq Hbd 4) zal (λ_ _=>rfl)) (zac (pq Hbd 0)) (za7 _))
 (zao (zaQ (i:=2) (nq Hbd) rfl (lq Hbd 2) (zac (pq Hbd 3))))
 za1)))
 (zaj (zcq (i:=5) (nq Hbd) rfl (lq Hbd 5) (zeg zaf))
 (zaj (zbt Qt rfl (zbu (zaC zbi (zbQ (zac (pq Hbd 1)) (zby (zac (pq Hbd 2))) zdq) (zbQ (zac (pq Hbd 1)) zdq (zby (zac (pq Hbd 2)))))) (zbm rfl (zar (zan (zam (i:=6) (nq Hbd) rfl (lq Hbd 6))) (zar (zan (zam (i:=7) (nq Hbd) rfl (lq Hbd 7))) (zar (zan (zam (i:=8) (nq Hbd) rfl (lq Hbd 8))) (zar (zan (zam (i:=9) (nq Hbd) rfl (lq Hbd 9))) zbl)))))
 (zao (zbo (zc3 (zac (pq Hbd 9)))
 (zao (zeE (pq Hbd 5) (zbG (zaa (zac (pq Hbd 9)) (zaa (ze8 (zcf (B_eq hu) (pq Hbd 7) (zac (pq Hbd 0)) (za7 _)) zcN (zac (pq Hbd 7))) zaf)))))
 za1)))
 (zao (zaw (zac (pq Hbd 5))))))))
theorem Kbe(d_az:Def P w K mg base "all_steps" 9 3 F_az)(d_bb:Def P w K mg base "widest_walks" 2 2 F_bb)(d_bc:Def P w K mg base "round_within" 1 1 F_bc)(d_bd:Def P w K mg base "way_round" 1 2 F_bd)(F:Fun K "gaining_way" "gaining_way" Sbe f fd):FnOk P w K mg base CX0 10 f fd ["wishes", "worths", "dealing"] (spD K 3 F_be) :=
 okD (k:=9) (g:=g_be) F (fq Hbe 3) rfl λcdv A outer s H E B G0 hr=>
 have hu:=hr.units;have hgd:=hr.gd
 (zaj (zaQ (i:=3) (nq Hbe) rfl (lq Hbe 3) (zaF zdG (gq Hbe 2) T.b_len Jb (zaa (zat (pq Hbe 0) zal (λ_ _=>rfl)) zaf)))
 (zaj (zbt Qt rfl (zbu (pdf d_bb hr (gq Hbe 1) (zaa (zaC zbi (zac (pq Hbe 3)) zal) (zaa (pdf d_az hr (gq Hbe 0) (zaa (zac (pq Hbe 0)) (zaa (zac (pq Hbe 1)) (zaa (zac (pq Hbe 2)) zaf)))) zaf)))) (zbm rfl (zar (zan (zam (i:=4) (nq Hbe) rfl (lq Hbe 4))) (zar (zan (zam (i:=5) (nq Hbe) rfl (lq Hbe 5))) zbl)))
 (zao (zbo (zbj (B_eq hu) (zaP (gq Hbe 2) T.b_len (pq Hbe 5)) (zaC zbi (zac (pq Hbe 3)) zal) (za7 _))
 (zao (zaw (pdf d_bd hr (gq Hbe 4) (zaa (zac (pq Hbe 3)) (zaa (pdf d_bc hr (gq Hbe 3) (zaa (zac (pq Hbe 5)) zaf)) zaf)))))
 za1)))
 (zao (zaw (za5 zaf)))))
theorem Kav(F:Fun K "behind_way" "behind_way" Sav f fd):FnOk P w K mg base CX0 1 f fd ["dealing", "way"] (spD K 2 F_av) :=
 okD (k:=0) (g:=g_av) F (fq Hav 2) rfl λcdv A outer s H E B G0 hr=>
 have hu:=hr.units;have hgd:=hr.gd
 (zaj (zcq (i:=2) (nq Hav) rfl (lq Hav 2) (zhj (gq Hav 0) T.b_list (pq Hav 0)))
 (zaj (zbt Qt rfl (zbu (zac (pq Hav 1))) (zbm rfl (zar (zan (zam (i:=3) (nq Hav) rfl (lq Hav 3))) (zar (zan (zam (i:=4) (nq Hav) rfl (lq Hav 4))) zbl)))
 (zao (zfg (zac (pq Hav 4)) (pq Hav 2) (zac (pq Hav 3)))))
 (zao (zaw (zac (pq Hav 2))))))
theorem Kbf(d_be:Def P w K mg base "gaining_way" 10 3 F_be)(d_av:Def P w K mg base "behind_way" 1 2 F_av)(F:Fun K "best_by" "best_by" Sbf f fd):FnOk P w K mg base CX0 11 f fd ["wishes", "worths"] (spD K 2 F_bf) :=
 okD (k:=10) (g:=g_bf) F (fq Hbf 2) rfl λcdv A outer s H E B G0 hr=>
 have hu:=hr.units;have hgd:=hr.gd
 (zaj (zaQ (i:=2) (nq Hbf) rfl (lq Hbf 2) (zaC zda (za5 (zaa zcN zaf)) (zaF zdG (gq Hbf 2) T.b_len Jb (zaa (zat (pq Hbf 0) zal (λ_ _=>rfl)) zaf))))
 (zaj (zaQ (i:=3) (nq Hbf) rfl (lq Hbf 3) (pdf d_be hr (gq Hbf 0) (zaa (zac (pq Hbf 0)) (zaa (zac (pq Hbf 1)) (zaa (zac (pq Hbf 2)) zaf)))))
 (zaj (zjk FUEL Qt (zpt (zac (pq Hbf 3)))
 (zaj (zaQ (i:=2) (nq Hbf) rfl (lq Hbf 2) (pdf d_av hr (gq Hbf 1) (zaa (zac (pq Hbf 2)) (zaa (zac (pq Hbf 3)) zaf))))
 (zao (zaQ (i:=3) (nq Hbf) rfl (lq Hbf 3) (pdf d_be hr (gq Hbf 0) (zaa (zac (pq Hbf 0)) (zaa (zac (pq Hbf 1)) (zaa (zac (pq Hbf 2)) zaf))))))))
 (zao (zaw (zac (pq Hbf 2)))))))
theorem Kaj(d_ag:Def P w K mg base "look_at_wishes" 6 1 F_ag)(F:Fun K "all_wishes" "all_wishes" Saj f fd):FnOk P w K mg base CX0 7 f fd ["wishes"] (spD K 1 F_aj) :=
 okD (k:=6) (g:=g_aj) F (fq Haj 1) rfl λcdv A outer s H E B G0 hr=>
 have hu:=hr.units;have hgd:=hr.gd
 (zaj (zde (pdf d_ag hr (gq Haj 2) (zaa (zac (pq Haj 0)) zaf)))
 (zao (zaw (zaF zlM (gq Haj 1) T.b_sorted PyProof.Rows.boot_sorted (zaa (zb9 (zdP (zak Saj) N_aj ["wishes", "asker", "ranks", "rank", "thing"] 4 zle rfl (zcr (gq Haj 0) T.b_enumerate (zaa (zat (pq Haj 0) zal (λ_ _=>rfl)) zaf)) (λcl C s0 H0 ex=>⟨λB' G'=>(zbm rfl (zar (zan (zam (i:=1) (show (["wishes", "asker", "ranks", "rank", "thing"]:List Str).Nodup by decide +kernel) rfl (za0 rfl) (.inr (zbe rfl)))) (zar (zan (zam (i:=2) (show (["wishes", "asker", "ranks", "rank", "thing"]:List Str).Nodup by decide +kernel) rfl (za0 rfl) (.inr (zbe rfl)))) zbl))),λB' G'=>zbI,(zfe rfl rfl rfl rfl (λ_=>rfl) (λB' G'=>(zbu (zac (pvb 2)))) (λB' G'=>(zan (zam (i:=3) (show (["wishes", "asker", "ranks", "rank", "thing"]:List Str).Nodup by decide +kernel) rfl (za0 rfl) (.inr (zbe rfl))))) (λB' G'=>zbI) (zfe rfl rfl rfl rfl (λ_=>rfl) (λB' G'=>(zbu (zac (pvb 3)))) (λB' G'=>(zan (zam (i:=4) (show (["wishes", "asker", "ranks", "rank", "thing"]:List Str).Nodup by decide +kernel) rfl (za0 rfl) (.inr (zbe rfl))))) (λB' G'=>zbI) (zaV rfl rfl rfl λB' G'=>(zbG (zaa (zac (pvb 1)) (zaa (zac (pvb 4)) zaf))))))⟩) rfl rfl (by decide +kernel))) zaf)))))
theorem Kaq(F:Fun K "power" "power" Saq f fd):FnOk P w K mg base CX0 1 f fd ["base", "times"] (spD K 2 F_aq) :=
 okD (k:=0) (g:=g_aq) F (fq Haq 2) rfl λcdv A outer s H E B G0 hr=>
 have hu:=hr.units;have hgd:=hr.gd
 (zaj (zaQ (i:=2) (nq Haq) rfl (lq Haq 2) zal)
 (zaj (zbt Qt rfl (zbY (gq Haq 0) T.b_range (zaa (zac (pq Haq 1)) zaf)) (zan (zam (i:=3) (nq Haq) rfl (lq Haq 3)))
 (zao (zqP (j:=2) (nq Haq) rfl (lq Haq 2) zpn (zac (pq Haq 0)))))
 (zao (zaw (zac (pq Haq 2))))))
theorem Kas(d_aq:Def P w K mg base "power" 1 2 F_aq)(F:Fun K "worth_by_turns" "worth_by_turns" Sas f fd):FnOk P w K mg base CX0 2 f fd ["turns", "base", "asker", "rank"] (spD K 4 F_as) :=
 okD (k:=1) (g:=g_as) F (fq Has 4) rfl λcdv A outer s H E B G0 hr=>
 have hu:=hr.units;have hgd:=hr.gd
 (zaj (zbo (zcf (zqJ hu) (pq Has 2) (zac (pq Has 0)) rfl)
 (zao (zaw zal))
 za1)
 (zaj (zaQ (i:=4) (nq Has) rfl (lq Has 4) (zaC zdw (zaC zdw (zaP (gq Has 1) T.b_len (pq Has 0)) zal) (zlI (zac (pq Has 0)) (zaa (zac (pq Has 2)) zaf))))
 (zao (zaw (zaC zda (zaC zdw (zac (pq Has 1)) (zac (pq Has 3))) (pdf d_aq hr (gq Has 0) (zaa (zac (pq Has 1)) (zaa (zac (pq Has 4)) zaf))))))))
theorem Kar(d_aq:Def P w K mg base "power" 1 2 F_aq)(F:Fun K "worth_by_order" "worth_by_order" Sar f fd):FnOk P w K mg base CX0 2 f fd ["order", "base", "most", "rank"] (spD K 4 F_ar) :=
 okD (k:=1) (g:=g_ar) F (fq Har 4) rfl λcdv A outer s H E B G0 hr=>
 have hu:=hr.units;have hgd:=hr.gd
 (zaj (zbo (zcf (B_eq hu) (pq Har 0) zdK (za7 _))
 (zao (zaw (pdf d_aq hr (gq Har 0) (zaa (zac (pq Har 1)) (zaa (zaC zdw (zac (pq Har 2)) (zac (pq Har 3))) zaf)))))
 za1)
 (zaj (zbo (zcf (B_eq hu) (pq Har 0) zdK (za7 _))
 (zao (zaw (zaC zbi (pdf d_aq hr (gq Har 0) (zaa (zac (pq Har 1)) (zaa (zac (pq Har 2)) zaf))) (pdf d_aq hr (gq Har 0) (zaa (zac (pq Har 1)) (zaa (zaC zdw (zac (pq Har 2)) (zac (pq Har 3))) zaf))))))
 za1)
 (zao (zaw (zaC zdw (pdf d_aq hr (gq Har 0) (zaa (zac (pq Har 1)) (zaa (zac (pq Har 2)) zaf))) (pdf d_aq hr (gq Har 0) (zaa (zac (pq Har 1)) (zaa (zaC zdw (zac (pq Har 3)) zal) zaf))))))))
theorem Kah(F:Fun K "rank_in" "rank_in" Sah f fd):FnOk P w K mg base CX0 1 f fd ["ranks", "thing"] (spD K 2 F_ah) :=
 okD (k:=0) (g:=g_ah) F (fq Hah 2) rfl λcdv A outer s H E B G0 hr=>
 have hu:=hr.units;have hgd:=hr.gd
 (zaj (zbt Qt rfl (znC (gq Hah 0) T.b_enumerate (zaa (zac (pq Hah 0)) zaf)) (zbm rfl (zar (zan (zam (i:=2) (nq Hah) rfl (lq Hah 2))) (zar (zan (zam (i:=3) (nq Hah) rfl (lq Hah 3))) zbl)))
 (zao (zbo (zcf (B_in hu) (pq Hah 1) (zac (pq Hah 3)) rfl)
 (zao (zaw (zac (pq Hah 2))))
 za1)))
 (zao (zaw zal)))
theorem Kat(d_aq:Def P w K mg base "power" 1 2 F_aq)(d_as:Def P w K mg base "worth_by_turns" 2 4 F_as)(d_ar:Def P w K mg base "worth_by_order" 2 4 F_ar)(d_ah:Def P w K mg base "rank_in" 1 2 F_ah)(F:Fun K "worth_by_aim" "worth_by_aim" Sat f fd):FnOk P w K mg base CX0 3 f fd ["wishes", "aim", "most", "asker", "thing"] (spD K 5 F_at) :=
 okD (k:=2) (g:=g_at) F (fq Hat 5) rfl λcdv A outer s H E B G0 hr=>
 have hu:=hr.units;have hgd:=hr.gd
 (zaj (zfO (zac (pq Hat 1)) (zbm rfl (zar (zan (zam (i:=5) (nq Hat) rfl (lq Hat 5))) (zar (zan (zam (i:=6) (nq Hat) rfl (lq Hat 6))) (zar (zan (zam (i:=7) (nq Hat) rfl (lq Hat 7))) zbl)))))
 (zaj (zaQ (i:=8) (nq Hat) rfl (lq Hat 8) (zat (pq Hat 0) zal (λ_ _=>rfl)))
 (zaj (zaQ (i:=9) (nq Hat) rfl (lq Hat 9) (pdf d_ah hr (gq Hat 4) (zaa (zat (pq Hat 8) (zac (pq Hat 3)) (λ_ _=>rfl)) (zaa (zac (pq Hat 4)) zaf))))
 (zaj (zaQ (i:=10) (nq Hat) rfl (lq Hat 10) (zaC zbi (zaP (gq Hat 0) T.b_len (pq Hat 8)) zal))
 (zaj (zaQ (i:=11) (nq Hat) rfl (lq Hat 11) (ze8 (PW.pt (zgj (zc3 (zac (pq Hat 6))) (zeT (zbj (B_eq hu) (zat (pq Hat 6) (zac (pq Hat 3)) (λ_ _=>rfl)) (zac (pq Hat 4)) (za7 _))))) zal zal))
 (zaj (zaQ (i:=12) (nq Hat) rfl (lq Hat 12) (zaC zbi (zaC zda (pdf d_ar hr (gq Hat 3) (zaa (zac (pq Hat 5)) (zaa (zac (pq Hat 10)) (zaa (zac (pq Hat 2)) (zaa (zac (pq Hat 9)) zaf))))) (zac (pq Hat 10))) (zac (pq Hat 11))))
 (zao (zaw (zaC zbi (zaC zda (zac (pq Hat 12)) (pdf d_aq hr (gq Hat 1) (zaa (zaC zbi (zac (pq Hat 2)) zal) (zaa (zaP (gq Hat 0) T.b_len (pq Hat 7)) zaf)))) (pdf d_as hr (gq Hat 2) (zaa (zac (pq Hat 7)) (zaa (zaC zbi (zac (pq Hat 2)) zal) (zaa (zac (pq Hat 3)) (zaa (zac (pq Hat 9)) zaf))))))))))))))
theorem Kai(d_ag:Def P w K mg base "look_at_wishes" 6 1 F_ag)(F:Fun K "longest" "longest" Sai f fd):FnOk P w K mg base CX0 7 f fd ["wishes"] (spD K 1 F_ai) :=
 okD (k:=6) (g:=g_ai) F (fq Hai 1) rfl λcdv A outer s H E B G0 hr=>
 have hu:=hr.units;have hgd:=hr.gd
 (zaj (zde (pdf d_ag hr (gq Hai 1) (zaa (zac (pq Hai 0)) zaf)))
 (zao (zaw (zaF (zou rfl) (gq Hai 0) T.b_max boot_max (zaa (zb9 (zdP (zak Sai) N_ai ["wishes", "ranks"] 1 zbg rfl (zbu (zat (pq Hai 0) zal (λ_ _=>rfl))) (λcl C s0 H0 ex=>⟨λB' G'=>(zan (zam (i:=1) (show (["wishes", "ranks"]:List Str).Nodup by decide +kernel) rfl (za0 rfl) (.inr (zbe rfl)))),λB' G'=>zbI,(zaV rfl rfl rfl λB' G'=>(zaP (zdA rfl) T.b_len (pvb 1)))⟩) rfl rfl (by decide +kernel))) zaf)))))
theorem Kao(d_ab:Def P w K mg base "is_number_below" 2 2 F_ab)(F:Fun K "is_turns" "is_turns" Sao f fd):FnOk P w K mg base CX0 3 f fd ["thing", "askers"] (spD K 2 F_ao) :=
 okD (k:=2) (g:=g_ao) F (fq Hao 2) rfl λcdv A outer s H E B G0 hr=>
 have hu:=hr.units;have hgd:=hr.gd
 (zaj (zbo (PW.pt (zcS (zbd (zbn (zbb (c := "list") (by decide) (gq Hao 2) T.b_isinstance (gq Hao 3) T.b_list (by decide +kernel) (zac (pq Hao 0)) (by decide) (by decide)))) (zcp (zbd (zbn (zaF (znv rfl) (gq Hao 4) T.b_all Ub (zaa (zb9 (zdP (zak Sao) N_ao ["thing", "askers", "asker"] 1 zbg rfl (zbu (zac (pq Hao 0))) (λcl C s0 H0 ex=>⟨λB' G'=>(zan (zam (i:=2) (show (["thing", "askers", "asker"]:List Str).Nodup by decide +kernel) rfl (za0 rfl) (.inr (zbe rfl)))),λB' G'=>zbI,(zaV rfl rfl rfl λB' G'=>(pdf d_ab hr (zdA rfl) (zaa (zac (pvb 2)) (zaa (zac (pvb 1)) zaf))))⟩) rfl rfl (by decide +kernel))) zaf)))))))
 (zao (zaw zbF))
 za1)
 (zao (zaw (ze6 (B_eq hu) (zfU rfl (gq Hao 0) T.b_len (gq Hao 1) T.b_set (zaa (zac (pq Hao 0)) zaf)) (zaP (gq Hao 0) T.b_len (pq Hao 0)) (za7 _)))))
theorem Kan(d_ab:Def P w K mg base "is_number_below" 2 2 F_ab)(F:Fun K "is_old" "is_old" San f fd):FnOk P w K mg base CX0 3 f fd ["thing", "askers", "things"] (spD K 3 F_an) :=
 okD (k:=2) (g:=g_an) F (fq Han 3) rfl λcdv A outer s H E B G0 hr=>
 have hu:=hr.units;have hgd:=hr.gd
 (zaj (zbo (zif (zac (pq Han 0)))
 (zao (zaw zbF))
 za1)
 (zaj (zbo (PW.pt (zcS (zbd (zbn (zbb (c := "list") (by decide) (gq Han 1) T.b_isinstance (gq Han 2) T.b_list (by decide +kernel) (zac (pq Han 0)) (by decide) (by decide)))) (zcp (zbj (B_ne hu) (zaP (gq Han 3) T.b_len (pq Han 0)) (zac (pq Han 1)) (za7 _)))))
 (zao (zaw zbF))
 za1)
 (zao (zaw (zaF (znv rfl) (gq Han 0) T.b_all Ub (zaa (zb9 (zdP (zak San) N_an ["thing", "askers", "things", "kept"] 1 zbg rfl (zbu (zac (pq Han 0))) (λcl C s0 H0 ex=>⟨λB' G'=>(zan (zam (i:=3) (show (["thing", "askers", "things", "kept"]:List Str).Nodup by decide +kernel) rfl (za0 rfl) (.inr (zbe rfl)))),λB' G'=>zbI,(zaV rfl rfl rfl λB' G'=>(zop (zo9 (zac (pvb 3))) (zef (pdf d_ab hr (zdA rfl) (zaa (zac (pvb 3)) (zaa (zac (pvb 2)) zaf))))))⟩) rfl rfl (by decide +kernel))) zaf))))))
theorem Kal(F:Fun K "is_order" "is_order" Sal f fd):FnOk P w K mg base CX0 1 f fd ["thing"] (spD K 1 F_al) :=
 okD (k:=0) (g:=g_al) F (fq Hal 1) rfl λcdv A outer s H E B G0 hr=>
 have hu:=hr.units;have hgd:=hr.gd
 (zao (zaw (zgk (zbb (c := "str") (by decide) (gq Hal 0) T.b_isinstance (gq Hal 1) T.b_str (by decide +kernel) (zac (pq Hal 0)) (by decide) (by decide)) (zef (zlg (B_in hu) (pq Hal 0) (zrJ (gq Hal 2) T.c_ORDERS) rfl)))))
theorem Kam(d_al:Def P w K mg base "is_order" 1 1 F_al)(F:Fun K "look_at_order" "look_at_order" Sam f fd):FnOk P w K mg base CX0 2 f fd ["thing"] (spD K 1 F_am) :=
 okD (k:=1) (g:=g_am) F (fq Ham 1) rfl λcdv A outer s H E B G0 hr=>
 have hu:=hr.units;have hgd:=hr.gd
 (zao (zbo (zbd (zbn (pdf d_al hr (gq Ham 0) (zaa (zac (pq Ham 0)) zaf))))
 (zao zcs)
 za1))
theorem Kap(d_ao:Def P w K mg base "is_turns" 3 2 F_ao)(d_an:Def P w K mg base "is_old" 3 3 F_an)(d_am:Def P w K mg base "look_at_order" 2 1 F_am)(d_ag:Def P w K mg base "look_at_wishes" 6 1 F_ag)(F:Fun K "look_at_aim" "look_at_aim" Sap f fd):FnOk P w K mg base CX0 7 f fd ["wishes", "thing"] (spD K 2 F_ap) :=
 okD (k:=6) (g:=g_ap) F (fq Hap 2) rfl λcdv A outer s H E B G0 hr=>
 have hu:=hr.units;have hgd:=hr.gd
 (zaj (zde (pdf d_ag hr (gq Hap 6) (zaa (zac (pq Hap 0)) zaf)))
 (zaj (zbo (PW.pt (zcS (zbd (zbn (zbb (c := "tuple") (by decide) (gq Hap 4) T.b_isinstance (gq Hap 5) T.b_tuple (by decide +kernel) (zac (pq Hap 1)) (by decide) (by decide)))) (zcp (zbj (B_ne hu) (zaP (gq Hap 0) T.b_len (pq Hap 1)) zal (za7 _)))))
 (zao zcs)
 za1)
 (zaj (zfO (zac (pq Hap 0)) (zbm rfl (zar (zan (zam (i:=2) (nq Hap) rfl (lq Hap 2))) (zar (zan (zam (i:=3) (nq Hap) rfl (lq Hap 3))) zbl))))
 (zaj (zfO (zac (pq Hap 1)) (zbm rfl (zar (zan (zam (i:=4) (nq Hap) rfl (lq Hap 4))) (zar (zan (zam (i:=5) (nq Hap) rfl (lq Hap 5))) (zar (zan (zam (i:=6) (nq Hap) rfl (lq Hap 6))) zbl)))))
 (zaj (zde (pdf d_am hr (gq Hap 3) (zaa (zac (pq Hap 4)) zaf)))
 (zaj (zbo (zbd (zbn (pdf d_an hr (gq Hap 2) (zaa (zac (pq Hap 5)) (zaa (zaP (gq Hap 0) T.b_len (pq Hap 3)) (zaa (zaP (gq Hap 0) T.b_len (pq Hap 2)) zaf))))))
 (zao zcs)
 za1)
 (zao (zbo (zbd (zbn (pdf d_ao hr (gq Hap 1) (zaa (zac (pq Hap 6)) (zaa (zaP (gq Hap 0) T.b_len (pq Hap 3)) zaf)))))
 (zao zcs)
 za1))))))))
theorem Kau(d_aj:Def P w K mg base "all_wishes" 7 1 F_aj)(d_at:Def P w K mg base "worth_by_aim" 3 5 F_at)(d_ai:Def P w K mg base "longest" 7 1 F_ai)(d_ap:Def P w K mg base "look_at_aim" 7 2 F_ap)(F:Fun K "all_worths" "all_worths" Sau f fd):FnOk P w K mg base CX0 8 f fd ["wishes", "aim"] (spD K 2 F_au) :=
 okD (k:=7) (g:=g_au) F (fq Hau 2) rfl λcdv A outer s H E B G0 hr=>
 have hu:=hr.units;have hgd:=hr.gd
 (zaj (zde (pdf d_ap hr (gq Hau 2) (zaa (zac (pq Hau 0)) (zaa (zac (pq Hau 1)) zaf))))
 (zaj (zaQ (i:=2) (nq Hau) rfl (lq Hau 2) (pdf d_ai hr (gq Hau 1) (zaa (zac (pq Hau 0)) zaf)))
 (zao (zaw (zb9 (zdP (zak Sau) N_au ["wishes", "aim", "most", "asker", "thing"] 2 zbg rfl (zbu (pdf d_aj hr (gq Hau 0) (zaa (zac (pq Hau 0)) zaf))) (λcl C s0 H0 ex=>⟨λB' G'=>(zbm rfl (zar (zan (zam (i:=3) (show (["wishes", "aim", "most", "asker", "thing"]:List Str).Nodup by decide +kernel) rfl (za0 rfl) (.inr (zbe rfl)))) (zar (zan (zam (i:=4) (show (["wishes", "aim", "most", "asker", "thing"]:List Str).Nodup by decide +kernel) rfl (za0 rfl) (.inr (zbe rfl)))) zbl))),λB' G'=>zbI,(zaV rfl rfl rfl λB' G'=>(zbG (zaa (zac (pvb 3)) (zaa (zac (pvb 4)) (zaa (pdf d_at hr (zdA rfl) (zaa (zac (pvb 0)) (zaa (zac (pvb 1)) (zaa (zac (pvb 2)) (zaa (zac (pvb 3)) (zaa (zac (pvb 4)) zaf)))))) zaf)))))⟩) rfl rfl (by decide +kernel)))))))
theorem Kbm(d_bi:Def P w K mg base "paper_for" 11 3 F_bi)(d_bf:Def P w K mg base "best_by" 11 2 F_bf)(d_au:Def P w K mg base "all_worths" 8 2 F_au)(F:Fun K "best_dealing" "best_dealing" Sbm f fd):FnOk P w K mg base CX0 12 f fd ["wishes", "aim"] (spD K 2 F_bm) :=
 okD (k:=11) (g:=g_bm) F (fq Hbm 2) rfl λcdv A outer s H E B G0 hr=>
 have hu:=hr.units;have hgd:=hr.gd
 (zaj (zaQ (i:=2) (nq Hbm) rfl (lq Hbm 2) (pdf d_au hr (gq Hbm 2) (zaa (zac (pq Hbm 0)) (zaa (zac (pq Hbm 1)) zaf))))
 (zaj (zaQ (i:=3) (nq Hbm) rfl (lq Hbm 3) (pdf d_bf hr (gq Hbm 1) (zaa (zac (pq Hbm 0)) (zaa (zac (pq Hbm 2)) zaf))))
 (zao (zaw (zbG (zaa (zac (pq Hbm 3)) (zaa (pdf d_bi hr (gq Hbm 0) (zaa (zac (pq Hbm 0)) (zaa (zac (pq Hbm 2)) (zaa (zac (pq Hbm 3)) zaf)))) zaf)))))))
theorem Kbj(d_aj:Def P w K mg base "all_wishes" 7 1 F_aj)(d_ah:Def P w K mg base "rank_in" 1 2 F_ah)(F:Fun K "worths_within" "worths_within" Sbj f fd):FnOk P w K mg base CX0 8 f fd ["wishes", "ranks"] (spD K 2 F_bj) :=
 okD (k:=7) (g:=g_bj) F (fq Hbj 2) rfl λcdv A outer s H E B G0 hr=>
 have hu:=hr.units;have hgd:=hr.gd
 (zao (zaw (zb9 (zdP (zak Sbj) N_bj ["wishes", "ranks", "asker", "thing"] 2 zbg rfl (zbu (pdf d_aj hr (gq Hbj 0) (zaa (zac (pq Hbj 0)) zaf))) (λcl C s0 H0 ex=>⟨λB' G'=>(zbm rfl (zar (zan (zam (i:=2) (show (["wishes", "ranks", "asker", "thing"]:List Str).Nodup by decide +kernel) rfl (za0 rfl) (.inr (zbe rfl)))) (zar (zan (zam (i:=3) (show (["wishes", "ranks", "asker", "thing"]:List Str).Nodup by decide +kernel) rfl (za0 rfl) (.inr (zbe rfl)))) zbl))),λB' G'=>(zem (zbj B_le (pdf d_ah hr (zdA rfl) (zaa (zdd (zat (pvb 0) zal (λ_ _=>rfl)) (zac (pvb 2)) (λ_ _=>rfl)) (zaa (zac (pvb 3)) zaf))) (zac (pvb 1)) (za7 _))),(zaV rfl rfl rfl λB' G'=>(zbG (zaa (zac (pvb 2)) (zaa (zac (pvb 3)) (zaa zal zaf)))))⟩) rfl rfl (by decide +kernel)))))
theorem Kbk(d_bj:Def P w K mg base "worths_within" 8 2 F_bj)(d_bf:Def P w K mg base "best_by" 11 2 F_bf)(F:Fun K "level_dealing" "level_dealing" Sbk f fd):FnOk P w K mg base CX0 12 f fd ["wishes", "ranks"] (spD K 2 F_bk) :=
 okD (k:=11) (g:=g_bk) F (fq Hbk 2) rfl λcdv A outer s H E B G0 hr=>
 have hu:=hr.units;have hgd:=hr.gd
 (zao (zaw (pdf d_bf hr (gq Hbk 1) (zaa (zac (pq Hbk 0)) (zaa (pdf d_bj hr (gq Hbk 0) (zaa (zac (pq Hbk 0)) (zaa (zac (pq Hbk 1)) zaf))) zaf)))))
theorem Kbl(d_bk:Def P w K mg base "level_dealing" 12 2 F_bk)(F:Fun K "level_of" "level_of" Sbl f fd):FnOk P w K mg base CX0 13 f fd ["wishes", "ranks"] (spD K 2 F_bl) :=
 okD (k:=12) (g:=g_bl) F (fq Hbl 2) rfl λcdv A outer s H E B G0 hr=>
 have hu:=hr.units;have hgd:=hr.gd
 (zao (zaw (zaF zdG (gq Hbl 1) T.b_len Jb (zaa (zb9 (zdP (zak Sbl) N_bl ["wishes", "ranks", "got"] 1 zbg rfl (zbu (pdf d_bk hr (gq Hbl 0) (zaa (zac (pq Hbl 0)) (zaa (zac (pq Hbl 1)) zaf)))) (λcl C s0 H0 ex=>⟨λB' G'=>(zan (zam (i:=2) (show (["wishes", "ranks", "got"]:List Str).Nodup by decide +kernel) rfl (za0 rfl) (.inr (zbe rfl)))),λB' G'=>(zem (zc3 (zac (pvb 2)))),(zaV rfl rfl rfl λB' G'=>(zac (pvb 2)))⟩) rfl rfl (by decide +kernel))) zaf))))
theorem Kbt(d_bo:Def P w K mg base "_law_numbers" 1 3 F_bo)(F:Fun K "_law_aim" "_law_aim" Sbt f fd):FnOk P w K mg base CX0 2 f fd ["_law_wishes_here", "_law_cell", "_law_salt"] (spD K 3 F_bt) :=
 okD (k:=1) (g:=g_bt) F (fq Hbt 3) rfl λcdv A outer s H E B G0 hr=>
 have hu:=hr.units;have hgd:=hr.gd
 (zaj (zaQ (i:=3) (nq Hbt) rfl (lq Hbt 3) (zaF zdG (gq Hbt 1) T.b_len Jb (zaa (zat (pq Hbt 0) zal (λ_ _=>rfl)) zaf)))
 (zaj (zaQ (i:=4) (nq Hbt) rfl (lq Hbt 4) (zaC zbi (za5 (zaa zal (zaa zal (zaa (zaC zbi (zac (pq Hbt 3)) zal) zaf)))) (zaC zda (za5 (zaa (zaC zbi (zaF zdG (gq Hbt 1) T.b_len Jb (zaa (zat (pq Hbt 0) zal (λ_ _=>rfl)) zaf)) zal) zaf)) (zac (pq Hbt 3)))))
 (zaj (zaQ (i:=5) (nq Hbt) rfl (lq Hbt 5) (pdf d_bo hr (gq Hbt 0) (zaa (zac (pq Hbt 1)) (zaa (zac (pq Hbt 2)) (zaa (zaC zbi (zac (pq Hbt 4)) (zaC zda (za5 (zaa (zac (pq Hbt 3)) zaf)) (zac (pq Hbt 3)))) zaf)))))
 (zaj (zaQ (i:=6) (nq Hbt) rfl (lq Hbt 6) zcN)
 (zaj (zbo (zbj (B_eq hu) (zat (pq Hbt 5) zal (λ_ _=>rfl)) zal (za7 _))
 (zao (sD_1 (j:=6) (zak Sbt) N_bt ["_law_wishes_here", "_law_cell", "_law_salt", "_law_askers", "_law_sizes", "_law_digits", "_law_old", "_law_turns", "._law_digit", "_law_digit"] 1 zbg (nq Hbt) rfl rfl rfl (zbu (zbQ (zac (pq Hbt 5)) (zby zal) (zby (zaC zbi zal (zac (pq Hbt 3)))))) (λcl C s0 H0 ex=>⟨λB' G'=>(zan (zam (i:=9) (show (["_law_wishes_here", "_law_cell", "_law_salt", "_law_askers", "_law_sizes", "_law_digits", "_law_old", "_law_turns", "._law_digit", "_law_digit"]:List Str).Nodup by decide +kernel) rfl (za0 rfl) (.inr (zbe rfl)))),λB' G'=>zbI,(zaV rfl rfl rfl λB' G'=>(zdd (za5 (zaa zcN (zaa (zaC zdw (zac (pvb 9)) zal) zaf))) (zj0 zqK (zdA rfl) T.b_int PyProof.Rows.boot_int (zaa (zlg B_gt (pvb 9) zal (za7 _)) zaf)) (λ_ _=>rfl)))⟩) rfl rfl (by decide +kernel)))
 za1)
 (zaj (zcq (i:=7) (nq Hbt) rfl (lq Hbt 7) (zeg zaf))
 (zaj (zbt Qt rfl (zbu (zbQ (zac (pq Hbt 5)) (zby (zaC zbi zal (zac (pq Hbt 3)))) (zby (zaC zbi (zaC zbi zal (zac (pq Hbt 3))) (zat (pq Hbt 5) zal (λ_ _=>rfl)))))) (zan (zam (i:=8) (nq Hbt) rfl (lq Hbt 8)))
 (zaj (zjk 1000 Qt (zlO (B_in hu) (zac (pq Hbt 8)) (pq Hbt 7) rfl)
 (zao (zaQ (i:=8) (nq Hbt) rfl (lq Hbt 8) (zaC zg7 (zaC zbi (zac (pq Hbt 8)) zal) (zac (pq Hbt 3))))))
 (zao (zeE (pq Hbt 7) (zac (pq Hbt 8))))))
 (zao (zaw (zbG (zaa (zdd (za5 (zaa zdK (zaa zdK (zaa zdK zaf)))) (zat (pq Hbt 5) zal (λ_ _=>rfl)) (λ_ _=>rfl)) (zaa (zac (pq Hbt 6)) (zaa (zac (pq Hbt 7)) zaf)))))))))))))
theorem Kbp(d_bo:Def P w K mg base "_law_numbers" 1 3 F_bo)(d_bn:Def P w K mg base "_law_cell_at" 1 2 F_bn)(F:Fun K "_law_wishes" "_law_wishes" Sbp f fd):FnOk P w K mg base CX0 2 f fd ["_law_script", "_law_at", "_law_most_things", "_law_most_askers", "_law_most_ranks"] (spD K 5 F_bp) :=
 okD (k:=1) (g:=g_bp) F (fq Hbp 5) rfl λcdv A outer s H E B G0 hr=>
 have hu:=hr.units;have hgd:=hr.gd
 (zaj (zaQ (i:=5) (nq Hbp) rfl (lq Hbp 5) (zaC zbi (za5 (zaa (zac (pq Hbp 2)) (zaa (zac (pq Hbp 3)) zaf))) (zaC zda (za5 (zaa zal zaf)) (zac (pq Hbp 2)))))
 (zaj (zaQ (i:=6) (nq Hbp) rfl (lq Hbp 6) (pdf d_bo hr (gq Hbp 2) (zaa (pdf d_bn hr (gq Hbp 3) (zaa (zac (pq Hbp 0)) (zaa (zac (pq Hbp 1)) zaf))) (zaa (zac (pq Hbp 1)) (zaa (zac (pq Hbp 5)) zaf)))))
 (zaj (sD_1 (j:=7) (zak Sbp) N_bp ["_law_script", "_law_at", "_law_most_things", "_law_most_askers", "_law_most_ranks", "_law_sizes", "_law_digits", "_law_copies", "_law_lists", "_law_asker", "_law_cell", "_law_places", "_law_ranks", "_law_rank_here", "_law_row", "_law_digit"] 1 zbg (nq Hbp) rfl rfl rfl (zbu (zbQ (zac (pq Hbp 6)) (zby zal) (zby (zaC zbi zal (zat (pq Hbp 6) zal (λ_ _=>rfl)))))) (λcl C s0 H0 ex=>⟨λB' G'=>(zan (zam (i:=15) (show (["_law_script", "_law_at", "_law_most_things", "_law_most_askers", "_law_most_ranks", "_law_sizes", "_law_digits", "_law_copies", "_law_lists", "_law_asker", "_law_cell", "_law_places", "_law_ranks", "_law_rank_here", "_law_row", "_law_digit"]:List Str).Nodup by decide +kernel) rfl (za0 rfl) (.inr (zbe rfl)))),λB' G'=>zbI,(zaV rfl rfl rfl λB' G'=>(zdd (za5 (zaa zal (zaa zal (zaa zal (zaa zal (zaa zal (zaa zal (zaa zal (zaa zal (zaa zal (zaa zal (zaa zal zaf)))))))))))) (zac (pvb 15)) (λ_ _=>rfl)))⟩) rfl rfl (by decide +kernel))
 (zaj (zcq (i:=8) (nq Hbp) rfl (lq Hbp 8) (zeg zaf))
 (zaj (zbt Qt rfl (zbY (gq Hbp 0) T.b_range (zaa (zaC zbi zal (zat (pq Hbp 6) zal (λ_ _=>rfl))) zaf)) (zan (zam (i:=9) (nq Hbp) rfl (lq Hbp 9)))
 (zaj (zaQ (i:=10) (nq Hbp) rfl (lq Hbp 10) (pdf d_bn hr (gq Hbp 3) (zaa (zac (pq Hbp 0)) (zaa (zaC zbi (zaC zbi (zac (pq Hbp 1)) zal) (zac (pq Hbp 9))) zaf))))
 (zaj (zaQ (i:=11) (nq Hbp) rfl (lq Hbp 11) (pdf d_bo hr (gq Hbp 2) (zaa (zac (pq Hbp 10)) (zaa (zaC zbi (zaC zbi (zaC zda zal (zac (pq Hbp 1))) (zaC zda zal (zac (pq Hbp 9)))) zal) (zaa (zaC zbi (zaC zda (za5 (zaa (zaC zbi (zac (pq Hbp 4)) zal) zaf)) (zac (pq Hbp 2))) (za5 (zaa zal zaf))) zaf)))))
 (zaj (zcq (i:=12) (nq Hbp) rfl (lq Hbp 12) (zeg zaf))
 (zaj (zbt Qt rfl (zk4 (gq Hbp 0) T.b_range (zaa zal (zaa (zaC zbi (zac (pq Hbp 4)) zal) zaf))) (zan (zam (i:=13) (nq Hbp) rfl (lq Hbp 13)))
 (zaj (sD_1 (j:=14) (zak Sbp) N_bp ["_law_script", "_law_at", "_law_most_things", "_law_most_askers", "_law_most_ranks", "_law_sizes", "_law_digits", "_law_copies", "_law_lists", "_law_asker", "_law_cell", "_law_places", "_law_ranks", "_law_rank_here", "_law_row", "_law_thing"] 1 zbg (nq Hbp) rfl rfl rfl (zbY (gq Hbp 0) T.b_range (zaa (zaP (gq Hbp 1) T.b_len (pq Hbp 7)) zaf)) (λcl C s0 H0 ex=>⟨λB' G'=>(zan (zam (i:=15) (show (["_law_script", "_law_at", "_law_most_things", "_law_most_askers", "_law_most_ranks", "_law_sizes", "_law_digits", "_law_copies", "_law_lists", "_law_asker", "_law_cell", "_law_places", "_law_ranks", "_law_rank_here", "_law_row", "_law_thing"]:List Str).Nodup by decide +kernel) rfl (za0 rfl) (.inr (zbe rfl)))),λB' G'=>(zem (zbj (B_eq hu) (zat (pvb 11) (zac (pvb 15)) (λ_ _=>rfl)) (zac (pvb 13)) (za7 _))),(zaV rfl rfl rfl λB' G'=>(zac (pvb 15)))⟩) rfl rfl (by decide +kernel))
 (zao (zbo (zcf (B_ne hu) (pq Hbp 14) (za5 zaf) (za7 _))
 (zao (zeE (pq Hbp 12) (zdd (za5 (zaa (zac (pq Hbp 14)) (zaa (zpg (zac (pq Hbp 14)) zdq zdq (zby (zei zal))) zaf))) (zat (pq Hbp 11) (zei zal) (λ_ _=>rfl)) (λ_ _=>rfl))))
 za1))))
 (zao (zeE (pq Hbp 8) (zac (pq Hbp 12)))))))))
 (zao (zaw (zbG (zaa (zac (pq Hbp 7)) (zaa (zac (pq Hbp 8)) zaf))))))))))
theorem Kca(d_bn:Def P w K mg base "_law_cell_at" 1 2 F_bn)(d_bu:Def P w K mg base "_law_dealt" 2 3 F_bu)(d_by:Def P w K mg base "_law_below" 3 3 F_by)(d_bz:Def P w K mg base "_law_ends" 3 4 F_bz)(d_bx:Def P w K mg base "_law_is_dealing" 2 2 F_bx)(d_bm:Def P w K mg base "best_dealing" 12 2 F_bm)(d_bl:Def P w K mg base "level_of" 13 2 F_bl)(d_br:Def P w K mg base "_law_longest" 1 1 F_br)(d_bt:Def P w K mg base "_law_aim" 2 3 F_bt)(d_bp:Def P w K mg base "_law_wishes" 2 5 F_bp)(F:Fun K "law" "law" Sca f fd):FnOk P w K mg base CX0 14 f fd ["_law_script"] (spD K 1 F_ca) :=
 okD (k:=13) (g:=g_ca) F (fq Hca 1) rfl λcdv A outer s H E B G0 hr=>
 have hu:=hr.units;have hgd:=hr.gd
 (zaj (zaQ (i:=1) (nq Hca) rfl (lq Hca 1) (pdf d_bp hr (gq Hca 13) (zaa (zac (pq Hca 0)) (zaa zal (zaa zal (zaa zal (zaa zal zaf)))))))
 (zaj (zaQ (i:=2) (nq Hca) rfl (lq Hca 2) (pdf d_bt hr (gq Hca 12) (zaa (zac (pq Hca 1)) (zaa (pdf d_bn hr (gq Hca 0) (zaa (zac (pq Hca 0)) (zaa zal zaf))) (zaa zal zaf)))))
 (zaj (sD_1 (j:=3) (zak Sca) N_ca ["_law_script", "_law_wishes_here", "_law_aim_here", "_law_levels", "_law_order", "_law_old", "_law_turns", "_law_best", "_law_k", "_law_cell", "_law_ranks"] 1 zbg (nq Hca) rfl rfl rfl (zbY (gq Hca 11) T.b_range (zaa zal zaf)) (λcl C s0 H0 ex=>⟨λB' G'=>(zan (zam (i:=10) (show (["_law_script", "_law_wishes_here", "_law_aim_here", "_law_levels", "_law_order", "_law_old", "_law_turns", "_law_best", "_law_k", "_law_cell", "_law_ranks"]:List Str).Nodup by decide +kernel) rfl (za0 rfl) (.inr (zbe rfl)))),λB' G'=>zbI,(zaV rfl rfl rfl λB' G'=>(pdf d_bl hr (zdA rfl) (zaa (zac (pvb 1)) (zaa (zac (pvb 10)) zaf))))⟩) rfl rfl (by decide +kernel))
 (zaj (zbo (PW.pt (zcS (zbj (B_ne hu) (zat (pq Hca 3) zal (λ_ _=>rfl)) zal (za7 _)) (zcS (zlO (B_ne hu) (zaF zlM (gq Hca 9) T.b_sorted PyProof.Rows.boot_sorted (zaa (zac (pq Hca 3)) zaf)) (pq Hca 3) (za7 _)) (zcp (zbj B_gt (zat (pq Hca 3) zal (λ_ _=>rfl)) (zaF zdG (gq Hca 10) T.b_len Jb (zaa (zat (pq Hca 1) zal (λ_ _=>rfl)) zaf)) (za7 _))))))
 (zao (zaw zbF))
 za1)
 (zaj (zbo (zbj (B_ne hu) (pdf d_bl hr (gq Hca 7) (zaa (zac (pq Hca 1)) (zaa (zaC zqy zal zal) zaf))) (zat (pq Hca 3) (pdf d_br hr (gq Hca 8) (zaa (zac (pq Hca 1)) zaf)) (λ_ _=>rfl)) (za7 _))
 (zao (zaw zbF))
 za1)
 (zaj (zbt Qt rfl (zbu (za5 (zaa (zac (pq Hca 2)) (zaa (zbG (zaa zdK (zaa zcN (zaa (za5 zaf) zaf)))) (zaa (zbG (zaa zdK (zaa zcN (zaa (za5 zaf) zaf)))) (zaa (zbG (zaa zdK (zaa zcN (zaa (za5 zaf) zaf)))) zaf)))))) (zbm rfl (zar (zan (zam (i:=4) (nq Hca) rfl (lq Hca 4))) (zar (zan (zam (i:=5) (nq Hca) rfl (lq Hca 5))) (zar (zan (zam (i:=6) (nq Hca) rfl (lq Hca 6))) zbl))))
 (zaj (zaQ (i:=7) (nq Hca) rfl (lq Hca 7) (zdd (pdf d_bm hr (gq Hca 6) (zaa (zac (pq Hca 1)) (zaa (zbG (zaa (zac (pq Hca 4)) (zaa (zac (pq Hca 5)) (zaa (zac (pq Hca 6)) zaf)))) zaf))) zal (λ_ _=>rfl)))
 (zaj (zbo (PW.pt (zcS (zbd (zbn (pdf d_bx hr (gq Hca 5) (zaa (zac (pq Hca 1)) (zaa (zac (pq Hca 7)) zaf))))) (zcp (zbd (zbn (pdf d_by hr (gq Hca 3) (zaa (zac (pq Hca 1)) (zaa (zac (pq Hca 3)) (zaa (zac (pq Hca 7)) zaf)))))))))
 (zao (zaw zbF))
 za1)
 (zao (zbo (zbd (zbn (pdf d_bz hr (gq Hca 4) (zaa (zac (pq Hca 1)) (zaa (zac (pq Hca 3)) (zaa (zac (pq Hca 4)) (zaa (zac (pq Hca 7)) zaf)))))))
 (zao (zaw zbF))
 za1)))))
 (zaj (zbt Qt rfl (zcr (gq Hca 1) T.b_enumerate (zaa (zaC zbi (za5 (zaa (pdf d_bn hr (gq Hca 0) (zaa (zac (pq Hca 0)) (zaa zal zaf))) zaf)) (zbQ (zac (pq Hca 0)) (zby zal) (zby zal))) zaf)) (zbm rfl (zar (zan (zam (i:=8) (nq Hca) rfl (lq Hca 8))) (zar (zan (zam (i:=9) (nq Hca) rfl (lq Hca 9))) zbl)))
 (zao (zbo (zbd (zbn (pdf d_by hr (gq Hca 3) (zaa (zac (pq Hca 1)) (zaa (zac (pq Hca 3)) (zaa (pdf d_bu hr (gq Hca 2) (zaa (zac (pq Hca 1)) (zaa (zac (pq Hca 9)) (zaa (zaC zbi zal (zac (pq Hca 8))) zaf)))) zaf))))))
 (zao (zaw zbF))
 za1)))
 (zao (zaw zbF)))))))))
end
theorem zax:recsOf q0=zhC p0 ixL:=by
 show recsOf (PySem.W.view PySem.Challenge.pw_wishdeal_k54_whole_levels_and_counts zeL)=zhC PySem.Challenge.pw_wishdeal_k54_whole_levels_and_counts ixL;rw[PySem.W.Fast.te3399658132070893891,PySem.W.Fast.te5819451817762944561]
 kernel_rfl
theorem zdZ:(["all", "bool", "enumerate", "int", "isinstance", "len", "list", "max", "range", "set", "sorted", "str", "sum", "tuple"]:List Str).all (znL q0 (PySem.W.looseW q0 []))=true:=by
 show List.all _ (znL (PySem.W.view PySem.Challenge.pw_wishdeal_k54_whole_levels_and_counts zeL) (PySem.W.looseW (PySem.W.view PySem.Challenge.pw_wishdeal_k54_whole_levels_and_counts zeL) []))=true
 k_qdec
theorem zfH:valOf q0 "MOST_ASKERS" = some (.int 7):=by
 show valOf (PySem.W.view PySem.Challenge.pw_wishdeal_k54_whole_levels_and_counts zeL) _=_;rw[Jx,PySem.W.Fast.te5819451817762944561]
 kernel_rfl
theorem zfI:valOf q0 "MOST_COPIES" = some (.int 7):=by
 show valOf (PySem.W.view PySem.Challenge.pw_wishdeal_k54_whole_levels_and_counts zeL) _=_;rw[Jx,PySem.W.Fast.te5819451817762944561]
 kernel_rfl
theorem zgD:valOf q0 "MOST_RANKS" = some (.int 5):=by
 show valOf (PySem.W.view PySem.Challenge.pw_wishdeal_k54_whole_levels_and_counts zeL) _=_;rw[Jx,PySem.W.Fast.te5819451817762944561]
 kernel_rfl
theorem zfJ:valOf q0 "MOST_THINGS" = some (.int 6):=by
 show valOf (PySem.W.view PySem.Challenge.pw_wishdeal_k54_whole_levels_and_counts zeL) _=_;rw[Jx,PySem.W.Fast.te5819451817762944561]
 kernel_rfl
theorem zmi:tupStrsOf q0 "ORDERS" = some (["firsts", "full", "lasts"]:List Str):=by
 show tupStrsOf (PySem.W.view PySem.Challenge.pw_wishdeal_k54_whole_levels_and_counts zeL) _=_;rw[PySem.W.Fast.te14491516231548247274,PySem.W.Fast.te5819451817762944561]
 kernel_rfl
theorem zqT{l:PySem.W.OpenLaw}{w:World}{s0:Shared}{mg mb:Str->Option Value}{fa:Addr}{h:Heap}{XP:(Str->Option Value)->Heap->Prop}(G:PySem.W.Ground q0 [] [] XP w s0 mg mb h)(hfa:mg "law" = some (.ref fa)) :
  ∃fd:FuncData,(∀(s:Shared)(v:Value),BindsTo s fd ⟨[v],[]⟩ [("_law_script", v)])/\∀base:Heap,FnOk l.prog w (whole h) mg base CX0 14 fa fd ["_law_script"] (spD (whole h) 1 F_ca):=by
 have T:Txt (whole h) mg:=⟨zcb G.T zdZ (.head _),zcb G.T zdZ (.tail _ (.head _)),zcb G.T zdZ (.tail _ (.tail _ (.head _))),zcb G.T zdZ (.tail _ (.tail _ (.tail _ (.head _)))),zcb G.T zdZ (.tail _ (.tail _ (.tail _ (.tail _ (.head _))))),zcb G.T zdZ (.tail _ (.tail _ (.tail _ (.tail _ (.tail _ (.head _)))))),zcb G.T zdZ (.tail _ (.tail _ (.tail _ (.tail _ (.tail _ (.tail _ (.head _))))))),zcb G.T zdZ (.tail _ (.tail _ (.tail _ (.tail _ (.tail _ (.tail _ (.tail _ (.head _)))))))),zcb G.T zdZ (.tail _ (.tail _ (.tail _ (.tail _ (.tail _ (.tail _ (.tail _ (.tail _ (.head _))))))))),zcb G.T zdZ (.tail _ (.tail _ (.tail _ (.tail _ (.tail _ (.tail _ (.tail _ (.tail _ (.tail _ (.head _)))))))))),zcb G.T zdZ (.tail _ (.tail _ (.tail _ (.tail _ (.tail _ (.tail _ (.tail _ (.tail _ (.tail _ (.tail _ (.head _))))))))))),zcb G.T zdZ (.tail _ (.tail _ (.tail _ (.tail _ (.tail _ (.tail _ (.tail _ (.tail _ (.tail _ (.tail _ (.tail _ (.head _)))))))))))),zcb G.T zdZ (.tail _ (.tail _ (.tail _ (.tail _ (.tail _ (.tail _ (.tail _ (.tail _ (.tail _ (.tail _ (.tail _ (.tail _ (.head _))))))))))))),zcb G.T zdZ (.tail _ (.tail _ (.tail _ (.tail _ (.tail _ (.tail _ (.tail _ (.tail _ (.tail _ (.tail _ (.tail _ (.tail _ (.tail _ (.head _)))))))))))))),zdY G.T zfH,zdY G.T zfI,zdY G.T zgD,zdY G.T zfJ,zlS G.B zmi (by decide)⟩
 refine zrQ G.T zax 72 "law" rfl rfl hfa (λ_ _ _ _ _ _ _=>rfl) λbase=>?_
 have d_bn:=za9 l.prog w base G.T zax 59 "_law_cell_at" rfl rfl (λF=>Kbn T  F) λ_ _ _ _ _ _ us hl=>bz2 (us:=us) hl λ_ _=>rfl
 have d_bs:=za9 l.prog w base G.T zax 64 "_law_wished" rfl rfl (λF=>Kbs T  F) λ_ _ _ _ _ _ us hl=>bz2 (us:=us) hl λ_ _=>rfl
 have d_bo:=za9 l.prog w base G.T zax 60 "_law_numbers" rfl rfl (λF=>Kbo T  F) λ_ _ _ _ _ _ us hl=>bz3 (us:=us) hl λ_ _ _=>rfl
 have d_bu:=za9 l.prog w base G.T zax 66 "_law_dealt" rfl rfl (λF=>Kbu T d_bs d_bo F) λ_ _ _ _ _ _ us hl=>bz3 (us:=us) hl λ_ _ _=>rfl
 have d_bq:=za9 l.prog w base G.T zax 62 "_law_rank" rfl rfl (λF=>Kbq T  F) λ_ _ _ _ _ _ us hl=>bz3 (us:=us) hl λ_ _ _=>rfl
 have d_br:=za9 l.prog w base G.T zax 63 "_law_longest" rfl rfl (λF=>Kbr T  F) λ_ _ _ _ _ _ us hl=>bz1 (us:=us) hl λ_=>rfl
 have d_bv:=za9 l.prog w base G.T zax 67 "_law_counts" rfl rfl (λF=>Kbv T d_bq d_br F) λ_ _ _ _ _ _ us hl=>bz2 (us:=us) hl λ_ _=>rfl
 have d_by:=za9 l.prog w base G.T zax 70 "_law_below" rfl rfl (λF=>Kby T d_bv F) λ_ _ _ _ _ _ us hl=>bz3 (us:=us) hl λ_ _ _=>rfl
 have d_bz:=za9 l.prog w base G.T zax 71 "_law_ends" rfl rfl (λF=>Kbz T d_bv F) λ_ _ _ _ _ _ us hl=>bz4 (us:=us) hl λ_ _ _ _=>rfl
 have d_bw:=za9 l.prog w base G.T zax 68 "_law_is_number" rfl rfl (λF=>Kbw T  F) λ_ _ _ _ _ _ us hl=>bz1 (us:=us) hl λ_=>rfl
 have d_bx:=za9 l.prog w base G.T zax 69 "_law_is_dealing" rfl rfl (λF=>Kbx T d_bw d_bs F) λ_ _ _ _ _ _ us hl=>bz2 (us:=us) hl λ_ _=>rfl
 have d_bh:=za9 l.prog w base G.T zax 50 "asks_beyond" rfl rfl (λF=>Kbh T  F) λ_ _ _ _ _ _ us hl=>bz3 (us:=us) hl λ_ _ _=>rfl
 have d_aw:=za9 l.prog w base G.T zax 39 "place_of" rfl rfl (λF=>Kaw T  F) λ_ _ _ _ _ _ us hl=>bz2 (us:=us) hl λ_ _=>rfl
 have d_ax:=za9 l.prog w base G.T zax 40 "steps_of_askers" rfl rfl (λF=>Kax T d_aw F) λ_ _ _ _ _ _ us hl=>bz3 (us:=us) hl λ_ _ _=>rfl
 have d_aa:=za9 l.prog w base G.T zax 1 "is_whole" rfl rfl (λF=>Kaa T  F) λ_ _ _ _ _ _ us hl=>bz1 (us:=us) hl λ_=>rfl
 have d_ab:=za9 l.prog w base G.T zax 2 "is_number_below" rfl rfl (λF=>Kab T d_aa F) λ_ _ _ _ _ _ us hl=>bz2 (us:=us) hl λ_ _=>rfl
 have d_ad:=za9 l.prog w base G.T zax 13 "is_rank" rfl rfl (λF=>Kad T d_ab F) λ_ _ _ _ _ _ us hl=>bz2 (us:=us) hl λ_ _=>rfl
 have d_ae:=za9 l.prog w base G.T zax 14 "is_asker_list" rfl rfl (λF=>Kae T d_ad F) λ_ _ _ _ _ _ us hl=>bz2 (us:=us) hl λ_ _=>rfl
 have d_af:=za9 l.prog w base G.T zax 15 "look_at_lists" rfl rfl (λF=>Kaf T d_ae F) λ_ _ _ _ _ _ us hl=>bz2 (us:=us) hl λ_ _=>rfl
 have d_ac:=za9 l.prog w base G.T zax 12 "look_at_copies" rfl rfl (λF=>Kac T d_ab F) λ_ _ _ _ _ _ us hl=>bz1 (us:=us) hl λ_=>rfl
 have d_ag:=za9 l.prog w base G.T zax 16 "look_at_wishes" rfl rfl (λF=>Kag T d_af d_ac F) λ_ _ _ _ _ _ us hl=>bz1 (us:=us) hl λ_=>rfl
 have d_ak:=za9 l.prog w base G.T zax 21 "copies_left" rfl rfl (λF=>Kak T d_ag F) λ_ _ _ _ _ _ us hl=>bz2 (us:=us) hl λ_ _=>rfl
 have d_ay:=za9 l.prog w base G.T zax 41 "steps_of_copies" rfl rfl (λF=>Kay T d_ak F) λ_ _ _ _ _ _ us hl=>bz2 (us:=us) hl λ_ _=>rfl
 have d_az:=za9 l.prog w base G.T zax 42 "all_steps" rfl rfl (λF=>Kaz T d_ax d_ay F) λ_ _ _ _ _ _ us hl=>bz3 (us:=us) hl λ_ _ _=>rfl
 have d_ba:=za9 l.prog w base G.T zax 43 "longer_walks" rfl rfl (λF=>Kba T  F) λ_ _ _ _ _ _ us hl=>bz2 (us:=us) hl λ_ _=>rfl
 have d_bb:=za9 l.prog w base G.T zax 44 "widest_walks" rfl rfl (λF=>Kbb T d_ba F) λ_ _ _ _ _ _ us hl=>bz2 (us:=us) hl λ_ _=>rfl
 have d_bg:=za9 l.prog w base G.T zax 49 "prices_for" rfl rfl (λF=>Kbg T d_az d_bb F) λ_ _ _ _ _ _ us hl=>bz3 (us:=us) hl λ_ _ _=>rfl
 have d_bi:=za9 l.prog w base G.T zax 51 "paper_for" rfl rfl (λF=>Kbi T d_bh d_bg F) λ_ _ _ _ _ _ us hl=>bz3 (us:=us) hl λ_ _ _=>rfl
 have d_bc:=za9 l.prog w base G.T zax 45 "round_within" rfl rfl (λF=>Kbc T  F) λ_ _ _ _ _ _ us hl=>bz1 (us:=us) hl λ_=>rfl
 have d_bd:=za9 l.prog w base G.T zax 46 "way_round" rfl rfl (λF=>Kbd T  F) λ_ _ _ _ _ _ us hl=>bz2 (us:=us) hl λ_ _=>rfl
 have d_be:=za9 l.prog w base G.T zax 47 "gaining_way" rfl rfl (λF=>Kbe T d_az d_bb d_bc d_bd F) λ_ _ _ _ _ _ us hl=>bz3 (us:=us) hl λ_ _ _=>rfl
 have d_av:=za9 l.prog w base G.T zax 37 "behind_way" rfl rfl (λF=>Kav T  F) λ_ _ _ _ _ _ us hl=>bz2 (us:=us) hl λ_ _=>rfl
 have d_bf:=za9 l.prog w base G.T zax 48 "best_by" rfl rfl (λF=>Kbf T d_be d_av F) λ_ _ _ _ _ _ us hl=>bz2 (us:=us) hl λ_ _=>rfl
 have d_aj:=za9 l.prog w base G.T zax 19 "all_wishes" rfl rfl (λF=>Kaj T d_ag F) λ_ _ _ _ _ _ us hl=>bz1 (us:=us) hl λ_=>rfl
 have d_aq:=za9 l.prog w base G.T zax 31 "power" rfl rfl (λF=>Kaq T  F) λ_ _ _ _ _ _ us hl=>bz2 (us:=us) hl λ_ _=>rfl
 have d_as:=za9 l.prog w base G.T zax 33 "worth_by_turns" rfl rfl (λF=>Kas T d_aq F) λ_ _ _ _ _ _ us hl=>bz4 (us:=us) hl λ_ _ _ _=>rfl
 have d_ar:=za9 l.prog w base G.T zax 32 "worth_by_order" rfl rfl (λF=>Kar T d_aq F) λ_ _ _ _ _ _ us hl=>bz4 (us:=us) hl λ_ _ _ _=>rfl
 have d_ah:=za9 l.prog w base G.T zax 17 "rank_in" rfl rfl (λF=>Kah T  F) λ_ _ _ _ _ _ us hl=>bz2 (us:=us) hl λ_ _=>rfl
 have d_at:=za9 l.prog w base G.T zax 34 "worth_by_aim" rfl rfl (λF=>Kat T d_aq d_as d_ar d_ah F) λ_ _ _ _ _ _ us hl=>bz5 (us:=us) hl λ_ _ _ _ _=>rfl
 have d_ai:=za9 l.prog w base G.T zax 18 "longest" rfl rfl (λF=>Kai T d_ag F) λ_ _ _ _ _ _ us hl=>bz1 (us:=us) hl λ_=>rfl
 have d_ao:=za9 l.prog w base G.T zax 28 "is_turns" rfl rfl (λF=>Kao T d_ab F) λ_ _ _ _ _ _ us hl=>bz2 (us:=us) hl λ_ _=>rfl
 have d_an:=za9 l.prog w base G.T zax 27 "is_old" rfl rfl (λF=>Kan T d_ab F) λ_ _ _ _ _ _ us hl=>bz3 (us:=us) hl λ_ _ _=>rfl
 have d_al:=za9 l.prog w base G.T zax 24 "is_order" rfl rfl (λF=>Kal T  F) λ_ _ _ _ _ _ us hl=>bz1 (us:=us) hl λ_=>rfl
 have d_am:=za9 l.prog w base G.T zax 25 "look_at_order" rfl rfl (λF=>Kam T d_al F) λ_ _ _ _ _ _ us hl=>bz1 (us:=us) hl λ_=>rfl
 have d_ap:=za9 l.prog w base G.T zax 29 "look_at_aim" rfl rfl (λF=>Kap T d_ao d_an d_am d_ag F) λ_ _ _ _ _ _ us hl=>bz2 (us:=us) hl λ_ _=>rfl
 have d_au:=za9 l.prog w base G.T zax 35 "all_worths" rfl rfl (λF=>Kau T d_aj d_at d_ai d_ap F) λ_ _ _ _ _ _ us hl=>bz2 (us:=us) hl λ_ _=>rfl
 have d_bm:=za9 l.prog w base G.T zax 57 "best_dealing" rfl rfl (λF=>Kbm T d_bi d_bf d_au F) λ_ _ _ _ _ _ us hl=>bz2 (us:=us) hl λ_ _=>rfl
 have d_bj:=za9 l.prog w base G.T zax 53 "worths_within" rfl rfl (λF=>Kbj T d_aj d_ah F) λ_ _ _ _ _ _ us hl=>bz2 (us:=us) hl λ_ _=>rfl
 have d_bk:=za9 l.prog w base G.T zax 54 "level_dealing" rfl rfl (λF=>Kbk T d_bj d_bf F) λ_ _ _ _ _ _ us hl=>bz2 (us:=us) hl λ_ _=>rfl
 have d_bl:=za9 l.prog w base G.T zax 55 "level_of" rfl rfl (λF=>Kbl T d_bk F) λ_ _ _ _ _ _ us hl=>bz2 (us:=us) hl λ_ _=>rfl
 have d_bt:=za9 l.prog w base G.T zax 65 "_law_aim" rfl rfl (λF=>Kbt T d_bo F) λ_ _ _ _ _ _ us hl=>bz3 (us:=us) hl λ_ _ _=>rfl
 have d_bp:=za9 l.prog w base G.T zax 61 "_law_wishes" rfl rfl (λF=>Kbp T d_bo d_bn F) λ_ _ _ _ _ _ us hl=>bz5 (us:=us) hl λ_ _ _ _ _=>rfl
 exact λ{_ _} F=>Kca T d_bn d_bu d_by d_bz d_bx d_bm d_bl d_br d_bt d_bp F
abbrev d_ca:DefRec:=⟨"law", zee Sca,zdc Sca,zak Sca,zrP Sca⟩
theorem walk{YP:World->Heap->Prop}{XP:(Str->Option Value)->Heap->Prop}(hlaw:∀ns:List Int,ns.length<=63->F_ca [.list (ns.map int)]=some (.bool true)):PySem.W.WalkO q0 [] XP YP (PySem.Challenge.rw_wishdeal_k54_whole_levels_and_counts).row.toRowW d_ca [] (λf vs=>PySem.call f vs) :=
 znM (n:=63) (k:=14) (x := "_law_script") rfl (by decide) rfl ⟨rfl,by decide,by decide,rfl⟩ (λ_ _ _ _ _ _ G hm=>zqT G hm) hlaw
theorem asm{α:Type}{a b:α}(h:a=b):a=b:=h
theorem zqU{i:Nat}{x:Option Sl}{Z Z':DEnv}(h:Z.set i x=Z'):Z.set i x=Z':=h
theorem zqV{i:Nat}{Z:DEnv}{x:Option (Option Sl)}(h:Z[i]?=x):Z[i]?=x:=h
theorem asmN{ds:List D}{n:Nat}(h:ds.length<n):ds.length<n:=h
theorem zrT{ds:List D}{n:Nat}(h:ds.length<=n):ds.length<=n:=h
theorem zqW{i:Nat}{Z:DEnv}(h:i<Z.length):i<Z.length:=h
theorem zqX{f:M D}{Z Z1:DEnv}{d:D}{t:Bool}(h:f Z=.ok d Z1)(ht:(!isNon d)=t):mMap (λd=>!isNon d) f Z=.ok t Z1:=by
 subst ht;exact zaH (k:=λd=>!isNon d) h
local macro_rules | `(tactic| walk_at "set")=>`(tactic| first | (simp only [List.set_cons_succ,List.set_cons_zero];done) | (simp only [List.set_cons_succ,List.set_cons_zero];rfl) | rfl)
local macro_rules | `(tactic| walk_at "side")=>`(tactic| first | assumption | omega | (simp only [List.length_cons,List.length_nil,List.length_map,List.length_append];omega))
local macro_rules | `(tactic| walk_at "st1")=>`(tactic| first
 | with_reducible apply zaZ
 | with_reducible apply zbB
 | ((with_reducible apply zeH);exact rfl)
 | with_reducible apply zfm
 | with_reducible apply zeo
 | with_reducible apply zc6
 | with_reducible exact st_nx)
local macro_rules | `(tactic| walk_at "ev1")=>`(tactic| first
 | with_reducible exact zag
 | with_reducible exact zai
 | ((with_reducible apply zad);exact rfl)
 | with_reducible apply zap
 | with_reducible apply zab
 | with_reducible apply zdB
 | with_reducible apply ev_zip
 | ((with_reducible apply ev_listO);exact rfl)
 | with_reducible apply zaS
 | ((with_reducible apply zb4);exact rfl)
 | ((with_reducible apply zjh);exact rfl)
 | with_reducible apply ev_join
 | with_reducible apply zaH
 | ((with_reducible apply za8);exact rfl)
 | with_reducible apply za4
 | with_reducible apply zfY
 | ((with_reducible apply za6);exact rfl)
 | ((with_reducible apply zlw);exact rfl)
 | with_reducible apply zcP
 | with_reducible apply zlx
 | with_reducible apply ev_rng3
 | with_reducible apply zjj
 | with_reducible apply zgo
 | with_reducible apply zjn
 | with_reducible apply zch
 | with_reducible apply ev_iter
 | with_reducible apply ev_sl
 | with_reducible apply zbW
 | with_reducible apply zcm
 | with_reducible apply zbA
 | with_reducible apply zb6
 | with_reducible apply zbf
 | with_reducible apply zen
 | ((with_reducible apply zbJ);exact rfl;walk_at "set")
 | ((with_reducible apply zfX);exact rfl)
 | with_reducible apply zas
 | ((with_reducible apply asm);(with_reducible assumption))
 | with_reducible exact zaW
 | with_reducible exact zbX
 | with_reducible exact zow
 | with_reducible exact zlB
 | with_reducible exact vop_min
 | with_reducible exact zaD
 | with_reducible exact vop_lenT
 | with_reducible exact vop_sl
 | with_reducible exact zck
 | with_reducible exact zbs
 | with_reducible exact vop_itT
 | with_reducible exact vop_itS
 | with_reducible exact vop_inS
 | with_reducible exact vop_ninS
 | with_reducible exact vop_iter
 | with_reducible exact zbS
 | with_reducible exact zhq
 | with_reducible exact zep
 | with_reducible exact zjl
 | with_reducible exact vop_neT
 | with_reducible exact vop_eqT
 | with_reducible exact zb3
 | ((with_reducible apply ziu);walk_at "side")
 | ((with_reducible apply zpk) <;> walk_at "side")
 | ((with_reducible apply zgr) <;> walk_at "side")
 | ((with_reducible apply zeW) <;> walk_at "side")
 | ((with_reducible apply zca);walk_at "side")
 | ((with_reducible apply zqW);exact of_decide_eq_true rfl)
 | ((with_reducible apply zaq);walk_at "st1")
 | ((with_reducible apply zbp);walk_at "st1")
 | walk_at "st1"
 | ((with_reducible apply zqV);exact rfl)
 | ((with_reducible apply asmN);walk_at "side")
 | ((with_reducible apply zrT);walk_at "side")
 | with_reducible apply zaB
 | ((with_reducible apply zqU);walk_at "set")
 | ((with_reducible apply zqW);exact of_decide_eq_true rfl)
 | with_reducible apply tg_N
 | with_reducible exact tg_0
 | with_reducible apply tg_C
 | ((with_reducible apply tg_T);exact rfl)
 | ((with_reducible apply asmE);exact rfl))
local macro_rules | `(tactic| walk_at "ev")=>`(tactic| repeat' walk_at "ev1")
theorem zf2{sizes found:List Int}{z d:Int}(h:∀(j:Nat) d z,found[j]?=some d->sizes[j]?=some z->0<=d/\d<z)(hz:sizes[found.length]?=some z)(h0:0<=d/\d<z) :
  ∀(j:Nat) d' z',(found++[d])[j]?=some d'->sizes[j]?=some z'->0<=d'/\d'<z':=by
 intro j d' z' e1 e2
 by_cases hj:j<found.length
 ·rw[Qw hj] at e1
  exact h j d' z' e1 e2
 ·by_cases hj2:j=found.length
  ·subst hj2
   rw[hz] at e2;cases e2;rw[Qr (Qx _),Nat.sub_self,List.getElem?_cons_zero] at e1;cases e1;exact h0
  ·rw[QB (by rw[Ql,Jh];omega)] at e1
   cases e1
def inv(c s:Int)(sizes:List Int)(n:Int)(i:Nat)(Z:DEnv):Prop:=∃left found x6 x7,Z=[some (Sl.pub (.int c)),some (.pub (.int s)),some (.pub (.list (sizes.map .int))),some (.pub (.int n)),some (.pub (.int left)),some (.own ((found:List Int).map .int)),x6,x7] /\
 found.length=i/\∀(j:Nat) d z,found[j]?=some d->sizes[j]?=some z->0<=d/\d<z
theorem zmj{c s n:Int}{sizes:List Int}(hs:∀x∈sizes,0<x/\x<18446744073709551616)(hl:sizes.length<=1000){i:Nat}{d:D}{Z:DEnv}{Q:Out->Prop}(hi:(zbN 0 sizes.length)[i]?=some d)(h:inv c s sizes n i Z) :
  ∃Z2,gN 6 d Z=some Z2/\Ho ziE Z2 (ziv (inv c s sizes n (i+1)) Q):=by
 obtain ⟨left,found,x6,x7,rfl,hf,hfd⟩:=h;obtain ⟨rfl,hlt⟩:=zbR hi;obtain ⟨z,hz⟩:∃z,sizes[i]?=some z:=⟨sizes[i]'(by omega),Qe _⟩
 obtain ⟨z1,z2⟩:=hs z (Qq hz)
 have hix:oIx (.list (sizes.map int)) (.int (0+(i:Int)))=some (.int z):=by
  rw[JR];exact zaN (by rw[Qd,hz];rfl)
 generalize hk:(0:Int)+(i:Int)=k at hix ⊢;have hk1:k<18446744073709551616:=by omega
 have hk2 : -18446744073709551616<k:=by omega
 have hlen:(found.map int).length<1000000:=by rw[Qb];omega
 have pw:oPow (.int 10) (.int 18)=some (.int 1000000000000000000):=by rw[zlA (by decide)];rfl
 refine ⟨_,tg_N (Qa rfl) (by walk_at "set"),?_⟩
 unfold ziE;apply zbc
 case h1=>
  apply zqN
  case h1=>walk_at "ev"
  case h2=>intro _;walk_at "ev"
 case h2=>
  intro _
  walk_at "ev"
  refine zaO ?_;exact ⟨_,found++[left % z],_,_,by rw[QC];rfl,by rw[Ql,hf];rfl,zf2 hfd (by rw[hf];exact hz) ⟨Int.emod_nonneg _ (by omega),Int.emod_lt_of_pos _ z1⟩⟩
 case h3=>
  intro _
  walk_at "ev"
  refine zaO ?_;exact ⟨_,found++[_ % z],_,_,by rw[QC];rfl,by rw[Ql,hf];rfl,zf2 hfd (by rw[hf];exact hz) ⟨Int.emod_nonneg _ (by omega),Int.emod_lt_of_pos _ z1⟩⟩
theorem zcJ(c s:Int){sizes:List Int}(hs:∀x∈sizes,0<x/\x<18446744073709551616)(hl:sizes.length<=1000) :
  ∃r,F_bo [.int c,.int s,.list (sizes.map int)]=some r/\∃ds:List Int,r=.list (ds.map .int)/\ds.length=sizes.length/\∀(j:Nat) d z,ds[j]?=some d->sizes[j]?=some z->0<=d/\d<z:=by
 refine zdS (Z:=[some (.pub (.int c)),some (.pub (.int s)),some (.pub (.list (sizes.map int))),none,none,none,none,none]) rfl ?_;unfold g_bo
 walk_at "ev"
 apply zaL;apply zbv (ds:=zbN 0 sizes.length) (inv c s sizes (if -1-c > c then -1-c else c))
 case h1=>
  walk_at "ev"
  rw[Qb];exact zcj (by omega) (by omega)
 case h0=>exact ⟨_,[],none,none,rfl,rfl,λj d z e=>by cases e⟩
 case hst=>exact λi d Z e h=>zmj hs hl e h
 case hend=>
  rintro Z ⟨left,found,x6,x7,rfl,hf,hfd⟩;refine zaz ?_
  walk_at "ev"
  rw[zaY] at hf;exact ⟨_,rfl,found,rfl,by omega,hfd⟩
mutual
theorem zjv:∀(d:PyData),d.canLay0=true->PyData.eqv d d=true
 |.none,_=>rfl
 |.bool b,_=>by cases b <;> rfl
 |.int i,_=>by simp[PyData.eqv]
 |.str s,_=>by simp[PyData.eqv]
 |.list xs,h=>eqvAll_refl xs h
 |.tuple xs,h=>eqvAll_refl xs h
 |.dict _,h=>by cases h
theorem eqvAll_refl:∀(xs:List PyData),PyData.canLayAll0 xs=true->PyData.eqvAll xs xs=true
 |[],_=>rfl
 |x::r,h=>by
  have h:(PyData.canLay0 x&&PyData.canLayAll0 r)=true:=h;rw[Ja] at h;show (PyData.eqv x x&&PyData.eqvAll r r)=true;rw[zjv x h.1,eqvAll_refl r h.2];rfl
end
theorem zdj:∀{xs:List D},(∀x∈xs,PyData.canLay0 x=true)->PyData.canLayAll0 xs=true
 |[],_=>rfl
 |x::r,h=>by
  show (PyData.canLay0 x&&PyData.canLayAll0 r)=true;rw[h x Qo,zdj λy hy=>h y (Qj _ hy)];rfl
theorem zd0{n:Nat}:∀{xs:List D},(∀x∈xs,PyData.depth x<=n)->PyData.depthAll xs<=n
 |[],_=>by simp[PyData.depthAll]
 |x::r,h=>by
  have h1:=h x Qo;have h2:=zd0 (n:=n) λy hy=>h y (Qj _ hy);simp only[PyData.depthAll];omega
def zbT(r:List Int):D:=.list (r.map int)
def zaE(rs:List (List Int)):D:=.list (rs.map zbT)
def zav(cs:List Int)(ls:L3):D:=.tuple [.list (cs.map int),.list (ls.map zaE)]
structure zcn(n:Nat)(rs:List (List Int)):Prop where
 few:rs.length<=5
 some:∀r∈rs,r≠[]
 there:∀r∈rs,∀t∈r,0<=t/\t<n
 once:rs.flatten.Nodup
structure Good(cs:List Int)(ls:L3):Prop where
 c1:1<=cs.length
 c6:cs.length<=6
 c7:∀c∈cs,0<=c/\c<8
 l1:1<=ls.length
 l7:ls.length<=7
 rk:∀rs∈ls,zcn cs.length rs
theorem znO(r:List Int):(zbT r).canLay0=true:=zdj λx hx=>by obtain ⟨y,_,rfl⟩:=Qv.mp hx;rfl
theorem zmk(i:Int):(int i).depth<=1:=by simp[PyData.depth]
theorem ziJ{n:Nat}{xs:List D}(h:PyData.depthAll xs<=n):(PyData.list xs).depth<=n+1:=by simp only[PyData.depth];omega
theorem znP(r:List Int):(zbT r).depth<=2:=ziJ (zd0 λx hx=>by obtain ⟨y,_,rfl⟩:=Qv.mp hx;exact zmk y)
theorem zml(i:Int):F_aa [.int i]=some (.bool true):=by
 refine za3 (Z:=[some (.pub (.int i))]) rfl ?_;unfold g_aa;exact zaB (zgp (zaH (zad rfl)) (λ_=>zly (zaH (zad rfl)))) rfl
theorem zd1{i m:Int}(h0:0<=i)(h1:i<m):F_ab [.int i,.int m]=some (.bool true):=by
 refine za3 (Z:=[some (.pub (.int i)),some (.pub (.int m))]) rfl ?_;unfold g_ab;have hb:(decide (0<=i)&&decide (i<m))=true:=by simp[h0,h1]
 refine zaB (zgp (t:=true) (u:=true) (zas (zab (zad rfl) zai) rfl (zml i)) (λ_=>?_)) rfl;rw[←hb];exact zaH (zgq zag (zad rfl) rfl (λ_=>zad rfl) (λ_=>rfl))
theorem zd2{α:Type}(l:List α):oAll [.list (l.map λ_=>.bool true)]=some (.bool true):=by
 have:(l.map λ_=>PyData.bool true)=(l.map λ_=>true).map PyData.bool:=by rw[Jd];rfl
 rw[this,zpm]
 congr 2
 rw[List.all_map]
 induction l with
 |nil=>rfl
 |cons x r ih=>simpa using ih
theorem zko{r:List Int}{n:Int}(hne:r≠[])(hl:r.length<=1000)(h:∀t∈r,0<=t/\t<n):F_ad [zbT r,.int n]=some (.bool true):=by
 refine za3 (Z:=[some (.pub (zbT r)),some (.pub (.int n))]) rfl ?_;unfold g_ad;apply zaL;have hlen:oLen [zbT r]=some (.int r.length):=by unfold zbT;rw[zaD,Qb]
 have hp:0<r.length:=Ui.mpr hne;apply zbc
 case h1=>exact zcX (Z1:=[some (.pub (zbT r)),some (.pub (.int n))]) (zcG (zad rfl) rfl) (zap (za6 rfl hlen) zag zb3)
 case h2=>
       intro hh;have:(r.length:Int)=0:=by simpa using hh
       omega
 case h3=>
  intro _;refine zbq (zaz ?_)
  have hc:zbz (gN 2) (zah true) (dFun 2 F_ab (zae (dVar 2) (zae (dVar 1) (mNil)))) (r.map int) (zaK [some (.pub (zbT r)),some (.pub (.int n))]++replicate 1 none) []=some (r.map λ_=>.bool true):=by
   rw[zcY (λ_=>true) (λ_=>.bool true) (λZ=>∃x,Z=[some (.pub (zbT r)),some (.pub (.int n)),x])]
   ·rw[List.filter_eq_self.mpr (λ_ _=>rfl),JC,Jd];rfl
   ·rintro d hm Z ⟨x,rfl⟩
    obtain ⟨t,ht,rfl⟩:=Qv.mp hm;exact ⟨_,tg_N (Qa rfl) rfl,rfl,λ_=>zas (zab (zad rfl) (zab (zad rfl) zai)) rfl (zd1 (h t ht).1 (h t ht).2),_,rfl⟩
   ·exact ⟨none,rfl⟩
   ·rw[Qb,QQ];omega
  exact zaB (za4 (zab (zaH (zbK (zaS (zad rfl) rfl) hc)) zai) (zd2 r)) rfl
theorem zhE{a b c x3:Option Sl}(ha:zek a=a)(hb:zek b=b)(hc:zek c=c)(hx:zek x3=x3):∀(ds es:List D)(x4:Option Sl),es.length+ds.length<=1000000 ->
  ∃y,zcl (gN 4) (zah true) (dVar 4) ds [a,b,c,x3,x4] es=some (es++ds,[a,b,c,x3,y])
 |[],es,x4,_=>⟨x4,by rw[zcl,Ji]⟩
 |d::r,es,x4,h=>by
  rw[QG] at h;obtain ⟨y,e⟩:=zhE ha hb hc hx r (es++[d]) (some (.pub d)) (by rw[Ql,Jh];omega)
  refine ⟨y,?_⟩;rw[zcl];have h1:gN 4 d [a,b,c,x3,x4]=some [a,b,c,x3,some (.pub d)]:=tg_N (Qa rfl) rfl;rw[h1];dsimp only[zah];rw[Qm rfl];have h2:dVar 4 [a,b,c,x3,some (.pub d)]=.ok d [a,b,c,x3,some (.pub d)]:=zad rfl;rw[h2];dsimp only;rw[Qm (by omega)]
  have h3:zaK [a,b,c,x3,some (.pub d)]=[a,b,c,x3,some (.pub d)]:=by
   unfold zaK;simp only[Qz,Uo,ha,hb,hc,hx]
   rfl
  rw[h3,e,Jl];rfl
theorem zfq{a b:D}:∀(rs:List (List Int))(es:List D)(x3 x4:Option Sl),es.length+rs.flatten.length<=1000000 ->
  zdf (gN 3) (zah true) (za2 (dVar 3)) (gN 4) (zah true) (dVar 4) (rs.map zbT) [some (.pub a),some (.pub b),none,x3,x4] es=some (es++rs.flatten.map int)
 |[],es,_,_,_=>by rw[List.map_nil,zdf];simp
 |r::rs,es,x3,x4,h=>by
  rw[QL,Ql] at h;rw[Qz,zdf];have h1:gN 3 (zbT r) [some (.pub a),some (.pub b),none,x3,x4]=some [some (.pub a),some (.pub b),none,some (.pub (zbT r)),x4]:=tg_N (Qa rfl) rfl;rw[h1];dsimp only[zah];rw[Qm rfl];have h2:za2 (dVar 3) [some (.pub a),some (.pub b),none,some (.pub (zbT r)),x4]=.ok (r.map int) [some (.pub a),some (.pub b),none,some (.pub (zbT r)),x4]:=zaS (zad rfl) rfl;rw[h2];dsimp only;have h3:zaK [some (.pub a),some (.pub b),none,some (.pub (zbT r)),x4]=[some (.pub a),some (.pub b),none,some (.pub (zbT r)),zek x4]:=rfl;rw[h3];obtain ⟨y,e⟩:=zhE (a:=some (.pub a)) (b:=some (.pub b)) (c:=none) (x3:=some (.pub (zbT r))) rfl rfl rfl rfl (r.map int) es (zek x4) (by rw[Qb];omega)
  rw[e];dsimp only;have ih:=zfq (a:=a) (b:=b) rs (es++r.map int) (some (.pub (zbT r))) y (by rw[Ql,Qb];omega)
  refine Eq.trans ih ?_;rw[QL,QC,Jl]
theorem zf3{ns:List Int}(h:ns.Nodup):zfi ns=ns.length:=by
 unfold zfi
 have:∀i,i<=ns.length->(PyProof.Rows.firstMet (λi=>ns.getD i 0) i).length=i:=by
  intro i
  induction i with
  |zero=>intro _;rfl
  |succ i ih=>
   intro hi;rw[PyProof.Rows.firstMet_succ]
   have hany:(PyProof.Rows.firstMet (λi=>ns.getD i 0) i).any (· == ns.getD i 0)=false:=by
    rw[PyProof.Rows.firstMet_any,List.any_eq_false];intro x hx;obtain ⟨j,hj,rfl⟩:=Qv.mp hx;have hj:=Q5.mp hj;intro e;have e:ns.getD j 0=ns.getD i 0:=by simpa using e
    have l1:j<ns.length:=by omega
    have l2:i<ns.length:=by omega
    simp only[List.getD,Qe l1,Qe l2,JV] at e;exact absurd ((List.getElem_inj h).mp e) (by omega)
   unfold PyProof.Rows.step_dedup;rw[hany];rw[Qy (by decide),Ql,ih (by omega)];rfl
 exact this ns.length (Qx _)
theorem ziK{rs:List (List Int)}{n:Nat}(g:zcn n rs)(hn:n<=6)(hf:rs.flatten.length<=1000):F_ae [zaE rs,.int n]=some (.bool true):=by
 refine za3 (Z:=[some (.pub (zaE rs)),some (.pub (.int n)),none]) rfl ?_;unfold g_ae;have hlen:oLen [zaE rs]=some (.int rs.length):=by unfold zaE;rw[zaD,Qb]
 have h5:=g.few;have hrl:∀r∈rs,r.length<=1000:=λr hr=>QO (List.Sublist.length_le (List.sublist_flatten_of_mem hr)) hf;apply zaL;apply zbc
 case h1=>exact zcX (Z1:=[some (.pub (zaE rs)),some (.pub (.int n)),none]) (zcG (zad rfl) rfl) (zap (za6 rfl hlen) zag rfl)
 case h2=>
       intro hh;have:(5:Int)<(rs.length:Int):=by simpa using hh
       omega
 case h3=>
  intro _;refine zbq (zaz ?_)
  have hc:zbz (gN 3) (zah true) (dFun 2 F_ad (zae (dVar 3) (zae (dVar 1) (mNil)))) (rs.map zbT) (zaK [some (.pub (zaE rs)),some (.pub (.int n)),none]++replicate 1 none) []=some (rs.map λ_=>.bool true):=by
   rw[zcY (λ_=>true) (λ_=>.bool true) (λZ=>∃x,Z=[some (.pub (zaE rs)),some (.pub (.int n)),none,x])]
   ·rw[List.filter_eq_self.mpr (λ_ _=>rfl),JC,Jd];rfl
   ·rintro d hm Z ⟨x,rfl⟩
    obtain ⟨r,hr,rfl⟩:=Qv.mp hm;exact ⟨_,tg_N (Qa rfl) rfl,rfl,λ_=>zas (zab (zad rfl) (zab (zad rfl) zai)) rfl (zko (g.some r hr) (hrl r hr) (g.there r hr)),_,rfl⟩
   ·exact ⟨none,rfl⟩
   ·rw[Qb,QQ];omega
  apply zaL;apply zbc
  case h1=>exact zcm (zbA (za4 (zab (zaH (zbK (zaS (zad rfl) rfl) hc)) zai) (zd2 rs)))
  case h2=>intro hh;cases hh
  case h3=>
   intro _;refine zbq (zaz ?_)
   have h2:zhe (za2 (dVar 0)) 2 (gN 3) (zah true) (za2 (dVar 3)) (gN 4) (zah true) (dVar 4) [some (.pub (zaE rs)),some (.pub (.int n)),none]=.ok (rs.flatten.map int) [some (.pub (zaE rs)),some (.pub (.int n)),none]:=by
    unfold zhe;have e1:za2 (dVar 0) [some (.pub (zaE rs)),some (.pub (.int n)),none]=.ok (rs.map zbT) [some (.pub (zaE rs)),some (.pub (.int n)),none]:=zaS (zad rfl) rfl;rw[e1];dsimp only;have e2:=zfq (a:=zaE rs) (b:=.int n) rs [] none none (by rw[QQ];omega)
    have e3:zdf (gN 3) (zah true) (za2 (dVar 3)) (gN 4) (zah true) (dVar 4) (rs.map zbT) (zaK [some (.pub (zaE rs)),some (.pub (.int n)),none]++replicate 2 none) []=some ([]++rs.flatten.map int):=e2;rw[e3]
    rfl
   refine zaq (zbB h2 (Qa rfl) rfl) ?_
   have hls:zc5 [.list (rs.flatten.map int)]=some (.int rs.flatten.length):=by
    unfold zc5;dsimp only;rw[zcy];dsimp only;rw[Qm (by omega),zf3 g.once]
   refine zaB (zaH (zap (za4 (zab (zbJ rfl rfl) zai) hls) (za6 rfl zaD) zb3)) ?_;rw[Qb];simp
theorem zbL{d:D}:∀{xs:List D}{k i:Nat},(zcT k xs)[i]?=some d->∃x,xs[i]?=some x/\d=.tuple [.int ((k+i:Nat):Int),x]
 |[],k,i,h=>by cases h
 |x::r,k,0,h=>by
  cases h;exact ⟨x,rfl,rfl⟩
 |x::r,k,i+1,h=>by
  obtain ⟨y,e,q⟩:=zbL (xs:=r) (k:=k+1) (i:=i) h;exact ⟨y,e,by rw[q];congr 4;omega⟩
theorem zds:∀(n:Nat)(l:List Int),l.Nodup->(∀x∈l,0<=x/\x<n)->l.length<=n
 |0,[],_,_=>Qx _
 |0,x::r,_,h=>by have:=h x Qo;omega
 |n+1,l,hn,h=>by
  by_cases hm:(n:Int)∈l
  ·have:=zds n (l.erase (n:Int)) (hn.erase _) λx hx=>by
    have h1:=(List.Nodup.mem_erase_iff hn).mp hx;have h2:=h x h1.2;have h3:=h1.1;omega
   rw[List.length_erase_of_mem hm] at this;omega
  ·have:=zds n l hn λx hx=>by
    have h2:=h x hx;have h3:x≠(n:Int):=λe=>hm (e ▸ hx);omega
   omega
theorem zgE{n:Nat}{rs:List (List Int)}(g:zcn n rs):rs.flatten.length<=n:=zds n _ g.once λx hx=>by
 obtain ⟨r,hr,hxr⟩:=JJ.mp hx;exact g.there r hr x hxr
theorem zmm{cs:List Int}(h1:1<=cs.length)(h6:cs.length<=6)(h:∀c∈cs,0<=c/\c<8):F_ac [.list (cs.map int)]=some .none:=by
 refine zhp (Z:=[some (.pub (.list (cs.map int))),none,none]) rfl ?_;unfold g_ac;have hlen:oLen [.list (cs.map int)]=some (.int cs.length):=by rw[zaD,Qb]
 apply zaL;apply zbc
 case h1=>exact zcX (Z1:=[some (.pub (.list (cs.map int))),none,none]) (zcG (zad rfl) rfl) (zcm (zgq zag (za6 rfl hlen) rfl (λ_=>zag) (λ_=>rfl)))
 case h2=>
  intro hh;have a1:(1:Int)<=(cs.length:Int):=by omega
  have a2:(cs.length:Int)<=6:=by omega
  simp[a1,a2] at hh
 case h3=>
  intro _;refine zbq (zaz ?_);apply zbv (λ_ Z=>∃x1 x2,Z=[some (.pub (.list (cs.map int))),x1,x2])
  case h1=>exact zch (zab (zad rfl) zai) zbS
  case h0=>exact ⟨_,_,rfl⟩
  case hst=>
   rintro i d Z hi ⟨x1,x2,rfl⟩;obtain ⟨x,hx,rfl⟩:=zbL hi;obtain ⟨c,hc,rfl⟩:=Qv.mp (Qq hx);refine ⟨_,tg_T rfl (tg_C (tg_N (Qa rfl) rfl) (tg_C (tg_N (Qa rfl) rfl) tg_0)),?_⟩;unfold zl5;apply zbc
   case h1=>exact zcm (zbA (zas (zab (zad rfl) (zab (zap zag zag zaW) zai)) rfl (zd1 (h c hc).1 (by have:=(h c hc).2;omega))))
   case h2=>intro hh;cases hh
   case h3=>exact λ_=>zbq (zaO ⟨_,_,rfl⟩)
  case hend=>exact λZ ⟨x1,x2,e⟩=>⟨_,rfl⟩
theorem znQ{ls:L3}{n:Nat}(hn:n<=6)(h1:1<=ls.length)(h7:ls.length<=7)(h:∀rs∈ls,zcn n rs):F_af [.list (ls.map zaE),.int n]=some .none:=by
 refine zhp (Z:=[some (.pub (.list (ls.map zaE))),some (.pub (.int n)),none,none]) rfl ?_;unfold g_af;have hlen:oLen [.list (ls.map zaE)]=some (.int ls.length):=by rw[zaD,Qb]
 apply zaL;apply zbc
 case h1=>exact zcX (Z1:=[some (.pub (.list (ls.map zaE))),some (.pub (.int n)),none,none]) (zcG (zad rfl) rfl) (zcm (zgq zag (za6 rfl hlen) rfl (λ_=>zag) (λ_=>rfl)))
 case h2=>
  intro hh;have a1:(1:Int)<=(ls.length:Int):=by omega
  have a2:(ls.length:Int)<=7:=by omega
  simp[a1,a2] at hh
 case h3=>
  intro _;refine zbq (zaz ?_);apply zbv (λ_ Z=>∃x2 x3,Z=[some (.pub (.list (ls.map zaE))),some (.pub (.int n)),x2,x3])
  case h1=>exact zch (zab (zad rfl) zai) zbS
  case h0=>exact ⟨_,_,rfl⟩
  case hst=>
   rintro i d Z hi ⟨x1,x2,rfl⟩;obtain ⟨x,hx,rfl⟩:=zbL hi;obtain ⟨rs,hrs,rfl⟩:=Qv.mp (Qq hx);refine ⟨_,tg_T rfl (tg_C (tg_N (Qa rfl) rfl) (tg_C (tg_N (Qa rfl) rfl) tg_0)),?_⟩;unfold zl4;have hfl:=zgE (h rs hrs);apply zbc
   case h1=>exact zcm (zbA (zas (zab (zad rfl) (zab (zad rfl) zai)) rfl (ziK (h rs hrs) hn (by omega))))
   case h2=>intro hh;cases hh
   case h3=>exact λ_=>zbq (zaO ⟨_,_,rfl⟩)
  case hend=>exact λZ ⟨x1,x2,e⟩=>⟨_,rfl⟩
theorem zd3{cs:List Int}{ls:L3}(g:Good cs ls):F_ag [zav cs ls]=some .none:=by
 refine zhp (Z:=[some (.pub (zav cs ls)),none,none]) rfl ?_;unfold g_ag;apply zaL;apply zbc
 case h1=>exact zcX (Z1:=[some (.pub (zav cs ls)),none,none]) (zcG (zad rfl) rfl) (zap (za6 rfl rfl) zag zep)
 case h2=>intro hh;cases hh
 case h3=>
  intro _;refine zbq (zaz ?_);have hlen:oLen [.list (cs.map int)]=some (.int (cs.length:Nat)):=by rw[zaD,Qb]
  refine zaq (zfm (zad rfl) (tg_T rfl (tg_C (tg_N (Qa rfl) rfl) (tg_C (tg_N (Qa rfl) rfl) tg_0)))) ?_;refine zaq (zc6 (zas (zab (zad rfl) zai) rfl (zmm g.c1 g.c6 g.c7))) ?_;exact zbp (zc6 (zas (zab (zad rfl) (zab (za6 rfl hlen) zai)) rfl (znQ g.c6 g.l1 g.l7 g.rk))) ⟨_,rfl⟩
theorem zjw:∀(xs ys:List Int),PyData.eqvAll (xs.map int) (ys.map int)=decide (xs=ys)
 |[],[]=>rfl
 |[],y::ys=>by simp[PyData.eqvAll]
 |x::xs,[]=>by simp[PyData.eqvAll]
 |x::xs,y::ys=>by
  have ih:=zjw xs ys;show (PyData.eqv (.int x) (.int y)&&PyData.eqvAll (xs.map int) (ys.map int))=_;rw[ih]
  have:PyData.eqv (.int x) (.int y)=decide (x=y):=rfl
  rw[this,JO];simp
theorem zmn{xs:List Int}:oNe (.list (xs.map int)) (.list [])=some (!decide (xs=[])):=by
 unfold oNe;have h1:(PyData.list (xs.map int)).canLay0=true:=znO xs;have h3:(PyData.list (xs.map int)).depth<=60:=by have:=znP xs;unfold zbT at this;omega
 rw[Qm ⟨h1,rfl,h3⟩]
 congr 2
 exact zjw xs []
theorem zpu{xs:List D}{x:D}(h:xs.getLast?=some x):oIx (.list xs) (.int (-1))=some x:=by
 unfold oIx atI;have hl:xs≠[]:=by rintro rfl;cases h
 have hp:0<xs.length:=Ui.mpr hl;rw[List.getLast?_eq_getElem?] at h;show (ixN xs.length (-1)).bind _=_;unfold ixN;rw[Qy (by decide),Qm (by omega)]
 have e2:(-1+(xs.length:Int)).toNat=xs.length-1:=by omega
 simp only[Option.bind_some];rw[e2];exact h
theorem ziL{xs:List Int}{k:Nat}(h:k<xs.length):oIx (.list (xs.map int)) (.int k)=some (.int (xs.getD k 0)):=by
 refine zaN ?_;rw[Qd,Qe h];simp[List.getD,List.getElem?_eq_getElem h]
theorem zcK(ns:List Int)(k:Nat)(hl:ns.length<=1000):∃v,F_bn [.list (ns.map int),.int k]=some (.int v):=by
 have hlen:oLen [.list (ns.map int)]=some (.int ns.length):=by rw[zaD,Qb]
 by_cases h:k<ns.length
 ·refine ⟨ns.getD k 0,za3 (Z:=[some (.pub (.list (ns.map int))),some (.pub (.int k))]) rfl ?_⟩
  unfold g_bn;apply zaL;apply zbc
  case h1=>exact zb4 rfl (za6 rfl hlen) rfl
  case h2=>exact λ_=>zaB (za8 rfl (zad rfl) (ziL h)) (zcu rfl)
  case h3=>
        intro hh;have:¬(k:Int)<(ns.length:Int):=by simpa using hh
        omega
 ·refine ⟨0,za3 (Z:=[some (.pub (.list (ns.map int))),some (.pub (.int k))]) rfl ?_⟩
  unfold g_bn;apply zaL;apply zbc
  case h1=>exact zb4 rfl (za6 rfl hlen) rfl
  case h2=>
        intro hh;have:(k:Int)<(ns.length:Int):=by simpa using hh
        omega
  case h3=>exact λ_=>zbq (zaz (zaB zag rfl))
def sz6:List Int:=6::7::replicate 6 11
def szP:List Int:=replicate 6 6++[2]
theorem zqY:∀x∈sz6,0<x/\x<18446744073709551616:=by decide
theorem zqZ:∀x∈szP,0<x/\x<18446744073709551616:=by decide
def tab:List Int:=[1,1,2,0,3,7,1,4,5,6,1]
theorem zoy{z:Int}(h0:0<=z)(h1:z<11):oIx (.list (tab.map int)) (.int z)=some (.int (tab.getD z.toNat 0))/\0<=tab.getD z.toNat 0/\tab.getD z.toNat 0<8:=by
 have e:z=0∨z=1∨z=2∨z=3∨z=4∨z=5∨z=6∨z=7∨z=8∨z=9∨z=10:=by omega
 rcases e with rfl|rfl|rfl|rfl|rfl|rfl|rfl|rfl|rfl|rfl|rfl <;> exact ⟨rfl,by decide,by decide⟩
structure zd4(n:Nat)(pl:List Int)(j:Nat)(rs:List (List Int)):Prop where
 few:rs.length<=j
 some:∀r∈rs,r≠[]
 there:∀r∈rs,∀t∈r,(0<=t/\t<n)/\pl.getD t.toNat 0<1+(j:Int)
 once:rs.flatten.Nodup
def zhF(n:Nat)(pl:List Int)(r:Int):List Int:=((List.range n).filter λk=>decide (pl.getD k 0=r)).map λk:Nat=>(k:Int)
theorem ziM(n:Nat)(pl:List Int)(r:Int):(zhF n pl r).Nodup:=by
 unfold zhF;refine List.Pairwise.map _ (λa b h e=>h (by omega)) ((List.nodup_range).filter _)
theorem zhG{n:Nat}{pl:List Int}{r t:Int}(h:t∈zhF n pl r):(0<=t/\t<n)/\pl.getD t.toNat 0=r:=by
 unfold zhF at h;obtain ⟨k,hk,rfl⟩:=Qv.mp h;have hk:=Jp.mp hk;have h1:=Q5.mp hk.1;have h2:pl.getD k 0=r:=by simpa using hk.2
 exact ⟨⟨by omega,by omega⟩,by rw[Qu];exact h2⟩
theorem zd4.add{n:Nat}{pl:List Int}{j:Nat}{rs:List (List Int)}{row:List Int}(g:zd4 n pl j rs)(hne:row≠[])(hm:∀t∈row,t∈zhF n pl (1+(j:Int)))(hn:row.Nodup):zd4 n pl (j+1) (rs++[row]) where
 few:=by rw[Ql,Jh];have:=g.few;omega
 some:=λr hr=>by
  rcases QX.mp hr with z|z
  ·exact g.some r z
  ·rw[Je.mp z];exact hne
 there:=λr hr t ht=>by
  rcases QX.mp hr with z|z
  ·have:=g.there r z t ht;exact ⟨this.1,by omega⟩
  ·rw[Je.mp z] at ht
   have:=zhG (hm t ht)
   exact ⟨this.1,by omega⟩
 once:=by
  rw[List.flatten_append,List.flatten_singleton];refine List.nodup_append.mpr ⟨g.once,hn,λa ha b hb e=>?_⟩;subst e;obtain ⟨r,hr,har⟩:=JJ.mp ha;have h1:=(g.there r hr a har).2;have h2:=(zhG (hm a hb)).2;omega
theorem zd4.next{n:Nat}{pl:List Int}{j:Nat}{rs:List (List Int)}(g:zd4 n pl j rs):zd4 n pl (j+1) rs :=
 ⟨by have:=g.few;omega,g.some,λr hr t ht=>⟨(g.there r hr t ht).1,by have:=(g.there r hr t ht).2;omega⟩,g.once⟩
theorem zd4.good{n:Nat}{pl:List Int}{rs:List (List Int)}(g:zd4 n pl 5 rs):zcn n rs:=⟨g.few,g.some,λr hr t ht=>(g.there r hr t ht).1,g.once⟩
def invK(S dz sz:D)(at_ n:Nat)(cs pl:List Int)(ls:L3)(x9 x10:Option Sl)(j:Nat)(Z:DEnv):Prop:=∃(rs:List (List Int))(x13 x14:Option Sl),
 Z=[some (.pub S),some (.pub (.int at_)),some (.pub (.int 6)),some (.pub (.int 7)),some (.pub (.int 5)),some (.pub sz),some (.pub dz),some (.own (cs.map int)),some (.own (ls.map zaE)),x9,x10,some (.pub (.list (pl.map int))),some (.own (rs.map zbT)),x13,x14]/\zd4 n pl j rs
theorem zmo{S dz sz:D}{at_ n:Nat}{cs pl:List Int}{ls:L3}{v9 v10:D}{j:Nat}{d:D}{Z:DEnv}{Q:Out->Prop}(hcs:cs.length=n)(hn:n<=6)(hpl:pl.length=7)(hlast:pl.getD 6 0=0∨pl.getD 6 0=1)
  (hj:(zbN 1 (5+1))[j]?=some d) (h:invK S dz sz at_ n cs pl ls (some (.pub v9)) (some (.pub v10)) j Z) :
  ∃Z2,gN 13 d Z=some Z2/\Ho ziG Z2 (ziv (invK S dz sz at_ n cs pl ls (some (.pub v9)) (some (.pub v10)) (j+1)) Q):=by
 obtain ⟨rs,x13,x14,rfl,g⟩:=h;obtain ⟨rfl,hlt⟩:=zbR hj;have hj5:j<5:=by omega
 refine ⟨_,tg_N (Qa rfl) (by walk_at "set"),?_⟩
 unfold ziG
 have hrd:zbN 0 ((n:Nat):Int)=(List.range n).map λk=>.int (k:Int):=by
  unfold zbN
  have:((n:Int)-0).toNat=n:=by omega
  rw[this];apply JB;intro k _;rw[JR]
 have hc:zbz (gN 15) (dBin oEq (dIxN 11 (dVar 15)) (dVar 13)) (dVar 15) (zbN 0 ((n:Nat):Int)) (zaK [some (.pub S),some (.pub (.int at_)),some (.pub (.int 6)),some (.pub (.int 7)),some (.pub (.int 5)),some (.pub sz),some (.pub dz),some (.own (cs.map int)),some (.own (ls.map zaE)),some (.pub v9),some (.pub v10),some (.pub (.list (pl.map int))),some (.own (rs.map zbT)),some (.pub (.int (1+(j:Int)))),x14]++replicate 1 none) []=some ((zhF n pl (1+(j:Int))).map int):=by
  rw[hrd,zcY (λd=>match d with | .int k=>decide (pl.getD k.toNat 0=1+(j:Int))|_=>false) (λd=>d) (λZ=>∃x,Z=[some (.pub S),some (.pub (.int at_)),some (.pub (.int 6)),some (.pub (.int 7)),some (.pub (.int 5)),some (.pub sz),some (.pub dz),none,none,some (.pub v9),some (.pub v10),some (.pub (.list (pl.map int))),none,some (.pub (.int (1+(j:Int)))),zek x14,x])]
  ·rw[JC,List.map_id',List.filter_map]
   unfold zhF;rw[Jd]
   rfl
  ·rintro d hm Z ⟨x,rfl⟩
   obtain ⟨k,hk,rfl⟩:=Qv.mp hm;have hk:=Q5.mp hk;refine ⟨_,tg_N (Qa rfl) rfl,zap (za8 rfl (zad rfl) (ziL (by omega))) (zad rfl) zb3,λ_=>zad rfl,some (.pub (.int k)),?_⟩
   unfold zaK
   cases x14 with
   |none=>rfl
   |some sl=>cases sl <;> rfl
  ·exact ⟨none,rfl⟩
  ·rw[Qb,Qp,QQ];omega
 have hlen:(cs.map int).length=n:=by rw[Qb,hcs]
 refine zaq (zbB (zbK (zcP (zab (zlw rfl) zai) (by rw[hlen];exact zcj (by omega) (by omega))) hc) (Qa rfl) rfl) ?_
 generalize hrow:zhF n pl (1+(j:Int))=row;apply zbc
 case h1=>exact zjh rfl (zbf zai (by decide)) rfl zmn
 case h2=>
  intro hh;have hne:row≠[]:=by simpa using hh
  have hlx:oIx (.list (pl.map int)) (.int (-1))=some (.int (pl.getD 6 0)):=zpu (by
   rw[List.getLast?_eq_getElem?,Qb,hpl,Qd,Qe (show 7-1<pl.length by omega)]
   simp[List.getD,List.getElem?_eq_getElem (show 6<pl.length by omega)])
  obtain ⟨row',hix,hrow'⟩:∃row':List Int,oIx (.list [.list (row.map int),.list (row.map int).reverse]) (.int (pl.getD 6 0))=some (zbT row')/\(row'=row∨row'=row.reverse):=by
   rcases hlast with e|e
   ·rw[e];exact ⟨row,rfl,.inl rfl⟩
   ·rw[e];exact ⟨row.reverse,by show some (PyData.list (row.map int).reverse)=_;unfold zbT;rw[List.map_reverse],.inr rfl⟩
  have hrl:(rs.map zbT).length<1000000:=by rw[Qb];have:=g.few;omega
  refine zbp (zeH rfl (zap (zbf (zab (zbJ rfl rfl) (zab (zqO (zad rfl) zag zag (zbW (zfY zag))) zai)) (Qa rfl)) (za8 rfl (zfY zag) hlx) hix) rfl hrl rfl) ?_;refine zaO ⟨rs++[row'],some (.pub (.int (1+(j:Int)))),some (.pub (.list (row.map int))),by rw[QC];rfl,g.add ?_ ?_ ?_⟩
  ·rcases hrow' with e|e <;> rw[e]
   ·exact hne
   ·exact λz=>hne (List.reverse_eq_nil_iff.mp z)
  ·intro t ht
   rw[hrow];rcases hrow' with e|e <;> rw[e] at ht
   ·exact ht
   ·exact List.mem_reverse.mp ht
  ·have hnd:=ziM n pl (1+(j:Int))
   rw[hrow] at hnd;rcases hrow' with e|e <;> rw[e]
   ·exact hnd
   ·exact (List.reverse_perm row).nodup_iff.mpr hnd
 case h3=>exact λ_=>zbq (zaO ⟨rs,_,_,rfl,g.next⟩)
def invA(S dz sz:D)(at_ n:Nat)(cs:List Int)(i:Nat)(Z:DEnv):Prop:=∃(ls:L3)(x9 x10 x11 x12 x13 x14:Option Sl),
 Z=[some (.pub S),some (.pub (.int at_)),some (.pub (.int 6)),some (.pub (.int 7)),some (.pub (.int 5)),some (.pub sz),some (.pub dz),some (.own (cs.map int)),some (.own (ls.map zaE)),x9,x10,x11,x12,x13,x14]/\ls.length=i/\∀rs∈ls,zcn n rs
theorem zkp{ns:List Int}{dz sz:D}{at_ n:Nat}{cs:List Int}{i:Nat}{m:Int}{d:D}{Z:DEnv}{Q:Out->Prop}(hns:ns.length<=1000)(hcs:cs.length=n)(hn:n<=6)(hm:m<=100)
  (hi:(zbN 0 m)[i]?=some d) (h:invA (.list (ns.map int)) dz sz at_ n cs i Z) :
  ∃Z2,gN 9 d Z=some Z2/\Ho ziH Z2 (ziv (invA (.list (ns.map int)) dz sz at_ n cs (i+1)) Q):=by
 obtain ⟨ls,x9,x10,x11,x12,x13,x14,rfl,hl,hg⟩:=h;obtain ⟨rfl,hlt⟩:=zbR hi
 refine ⟨_,tg_N (Qa rfl) (by walk_at "set"),?_⟩
 unfold ziH;obtain ⟨v,hv⟩:=zcK ns (at_+1+i) hns;have ev:((at_:Int)+1+(0+(i:Int)))=((at_+1+i:Nat):Int):=by omega
 rw[←ev] at hv;refine zaq (zaZ (zas (zab (zad rfl) (zab (zap (zap (zad rfl) zag zaW) (zad rfl) zaW) zai)) rfl hv) (Qa rfl) rfl) ?_;obtain ⟨r,hF,pl,rfl,hpl,hpb⟩:=zcJ v (11*(at_:Int)+3*(0+(i:Int))+1) (sizes:=szP) zqZ (by decide)
 have hpl7:pl.length=7:=hpl;have hmul:oMul (.list [.int (5+1)]) (.int 6)=some (.list ((replicate 6 6).map int)):=zcW (by decide)
 have hadd:oAdd (.list ((replicate 6 6).map int)) (.list [.int 2])=some (.list (szP.map int)):=zca (by decide)
 refine zaq (zaZ (zas (zab (zad rfl) (zab (zap (zap (zap zag (zad rfl) (zeW (by decide) (by decide))) (zap zag (zad rfl) (zeW (by decide) (by decide))) zaW) zag zaW) (zab (zap (zap (zbf (zab (zap (zad rfl) zag zaW) zai) (Qa rfl)) (zad rfl) hmul) (zbf (zab zag zai) (Qa rfl)) hadd) zai))) rfl hF) (Qa rfl) rfl) ?_
 refine zaq (zbB (zen zai (Qa rfl)) (Qa rfl) rfl) ?_
 have hlast:pl.getD 6 0=0∨pl.getD 6 0=1:=by
  have e:pl[6]?=some pl[6]:=Qe (by omega)
  have:=hpb 6 pl[6] 2 e rfl
  have e2:pl.getD 6 0=pl[6]:=by simp[List.getD,e]
  rw[e2];omega
 apply zaL;apply zbv (invK (.list (ns.map int)) dz sz at_ n cs pl ls (some (.pub (.int (0+(i:Int))))) (some (.pub (.int v))))
 case h1=>exact zlx (zab zag (zab (zap (zad rfl) zag zaW) zai)) (znE (by decide) (by decide) (by decide) (by decide))
 case h0=>exact ⟨[],x13,x14,rfl,⟨Qx _,λ_ h=>(by cases h),λ_ h=>(by cases h),List.nodup_nil⟩⟩
 case hst=>exact λj d Z e h=>zmo hcs hn hpl7 hlast e h
 case hend=>
  rintro Z ⟨rs,y13,y14,rfl,g⟩;refine zaz ?_;have hl5:(zbN 1 (5+1)).length=5:=rfl;rw[hl5] at g;have hll:(ls.map zaE).length<1000000:=by rw[Qb];omega
  refine zbp (zeH rfl (zbJ rfl rfl) rfl hll rfl) ?_;refine zaO ⟨ls++[rs],some (.pub (.int (0+(i:Int)))),some (.pub (.int v)),some (.pub (.list (pl.map int))),some (.pub (.list (rs.map zbT))),y13,y14,by rw[QC];rfl,by rw[Ql,hl];rfl,λx hx=>?_⟩
  rcases QX.mp hx with z|z
  ·exact hg x z
  ·rw[Je.mp z];exact g.good
theorem ziN{ns:List Int}(hns:ns.length<=1000)(at_:Nat):∃r,F_bp [.list (ns.map int),.int at_,.int 6,.int 7,.int 5]=some r/\∃cs ls,r=zav cs ls/\Good cs ls:=by
 obtain ⟨v,hv⟩:=zcK ns at_ hns;obtain ⟨r,hF,ds,rfl,hl,hd⟩:=zcJ v at_ (sizes:=sz6) zqY (by decide)
 have hl8:ds.length=8:=hl
 have at':∀(j:Nat)(k z:Int),k=j->sz6[j]?=some z->∃d,oIx (.list (ds.map int)) (.int k)=some (.int d)/\ds[j]?=some d/\0<=d/\d<z:=λj k z hk hz=>by
  subst hk;have hj:j<ds.length:=by rw[hl];exact (Qh.mp hz).1
  have e:ds[j]?=some ds[j]:=Qe hj;obtain ⟨p0,p1⟩:=hd j ds[j] z e hz;exact ⟨ds[j],zaN (by rw[Qd,e];rfl),e,p0,p1⟩
 obtain ⟨d0,x0,e0,p0,q0⟩:=at' 0 0 6 rfl rfl;obtain ⟨d1,x1,e1,p1,q1⟩:=at' 1 1 7 rfl rfl;have hmul:oMul (.list [.int 11]) (.int 6)=some (.list ((replicate 6 11).map int)):=zcW (by decide)
 have hadd:oAdd (.list [.int 6,.int 7]) (.list ((replicate 6 11).map int))=some (.list (sz6.map int)):=zca (by decide)
 obtain ⟨n,hn⟩:∃n:Nat,1+d0=n:=⟨(1+d0).toNat,by omega⟩
 refine zdS (Z:=[some (.pub (.list (ns.map int))),some (.pub (.int at_)),some (.pub (.int 6)),some (.pub (.int 7)),some (.pub (.int 5)),none,none,none,none,none,none,none,none,none,none]) rfl ?_;unfold g_bp;refine zaq (zaZ (zap (zbf (zab (zad rfl) (zab (zad rfl) zai)) (Qa rfl)) (zap (zbf (zab zag zai) (Qa rfl)) (zad rfl) hmul) hadd) (Qa rfl) rfl) ?_;refine zaq (zaZ (zas (zab (zas (zab (zad rfl) (zab (zad rfl) zai)) rfl hv) (zab (zad rfl) (zab (zad rfl) zai))) rfl hF) (Qa rfl) rfl) ?_
 have hcut:DL.cutD (ds.map int) (some 2) (some (3+d0))=((ds.drop 2).take n).map int:=by
  rw[zgt (by decide) (by omega) (by omega)]
  have:(3+d0).toNat-(2:Int).toNat=n:=by omega
  rw[this];rfl
 have hrowl:((ds.drop 2).take n).length=n:=by rw[QZ,Jj,hl8];omega
 have each:∀z∈(ds.drop 2).take n,0<=z/\z<11:=λz hz=>by
  have hz:=List.mem_of_mem_take hz;obtain ⟨k,hk,e⟩:=List.getElem_of_mem hz;rw[Jj,hl8] at hk;rw[List.getElem_drop] at e;have e2:ds[2+k]?=some z:=by rw[←e];exact Qe _
  refine hd (2+k) z 11 e2 ?_
  have:k=0∨k=1∨k=2∨k=3∨k=4∨k=5:=by omega
  rcases this with rfl|rfl|rfl|rfl|rfl|rfl <;> rfl
 let cs:List Int:=((ds.drop 2).take n).map λz=>tab.getD z.toNat 0
 have hcl:cs.length=n:=by show (List.map _ _).length=n;rw[Qb,hrowl]
 have hc:∀xs:List (Option Sl),zaK xs=xs->xs.length=15->zbz (gN 15) (zah true) (dBin oIx (mLst (zae (zah (.int 1)) (zae (zah (.int 1)) (zae (zah (.int 2)) (zae (zah (.int 0)) (zae (zah (.int 3)) (zae (zah (.int 7)) (zae (zah (.int 1)) (zae (zah (.int 4)) (zae (zah (.int 5)) (zae (zah (.int 6)) (zae (zah (.int 1)) (mNil))))))))))))) (dVar 15)) (((ds.drop 2).take n).map int) (zaK xs++replicate 1 none) []=some (cs.map int):=by
  intro xs hx hxl;rw[hx,zcY (λ_=>true) (λd=>match d with | .int z=>.int (tab.getD z.toNat 0)|_=>.none) (λZ=>∃x,Z=xs++[x])]
  ·rw[List.filter_eq_self.mpr (λ_ _=>rfl),JC,Jd]
   show _=some ((((ds.drop 2).take n).map λz=>tab.getD z.toNat 0).map int);rw[Jd]
   rfl
  ·rintro d hm Z ⟨x,rfl⟩
   obtain ⟨z,hz,rfl⟩:=Qv.mp hm;have ht:=zoy (each z hz).1 (each z hz).2
   have hset:(xs++[x]).set 15 (some (Sl.pub (.int z)))=xs++[some (.pub (.int z))]:=by
    rw[List.set_append_right _ _ (by omega),hxl];rfl
   have hget:(xs++[some (Sl.pub (.int z))])[15]?=some (some (Sl.pub (.int z))):=by
    rw[Qr (by omega),hxl];rfl
   refine ⟨_,tg_N (by rw[Ql,hxl];exact Qa rfl) hset,rfl,λ_=>?_,some (.pub (.int z)),?_⟩
   ·exact zap (zbf (zab zag (zab zag (zab zag (zab zag (zab zag (zab zag (zab zag (zab zag (zab zag (zab zag (zab zag zai))))))))))) (Qa rfl)) (zad hget) ht.1
   ·unfold zaK at hx ⊢
    rw[QC,hx];rfl
  ·exact ⟨none,rfl⟩
  ·rw[Qb,hrowl,QQ];omega
 refine zaq (zbB (zbK (zaS (zdB (zad rfl) (zbW zag) (zbW (zap zag (za8 rfl zag x0) zaW)) (by rw[zck,hcut])) zbs) (hc _ rfl rfl)) (Qa rfl) rfl) ?_
 refine zaq (zbB (zen zai (Qa rfl)) (Qa rfl) rfl) ?_;apply zaL;apply zbv (invA (.list (ns.map int)) (.list (ds.map int)) (.list (sz6.map int)) at_ n cs)
 case h1=>exact zcP (zab (zap zag (za8 rfl zag x1) zaW) zai) (zcj (by omega) (by omega))
 case h0=>exact ⟨[],_,_,_,_,_,_,rfl,rfl,λ_ h=>by cases h⟩
 case hst=>exact λi d Z e h=>zkp hns hcl (by omega) (by omega) e h
 case hend=>
  rintro Z ⟨ls,y9,y10,y11,y12,y13,y14,rfl,hll,hg⟩;rw[zaY] at hll;refine zaz (zaB (zb6 (zab (zbJ rfl rfl) (zab (zbJ rfl rfl) zai)) (Qa rfl)) ⟨_,rfl,cs,ls,rfl,?_⟩)
  exact ⟨by omega,by omega,λc hc=>by
   obtain ⟨z,hz,rfl⟩:=Qv.mp hc;exact (zoy (each z hz).1 (each z hz).2).2,by omega,by omega,λrs hrs=>by rw[hcl];exact hg rs hrs⟩
theorem zmp{x:D}{m:Nat}(h:m<=1000):oMul (.list [x]) (.int m)=some (.list (replicate m x)):=by
 rw[zcW ⟨by omega,by omega,by rw[Qu];show 1*m<=_;omega⟩,Qu]
 congr 2
 induction m with
 |zero=>rfl
 |succ m ih=>rw[QR,QL,ih (by omega)];rfl
def zay(t:Int)(rs:List (List Int)):Nat:=if rs.findIdx (λr=>r.contains t)<rs.length then rs.findIdx (λr=>r.contains t)+1 else 0
theorem zpv(a b:Int):PyData.eqv (.int a) (.int b)=(a==b):=by simp[PyData.eqv]
theorem ziO(t:Int)(r:List Int):oIn (.int t) (zbT r)=some (r.contains t):=by
 have h1:PyData.canLayAll0 (r.map int)=true:=by
  induction r with
  |nil=>rfl
  |cons x r ih=>rw[Qz];unfold PyData.canLayAll0;rw[ih];rfl
 unfold oIn zbT;dsimp only;rw[Qm ⟨rfl,h1,JY _⟩]
 congr 1
 rw[List.any_map];clear h1
 induction r with
 |nil=>rfl
 |cons x r ih=>
  rw[List.any_cons,ih,List.contains_cons]
  congr 1
  show PyData.eqv (.int x) (.int t)=(t==x);rw[zpv];exact JO.2 ⟨λh=>beq_iff_eq.2 (beq_iff_eq.1 h).symm,λh=>beq_iff_eq.2 (beq_iff_eq.1 h).symm⟩
theorem zhH{t:Int}{rs:List (List Int)}{i:Nat}{r:List Int}(hr:rs[i]?=some r)(h:r.contains t=true)(hb:∀j r,j<i->rs[j]?=some r->r.contains t=false):zay t rs=1+i:=by
 obtain ⟨hi,e⟩:=List.getElem?_eq_some_iff.1 hr;have hf:rs.findIdx (λr=>r.contains t)=i:=(List.findIdx_eq hi).2 ⟨by rw[e];exact h,λj hj=>hb j _ hj (Qe (Nat.lt_trans hj hi))⟩
 unfold zay;rw[hf,Qm hi,Nat.add_comm]
theorem zhI{t:Int}{rs:List (List Int)}(hb:∀j r,j<rs.length->rs[j]?=some r->r.contains t=false):zay t rs=0:=by
 have hf:rs.findIdx (λr=>r.contains t)=rs.length:=List.findIdx_eq_length.2 λr hr=>by
  obtain ⟨j,hj,e⟩:=List.mem_iff_getElem.1 hr;exact hb j r hj (by rw[Qe hj,e])
 unfold zay;rw[hf,Qy (Jv _)]
theorem zf4(t:Int)(rs:List (List Int)):F_ah [zaE rs,.int t]=some (.int (zay t rs:Nat)):=by
 refine za3 (Z:=[some (.pub (zaE rs)),some (.pub (.int t)),none,none]) rfl ?_;unfold g_ah;apply zaL;apply zbv (λi Z=>(∃x2 x3,Z=[some (.pub (zaE rs)),some (.pub (.int t)),x2,x3])/\∀j r,j<i->rs[j]?=some r->r.contains t=false)
 case h1=>exact zjj (zab (zad rfl) zai) zhq
 case h0=>exact ⟨⟨_,_,rfl⟩,λj r h=>absurd h (J9 _)⟩
 case hst=>
  rintro i d Z hi ⟨⟨x2,x3,rfl⟩,hb⟩;obtain ⟨x,hx,rfl⟩:=zbL hi;rw[Qd] at hx
  cases hr:rs[i]? with
  |none=>rw[hr] at hx;cases hx
  |some r=>
   rw[hr] at hx;cases hx;refine ⟨_,tg_T rfl (tg_C (tg_N (Qa rfl) rfl) (tg_C (tg_N (Qa rfl) rfl) tg_0)),?_⟩;unfold zmf;apply zbc
   case h1=>exact zb4 rfl (zad rfl) (ziO t r)
   case h2=>
    intro hh;refine zaB (zad rfl) (zdR ?_);rw[zhH hr hh hb];exact ⟨rfl⟩
   case h3=>
    intro hh;refine zbq (zaO ⟨⟨_,_,rfl⟩,λj r' hj hr'=>?_⟩);rcases Nat.lt_succ_iff_lt_or_eq.1 hj with h|rfl
    ·exact hb j r' h hr'
    ·rw[hr] at hr';cases hr';exact hh
 case hend=>
  rintro Z ⟨⟨x2,x3,rfl⟩,hb⟩;rw[zaG,Qb] at hb;refine zaz ?_;rw[zhI hb];exact zaB zag rfl
def optD:Option Int->D
 |none=>.none
 |some t=>.int t
def zaM(ws:LO):D:=.list (ws.map optD)
structure Deal(cs:List Int)(ls:L3)(ws:LO):Prop where
 len:ws.length=ls.length
 wish:∀(i:Nat) t rs,ws[i]?=some (some t)->ls[i]?=some rs->t∈rs.flatten
 cop:∀(k:Nat) c,cs[k]?=some c->((ws.count (some (k:Int)):Nat):Int)<=c
theorem zcz{t:Int}{rs:List (List Int)}(h:t∈rs.flatten):zay t rs≠0:=by
 obtain ⟨r,hr,ht⟩:=JJ.mp h
 have:rs.findIdx (λr=>r.contains t)<rs.length:=List.findIdx_lt_length_of_exists ⟨r,hr,by simpa using ht⟩
 unfold zay;rw[Qm this];omega
theorem znR(ws:LO):PyData.canLayAll0 (ws.map optD)=true:=zdj λx hx=>by
 obtain ⟨y,_,rfl⟩:=Qv.mp hx
 cases y <;> rfl
theorem ziP(a b:Option Int):PyData.eqv (optD a) (optD b)=decide (a=b):=by
 rw[JO]
 cases a <;> cases b <;> simp[optD,PyData.eqv]
theorem zf5{ws:LO}{k:Int}:zdh (zaM ws) (.int k)=some (.int (ws.count (some k):Nat)):=by
 unfold zaM zdh;dsimp only;rw[if_pos ⟨rfl,znR ws,by simp[PyData.depth]⟩]
 congr 3
 induction ws with
 |nil=>rfl
 |cons w r ih=>
  rw[Qz,List.countP_cons,Q4,ih]
  congr 1
  have:=ziP w (some k)
  have e:optD (some k)=.int k:=rfl;rw[e] at this;rw[this]
  cases w with
  |none=>simp
  |some z=>simp
theorem znS{f:M (List D)}{k:Nat}{s:D->DEnv->Option DEnv}{t:M Bool}{g:M D}{Z Z1:DEnv}{ds es:List D}(h1:f Z=.ok ds Z1)(h2:zbz s t g ds (zcd Z1++replicate k none) []=some es)(h3:es.all flat=true):zhd f k s t g Z=.ok es Z1:=by
 unfold zhd;rw[h1];dsimp only;rw[h2];dsimp only;rw[if_pos h3]
theorem zhJ{cs:List Int}{ls:L3}{rs:List (List Int)}{i:Nat}(hi:ls[i]?=some rs)(hl:rs.flatten.length<64):F_bs [zav cs ls,.int i]=some (.list ((zcO rs.flatten).map int)):=by
 refine za3 (Z:=[some (.pub (zav cs ls)),some (.pub (.int i))]) rfl ?_;unfold g_bs;have i1:oIx (zav cs ls) (.int 1)=some (.list (ls.map zaE)):=zaN (j:=1) rfl;have i2:oIx (.list (ls.map zaE)) (.int i)=some (zaE rs):=zaN (by rw[Qd,hi];rfl)
 have hs:zkf [zaE rs,.list []]=some (.list (rs.flatten.map int)):=by
  have e:zaE rs=.list ((rs.map λr=>r.map int).map PyData.list):=by unfold zaE;rw[Jd];rfl
  have e2:(rs.map λr=>r.map int).flatten=rs.flatten.map int:=by rw[List.map_flatten]
  rw[e];unfold zkf;dsimp only;rw[zke];dsimp only;rw[e2,Qm (by rw[Qb];omega)]
 exact zaB (za4 (zab (za4 (zab (zap (za8 rfl zag i1) (zad rfl) i2) (zab (zbf zai (Qa rfl)) zai)) hs) zai) (zet hl)) rfl
structure zdH(cs:List Int)(ls:L3)(lf:List Int)(ws:LO):Prop where
 wish:∀(i:Nat) t rs,ws[i]?=some (some t)->ls[i]?=some rs->t∈rs.flatten
 len:lf.length=cs.length
 cop:∀(k:Nat) c,cs[k]?=some c->lf[k]?=some (c-((ws.count (some (k:Int)):Nat):Int))/\0<=c-((ws.count (some (k:Int)):Nat):Int)
theorem zhK{ls:L3}{ws:LO}{o:Option Int}{rs:List (List Int)}(h:∀(i:Nat) t rs,ws[i]?=some (some t)->ls[i]?=some rs->t∈rs.flatten)(hi:ls[ws.length]?=some rs)(ho:∀t,o=some t->t∈rs.flatten) :
  ∀(i:Nat) t rs,(ws++[o])[i]?=some (some t)->ls[i]?=some rs->t∈rs.flatten:=by
 intro j t rs' e1 e2
 by_cases hj:j<ws.length
 ·rw[Qw hj] at e1;exact h j t rs' e1 e2
 ·by_cases hj2:j=ws.length
  ·subst hj2
   rw[hi] at e2;cases e2;rw[Qr (Qx _),Nat.sub_self,List.getElem?_cons_zero] at e1;cases e1;exact ho t rfl
  ·rw[QB (by rw[Ql,Jh];omega)] at e1
   cases e1
theorem zdH.none{cs:List Int}{ls:L3}{lf:List Int}{ws:LO}{rs:List (List Int)}(d:zdH cs ls lf ws)(hi:ls[ws.length]?=some rs):zdH cs ls lf (ws++[Option.none]) where
 wish:=zhK d.wish hi λt e=>by cases e
 len:=d.len
 cop:=λk c e=>by rw[List.count_append];simpa using d.cop k c e
theorem zdH.give{cs:List Int}{ls:L3}{lf:List Int}{ws:LO}{rs:List (List Int)}{t v:Int}(d:zdH cs ls lf ws)(hi:ls[ws.length]?=some rs)(ht:t∈rs.flatten)(h0:0<=t)(hv:lf[t.toNat]?=some v)(hp:0<v):zdH cs ls (lf.set t.toNat (v-1)) (ws++[some t]) where
 wish:=zhK d.wish hi λt' e=>by cases e;exact ht
 len:=by rw[Q6];exact d.len
 cop:=λk c e=>by
  obtain ⟨h1,h2⟩:=d.cop k c e;rw[List.count_append]
  by_cases hk:t=(k:Int)
  ·subst hk
   rw[Qu] at hv ⊢;rw[h1] at hv;cases hv;have hl:k<lf.length:=(Qh.mp h1).1;rw[QF hl];simp only[List.count_singleton_self];refine ⟨by congr 1;omega,by omega⟩
  ·have hne:t.toNat≠k:=by omega
   rw[Qs hne]
   have:List.count (some (k:Int)) [some t]=0:=by
    rw[List.count_eq_zero];intro z
    have:=Je.mp z
    exact hk (QY this).symm
   rw[this];exact ⟨h1,h2⟩
theorem zoz{os:LO}{k:Nat}(h:k<os.length):oIx (.list (os.map optD)) (.int k)=some (optD os[k]):=zaN (by rw[Qd,Qe h];rfl)
theorem zjx{ws:LO}{o:Option Int}:(ws++[o]).map optD=ws.map optD++[optD o]:=by rw[QC];rfl
def invD(cs:List Int)(ls:L3)(c s:D)(dg:List Int)(i:Nat)(Z:DEnv):Prop:=∃(lf:List Int)(ws:LO)(x6 x7 x8:Option Sl),
 Z=[some (.pub (zav cs ls)),some (.pub c),some (.pub s),some (.own (lf.map int)),some (.pub (.list (dg.map int))),some (.own (ws.map optD)),x6,x7,x8]/\ws.length=i/\zdH cs ls lf ws
theorem zkq{cs:List Int}{ls:L3}{c s:D}{dg:List Int}{i:Nat}{d:D}{Z:DEnv}{Q:Out->Prop}(g:Good cs ls)(hdl:dg.length=ls.length)(hd0:∀x∈dg,0<=x)(hi:(zbN 0 ls.length)[i]?=some d)(h:invD cs ls c s dg i Z) :
  ∃Z2,gN 6 d Z=some Z2/\Ho ziF Z2 (ziv (invD cs ls c s dg (i+1)) Q):=by
 obtain ⟨lf,ws,x6,x7,x8,rfl,hw,dl⟩:=h;obtain ⟨rfl,hlt⟩:=zbR hi;have hil:i<ls.length:=by omega
 have hls:ls[i]?=some ls[i]:=Qe hil;have gr:=g.rk _ (Qq hls);have hfl:=zgE gr
 refine ⟨_,tg_N (Qa rfl) (by walk_at "set"),?_⟩
 unfold ziF;rw[JR];generalize hrs:ls[i]=rs at *;have hmem:∀t∈zcO rs.flatten,t∈rs.flatten:=λt ht=>(zbk _).mem_iff.mp ht
 have hthere:∀t∈rs.flatten,0<=t/\t<lf.length:=λt ht=>by
  obtain ⟨r,hr,htr⟩:=JJ.mp ht
  have:=gr.there r hr t htr
  rw[dl.len];exact this
 let L:=(zcO rs.flatten).filter λt=>decide (0<lf.getD t.toNat 0)
 have hc:zbz (gN 9) (dBin (oIB λi j=>decide (j<i)) (dIxN 3 (dVar 9)) (zah (.int 0))) (dVar 9) ((zcO rs.flatten).map int) (zcd [some (.pub (zav cs ls)),some (.pub c),some (.pub s),some (.own (lf.map int)),some (.pub (.list (dg.map int))),some (.own (ws.map optD)),some (.pub (.int (i:Int))),x7,x8]++replicate 1 none) []=some (L.map int):=by
  rw[zcY (λd=>match d with | .int t=>decide (0<lf.getD t.toNat 0)|_=>false) (λd=>d) (λZ=>∃x y7 y8,Z=[some (.pub (zav cs ls)),some (.pub c),some (.pub s),some (.pub (.list (lf.map int))),some (.pub (.list (dg.map int))),some (.pub (.list (ws.map optD))),some (.pub (.int (i:Int))),y7,y8,x])]
  ·rw[JC,List.map_id',List.filter_map]
   rfl
  ·rintro d hm Z ⟨x,y7,y8,rfl⟩
   obtain ⟨t,ht,rfl⟩:=Qv.mp hm;obtain ⟨h0,h1⟩:=hthere t (hmem t ht);obtain ⟨k,rfl⟩:∃k:Nat,t=k:=⟨t.toNat,by omega⟩
   refine ⟨_,tg_N (Qa rfl) rfl,zap (za8 rfl (zad rfl) (ziL (by omega))) zag rfl,λ_=>zad rfl,some (.pub (.int k)),zek y7,zek y8,rfl⟩
  ·exact ⟨none,zpf x7,zpf x8,rfl⟩
  ·rw[Qb,QQ,(zbk _).length_eq];have:=g.c6;omega
 have hLl:L.length<=6:=by
  have:L.length<=(zcO rs.flatten).length:=JM _ _
  rw[(zbk _).length_eq] at this;have:=g.c6;omega
 have hadd:oAdd (.list (L.map int)) (.list [.none])=some (.list ((L.map some++[none]).map optD)):=by
  rw[zca (by rw[Qb];show L.length+1<=_;omega),QC,Jd];rfl
 refine zaq (zaZ (zap (zaH (znS (zaS (zas (zab (zad rfl) (zab (zad rfl) zai)) rfl (zhJ (cs:=cs) hls (by have:=g.c6;omega))) zbs) hc (by rw[List.all_map,Jq];exact λ_ _=>rfl))) (zbf (zab zag zai) (Qa rfl)) hadd) (Qa rfl) rfl) ?_
 have hol:(L.map some++[none]:LO).length=L.length+1:=by rw[Ql,Qb];rfl
 have hlen:oLen [.list ((L.map some++[none]:LO).map optD)]=some (.int ((L.length+1:Nat):Int)):=by rw[zaD,Qb,hol]
 have hdi:dg[i]?=some dg[i]:=Qe (by omega)
 have hx0:=hd0 _ (Qq hdi);have hix:oIx (.list (dg.map int)) (.int (i:Int))=some (.int dg[i]):=zaN (by rw[Qd,hdi];rfl)
 have hm0:0<=dg[i] % ((L.length+1:Nat):Int):=Int.emod_nonneg _ (by omega)
 have hm1:dg[i] % ((L.length+1:Nat):Int)<((L.length+1:Nat):Int):=Int.emod_lt_of_pos _ (by omega)
 obtain ⟨k,hk⟩:∃k:Nat,dg[i] % ((L.length+1:Nat):Int)=k:=⟨(dg[i] % ((L.length+1:Nat):Int)).toNat,by omega⟩
 have hkl:k<(L.map some++[none]:LO).length:=by rw[hol];omega
 have hpick:=zoz (os:=L.map some++[none]) hkl;rw[←hk] at hpick;generalize ho:(L.map some++[none]:LO)[k]=o at hpick;refine zaq (zaZ (za8 rfl (zap (za8 rfl (zad rfl) hix) (za6 rfl hlen) (ziu (by omega))) hpick) (Qa rfl) rfl) ?_
 have hwl:(ws.map optD).length<1000000:=by rw[Qb];have:=g.l7;omega
 have hls':ls[ws.length]?=some rs:=by rw[hw];exact hls
 cases o with
 |none=>
  apply zaL;apply zbc
  case h1=>exact zqX (zad rfl) rfl
  case h2=>intro hh;cases hh
  case h3=>
   intro _;refine zbq (zaz ?_);refine zbp (zeH rfl (zad rfl) rfl hwl rfl) ?_;exact zaO ⟨lf,ws++[none],_,_,_,by rw[zjx (ws:=ws)];rfl,by rw[Ql,hw];rfl,dl.none hls'⟩
 |some t=>
  have htL:t∈L:=by
   have hm:some t∈(L.map some++[none]:LO):=ho ▸ JI hkl;rcases QX.mp hm with z|z
   ·obtain ⟨t',h1,h2⟩:=Qv.mp z
    cases h2;exact h1
   ·cases Je.mp z
  obtain ⟨htm,htp⟩:=Jp.mp htL;have htf:=hmem t htm;obtain ⟨h0,h1⟩:=hthere t htf;have hv:lf[t.toNat]?=some lf[t.toNat]:=Qe (by omega)
  have hvd:lf.getD t.toNat 0=lf[t.toNat]:=by simp[List.getD,hv]
  have hpos:0<lf[t.toNat]:=by rw[hvd] at htp;simpa using htp
  have hvx:oIx (.list (lf.map int)) (.int t)=some (.int lf[t.toNat]):=zqM h0 (by rw[Qd,hv];rfl)
  apply zaL;apply zbc
  case h1=>exact zqX (zad rfl) rfl
  case h2=>
   intro _;refine zbp (zeo (zap (zfX rfl (zad rfl) rfl hvx) zag zbX) rfl (zad rfl) rfl ⟨h0,by rw[Qb];exact h1⟩ rfl) ?_
   refine zaz ?_;refine zbp (zeH rfl (zad rfl) rfl hwl rfl) ?_;exact zaO ⟨lf.set t.toNat (lf[t.toNat]-1),ws++[some t],_,_,_,by rw[zjx (ws:=ws),←zgs];rfl,by rw[Ql,hw];rfl,dl.give hls' htf h0 hv hpos⟩
  case h3=>intro hh;cases hh
theorem zkr{cs:List Int}{ls:L3}(g:Good cs ls)(c s:Int):∃r,F_bu [zav cs ls,.int c,.int s]=some r/\∃ws,r=zaM ws/\Deal cs ls ws:=by
 refine zdS (Z:=[some (.pub (zav cs ls)),some (.pub (.int c)),some (.pub (.int s)),none,none,none,none,none,none]) rfl ?_;unfold g_bu;have i0:oIx (zav cs ls) (.int 0)=some (.list (cs.map int)):=zaN (j:=0) rfl;have i1:oIx (zav cs ls) (.int 1)=some (.list (ls.map zaE)):=zaN (j:=1) rfl;have hlen:oLen [.list (ls.map zaE)]=some (.int ls.length):=by rw[zaD,Qb]
 refine zaq (zbB (zaA (zab (za8 rfl zag i0) zai) (zb0 (show zfh [.list (cs.map int)]=some (cs.map int) from rfl))) (Qa rfl) rfl) ?_
 have hmul:oMul (.list [.int 61]) (.int ls.length)=some (.list ((replicate ls.length (61:Int)).map int)):=by
  rw[zcW ⟨by omega,by have:=g.l7;omega,by show 1*_<=_;have:=g.l7;omega⟩]
  congr 2
  rw[Qu];generalize ls.length=n
  induction n with
  |zero=>rfl
  |succ n ih=>rw[QR,QL,ih,QR,Qz];rfl
 obtain ⟨r,hF,dg,rfl,hdl,hdb⟩:=zcJ c s (sizes:=replicate ls.length (61:Int)) (λx hx=>by rw[(Um.mp hx).2];decide) (by rw[QD];have:=g.l7;omega)
 rw[QD] at hdl;refine zaq (zaZ (zas (zab (zad rfl) (zab (zad rfl) (zab (zap (zbf (zab zag zai) (Qa rfl)) (za4 (zab (za8 rfl zag i1) zai) hlen) hmul) zai))) rfl hF) (Qa rfl) rfl) ?_;refine zaq (zbB (zen zai (Qa rfl)) (Qa rfl) rfl) ?_;apply zaL;apply zbv (invD cs ls (.int c) (.int s) dg)
 case h1=>exact zcP (zab (za4 (zab (za8 rfl zag i1) zai) hlen) zai) (zcj (by have:=g.l7;omega) (by omega))
 case h0=>exact ⟨cs,[],_,_,_,rfl,rfl,⟨λ_ _ _ h=>(by cases h),rfl,λk c e=>by
  have:=g.c7 c (Qq e)
  simp only[List.count_nil];exact ⟨by rw[e];congr 1;omega,by omega⟩⟩⟩
 case hst=>exact λi d Z e h=>zkq g hdl (λx hx=>by
  obtain ⟨j,hj,e⟩:=List.mem_iff_getElem.mp hx;exact (hdb j x 61 (by rw[Qe hj,e]) (by rw[QA,Qm (by omega)])).1) e h
 case hend=>
  rintro Z ⟨lf,ws,x6,x7,x8,rfl,hw,dl⟩;rw[zaY] at hw;refine zaz (zaB (zbJ rfl rfl) ⟨_,rfl,ws,rfl,⟨by omega,dl.wish,λk c e=>by have:=(dl.cop k c e).2;omega⟩⟩)
theorem zbP{s:D->DEnv->Option DEnv}{t:M Bool}{g:M D}(I:DEnv->Prop):∀(ds qs:List D)(Z:DEnv)(es:List D),qs.length=ds.length ->
  (∀(i:Nat) d e,ds[i]?=some d->qs[i]?=some e->∀Z,I Z->∃Z1,s d Z=some Z1/\t Z1=.ok true Z1/\g Z1=.ok e Z1/\I (zaK Z1))->I Z->es.length+ds.length<=1000000->zbz s t g ds Z es=some (es++qs)
 |[],[],Z,es,_,_,_,_=>by rw[zbz,Ji]
 |d::r,e::q,Z,es,hl,st,h0,hz=>by
  obtain ⟨Z1,e1,e2,e3,h1⟩:=st 0 d e rfl rfl Z h0;rw[QG] at hz;rw[zbz,e1];dsimp only;rw[e2];dsimp only;rw[Qm rfl,e3];dsimp only;rw[if_pos (by omega),zbP I r q (zaK Z1) (es++[e]) (by simpa using hl) (λi d' e' x y=>st (i+1) d' e' (by simpa using x) (by simpa using y)) h1 (by rw[List.length_append,List.length_singleton];omega),List.append_assoc]
  rfl
def rg(rs:List (List Int)):Option Int->Int
 |none=>0
 |some t=>(zay t rs:Nat)
def rgot(ls:L3)(ws:LO):List Int:=List.zipWith rg ls ws
def lng(ls:L3):Nat:=(most (ls.map λrs=>(rs.length:Int))).toNat
def cnts(L:Nat)(got:List Int):List Int:=(List.range L).map (λr:Nat=>((got.count (1+(r:Int)):Nat):Int))++[((got.count 0:Nat):Int)]
def zd5(cs:List Int)(ws:LO):List Int:=(List.range cs.length).map λk:Nat=>cs.getD k 0-((ws.count (some (k:Int)):Nat):Int)
theorem ziQ{ls:L3}(h:1<=ls.length):most (ls.map λrs=>(rs.length:Int))=(lng ls:Nat):=by
 have hm:most (ls.map λrs=>(rs.length:Int))∈ls.map λrs=>(rs.length:Int):=zeV (by rw[Qb];omega)
 obtain ⟨rs,_,e⟩:=Qv.mp hm;unfold lng;omega
theorem zhL{ls:L3}{rs:List (List Int)}(h:rs∈ls):rs.length<=lng ls:=by
 have h1:((rs.length:Nat):Int)<=most (ls.map λrs=>(rs.length:Int)):=ziq (Qv.mpr ⟨rs,h,rfl⟩);have h2:=ziQ (ls:=ls) (List.length_pos_of_mem h);omega
theorem zf6{ls:L3}{n:Nat}(h1:1<=ls.length)(h:∀rs∈ls,rs.length<=n):lng ls<=n:=by
 have hm:most (ls.map λrs=>(rs.length:Int))∈ls.map λrs=>(rs.length:Int):=zeV (by rw[Qb];omega)
 obtain ⟨rs,hr,e⟩:=Qv.mp hm
 have:=h rs hr
 unfold lng;omega
theorem zd6(t:Int)(rs:List (List Int)):zay t rs<=rs.length:=by
 unfold zay
 split <;> omega
section
variable{cs:List Int}{ls:L3}{ws:LO}
theorem ziR:oIx (zav cs ls) (.int 0)=some (.list (cs.map int)):=zaN (j:=0) rfl
theorem zeN:oIx (zav cs ls) (.int 1)=some (.list (ls.map zaE)):=zaN (j:=1) rfl
theorem zpw{i:Nat}{rs:List (List Int)}(h:ls[i]?=some rs):oIx (.list (ls.map zaE)) (.int i)=some (zaE rs):=zaN (by rw[Qd,h];rfl)
theorem zhM(rs:List (List Int)):oLen [zaE rs]=some (.int rs.length):=by unfold zaE;rw[zaD,Qb]
theorem zks(g:Good cs ls):F_ai [zav cs ls]=some (.int (lng ls:Nat)):=by
 refine za3 (Z:=[some (.pub (zav cs ls))]) rfl ?_;unfold g_ai;have hw:=zd3 g
 have hc:zbz (gN 1) (zah true) (zbM 1) (ls.map zaE) (zaK [some (.pub (zav cs ls))]++replicate 1 none) []=some ((ls.map λrs=>(rs.length:Int)).map int):=by
  refine zbP (λZ=>∃x,Z=[some (.pub (zav cs ls)),x]) _ _ _ _ (by rw[Qb,Qb,Qb]) ?_ ⟨none,rfl⟩ (by rw[Qb,QQ];have:=g.l7;omega)
  rintro i d e hd he Z ⟨x,rfl⟩;rw[Qd] at hd;rw[Qd,Qd] at he
  cases hl:ls[i]? with
  |none=>rw[hl] at hd;cases hd
  |some rs=>
  rw[hl] at hd he;cases hd;cases he;exact ⟨_,tg_N (Qa rfl) rfl,rfl,za6 rfl (zhM rs),_,rfl⟩
 refine zaq (zc6 (zas (zab (zad rfl) zai) rfl hw)) ?_;refine zaB (za4 (zab (zaH (zbK (zaS (za8 rfl zag zeN) zbs) hc)) zai) (zjf (by rw[Qb];have:=g.l1;omega))) ?_
 rw[ziQ g.l1]
theorem zjy{i:Nat}{rs:List (List Int)}{o:Option Int}(h1:ls[i]?=some rs)(h2:ws[i]?=some o):(rgot ls ws)[i]?=some (rg rs o):=by
 unfold rgot;rw[List.getElem?_zipWith,h1,h2]
theorem zfK(g:Good cs ls):F_ak [zav cs ls,zaM ws]=some (.list ((zd5 cs ws).map int)):=by
 refine za3 (Z:=[some (.pub (zav cs ls)),some (.pub (zaM ws))]) rfl ?_;unfold g_ak;have hw:=zd3 g
 have hc:zbz (gT 2 (gNC (gN 2) (gNC (gN 3) (gN0)))) (zah true) (dBin oSub (dVar 3) (zfW (dVar 1) (zae (dVar 2) (mNil)))) (zcT 0 (cs.map int)) (zaK [some (.pub (zav cs ls)),some (.pub (zaM ws))]++replicate 2 none) []=some ((zd5 cs ws).map int):=by
  refine zbP (λZ=>∃x y,Z=[some (.pub (zav cs ls)),some (.pub (zaM ws)),x,y]) _ _ _ _ (by unfold zd5;rw[Qb,Qb,Qp,zaG,Qb]) ?_ ⟨none,none,rfl⟩ (by rw[zaG,Qb,QQ];have:=g.c6;omega)
  rintro i d e hd he Z ⟨x,y,rfl⟩;obtain ⟨z,hz,rfl⟩:=zbL hd;rw[Qd] at hz
  cases hci:cs[i]? with
  |none=>rw[hci] at hz;cases hz
  |some c=>
  rw[hci] at hz;cases hz;have hil:i<cs.length:=(Qh.mp hci).1;unfold zd5 at he;rw[Qd,Qd,Qe (by rw[Qp];exact hil),J0] at he
  cases he;rw[QP];have e:cs.getD i 0=c:=by simp[List.getD,hci]
  dsimp only;rw[e];exact ⟨_,tg_T rfl (tg_C (tg_N (Qa rfl) rfl) (tg_C (tg_N (Qa rfl) rfl) tg_0)),rfl,zap (zad rfl) (zgo (zad rfl) (zab (zad rfl) zai) zf5) zbX,_,_,rfl⟩
 refine zaq (zc6 (zas (zab (zad rfl) zai) rfl hw)) ?_;exact zaB (zaH (zbK (zch (zab (za8 rfl zag ziR) zai) zbS) hc)) rfl
end
def plc(L:Nat)(r:Int):Nat:=if r=0 then L else (r-1).toNat
def okR(L:Nat)(got:List Int):Prop:=∀r∈got,0<=r/\r<=L
theorem znT{L:Nat}{got:List Int}(h:okR L got){p:Nat}(hp:p<L+1):(cnts L got)[p]?=some (((got.map (plc L)).count p:Nat):Int):=by
 unfold cnts
 have key:∀r∈got,(plc L r=p ↔ r=if p=L then 0 else 1+(p:Int)):=λr hr=>by
  have:=h r hr
  unfold plc
  split <;> split <;> omega
 have cnt:(got.map (plc L)).count p=got.count (if p=L then 0 else 1+(p:Int)):=by
  rw[List.count,List.countP_map,List.count];apply List.countP_congr;intro r hr
  have:=key r hr
  simp only[Function.comp,beq_iff_eq];exact this
 by_cases hpl:p=L
 ·subst hpl
  rw[Qr (by rw[Qb,Qp];exact Qx _),Qb,Qp,Nat.sub_self,cnt,Qm rfl]
  rfl
 ·rw[Qw (by rw[Qb,Qp];omega),Qd,Qe (by rw[Qp];omega),J0,cnt,Qy hpl]
  rfl
theorem zcw(L:Nat)(got:List Int):(cnts L got).length=L+1:=by
 unfold cnts;rw[Ql,Qb,Qp];rfl
def zeO(xs:List Int)(p:Nat)(d:Int):List Int:=xs.set p (xs.getD p 0+d)
theorem zfr{xs:List Int}{p:Nat}{d:Int}:(zeO xs p d).length=xs.length:=by unfold zeO;rw[Q6]
theorem zhN{xs:List Int}{p q:Nat}{d v:Int}(h:xs[q]?=some v):(zeO xs p d)[q]?=some (if q=p then v+d else v):=by
 unfold zeO;have hq:q<xs.length:=(Qh.mp h).1
 by_cases e:q=p
 ·subst e
  rw[QF hq,Qm rfl];simp[List.getD,h]
 ·rw[Qs (λz=>e z.symm),Qy e,h]
theorem zf7:∀(qs:List Nat)(n:Nat),(∀q∈qs,q<n)->((List.range n).map λp=>((qs.count p:Nat):Int)).sum=qs.length
 |[],n,_=>by
  have:((List.range n).map λp=>((([]:List Nat).count p:Nat):Int))=(List.range n).map λ_=>(0:Int):=by
   apply List.map_congr_left;intro p _;simp
  rw[this];clear this
  induction n with
  |zero=>rfl
  |succ n ih=>rw[Ua,QC,JE,ih (λq hq=>by cases hq)];rfl
 |q::r,n,h=>by
  have ih:=zf7 r n λx hx=>h x (Qj _ hx);have hq:=h q Qo
  have e:((List.range n).map λp=>(((q::r).count p:Nat):Int)).sum=((List.range n).map λp=>((r.count p:Nat):Int)).sum+((List.range n).map λp=>if q=p then (1:Int) else 0).sum:=by
   clear ih hq h
   induction n with
   |zero=>rfl
   |succ n ih=>
    rw[Ua,QC,QC,QC,JE,JE,JE,ih];simp only[Qz,Uo,Q7,List.sum_nil,Q4,beq_iff_eq]
    split <;> omega
  rw[e,ih]
  have one:∀m:Nat,((List.range m).map λp=>if q=p then (1:Int) else 0).sum=if q<m then 1 else 0:=by
   intro m
   induction m with
   |zero=>simp
   |succ m ih=>
    rw[Ua,QC,JE,ih];simp only[Qz,Uo,Q7,List.sum_nil]
    split <;> split <;> split <;> omega
  rw[one n,Qm hq,QG];omega
theorem zfs{ls:L3}{ws:LO}:okR (lng ls) (rgot ls ws):=λr hr=>by
 unfold rgot at hr;obtain ⟨i,hi,e⟩:=List.mem_iff_getElem.mp hr;rw[List.getElem_zipWith] at e;rw[Uj] at hi;have hm:ls[i]'(by omega)∈ls:=JI _
 have h1:=zhL hm;rw[←e]
 cases ws[i]'(by omega) with
 |none=>exact ⟨QW _,by show (0:Int)<=_;omega⟩
 |some t=>
  have h2:=zd6 t (ls[i]'(by omega))
  exact ⟨by show (0:Int)<=((zay t _:Nat):Int);omega,by show ((zay t _:Nat):Int)<=_;omega⟩
theorem zpx{d:D}(h1:d.canLay0=true)(h2:d.depth<=60):oNe d d=some false:=by
 unfold oNe;rw[Qm ⟨h1,h1,h2⟩,zjv _ h1];rfl
theorem zmq{op:Int->Int->Option D}{j:Nat}{f g:M D}{Z Z1 Z2 Z':DEnv}{ds0 ds es:List D}{a b k:Int}{d:D}{n:Nat}(h0:Z[j]?=some (some (.own ds0)))(h1:g Z=.ok (.int k) Z1)(h2:Z1[j]?=some (some (.own ds)))(h3:atI ds k=some (.int a))(h4:f Z1=.ok (.int b) Z2)(h5:op a b=some d)
  (h6:Z2[j]?=some (some (.own es))) (h7:ixN es.length k=some n) (h8:Z2.set j (some (.own (es.set n d)))=Z'):zhr op j g f Z=.nx Z':=by
 unfold zhr;rw[zgu h0];dsimp only;unfold sB;rw[h1];dsimp only;rw[zgu h2];dsimp only[Option.bind_some];rw[h3];dsimp only;rw[h4];dsimp only;rw[h5,zgu h6];dsimp only;rw[h7];dsimp only;rw[h8]
theorem zpy{n p:Nat}(h:p<n):ixN n (p:Int)=some p:=by
 unfold ixN;rw[Qm (by omega),Qm (by omega),Qu]
theorem zpz{op:Int->Int->Option D}{j:Nat}{f g:M D}{Z Z':DEnv}{xs:List Int}{p:Nat}{d b:Int}(h0:Z[j]?=some (some (.own (xs.map int))))(h1:g Z=.ok (.int p) Z)(hp:p<xs.length)(h4:f Z=.ok (.int b) Z)(h5:∀a,op a b=some (.int (a+d)))
  (h8:Z.set j (some (.own ((zeO xs p d).map int)))=Z'):zhr op j g f Z=.nx Z':=by
 refine zmq (n:=p) h0 h1 h0 (a:=xs.getD p 0) (zaN ?_) h4 (h5 _) h0 (by rw[Qb];exact zpy hp) ?_
 ·rw[List.getElem?_map,List.getElem?_eq_getElem hp];simp[List.getD,List.getElem?_eq_getElem hp]
 ·rw[←h8,zgs];rfl
theorem zoA{a b:Option Int}:oEq (optD a) (optD b)=some (decide (a=b)):=by
 unfold oEq;rw[if_pos ⟨by cases a <;> rfl,by cases b <;> rfl,by cases a <;> simp[optD,PyData.depth]⟩,ziP]
theorem zq0{a b:Option Int}:oNe (optD a) (optD b)=some (!decide (a=b)):=by
 unfold oNe;rw[if_pos ⟨by cases a <;> rfl,by cases b <;> rfl,by cases a <;> simp[optD,PyData.depth]⟩,ziP]
section
variable{cs:List Int}{ls:L3}{ws:LO}{a:Nat}{o had:Option Int}{rs:List (List Int)}{t:Int}
end
theorem zq1{xs:List D}{a:Nat}(h:a<=xs.length):DL.cutD xs none (some (a:Int))=xs.take a:=by
 unfold DL.cutD HT.sIx;dsimp only;rw[Qy (by omega),Qu]
 have:min a xs.length=a:=by omega
 rw[this];simp
theorem znU{xs:List D}{a:Nat}(h:a<=xs.length):DL.cutD xs (some (a:Int)) none=xs.drop a:=by
 unfold DL.cutD HT.sIx;dsimp only;rw[Qy (by omega),Qu]
 have:min a xs.length=a:=by omega
 rw[this,List.take_of_length_le (by rw[Jj];omega)]
theorem zf8{s:D->DEnv->Option DEnv}{t:M Bool}{g:M D}(I:DEnv->Prop):∀(ds qs:List D)(Z:DEnv)(es:List D),qs.length=ds.length ->
  (∀(i:Nat) d e,ds[i]?=some d->qs[i]?=some e->∀Z,I Z->∃Z1,s d Z=some Z1/\t Z1=.ok true Z1/\g Z1=.ok e Z1/\I (zaK Z1))->I Z->es.length+ds.length<=1000000->∃Z',zcl s t g ds Z es=some (es++qs,Z')/\I Z'
 |[],[],Z,es,_,_,h0,_=>⟨Z,by rw[zcl,Ji],h0⟩
 |d::r,e::q,Z,es,hl,st,h0,hz=>by
  obtain ⟨Z1,e1,e2,e3,h1⟩:=st 0 d e rfl rfl Z h0;rw[QG] at hz;obtain ⟨Z',e',h'⟩:=zf8 I r q (zaK Z1) (es++[e]) (by simpa using hl) (λi d' e' x y=>st (i+1) d' e' (by simpa using x) (by simpa using y)) h1 (by rw[List.length_append,List.length_singleton];omega)
  refine ⟨Z',?_,h'⟩;rw[zcl,e1];dsimp only;rw[e2];dsimp only;rw[Qm rfl,e3];dsimp only;rw[Qm (by omega),e',Jl]
  rfl
theorem zeu{s:D->DEnv->Option DEnv}{t:M Bool}{f:M (List D)}{Rd:List D->DEnv->List D->Option (List D×DEnv)}(I:DEnv->Prop):∀(ds:List D)(qs:List (List D))(Z:DEnv)(es:List D),qs.length=ds.length ->
  (∀(i:Nat) d q,ds[i]?=some d->qs[i]?=some q->∀Z es,I Z->es.length+q.length<=1000000->∃Z1 xs Z2 Z3,s d Z=some Z1/\t Z1=.ok true Z1/\f Z1=.ok xs Z2/\Rd xs (zaK Z2) es=some (es++q,Z3)/\I Z3)->I Z->es.length+qs.flatten.length<=1000000->∃Z',zcF s t f Rd ds Z es=some (es++qs.flatten,Z')/\I Z'
 |[],[],Z,es,_,_,h0,_=>⟨Z,by rw[zcF,List.flatten_nil,Ji],h0⟩
 |d::r,q::qr,Z,es,hl,st,h0,hz=>by
  rw[QL,Ql] at hz;obtain ⟨Z1,xs,Z2,Z3,e1,e2,e3,e4,h1⟩:=st 0 d q rfl rfl Z es h0 (by omega)
  obtain ⟨Z',e',h'⟩:=zeu I r qr Z3 (es++q) (by simpa using hl) (λi d' e' x y=>st (i+1) d' e' (by simpa using x) (by simpa using y)) h1 (by rw[List.length_append];omega)
  refine ⟨Z',?_,h'⟩;rw[zcF,e1];dsimp only;rw[e2];dsimp only;rw[Qm rfl,e3];dsimp only;rw[e4];dsimp only;rw[e',QL,Jl]
def zfL(i:Nat)(rs:List (List Int)):LP:=rs.flatten.map λt=>((i:Int),t)
def rawW(k:Nat):L3->LP
 |[]=>[]
 |rs::ls=>zfL k rs++rawW (k+1) ls
def allW(k:Nat):L3->LP
 |[]=>[]
 |rs::ls=>(zcO rs.flatten).map (λt=>((k:Int),t))++allW (k+1) ls
theorem zdk:∀(ls:L3)(k:Nat),(allW k ls).Perm (rawW k ls)
 |[],_=>.nil
 |rs::ls,k=>((zbk rs.flatten).map _).append (zdk ls (k+1))
theorem zgF:∀(ls:L3)(k:Nat),∀q∈allW k ls,(k:Int)<=q.1
 |[],_,q,h=>by cases h
 |rs::ls,k,q,h=>by
  rcases QX.mp h with h|h
  ·obtain ⟨t,_,rfl⟩:=Qv.mp h;exact QW _
  ·have:=zgF ls (k+1) q h;omega
theorem zb2:∀{ls:L3}{k:Nat}{q:Int×Int},q∈allW k ls->∃i rs,ls[i]?=some rs/\q.1=((k+i:Nat):Int)/\q.2∈rs.flatten
 |[],_,q,h=>by cases h
 |rs::ls,k,q,h=>by
  rcases QX.mp h with h|h
  ·obtain ⟨t,ht,rfl⟩:=Qv.mp h
   exact ⟨0,rs,rfl,rfl,(zbk _).mem_iff.mp ht⟩
  ·obtain ⟨i,rs',h1,h2,h3⟩:=zb2 h
   exact ⟨i+1,rs',by simpa using h1,by rw[h2];congr 1;omega,h3⟩
theorem zgG:∀{ls:L3}{k i:Nat}{rs:List (List Int)}{t:Int},ls[i]?=some rs->t∈rs.flatten->(((k+i:Nat):Int),t)∈allW k ls
 |rs::ls,k,0,rs',t,h,ht=>by
  cases h;exact Jc _ (Qv.mpr ⟨t,(zbk _).mem_iff.mpr ht,rfl⟩)
 |rs::ls,k,i+1,rs',t,h,ht=>by
  have:=zgG (ls:=ls) (k:=k+1) (i:=i) (by simpa using h) ht
  rw[show k+1+i=k+(i+1) by omega] at this
  exact QI _ this
theorem zjz{n:Nat}(hn:n<=6):∀(ls:L3)(k:Nat),(∀rs∈ls,∀t∈rs.flatten,0<=t/\t<n)->(allW k ls).Pairwise λx y=>keyP x<=keyP y
 |[],_,_=>.nil
 |rs::ls,k,h=>by
  refine List.pairwise_append.mpr ⟨?_,zjz hn ls (k+1) λrs' hr=>h rs' (Qj _ hr),λx hx y hy=>?_⟩
  ·rw[Uf]
   refine (zfk rs.flatten).imp λ{a b} hab=>?_
   unfold keyP;dsimp only;omega
  ·obtain ⟨t,ht,rfl⟩:=Qv.mp hx
   have h1:=zgF ls (k+1) y hy;have h2:=h rs Qo t ((zbk _).mem_iff.mp ht);obtain ⟨i,rs',g1,g2,g3⟩:=zb2 hy;have h3:=h rs' (Qj _ (Qq g1)) y.2 g3;unfold keyP;dsimp only;omega
theorem zcn.flat{n:Nat}{rs:List (List Int)}(g:zcn n rs):∀t∈rs.flatten,0<=t/\t<n:=λt ht=>by
 obtain ⟨r,h1,h2⟩:=JJ.mp ht;exact g.there r h1 t h2
section
variable{cs:List Int}{ls:L3}
theorem zjA(n:Nat):∀(ls:L3)(k:Nat),(∀rs∈ls,rs.flatten.length<=n)->(rawW k ls).length<=ls.length*n
 |[],_,_=>by simp[rawW]
 |rs::ls,k,h=>by
  have h1:=zjA n ls (k+1) λr hr=>h r (Qj _ hr);have h2:=h rs Qo;show (zfL k rs++rawW (k+1) ls).length<=_;rw[Ql,QG,Nat.succ_mul];unfold zfL;rw[Qb];omega
theorem zkt(g:Good cs ls):zgx (rawW 0 ls)=allW 0 ls:=by
 have hf:∀rs∈ls,∀t∈rs.flatten,0<=t/\t<cs.length:=λrs hr=>(g.rk rs hr).flat
 have ok:∀q∈allW 0 ls,okP q:=λq hq=>by
  obtain ⟨i,rs,h1,h2,h3⟩:=zb2 hq
  have:=hf rs (Qq h1) q.2 h3
  have:=g.c6
  exact ⟨by omega,by omega⟩
 exact (zgy ok ((zdk ls 0).trans (zf1 _).symm) (zjz g.c6 ls 0 hf) (zhw _)).symm
theorem zq2(g:Good cs ls):∀q∈rawW 0 ls,okP q:=λq hq=>by
 obtain ⟨i,rs,h1,h2,h3⟩:=zb2 ((zdk ls 0).mem_iff.mpr hq)
 have:=(g.rk rs (Qq h1)).flat q.2 h3
 have:=g.c6
 exact ⟨by omega,by omega⟩
theorem zgH(g:Good cs ls):(rawW 0 ls).length<=42:=by
 have h:=zjA 6 ls 0 λrs hr=>QO (zgE (g.rk rs hr)) g.c6
 have:=g.l7
 omega
theorem ziS:∀(ls:L3)(k:Nat),((ls.zipIdx k).map λp=>(zfL p.2 p.1).map duoD).flatten=(rawW k ls).map duoD
 |[],_=>rfl
 |rs::ls,k=>by
  rw[List.zipIdx_cons,Qz,QL,ziS ls (k+1)];show _=(zfL k rs++rawW (k+1) ls).map duoD;rw[QC]
theorem zd7(g:Good cs ls):F_aj [zav cs ls]=some (.list ((allW 0 ls).map duoD)):=by
 refine za3 (Z:=[some (.pub (zav cs ls))]) rfl ?_;unfold g_aj;refine zaq (zc6 (zas (zab (zad rfl) zai) rfl (zd3 g))) ?_
 have hc:∃Z',zcF (gT 2 (gNC (gN 1) (gNC (gN 2) (gN0)))) (zah true) (za2 (dVar 2)) (zcF (gN 3) (zah true) (za2 (dVar 3)) (zcl (gN 4) (zah true) (mTup (zae (dVar 1) (zae (dVar 4) (mNil)))))) (zcT 0 (ls.map zaE)) (zaK [some (.pub (zav cs ls))]++replicate 4 none) []=some ((rawW 0 ls).map duoD,Z'):=by
  have key:=zeu (s:=gT 2 (gNC (gN 1) (gNC (gN 2) (gN0)))) (t:=zah true) (f:=za2 (dVar 2)) (Rd:=zcF (gN 3) (zah true) (za2 (dVar 3)) (zcl (gN 4) (zah true) (mTup (zae (dVar 1) (zae (dVar 4) (mNil))))))
   (λZ=>∃x1 x2 x3 x4,Z=[some (.pub (zav cs ls)),x1,x2,x3,x4]) (zcT 0 (ls.map zaE)) ((ls.zipIdx 0).map λp=>(zfL p.2 p.1).map duoD) (zaK [some (.pub (zav cs ls))]++replicate 4 none) [] (by rw[Qb,List.length_zipIdx,zaG,Qb]) ?_ ⟨none,none,none,none,rfl⟩ (by
    rw[ziS,Qb,QQ];have:=zgH g;omega)
  ·obtain ⟨Z',e,_⟩:=key
   rw[ziS,JC] at e;exact ⟨Z',e⟩
  rintro i d q hd hq Z es ⟨x1,x2,x3,x4,rfl⟩ hlen;obtain ⟨z,hz,rfl⟩:=zbL hd;rw[Qd] at hz;rw[Qd,List.getElem?_zipIdx] at hq
  cases hls:ls[i]? with
  |none=>rw[hls] at hz;cases hz
  |some rs=>
  rw[hls] at hz hq;cases hz;cases hq;rw[QP] at *;dsimp only at hlen ⊢
  have inner:=zeu (s:=gN 3) (t:=zah true) (f:=za2 (dVar 3)) (Rd:=zcl (gN 4) (zah true) (mTup (zae (dVar 1) (zae (dVar 4) (mNil)))))
   (λZ=>∃x3 x4,Z=[some (.pub (zav cs ls)),some (.pub (.int i)),some (.pub (zaE rs)),x3,x4]) (rs.map zbT) (rs.map λr=>r.map λt=>duoD ((i:Int),t)) (zaK [some (.pub (zav cs ls)),some (.pub (.int i)),some (.pub (zaE rs)),x3,x4]) es (by rw[Qb,Qb]) ?_ ⟨zek x3,zek x4,rfl⟩ ?_
  ·obtain ⟨Z3,e3,y3,y4,h3⟩:=inner
   have ef:(rs.map λr=>r.map λt=>duoD ((i:Int),t)).flatten=(zfL i rs).map duoD:=by
    unfold zfL;rw[Jd,List.map_flatten];rfl
   rw[ef] at e3;exact ⟨_,_,_,Z3,tg_T rfl (tg_C (tg_N (Qa rfl) rfl) (tg_C (tg_N (Qa rfl) rfl) tg_0)),rfl,zaS (zad rfl) rfl,e3,_,_,_,_,h3⟩
  ·rintro j d q hd hq Z es' ⟨y3,y4,rfl⟩ hlen'
   rw[Qd] at hd hq
   cases hr:rs[j]? with
   |none=>rw[hr] at hd;cases hd
   |some r=>
   rw[hr] at hd hq;cases hd;cases hq
   obtain ⟨Z3,e3,z4,h3⟩:=zf8 (s:=gN 4) (t:=zah true) (g:=mTup (zae (dVar 1) (zae (dVar 4) (mNil)))) (λZ=>∃x4,Z=[some (.pub (zav cs ls)),some (.pub (.int i)),some (.pub (zaE rs)),some (.pub (zbT r)),x4]) (r.map int) (r.map λt=>duoD ((i:Int),t)) (zaK [some (.pub (zav cs ls)),some (.pub (.int i)),some (.pub (zaE rs)),some (.pub (zbT r)),y4]) es' (by rw[Qb,Qb]) (by
    rintro m d e hd he Z ⟨x4,rfl⟩;rw[Qd] at hd he
    cases hm:r[m]? with
    |none=>rw[hm] at hd;cases hd
    |some t=>
    rw[hm] at hd he;cases hd;cases he;exact ⟨_,tg_N (Qa rfl) rfl,rfl,zb6 (zab (zad rfl) (zab (zad rfl) zai)) (Qa rfl),_,rfl⟩) ⟨zek y4,rfl⟩ (by rw[Qb] at hlen' ⊢;exact hlen')
   exact ⟨_,_,_,Z3,tg_N (Qa rfl) rfl,rfl,zaS (zad rfl) rfl,e3,_,_,h3⟩
  ·have ef:(rs.map λr=>r.map λt=>duoD ((i:Int),t)).flatten=(zfL i rs).map duoD:=by
    unfold zfL;rw[Jd,List.map_flatten];rfl
   rw[ef];exact hlen
 obtain ⟨Z',hc⟩:=hc;have hs:=zlN (qs:=rawW 0 ls) (by have:=zgH g;omega) (zq2 g)
 rw[zkt g] at hs;exact zaB (za4 (zab (zaH (znt (zch (zab (za8 rfl zag zeN) zai) zbS) hc)) zai) hs) rfl
end
def fnz:List Int->Int
 |[]=>0
 |x::r=>if x=0 then fnz r else x
inductive Ord where|firsts|full|lasts
def Ord.tx:Ord->Str
 |.firsts=> "firsts" | .full=> "full" | .lasts=> "lasts"
def Ord.isF:Ord->Bool
 |.firsts=>true|_=>false
def Ord.isU:Ord->Bool
 |.full=>true|_=>false
theorem zoB(o:Ord):oEq (.str o.tx) (.str "firsts")=some o.isF:=by cases o <;> decide +kernel
theorem zq3(o:Ord):oEq (.str o.tx) (.str "full")=some o.isU:=by cases o <;> decide +kernel
def zaR(xs ys:List Int):List Int:=(xs.zip ys).map λp=>p.1-p.2
def zeP(o:Ord)(xs ys:List Int):List Int:=match o with
 |.firsts=>zaR xs ys
 |.full=>((zaR xs ys).map λx=>-x).drop ((zaR xs ys).length-1)++zaR xs ys
 |.lasts=>((zaR xs ys).map λx=>-x).reverse
theorem zgI(o:Ord):F_al [.str o.tx]=some (.bool true):=by
 refine za3 (Z:=[some (.pub (.str o.tx))]) rfl ?_;unfold g_al
 have h:oIn (.str o.tx) (.tuple ((["firsts", "full", "lasts"]:List Str).map PyData.str))=some true:=by cases o <;> decide +kernel
 exact zaB (zgp (zaH (k:=λd=>PyData.bool (isTy d "str")) (zad rfl)) (λ_=>zaH (zb4 rfl zag h))) rfl
theorem zmr(o:Ord):F_am [.str o.tx]=some .none:=by
 refine zhp (Z:=[some (.pub (.str o.tx))]) rfl ?_;unfold g_am;apply zbc
 case h1=>exact zcm (zbA (zas (zab (zad rfl) zai) rfl (zgI o)))
 case h2=>intro h;cases h
 case h3=>exact λ_=>zbq ⟨_,rfl⟩
def oldD:Option LO->D
 |none=>.none
 |some ws=>zaM ws
def aimD(o:Ord)(old:Option LO)(ts:List Int):D:=.tuple [.str o.tx,oldD old,.list (ts.map int)]
structure zbC(n m:Nat)(old:Option LO)(ts:List Int):Prop where
 len:∀ws,old=some ws->ws.length=m
 old:∀ws t,old=some ws->some t∈ws->0<=t/\t<n
 once:ts.Nodup
 there:∀a∈ts,0<=a/\a<m
theorem zbC.few{n m:Nat}{old:Option LO}{ts:List Int}(g:zbC n m old ts):ts.length<=m:=zds m ts g.once g.there
theorem zms{n m:Nat}{old:Option LO}(h1:∀ws,old=some ws->ws.length=m)(h2:∀ws t,old=some ws->some t∈ws->0<=t/\t<n)(hm:m<=1000):F_an [oldD old,.int m,.int n]=some (.bool true):=by
 refine za3 (Z:=[some (.pub (oldD old)),some (.pub (.int m)),some (.pub (.int n))]) rfl ?_;unfold g_an;apply zaL
 cases old with
 |none=>
  apply zbc
  case h1=>exact zaH (zad rfl)
  case h2=>exact λ_=>zaB zag (zcu rfl)
  case h3=>intro hh;cases hh
 |some ws=>
  have hl:=h1 ws rfl;have hlen:oLen [zaM ws]=some (.int m):=by unfold zaM;rw[zaD,Qb,hl]
  apply zbc
  case h1=>exact zaH (zad rfl)
  case h2=>intro hh;cases hh
  case h3=>
   intro _;refine zbq (zaz ?_);apply zaL;apply zbc
   case h1=>exact zcX (Z1:=[some (.pub (zaM ws)),some (.pub (.int m)),some (.pub (.int n))]) (zcG (zad rfl) rfl) (zap (za6 rfl hlen) (zad rfl) zep)
   case h2=>intro hh;simp at hh
   case h3=>
    intro _;refine zbq (zaz ?_)
    have hc:zbz (gN 3) (zah true) (mOrV (mMap (λd=>.bool (isNon d)) (dVar 3)) (dFun 2 F_ab (zae (dVar 3) (zae (dVar 2) (mNil))))) (ws.map optD) (zaK [some (.pub (zaM ws)),some (.pub (.int m)),some (.pub (.int n))]++replicate 1 none) []=some (ws.map λ_=>.bool true):=by
     refine zbP (λZ=>∃x,Z=[some (.pub (zaM ws)),some (.pub (.int m)),some (.pub (.int n)),x]) _ _ _ _ (by simp only[Qb]) ?_ ⟨none,rfl⟩ (by rw[Qb,QQ];omega)
     rintro i d e hd he Z ⟨x,rfl⟩;rw[Qd] at hd he
     cases hw:ws[i]? with
     |none=>rw[hw] at hd;cases hd
     |some o=>
     rw[hw] at hd he;cases hd;cases he;refine ⟨_,tg_N (Qa rfl) rfl,rfl,?_,_,rfl⟩
     cases o with
     |none=>exact zjg (t:=true) (u:=true) (zaH (k:=λd=>PyData.bool (isNon d)) (x:=.none) (zad rfl)) (λh=>nomatch h)
     |some t=>
      have hb:=h2 ws t rfl (Qq hw);exact zjg (t:=false) (u:=true) (zaH (k:=λd=>PyData.bool (isNon d)) (x:=.int t) (zad rfl)) (λ_=>zas (zab (zad rfl) (zab (zad rfl) zai)) rfl (zd1 hb.1 hb.2))
    exact zaB (za4 (zab (zaH (zbK (zaS (zad rfl) rfl) hc)) zai) (zd2 ws)) rfl
theorem ziT{m:Nat}{ts:List Int}(h1:ts.Nodup)(h2:∀a∈ts,0<=a/\a<m)(hm:m<=1000):F_ao [.list (ts.map int),.int m]=some (.bool true):=by
 refine za3 (Z:=[some (.pub (.list (ts.map int))),some (.pub (.int m))]) rfl ?_;unfold g_ao;have hl:=zds m ts h1 h2;apply zaL
 have hc:zbz (gN 2) (zah true) (dFun 2 F_ab (zae (dVar 2) (zae (dVar 1) (mNil)))) (ts.map int) (zaK [some (.pub (.list (ts.map int))),some (.pub (.int m))]++replicate 1 none) []=some (ts.map λ_=>.bool true):=by
  refine zbP (λZ=>∃x,Z=[some (.pub (.list (ts.map int))),some (.pub (.int m)),x]) _ _ _ _ (by simp only[Qb]) ?_ ⟨none,rfl⟩ (by rw[Qb,QQ];omega)
  rintro i d e hd he Z ⟨x,rfl⟩;rw[Qd] at hd he
  cases hw:ts[i]? with
  |none=>rw[hw] at hd;cases hd
  |some t=>
  rw[hw] at hd he;cases hd;cases he;have hb:=h2 t (Qq hw);exact ⟨_,tg_N (Qa rfl) rfl,rfl,zas (zab (zad rfl) (zab (zad rfl) zai)) rfl (zd1 hb.1 hb.2),_,rfl⟩
 apply zbc
 case h1=>exact zcX (Z1:=[some (.pub (.list (ts.map int))),some (.pub (.int m))]) (zcG (zad rfl) rfl) (zcm (zbA (za4 (zab (zaH (zbK (zaS (zad rfl) zbs) hc)) zai) (zd2 ts))))
 case h2=>intro hh;cases hh
 case h3=>
  intro _;refine zbq (zaz ?_)
  have hs:zc5 [.list (ts.map int)]=some (.int ts.length):=by
   unfold zc5;dsimp only;rw[zcy];dsimp only;rw[Qm (by omega),zf3 h1]
  have hlen:oLen [.list (ts.map int)]=some (.int ts.length):=by rw[zaD,Qb]
  refine zaB (zaH (zap (za4 (zab (zad rfl) zai) hs) (za6 rfl hlen) zb3)) ?_;simp
section
variable{cs:List Int}{ls:L3}{o:Ord}{old:Option LO}{ts:List Int}
theorem zq4(g:Good cs ls)(ga:zbC cs.length ls.length old ts):F_ap [zav cs ls,aimD o old ts]=some .none:=by
 refine zhp (Z:=[some (.pub (zav cs ls)),some (.pub (aimD o old ts)),none,none,none,none,none]) rfl ?_;unfold g_ap;have l7:=g.l7;have c6:=g.c6;have hll:oLen [.list (ls.map zaE)]=some (.int ls.length):=by rw[zaD,Qb]
 have hlc:oLen [.list (cs.map int)]=some (.int cs.length):=by rw[zaD,Qb]
 refine zaq (zc6 (zas (zab (zad rfl) zai) rfl (zd3 g))) ?_;apply zaL;apply zbc
 case h1=>exact zcX (Z1:=[some (.pub (zav cs ls)),some (.pub (aimD o old ts)),none,none,none,none,none]) (zcG (zad rfl) rfl) (zap (za6 rfl (show oLen [aimD o old ts]=some (.int 3) from rfl)) zag zep)
 case h2=>intro hh;simp at hh
 case h3=>
  intro _;refine zbq (zaz ?_);refine zaq (zfm (zad rfl) (tg_T rfl (tg_C (tg_N (Qa rfl) rfl) (tg_C (tg_N (Qa rfl) rfl) tg_0)))) ?_;refine zaq (zfm (zad rfl) (tg_T rfl (tg_C (tg_N (Qa rfl) rfl) (tg_C (tg_N (Qa rfl) rfl) (tg_C (tg_N (Qa rfl) rfl) tg_0))))) ?_;refine zaq (zc6 (zas (zab (zad rfl) zai) rfl (zmr o))) ?_;apply zaL;apply zbc
  case h1=>exact zcm (zbA (zas (zab (zad rfl) (zab (za6 rfl hll) (zab (za6 rfl hlc) zai))) rfl (zms ga.len ga.old (by omega))))
  case h2=>intro hh;cases hh
  case h3=>
   intro _;refine zbq (zaz ?_);apply zbc
   case h1=>exact zcm (zbA (zas (zab (zad rfl) (zab (za6 rfl hll) zai)) rfl (ziT ga.once ga.there (by omega))))
   case h2=>intro hh;cases hh
   case h3=>exact λ_=>zbq ⟨_,rfl⟩
end
theorem zgJ{t:Int}{r:List Int}:oIn (.int t) (.list (r.map int))=some (r.contains t):=ziO t r
theorem zf9{c s w sz dg x6:Option Sl}{m:Nat}{T:List Int}(hm:0<m):∀(k fuel d:Nat),(∀j,j<k->(((d+j) % m:Nat):Int)∈T)->(((d+k) % m:Nat):Int)∉T->d<m->k<fuel ->
  zcH (zgA oIn (dVar 8) 7) zgC fuel [w,c,s,some (.pub (.int m)),sz,dg,x6,some (.own (T.map int)),some (.pub (.int d))]=.nx [w,c,s,some (.pub (.int m)),sz,dg,x6,some (.own (T.map int)),some (.pub (.int (((d+k) % m:Nat):Int)))]
 |0,fuel+1,d,_,hn,hd,_=>by
  have e0:(d+0) % m=d:=by rw[Uh];exact Nat.mod_eq_of_lt hd
  rw[e0] at hn ⊢;have e:(T.contains (d:Int))=false:=by simpa using hn
  rw[zcH,zju (r:=false) (zad rfl) rfl (by rw[zgJ,e])]
  rfl
 |k+1,fuel+1,d,hj,hn,hd,hf=>by
  have h0:=hj 0 (by omega)
  rw[Uh,Nat.mod_eq_of_lt hd] at h0;have e:(T.contains (d:Int))=true:=by simpa using h0
  rw[zcH,zju (r:=true) (zad rfl) rfl (by rw[zgJ,e])]
  dsimp only;rw[Qm rfl]
  have hst:zgC [w,c,s,some (.pub (.int m)),sz,dg,x6,some (.own (T.map int)),some (.pub (.int d))]=.nx [w,c,s,some (.pub (.int m)),sz,dg,x6,some (.own (T.map int)),some (.pub (.int (((d+1) % m:Nat):Int)))]:=by
   unfold zgC;refine zaZ (zap (zap (zad rfl) zag zaW) (zad rfl) (ziu (by omega))) (Qa rfl) ?_
   have e1:((d+1:Nat):Int)=(d:Int)+1:=by omega
   have:((d:Int)+1) % (m:Int)=(((d+1) % m:Nat):Int):=by rw[Int.natCast_emod,e1]
   rw[this];rfl
  rw[hst];dsimp only;have e2:∀j,((d+1) % m+j) % m=(d+(j+1)) % m:=λj=>by rw[Nat.mod_add_mod];congr 1;omega
  have:=zf9 (c:=c) (s:=s) (w:=w) (sz:=sz) (dg:=dg) (x6:=x6) (T:=T) hm k fuel ((d+1) % m) (λj hjk=>by rw[e2];exact hj (j+1) (by omega)) (by rw[e2];exact hn) (Nat.mod_lt _ hm) (by omega)
  rw[e2] at this;exact this
theorem zhO:∀(a b:List Int),a.Nodup->(∀x∈a,x∈b)->a.length<=b.length
 |[],_,_,_=>JY _
 |x::a,b,hn,h=>by
  have hx:=h x Qo;have hn':=Up.mp hn
  have:=zhO a (b.erase x) hn'.2 λy hy=>by
   have hne:y≠x:=λe=>hn'.1 (e ▸ hy);exact (List.mem_erase_of_ne hne).mpr (h y (Qj _ hy))
  rw[List.length_erase_of_mem hx] at this;have hp:=List.length_pos_of_mem hx;rw[QG];omega
theorem zku{m:Nat}{T:List Int}(d:Nat)(hl:T.length<m)(hn:T.Nodup):∃k,k<m/\(∀j,j<k->(((d+j) % m:Nat):Int)∈T)/\(((d+k) % m:Nat):Int)∉T:=by
 have ex:∃k,k<m/\(((d+k) % m:Nat):Int)∉T:=by
  refine Classical.byContradiction λhno=>?_;have all:∀k,k<m->(((d+k) % m:Nat):Int)∈T:=λk hk=>Classical.byContradiction λz=>hno ⟨k,hk,z⟩
  have hsub:∀x:Nat,x<m->((x:Nat):Int)∈T:=λx hx=>by
   have h1:=all ((x+m-d % m) % m) (Nat.mod_lt _ (by omega))
   have e:(d+(x+m-d % m) % m) % m=x:=by
    have hdm:d % m<m:=Nat.mod_lt _ (by omega)
    rw[Nat.add_mod_mod,←Nat.mod_add_mod];rw[show d % m+(x+m-d % m)=x+m by omega,Nat.add_mod_right,Nat.mod_eq_of_lt hx]
   rw[e] at h1;exact h1
  have:=zhO ((List.range m).map λx:Nat=>(x:Int)) T (List.Pairwise.map _ (λa b h e=>h (by omega)) List.nodup_range) (λt ht=>by
   obtain ⟨x,hx,rfl⟩:=Qv.mp ht;exact hsub x (Q5.mp hx))
  rw[Qb,Qp] at this;omega
 obtain ⟨k,hk,hkn⟩:=ex
 induction k using Nat.strongRecOn with
 |_ k ih=>
  by_cases h:∀j,j<k->(((d+j) % m:Nat):Int)∈T
  ·exact ⟨k,hk,h,hkn⟩
  ·obtain ⟨j,hj⟩:=Classical.not_forall.mp h
   obtain ⟨hj1,hj2⟩:=Classical.not_imp.mp hj;exact ih j hj1 (by omega) hj2
theorem zoC{x:D}{m:Nat}(h:m<=1000):oMul (.list [x]) (.int m)=some (.list (replicate m x)):=by
 rw[zcW ⟨by omega,by omega,by show 1*_<=_;omega⟩]
 congr 2
 rw[Qu];clear h
 induction m with
 |zero=>rfl
 |succ n ih=>rw[QR,QL,ih,QR];rfl
def szA(n m:Nat):List Int:=[3,2,(m:Int)+1]++replicate m ((n:Int)+1)++replicate m (m:Int)
theorem zmt(n m:Nat):(szA n m).length=3+m+m:=by unfold szA;rw[Ql,Ql,QD,QD];rfl
theorem zpA{n m j:Nat}(h:j<m):(szA n m)[3+j]?=some ((n:Int)+1):=by
 unfold szA;rw[Qw (by rw[Ql,QD];show 3+j<3+m;omega),Qr (by show 3<=3+j;omega)]
 show (replicate m ((n:Int)+1))[3+j-3]?=_;rw[Nat.add_sub_cancel_left,QA,Qm h]
theorem znV{n m j:Nat}(h:j<m):(szA n m)[3+m+j]?=some (m:Int):=by
 unfold szA;have e:([3,2,(m:Int)+1]++replicate m ((n:Int)+1)).length=3+m:=by rw[Ql,QD];rfl
 rw[Qr (by rw[e];omega),e,Nat.add_sub_cancel_left,QA,Qm h]
section
variable{cs:List Int}{ls:L3}
def zmu(d:Int):Option Int:=if 0<d then some (d-1) else none
theorem znW(d:Int):oIx (.list [.none,.int (d-1)]) (.int (if decide (0<d)=true then 1 else 0))=some (optD (zmu d)):=by
 unfold zmu
 by_cases h:0<d
 ·rw[Q3 h,Qm rfl,Qm h];exact zaN (j:=1) rfl
 ·rw[QN h,Qy (by decide),Qy h];exact zaN (j:=0) rfl
theorem znX(g:Good cs ls)(c s:Int):∃r,F_bt [zav cs ls,.int c,.int s]=some r/\∃o old ts,r=aimD o old ts/\zbC cs.length ls.length old ts:=by
 refine zdS (Z:=[some (.pub (zav cs ls)),some (.pub (.int c)),some (.pub (.int s)),none,none,none,none,none,none]) rfl ?_;unfold g_bt;have l7:=g.l7;have l1:=g.l1;have c6:=g.c6;have c1:=g.c1;have hll:oLen [.list (ls.map zaE)]=some (.int ls.length):=by rw[zaD,Qb]
 have hlc:oLen [.list (cs.map int)]=some (.int cs.length):=by rw[zaD,Qb]
 generalize hm:ls.length=m at *;generalize hn:cs.length=n at *;refine zaq (zaZ (za4 (zab (za8 rfl zag zeN) zai) hll) (Qa rfl) rfl) ?_
 have s1:oAdd (.list [.int 3,.int 2,.int ((m:Int)+1)]) (.list (replicate m (.int ((n:Int)+1))))=some (.list (([3,2,(m:Int)+1]++replicate m ((n:Int)+1)).map int)):=by
  rw[zca (by rw[QD];show 3+m<=_;omega),QC,J7];rfl
 refine zaq (zaZ (zap (zbf (zab zag (zab zag (zab (zap (zad rfl) zag zaW) zai))) (Qa rfl)) (zap (zbf (zab (zap (za4 (zab (za8 rfl zag ziR) zai) hlc) zag zaW) zai) (Qa rfl)) (zad rfl) (zoC (by omega))) s1) (Qa rfl) rfl) ?_
 have s2:oAdd (.list (([3,2,(m:Int)+1]++replicate m ((n:Int)+1)).map int)) (.list (replicate m (.int (m:Int))))=some (.list ((szA n m).map int)):=by
  rw[zca (by rw[Qb,Ql,QD,QD];show 3+m+m<=_;omega)]
  unfold szA;rw[QC (l₂:=replicate m (m:Int)),J7 (n:=m) (a:=(m:Int))]
 obtain ⟨r,hF,dg,rfl,hdl,hdb⟩:=zcJ c s (sizes:=szA n m) (λx hx=>by
  unfold szA at hx;rcases QX.mp hx with hx|hx
  ·rcases QX.mp hx with hx|hx
   ·have hx:x=3∨x=2∨x=(m:Int)+1:=by simpa using hx
    omega
   ·rw[(Um.mp hx).2];omega
  ·rw[(Um.mp hx).2];omega) (by rw[zmt];omega)
 rw[zmt] at hdl;refine zaq (zaZ (zas (zab (zad rfl) (zab (zad rfl) (zab (zap (zad rfl) (zap (zbf (zab (zad rfl) zai) (Qa rfl)) (zad rfl) (zoC (by omega))) s2) zai))) rfl hF) (Qa rfl) rfl) ?_
 have get:∀j,j<3+m+m->∃d,dg[j]?=some d:=λj hj=>⟨dg[j]'(by omega),Qe _⟩
 obtain ⟨d0,e0⟩:=get 0 (by omega)
 obtain ⟨d1,e1⟩:=get 1 (by omega)
 obtain ⟨d2,e2⟩:=get 2 (by omega)
 have b0:=hdb 0 d0 3 e0 rfl;have b1:=hdb 1 d1 2 e1 rfl;have b2:=hdb 2 d2 ((m:Int)+1) e2 rfl;have i0:oIx (.list (dg.map int)) (.int 0)=some (.int d0):=zaN (j:=0) (by rw[Qd,e0];rfl)
 have i1:oIx (.list (dg.map int)) (.int 1)=some (.int d1):=zaN (j:=1) (by rw[Qd,e1];rfl)
 have i2:oIx (.list (dg.map int)) (.int 2)=some (.int d2):=zaN (j:=2) (by rw[Qd,e2];rfl)
 refine zaq (zaZ zag (Qa rfl) rfl) ?_
 let ol:List Int:=(dg.drop 3).take m
 have oll:ol.length=m:=by show ((dg.drop 3).take m).length=m;rw[QZ,Jj];omega
 have olb:∀d∈ol,0<=d/\d<(n:Int)+1:=λd hd=>by
  obtain ⟨j,hj,e⟩:=List.mem_iff_getElem.mp hd;have hjm:j<m:=by omega
  refine hdb (3+j) d _ ?_ (zpA hjm)
  have:ol[j]?=some d:=by rw[Qe hj,e]
  show dg[3+j]?=_;rw[←this];show _=((dg.drop 3).take m)[j]?;rw[List.getElem?_take,Qm hjm,List.getElem?_drop]
 have hcut:DL.cutD (dg.map int) (some 3) (some (3+(m:Int)))=ol.map int:=by
  rw[zgt (by decide) (by omega) (by omega)]
  have t1:(3:Int).toNat=3:=rfl;have t2:(3+(m:Int)).toNat-(3:Int).toNat=m:=by omega
  rw[t2,t1]
 have step:Ho (sIf (dBin oEq (dIxN 5 (zah (.int 1))) (zah (.int 1))) (zbV 6 (zct (za2 (dSlA (dVar 5) (zau (zah (.int 3)) λx=>mOpt (zc4 x)) (zau (dBin oAdd (zah (.int 3)) (dVar 3)) λx=>mOpt (zc4 x)))) 1 (gN 9) (zah true) (dBin oIx (mLst (zae (zah .none) (zae (dBin oSub (dVar 9) (zah (.int 1))) (mNil)))) (zbH zli (zae (mMap PyData.bool (zce (oIB λi j=>decide (j<i)) 9 (zah (.int 0)))) (mNil)))))) (sNx))
   [some (.pub (zav cs ls)),some (.pub (.int c)),some (.pub (.int s)),some (.pub (.int m)),some (.pub (.list (([3,2,(m:Int)+1]++replicate m ((n:Int)+1)).map int))),some (.pub (.list (dg.map int))),some (.pub .none),none,none]
   (λr=>∃old x6,r=.nx [some (.pub (zav cs ls)),some (.pub (.int c)),some (.pub (.int s)),some (.pub (.int m)),some (.pub (.list (([3,2,(m:Int)+1]++replicate m ((n:Int)+1)).map int))),some (.pub (.list (dg.map int))),x6,none,none] /\
    (x6=some (.pub (oldD old)) ∨ ∃ws,old=some ws/\x6=some (.own (ws.map optD)))/\(∀ws,old=some ws->ws.length=m)/\∀ws t,old=some ws->some t∈ws->0<=t/\t<n):=by
  have hc:∀a b:Option Sl,zbz (gN 9) (zah true) (dBin oIx (mLst (zae (zah .none) (zae (dBin oSub (dVar 9) (zah (.int 1))) (mNil)))) (zbH zli (zae (mMap PyData.bool (zce (oIB λi j=>decide (j<i)) 9 (zah (.int 0)))) (mNil)))) (ol.map int) (zaK [some (.pub (zav cs ls)),some (.pub (.int c)),some (.pub (.int s)),some (.pub (.int m)),some (.pub (.list (([3,2,(m:Int)+1]++replicate m ((n:Int)+1)).map int))),some (.pub (.list (dg.map int))),some (.pub .none),none,none]++replicate 1 none) []=some ((ol.map zmu).map optD):=λ_ _=>by
   refine zbP (λZ=>∃x,Z=[some (.pub (zav cs ls)),some (.pub (.int c)),some (.pub (.int s)),some (.pub (.int m)),some (.pub (.list (([3,2,(m:Int)+1]++replicate m ((n:Int)+1)).map int))),some (.pub (.list (dg.map int))),some (.pub .none),none,none,x]) _ _ _ _ (by simp only[Qb]) ?_ ⟨none,rfl⟩ (by rw[Qb,QQ];omega)
   rintro i d e hd he Z ⟨x,rfl⟩;rw[Qd] at hd;rw[Qd,Qd] at he
   cases hw:ol[i]? with
   |none=>rw[hw] at hd;cases hd
   |some z=>
   rw[hw] at hd he;cases hd;cases he;exact ⟨_,tg_N (Qa rfl) rfl,rfl,zap (zbf (zab zag (zab (zap (zad rfl) zag zbX) zai)) (Qa rfl)) (za4 (zab (zaH (zb4 rfl zag rfl)) zai) rfl) (znW z),_,rfl⟩
  apply zbc
  case h1=>exact zap (za8 rfl zag i1) zag zb3
  case h2=>
   intro _;refine zbp (zbB (zbK (zaS (zdB (zad rfl) (zbW zag) (zbW (zap zag (zad rfl) zaW)) (by rw[zck,hcut])) zbs) (hc none none)) (Qa rfl) rfl) ?_
   refine ⟨some (ol.map zmu),_,rfl,.inr ⟨_,rfl,rfl⟩,λws e=>?_,λws t e ht=>?_⟩
   ·cases e;rw[Qb];exact oll
   ·cases e
    obtain ⟨d,hd,e⟩:=Qv.mp ht
    have:=olb d hd
    unfold zmu at e
    split at e
    ·cases e;omega
    ·cases e
  case h3=>exact λ_=>zbq ⟨none,_,rfl,.inl rfl,(λws e=>by cases e),(λws t e=>by cases e)⟩
 refine zaL (zlC step λr hr=>?_);obtain ⟨old,x6,rfl,hx6,hol,hob⟩:=hr;refine zaz ?_;refine zaq (zbB (zen zai (Qa rfl)) (Qa rfl) rfl) ?_;obtain ⟨k2,rfl⟩:∃k:Nat,d2=k:=⟨d2.toNat,by omega⟩
 let tl:List Int:=(dg.drop (3+m)).take k2
 have tll:tl.length=k2:=by show ((dg.drop (3+m)).take k2).length=k2;rw[QZ,Jj];omega
 have tlb:∀j d,tl[j]?=some d->0<=d/\d<(m:Int):=λj d hj=>by
  have hjl:j<k2:=by have:=(Qh.mp hj).1;omega
  refine hdb (3+m+j) d _ ?_ (znV (by omega))
  rw[←hj];show _=((dg.drop (3+m)).take k2)[j]?;rw[List.getElem?_take,Qm hjl,List.getElem?_drop]
 have hcut2:DL.cutD (dg.map int) (some (3+(m:Int))) (some (3+(m:Int)+(k2:Int)))=tl.map int:=by
  rw[zgt (by omega) (by omega) (by omega)]
  have t1:(3+(m:Int)).toNat=3+m:=by omega
  have t2:(3+(m:Int)+(k2:Int)).toNat-(3+(m:Int)).toNat=k2:=by omega
  rw[t2,t1]
 apply zaL;apply zbv (λi Z=>∃(T:List Int)(x8:Option Sl),Z=[some (.pub (zav cs ls)),some (.pub (.int c)),some (.pub (.int s)),some (.pub (.int m)),some (.pub (.list (([3,2,(m:Int)+1]++replicate m ((n:Int)+1)).map int))),some (.pub (.list (dg.map int))),x6,some (.own (T.map int)),x8]/\T.length=i/\T.Nodup/\∀a∈T,0<=a/\a<(m:Int))
 case h1=>exact zaS (zdB (zad rfl) (zbW (zap zag (zad rfl) zaW)) (zbW (zap (zap zag (zad rfl) zaW) (za8 rfl zag i2) zaW)) (by rw[zck,hcut2])) zbs
 case h0=>exact ⟨[],_,rfl,rfl,List.nodup_nil,λ_ h=>by cases h⟩
 case hst=>
  rintro i d Z hi ⟨T,x8,rfl,hT,hTn,hTb⟩;rw[Qd] at hi
  cases hw:tl[i]? with
  |none=>rw[hw] at hi;cases hi
  |some z=>
  rw[hw] at hi;cases hi;have hz:=tlb i z hw;have hil:i<k2:=by have:=(Qh.mp hw).1;omega
  obtain ⟨zz,rfl⟩:∃k:Nat,z=k:=⟨z.toNat,by omega⟩
  refine ⟨_,tg_N (Qa rfl) (by walk_at "set"),?_⟩
  unfold zmg;obtain ⟨k,hk,hk1,hk2⟩:=zku (m:=m) (T:=T) zz (by omega) hTn
  refine zaq (zf9 (by omega) k 1000 zz hk1 hk2 (by omega) (by omega)) ?_
  refine zbp (zeH rfl (zad rfl) rfl (by rw[Qb];omega) rfl) ?_
  refine zaO ⟨T++[(((zz+k) % m:Nat):Int)],_,by rw[QC (l₁:=T) (f:=int)];rfl,by rw[Ql,hT];rfl,?_,λa ha=>?_⟩
  ·refine List.nodup_append.mpr ⟨hTn,List.nodup_cons.mpr ⟨(by simp),List.nodup_nil⟩,λa ha b hb e=>?_⟩
   rw[Je.mp hb] at e;exact hk2 (e ▸ ha)
  ·rcases QX.mp ha with h|h
   ·exact hTb a h
   ·rw[Je.mp h]
    have:=Nat.mod_lt (zz+k) (show 0<m by omega)
    exact ⟨by omega,by omega⟩
 case hend=>
  rintro Z ⟨T,x8,rfl,hT,hTn,hTb⟩;refine zaz ?_
  obtain ⟨o,ho⟩:∃o:Ord,oIx (.list [.str "firsts", .str "full", .str "lasts"]) (.int d0)=some (.str o.tx):=by
   have:d0=0∨d0=1∨d0=2:=by omega
   rcases this with rfl|rfl|rfl
   ·exact ⟨.firsts,zaN (j:=0) rfl⟩
   ·exact ⟨.full,zaN (j:=1) rfl⟩
   ·exact ⟨.lasts,zaN (j:=2) rfl⟩
  have ga:zbC n m old T:=⟨hol,hob,hTn,hTb⟩;rcases hx6 with rfl|⟨ws,rfl,rfl⟩
  ·exact zaB (zb6 (zab (zap (zbf (zab zag (zab zag (zab zag zai))) (Qa rfl)) (za8 rfl zag i0) ho) (zab (zad rfl) (zab (zbJ rfl rfl) zai))) (Qa rfl)) ⟨_,rfl,o,_,T,rfl,ga⟩
  ·exact zaB (zb6 (zab (zap (zbf (zab zag (zab zag (zab zag zai))) (Qa rfl)) (za8 rfl zag i0) ho) (zab (zbJ rfl rfl) (zab (zbJ rfl rfl) zai))) (Qa rfl)) ⟨_,rfl,o,some ws,T,rfl,ga⟩
end
theorem zpB{op:Int->Int->Option D}{j:Nat}{f:M D}{Z Z1 Z':DEnv}{a b:Int}{d:D}(h0:Z[j]?=some (some (.pub (.int a))))(h1:f Z=.ok (.int b) Z1)(h2:op a b=some d)(h3:j<Z1.length)(h4:Z1.set j (some (.pub d))=Z'):sAug op j f Z=.nx Z':=by
 unfold sAug;rw[h0];dsimp only[sB];rw[h1];dsimp only;rw[h2];dsimp only;rw[Qm h3,h4]
theorem mulN{i j:Int}(h : -1000<j/\j<1000):gMul i j=some (.int (i*j)):=by unfold gMul;exact Qm (.inr ⟨by omega,by omega⟩)
theorem zd8{b n:Int}(hb : -1000<b/\b<1000)(hn : -1000<=n/\n<=1000):F_aq [.int b,.int n]=some (.int (b ^ n.toNat)):=by
 refine za3 (Z:=[some (.pub (.int b)),some (.pub (.int n)),none,none]) rfl ?_;unfold g_aq;refine zaq (zaZ zag (Qa rfl) rfl) ?_;apply zaL;apply zbv (λi Z=>∃x3,Z=[some (.pub (.int b)),some (.pub (.int n)),some (.pub (.int (b ^ i))),x3])
 case h1=>exact zcP (zab (zad rfl) zai) (zcj (by omega) (by omega))
 case h0=>exact ⟨_,by rw[Int.pow_zero];rfl⟩
 case hst=>
  rintro i d Z hi ⟨x3,rfl⟩
  refine ⟨_,tg_N (Qa rfl) (by walk_at "set"),?_⟩
  unfold zme;refine zbp (zpB rfl (zad rfl) (mulN hb) (Qa rfl) rfl) ?_;exact zaO ⟨_,by rw[Int.pow_succ];rfl⟩
 case hend=>
  rintro Z ⟨x3,rfl⟩;refine zaz (zaB (zad rfl) ?_);rw[zaY]
  congr 4
  omega
def ordW:Ord->Int->Int->Int->Int
 |.firsts,b,M,r=>b ^ (M-r).toNat
 |.full,b,M,r=>b ^ M.toNat+b ^ (M-r).toNat
 |.lasts,b,M,r=>b ^ M.toNat-b ^ (r-1).toNat
theorem ziU(o:Ord){b M r:Int}(hb : -1000<b/\b<1000)(hM:0<=M/\M<=100)(hr:0<=r/\r<=100):F_ar [.str o.tx,.int b,.int M,.int r]=some (.int (ordW o b M r)):=by
 refine za3 (Z:=[some (.pub (.str o.tx)),some (.pub (.int b)),some (.pub (.int M)),some (.pub (.int r))]) rfl ?_;unfold g_ar;have p1:F_aq [.int b,.int (M-r)]=some (.int (b ^ (M-r).toNat)):=zd8 hb ⟨by omega,by omega⟩
 have p2:F_aq [.int b,.int M]=some (.int (b ^ M.toNat)):=zd8 hb ⟨by omega,by omega⟩
 have p3:F_aq [.int b,.int (r-1)]=some (.int (b ^ (r-1).toNat)):=zd8 hb ⟨by omega,by omega⟩
 apply zaL;apply zbc
 case h1=>exact zb4 rfl zag (zoB o)
 case h2=>
  intro h
  cases o with
  |firsts=>exact zaB (zas (zab (zad rfl) (zab (zap (zad rfl) (zad rfl) zbX) zai)) rfl p1) (zcu rfl)
  |full=>cases h
  |lasts=>cases h
 case h3=>
  intro h;refine zbq (zaz ?_);apply zaL;apply zbc
  case h1=>exact zb4 rfl zag (zq3 o)
  case h2=>
   intro h'
   cases o with
   |full=>exact zaB (zap (zas (zab (zad rfl) (zab (zad rfl) zai)) rfl p2) (zas (zab (zad rfl) (zab (zap (zad rfl) (zad rfl) zbX) zai)) rfl p1) zaW) (zcu rfl)
   |firsts=>cases h
   |lasts=>cases h'
  case h3=>
   intro h';refine zbq (zaz ?_)
   cases o with
   |firsts=>cases h
   |full=>cases h'
   |lasts=>exact zaB (zap (zas (zab (zad rfl) (zab (zad rfl) zai)) rfl p2) (zas (zab (zad rfl) (zab (zap (zad rfl) zag zbX) zai)) rfl p3) zbX) rfl
def zhP(ts:List Int)(b i r:Int):Int:=if i∈ts then (b-r)*b ^ (ts.length-1-ts.idxOf i) else 0
theorem zeJ{n:Nat}:∀{xs:List D},(∀x∈xs,PyData.weight x<=n)->PyData.weightAll xs<=xs.length*(n+1)
 |[],_=>by simp[PyData.weightAll]
 |x::xs,h=>by
  have h1:=h x Qo;have h2:=zeJ (xs:=xs) λy hy=>h y (Qj _ hy);rw[PyData.weightAll,QG,Nat.succ_mul];omega
theorem zkv{i:Int}(h:0<=i/\i<1000):(int i).weight<=10:=by
 simp only[PyData.weight];split
 ·omega
 ·rename_i hne
  have h0:i.natAbs≠0:=by intro e;exact hne (by simpa using e)
  have:=(Nat.log2_lt h0 (k:=10)).mpr (by omega)
  omega
theorem zhQ{ts:List Int}(h:∀a∈ts,0<=a/\a<1000)(hl:ts.length<=1000):PyData.layable0 (.list (ts.map int))=true:=by
 unfold PyData.layable0;have h1:(PyData.list (ts.map int)).canLay0=true:=zdj λx hx=>by obtain ⟨y,_,rfl⟩:=Qv.mp hx;rfl
 have h2:(PyData.list (ts.map int)).depth<=64:=QO (ziJ (n:=1) (zd0 λx hx=>by obtain ⟨y,_,rfl⟩:=Qv.mp hx;exact zmk y)) (by decide)
 have h3:(PyData.list (ts.map int)).weight<=2 ^ 20:=by
  have:=zeJ (n:=10) (xs:=ts.map int) λx hx=>by obtain ⟨y,hy,rfl⟩:=Qv.mp hx;exact zkv (h y hy)
  rw[Qb] at this;simp only[PyData.weight];omega
 rw[h1,Q3 h2,Q3 h3]
 rfl
theorem znY{ts:List Int}{k:Int}(hb:∀a∈ts,0<=a/\a<1000)(hl:ts.length<=1000)(h:k∈ts):zeq (.list (ts.map int)) [.int k]=some (.int (ts.idxOf k:Nat)):=by
 unfold zeq;dsimp only;rw[zcy];dsimp only;exact Qm ⟨zhQ hb hl,h⟩
theorem znZ{t:Int}{r:List Int}:oNin (.int t) (.list (r.map int))=some (!r.contains t):=by
 unfold oNin;rw[zgJ]
 rfl
theorem ziV{ts:List Int}{b i r:Int}(hb : -1000<b/\b<1000)(hr : -1000<r/\r<1000)(hl:ts.length<=100)(ht:∀a∈ts,0<=a/\a<1000):F_as [.list (ts.map int),.int b,.int i,.int r]=some (.int (zhP ts b i r)):=by
 refine za3 (Z:=[some (.pub (.list (ts.map int))),some (.pub (.int b)),some (.pub (.int i)),some (.pub (.int r)),none]) rfl ?_;unfold g_as zhP;apply zaL;apply zbc
 case h1=>exact zb4 rfl (zad rfl) znZ
 case h2=>
  intro h
  have:¬i∈ts:=by simpa using h
  rw[Qy this];exact zaB zag (zcu rfl)
 case h3=>
  intro h;have hm:i∈ts:=by simpa using h
  rw[Qm hm];refine zbq (zaz ?_);have hi:=List.idxOf_lt_length_of_mem hm;have hlen:oLen [.list (ts.map int)]=some (.int ts.length):=by rw[zaD,Qb]
  refine zaq (zaZ (zap (zap (za6 rfl hlen) zag zbX) (zjn (zad rfl) (zab (zad rfl) zai) (znY ht (by omega) hm)) zbX) (Qa rfl) rfl) ?_
  have hp:=zd8 (b:=b) (n:=(ts.length:Int)-1-(ts.idxOf i:Nat)) hb ⟨by omega,by omega⟩
  have e:((ts.length:Int)-1-(ts.idxOf i:Nat)).toNat=ts.length-1-ts.idxOf i:=by omega
  rw[e] at hp;exact zaB (zap (zap (zad rfl) (zad rfl) zbX) (zas (zab (zad rfl) (zab (zad rfl) zai)) rfl hp) (zeW (by omega) (by omega))) rfl
def zev(old:Option LO)(i:Nat)(t:Int):Int:=match old with
 |none=>0
 |some ws=>if ws[i]?=some (some t) then 1 else 0
section
variable{cs:List Int}{ls:L3}{o:Ord}{old:Option LO}{ts:List Int}
def worW(ls:L3)(o:Ord)(old:Option LO)(ts:List Int)(i:Nat)(rs:List (List Int))(t:Int):Int :=
 (ordW o (ls.length+1) (lng ls) (zay t rs)*(ls.length+1)+zev old i t)*((lng ls:Int)+1) ^ ts.length+zhP ts (lng ls+1) i (zay t rs)
theorem zhR{b:Int}(h0:0<=b)(h:b<=8):∀{n k:Nat},n<=k->b ^ n<=8 ^ k:=λ{n k} hk=>by
 have e:b=((b.toNat:Nat):Int):=by omega
 rw[e];have h1:b.toNat ^ n<=8 ^ n:=Nat.pow_le_pow_left (by omega) n
 have h2:8 ^ n<=8 ^ k:=Nat.pow_le_pow_right (by omega) hk
 have h3:((b.toNat ^ n:Nat):Int)<=((8 ^ k:Nat):Int):=by omega
 rw[Int.natCast_pow,Int.natCast_pow] at h3;exact h3
theorem zmv(g:Good cs ls)(ga:zbC cs.length ls.length old ts){i:Nat}{rs:List (List Int)}(hi:ls[i]?=some rs)(t:Int):F_at [zav cs ls,aimD o old ts,.int (lng ls:Nat),.int i,.int t]=some (.int (worW ls o old ts i rs t)):=by
 have l7:=g.l7;have l1:=g.l1;have hL:lng ls<=5:=zf6 l1 λrs h=>(g.rk rs h).few;have hrk:zay t rs<=5:=by have:=zd6 t rs;have:=(g.rk rs (Qq hi)).few;omega
 have htl:=ga.few;have hlt:i<ls.length:=(Qh.mp hi).1;refine za3 (Z:=[some (.pub (zav cs ls)),some (.pub (aimD o old ts)),some (.pub (.int (lng ls:Nat))),some (.pub (.int i)),some (.pub (.int t)),none,none,none,none,none,none,none,none]) rfl ?_;unfold g_at worW;refine zaq (zfm (zad rfl) (tg_T rfl (tg_C (tg_N (Qa rfl) rfl) (tg_C (tg_N (Qa rfl) rfl) (tg_C (tg_N (Qa rfl) rfl) tg_0))))) ?_;refine zaq (zaZ (za8 rfl zag zeN) (Qa rfl) rfl) ?_;refine zaq (zaZ (zas (zab (za8 rfl (zad rfl) (zpw hi)) (zab (zad rfl) zai)) rfl (zf4 t rs)) (Qa rfl) rfl) ?_;have hll:oLen [.list (ls.map zaE)]=some (.int ls.length):=by rw[zaD,Qb]
 have htl':oLen [.list (ts.map int)]=some (.int ts.length):=by rw[zaD,Qb]
 refine zaq (zaZ (zap (za6 rfl hll) zag zaW) (Qa rfl) rfl) ?_
 have hk:∀Z:DEnv,Z[6]?=some (some (.pub (oldD old)))->Z[3]?=some (some (.pub (.int i)))->Z[4]?=some (some (.pub (.int t))) ->
   mIf (mAnd (mMap (λd=>!isNon d) (dVar 6)) (dBin oEq (dIxN 6 (dVar 3)) (dVar 4))) (zah (int 1)) (zah (.int 0)) Z=.ok (.int (zev old i t)) Z:=λZ r6 r3 r4=>by
  cases old with
  |none=>
   exact zlz (ziw (zaH (zad r6))) zag
  |some ws=>
   have hw:ws.length=ls.length:=ga.len ws rfl;have hwi:ws[i]?=some ws[i]:=Qe (by omega)
   have hx:oIx (.list (ws.map optD)) (.int i)=some (optD ws[i]):=zoz (by omega)
   have ht:(mAnd (mMap (λd=>!isNon d) (dVar 6)) (dBin oEq (dIxN 6 (dVar 3)) (dVar 4))) Z=.ok (decide (ws[i]=some t)) Z :=
    zix (zaH (zad r6)) (zap (za8 r6 (zad r3) hx) (zad r4) (zoA (b:=some t)))
   rw[zrK ht zag zag]
   congr 1
   unfold zev;dsimp only;rw[hwi]
   by_cases h:ws[i]=some t
   ·rw[Q3 h,Qm rfl,Qm (by rw[h])]
   ·rw[QN h,Qy (by decide),Qy (λe=>h (QY e))]
 refine zaq (zaZ (hk _ rfl rfl rfl) (Qa rfl) rfl) ?_;have h1:=ziU o (b:=(ls.length:Int)+1) (M:=(lng ls:Nat)) (r:=(zay t rs:Nat)) ⟨by omega,by omega⟩ ⟨by omega,by omega⟩ ⟨by omega,by omega⟩
 have h2:=zd8 (b:=(lng ls:Int)+1) (n:=(ts.length:Nat)) ⟨by omega,by omega⟩ ⟨by omega,by omega⟩
 have h3:=ziV (ts:=ts) (b:=(lng ls:Int)+1) (i:=i) (r:=(zay t rs:Nat)) ⟨by omega,by omega⟩ ⟨by omega,by omega⟩ (by omega) (λa ha=>by have:=ga.there a ha;omega)
 rw[Qu] at h2;refine zaq (zaZ (zap (zap (zas (zab (zad rfl) (zab (zad rfl) (zab (zad rfl) (zab (zad rfl) zai)))) rfl h1) (zad rfl) (zgr (by omega) (by omega))) (zad rfl) zaW) (Qa rfl) rfl) ?_
 have hp:((lng ls:Int)+1) ^ ts.length<=8 ^ 7:=zhR (by omega) (by omega) (by omega)
 have hp0:0<=((lng ls:Int)+1) ^ ts.length:=Int.pow_nonneg (by omega)
 exact zaB (zap (zap (zad rfl) (zas (zab (zap (zad rfl) zag zaW) (zab (za6 rfl htl') zai)) rfl h2) (zgr (by omega) (by omega))) (zas (zab (zad rfl) (zab (zap (zad rfl) zag zaW) (zab (zad rfl) (zab (zad rfl) zai)))) rfl h3) zaW) rfl
end
theorem zdl{s:D->DEnv->Option DEnv}{t:M Bool}{g:M D}(I:DEnv->Prop):∀(ds:List D)(qs:List (Option D))(Z:DEnv)(es:List D),qs.length=ds.length ->
  (∀(i:Nat) d e,ds[i]?=some d->qs[i]?=some e->∀Z,I Z->∃Z1,s d Z=some Z1/\t Z1=.ok e.isSome Z1/\(∀x,e=some x->g Z1=.ok x Z1)/\I (zaK Z1))->I Z->es.length+ds.length<=1000000->zbz s t g ds Z es=some (es++qs.filterMap id)
 |[],[],Z,es,_,_,_,_=>by rw[zbz];simp
 |d::r,e::q,Z,es,hl,st,h0,hz=>by
  obtain ⟨Z1,e1,e2,e3,h1⟩:=st 0 d e rfl rfl Z h0;rw[QG] at hz;have ih:=λes' hz'=>zdl I r q (zaK Z1) es' (by simpa using hl) (λi d' e' x y=>st (i+1) d' e' (by simpa using x) (by simpa using y)) h1 hz'
  rw[zbz,e1];dsimp only;rw[e2];dsimp only
  cases e with
  |none=>
   rw[if_neg (show ¬(none:Option D).isSome=true by simp),ih es (by omega)]
   rfl
  |some x=>
   rw[Qm (show (some x).isSome=true from rfl),e3 x rfl]
   dsimp only;rw[Qm (by omega),ih (es++[x]) (by rw[Ql,Jh];omega),Jl]
   rfl
def gotW(W:Nat->List (List Int)->Int->Int):Nat->L3->LO->LO
 |k,rs::ls,o::r=>(o.map (W k rs))::gotW W (k+1) ls r
 |_,_,_=>[]
def sumO(l:LO):Int:=(l.filterMap id).sum
theorem zcB{o:Option Int}{l:LO}:sumO (o::l)=o.getD 0+sumO l:=by
 cases o with
 |none=>show sumO l=0+sumO l;omega
 |some x=>show (x::l.filterMap id).sum=_;rw[Q7];rfl
section
variable{cs:List Int}{ls:L3}{o:Ord}{old:Option LO}{ts:List Int}{ws:LO}
def worV(ls:L3)(o:Ord)(old:Option LO)(ts:List Int)(a t:Int):Int:=worW ls o old ts a.toNat (ls.getD a.toNat []) t
def zbU(V:Int->Int->Int)(q:Int×Int):D:=.tuple [.int q.1,.int q.2,.int (V q.1 q.2)]
theorem zgK(g:Good cs ls)(ga:zbC cs.length ls.length old ts):F_au [zav cs ls,aimD o old ts]=some (.list ((allW 0 ls).map (zbU (worV ls o old ts)))):=by
 refine za3 (Z:=[some (.pub (zav cs ls)),some (.pub (aimD o old ts)),none]) rfl ?_;unfold g_au;refine zaq (zc6 (zas (zab (zad rfl) (zab (zad rfl) zai)) rfl (zq4 g ga))) ?_;refine zaq (zaZ (zas (zab (zad rfl) zai) rfl (zks g)) (Qa rfl) rfl) ?_;have few:(allW 0 ls).length<=42:=by rw[(zdk ls 0).length_eq];exact zgH g
 have hc:zbz (gT 2 (gNC (gN 3) (gNC (gN 4) (gN0)))) (zah true) (mTup (zae (dVar 3) (zae (dVar 4) (zae (dFun 5 F_at (zae (dVar 0) (zae (dVar 1) (zae (dVar 2) (zae (dVar 3) (zae (dVar 4) (mNil))))))) (mNil))))) ((allW 0 ls).map duoD) (zaK [some (.pub (zav cs ls)),some (.pub (aimD o old ts)),some (.pub (.int (lng ls:Nat)))]++replicate 2 none) []=some ((allW 0 ls).map (zbU (worV ls o old ts))):=by
  refine zbP (λZ=>∃x y,Z=[some (.pub (zav cs ls)),some (.pub (aimD o old ts)),some (.pub (.int (lng ls:Nat))),x,y]) _ _ _ _ (by simp only[Qb]) ?_ ⟨none,none,rfl⟩ (by rw[Qb,QQ];omega)
  rintro i d e hd he Z ⟨x,y,rfl⟩;rw[Qd] at hd he
  cases hw:(allW 0 ls)[i]? with
  |none=>rw[hw] at hd;cases hd
  |some q=>
  rw[hw] at hd he;cases hd;cases he;obtain ⟨a,t⟩:=q;obtain ⟨j,rs,hj,ha,ht⟩:=zb2 (Qq hw);have ha:a=(j:Int):=by rw[QP] at ha;exact ha
  subst ha;have hv:worV ls o old ts j t=worW ls o old ts j rs t:=by unfold worV;rw[Qu,Qg,hj];rfl
  refine ⟨_,tg_T rfl (tg_C (tg_N (Qa rfl) rfl) (tg_C (tg_N (Qa rfl) rfl) tg_0)),rfl,?_,_,_,rfl⟩;unfold zbU;dsimp only;rw[hv];exact zb6 (zab (zad rfl) (zab (zad rfl) (zab (zas (zab (zad rfl) (zab (zad rfl) (zab (zad rfl) (zab (zad rfl) (zab (zad rfl) zai))))) rfl (zmv g ga hj t)) zai))) (Qa rfl)
 exact zaB (zaH (zbK (zaS (zas (zab (zad rfl) zai) rfl (zd7 g)) zbs) hc)) rfl
end
theorem zjB{n:Nat}:ixN (n+1) (-1)=some n:=by
 unfold ixN;rw[Qy (by omega),Qm (by omega)]
 congr 1
 omega
theorem zpC{op:Int->Int->Option D}{j:Nat}{f g:M D}{Z Z':DEnv}{xs:List Int}{p:Nat}{k d b:Int}(h0:Z[j]?=some (some (.own (xs.map int))))(h1:g Z=.ok (.int k) Z)(hk:ixN xs.length k=some p)(h4:f Z=.ok (.int b) Z)(h5:∀a,op a b=some (.int (a+d)))
  (h8:Z.set j (some (.own ((zeO xs p d).map int)))=Z'):zhr op j g f Z=.nx Z':=by
 have hp:=(zic hk).2.1;refine zmq (n:=p) h0 h1 h0 (a:=xs.getD p 0) ?_ h4 (h5 _) h0 (by rw[Qb];exact hk) ?_
 ·unfold atI
  rw[Qb,hk];show (xs.map int)[p]?=_;rw[List.getElem?_map,List.getElem?_eq_getElem hp];simp[List.getD,List.getElem?_eq_getElem hp]
 ·rw[←h8,zgs];rfl
section
variable{cs:List Int}{ls:L3}{ws:LO}
theorem zdD(g:Good cs ls):F_br [zav cs ls]=some (.int (lng ls:Nat)):=by
 refine za3 (Z:=[some (.pub (zav cs ls))]) rfl ?_;unfold g_br
 have hc:zbz (gN 1) (zah true) (zbM 1) (ls.map zaE) (zaK [some (.pub (zav cs ls))]++replicate 1 none) []=some ((ls.map λrs=>(rs.length:Int)).map int):=by
  refine zbP (λZ=>∃x,Z=[some (.pub (zav cs ls)),x]) _ _ _ _ (by rw[Qb,Qb,Qb]) ?_ ⟨none,rfl⟩ (by rw[Qb,QQ];have:=g.l7;omega)
  rintro i d e hd he Z ⟨x,rfl⟩;rw[Qd] at hd;rw[Qd,Qd] at he
  cases hl:ls[i]? with
  |none=>rw[hl] at hd;cases hd
  |some rs=>
  rw[hl] at hd he;cases hd;cases he;exact ⟨_,tg_N (Qa rfl) rfl,rfl,za6 rfl (zhM rs),_,rfl⟩
 refine zaB (za4 (zab (zaH (zbK (zaS (za8 rfl zag zeN) zbs) hc)) zai) (zjf (by rw[Qb];have:=g.l1;omega))) ?_
 rw[ziQ g.l1]
theorem ziW{i:Nat}{rs:List (List Int)}(h:ls[i]?=some rs)(t:Int):F_bq [zav cs ls,.int i,.int t]=some (.int (zay t rs:Nat)):=by
 refine za3 (Z:=[some (.pub (zav cs ls)),some (.pub (.int i)),some (.pub (.int t)),none,none]) rfl ?_;unfold g_bq;apply zaL;apply zbv (λi' Z=>(∃x2 x3,Z=[some (.pub (zav cs ls)),some (.pub (.int i)),some (.pub (.int t)),x2,x3])/\∀j r,j<i'->rs[j]?=some r->r.contains t=false)
 case h1=>exact zch (zab (zap (za8 rfl zag zeN) (zad rfl) (zpw h)) zai) zbS
 case h0=>exact ⟨⟨_,_,rfl⟩,λj r h=>absurd h (J9 _)⟩
 case hst=>
  rintro k d Z hi ⟨⟨x2,x3,rfl⟩,hb⟩;obtain ⟨x,hx,rfl⟩:=zbL hi;rw[Qd] at hx
  cases hr:rs[k]? with
  |none=>rw[hr] at hx;cases hx
  |some r=>
   rw[hr] at hx;cases hx;refine ⟨_,tg_T rfl (tg_C (tg_N (Qa rfl) rfl) (tg_C (tg_N (Qa rfl) rfl) tg_0)),?_⟩;unfold zlX;apply zbc
   case h1=>exact zb4 rfl (zad rfl) (ziO t r)
   case h2=>
    intro hh;refine zaB (zap (zad rfl) zag zaW) (zdR ?_);rw[zhH hr hh hb];refine ⟨?_⟩
    congr 2
    omega
   case h3=>
    intro hh;refine zbq (zaO ⟨⟨_,_,rfl⟩,λj r' hj e=>?_⟩);rcases JS.mp hj with hj|rfl
    ·exact hb j r' hj e
    ·rw[hr] at e;cases e;exact hh
 case hend=>
  rintro Z ⟨⟨x2,x3,rfl⟩,hb⟩;refine zaz (zaB zag ?_);rw[zhI (λj r hj e=>hb j r (by rw[zaG,Qb];exact hj) e)]
  rfl
def cntP(n:Nat)(qs:List Nat):List Int:=(List.range n).map λp=>((qs.count p:Nat):Int)
theorem zbh(n:Nat)(qs:List Nat):(cntP n qs).length=n:=by unfold cntP;rw[Qb,Qp]
theorem zc8{n p:Nat}{qs:List Nat}(h:p<n):(cntP n qs)[p]?=some ((qs.count p:Nat):Int):=by
 unfold cntP;rw[Qd,QS h];rfl
theorem zjC(n:Nat):cntP n []=replicate n 0:=by
 unfold cntP;rw[List.eq_replicate_iff];exact ⟨by rw[Qb,Qp],λb hb=>by obtain ⟨p,_,rfl⟩:=Qv.mp hb;rfl⟩
theorem zhS{n p:Nat}{qs:List Nat}:zeO (cntP n qs) p 1=cntP n (qs++[p]):=by
 apply Jm;intro k
 by_cases hk:k<n
 ·rw[zhN (zc8 hk),zc8 hk,List.count_append]
  congr 1
  by_cases e:k=p
  ·rw[Qm e,e,List.count_singleton_self];omega
  ·rw[Qy e,List.count_singleton]
   have:(p==k)=false:=by rw[beq_eq_false_iff_ne];exact λz=>e z.symm
   rw[this];show _=(((_+0:Nat)):Int);omega
 ·rw[QB (by rw[zfr,zbh];omega),QB (by rw[zbh];omega)]
theorem zmw{L:Nat}{got:List Int}(h:okR L got):cntP (L+1) (got.map (plc L))=cnts L got:=by
 apply Jm;intro k
 by_cases hk:k<L+1
 ·rw[zc8 hk,znT h hk]
 ·rw[QB (by rw[zbh];omega),QB (by rw[zcw];omega)]
theorem zgL(hl:ws.length=ls.length):(rgot ls ws).length=ls.length:=by unfold rgot;rw[Uj];omega
theorem zd9(g:Good cs ls)(dl:Deal cs ls ws):F_bv [zav cs ls,zaM ws]=some (.list ((cnts (lng ls) (rgot ls ws)).map int)):=by
 have hL:lng ls<=5:=zf6 g.l1 λrs h=>(g.rk rs h).few;have l7:=g.l7;refine za3 (Z:=[some (.pub (zav cs ls)),some (.pub (zaM ws)),none,none,none]) rfl ?_;unfold g_bv;have hadd:oAdd (.int (lng ls:Nat)) (.int 1)=some (.int ((lng ls+1:Nat):Int)):=by rw[zaW];rfl
 refine zaq (zbB (ziC (n:=lng ls+1) (zbf (zab zag zai) (Qa rfl)) (zap (zas (zab (zad rfl) zai) rfl (zdD g)) zag hadd) (by omega)) (Qa rfl) rfl) ?_
 apply zaL;apply zbv (λi Z=>∃x3 x4,Z=[some (.pub (zav cs ls)),some (.pub (zaM ws)),some (.own ((cntP (lng ls+1) (((rgot ls ws).take i).map (plc (lng ls)))).map int)),x3,x4])
 case h1=>exact zch (zab (zad rfl) zai) zbS
 case h0=>exact ⟨_,_,by rw[JU,Uo,zjC,J7];rfl⟩
 case hst=>
  rintro i d Z hi ⟨x3,x4,rfl⟩;obtain ⟨z,hz,rfl⟩:=zbL hi;rw[Qd] at hz
  cases hwi:ws[i]? with
  |none=>rw[hwi] at hz;cases hz
  |some o=>
  rw[hwi] at hz;cases hz;have hil:i<ls.length:=by have:=(Qh.mp hwi).1;have:=dl.len;omega
  have hls:ls[i]?=some ls[i]:=Qe hil;have hg:=zjy hls hwi
  have hnext:(((rgot ls ws).take (i+1)).map (plc (lng ls)))=((rgot ls ws).take i).map (plc (lng ls))++[plc (lng ls) (rg ls[i] o)]:=by
   rw[JL,hg,QC];rfl
  rw[QP];refine ⟨_,tg_T rfl (tg_C (tg_N (Qa rfl) rfl) (tg_C (tg_N (Qa rfl) rfl) tg_0)),?_⟩;unfold zlY;generalize ((rgot ls ws).take i).map (plc (lng ls))=qs at hnext ⊢
  cases o with
  |none=>
   apply zbc
   case h1=>exact zaH (k:=isNon) (x:=PyData.none) (zad rfl)
   case h3=>intro h;cases h
   case h2=>
    intro _;have e:plc (lng ls) (rg ls[i] none)=lng ls:=rfl;refine zbp (zpC (p:=lng ls) (k:=-1) rfl (zfY zag) (by rw[zbh];exact zjB) zag (d:=1) (λa=>rfl) rfl) ?_
    refine zaO ⟨some (.pub (.int i)),some (.pub .none),?_⟩;rw[hnext,e,←zhS]
    rfl
  |some t=>
   apply zbc
   case h1=>exact zaH (k:=isNon) (x:=int t) (zad rfl)
   case h2=>intro h;cases h
   case h3=>
    intro _;have hr:=zcz (dl.wish i t ls[i] hwi hls);have hle:=zd6 t ls[i];have hlg:=zhL (Qq hls)
    have e:plc (lng ls) (rg ls[i] (some t))=zay t ls[i]-1:=by
     show plc (lng ls) ((zay t ls[i]:Nat):Int)=_;unfold plc;rw[Qy (by omega)]
     omega
    have hsub:oSub (.int (zay t ls[i]:Nat)) (.int 1)=some (.int ((zay t ls[i]-1:Nat):Int)):=by rw[zbX];congr 2;omega
    refine zbp (zpz (p:=zay t ls[i]-1) rfl (zap (zas (zab (zad rfl) (zab (zad rfl) (zab (zad rfl) zai))) rfl (ziW hls t)) zag hsub) (by rw[zbh];omega) zag (d:=1) (λa=>rfl) rfl) ?_
    refine zaO ⟨some (.pub (.int i)),some (.pub (.int t)),?_⟩;rw[hnext,e,←zhS]
    rfl
 case hend=>
  rintro Z ⟨x3,x4,rfl⟩;refine zaz (zaB (zbJ rfl rfl) ?_);rw[zaG,Qb,List.take_of_length_le (by rw[zgL dl.len];have:=dl.len;omega),zmw zfs]
end
section
variable{cs:List Int}{ls:L3}{ws us:LO}
theorem ix_c{t:Int}(h0:0<=t)(h:t<cs.length):oIx (.list (cs.map int)) (.int t)=some (.int (cs.getD t.toNat 0)):=by
 have e:t=((t.toNat:Nat):Int):=by omega
 rw[e];refine zaN ?_;rw[Qd,Qe (by omega),Qg,Qu,Qe (by omega)]
 rfl
theorem zkw{t:Int}{fl:List Int}:oNin (.int t) (.list ((zcO fl).map int))=some (!fl.contains t):=by
 have e:(zcO fl).contains t=fl.contains t:=by
  rw[JO];simp only[List.contains_iff_mem];exact (zbk fl).mem_iff
 unfold oNin;rw[zgJ,e]
 rfl
theorem zgM(i:Int):F_bw [.int i]=some (.bool true):=by
 refine za3 (Z:=[some (.pub (.int i))]) rfl ?_;unfold g_bw
 exact zaB (zgp (zaH (k:=λd=>PyData.bool (isTy d "int")) (zad rfl)) (λ_=>zly (zaH (k:=λd=>PyData.bool (isTy d "bool")) (zad rfl)))) rfl
end
def zcQ(c:List Int):Int:=c.getD (c.length-1) 0
def ordc:Ord->List Int->List Int
 |.firsts,c=>c
 |.full,c=>(0-zcQ c)::c
 |.lasts,c=>c.reverse.map λx=>0-x
def zcD(old:Option LO)(ws:LO):Nat:=match old with
 |none=>0
 |some os=>((os.zip ws).filter λp=>decide (p.1=p.2)&&p.2.isSome).length
def zcc(ls:L3)(ws:LO)(a:Int):Int:=match ws.getD a.toNat none with
 |none=>0
 |some t=>(lng ls:Int)+1-(zay t (ls.getD a.toNat []):Nat)
theorem zn0{c:List Int}(h:c≠[]):oIx (.list (c.map int)) (.int (-1))=some (.int (zcQ c)):=by
 have hl:0<c.length:=Ui.mpr h;show atI (c.map int) (-1)=_;obtain ⟨n,hn⟩:∃n,c.length=n+1:=⟨c.length-1,by omega⟩
 unfold atI;rw[Qb,hn,zjB];show (c.map int)[n]?=_;unfold zcQ;rw[Qd,hn,J6,Qg,Qe (by omega)]
 rfl
def btr:LP->Bool
 |[]=>false
 |(m,y)::r=>if m=y then btr r else decide (y=0) || (decide (0<m)&&decide (m<y))
def rgA(ls:L3)(ws:LO)(a:Int):Int:=(rgot ls ws).getD a.toNat 0
def betW(o:Ord)(c1 c2:List Int)(k1 k2:Int)(r1 r2:List Int):Bool:=if fnz (zeP o c1 c2)=0 then (if k1=k2 then btr (r1.zip r2) else decide (k2<k1)) else decide (0<fnz (zeP o c1 c2))
theorem zpD(a b:List Int):fnz (a++b)=if fnz a=0 then fnz b else fnz a:=by
 induction a with
 |nil=>rfl
 |cons x r ih=>
  show (if x=0 then fnz (r++b) else x)=if (if x=0 then fnz r else x)=0 then fnz b else (if x=0 then fnz r else x)
  by_cases h:x=0
  ·rw[Qm h,Qm h,ih]
  ·rw[Qy h,Qy h,Qy h]
theorem zft{a b c d:List Int}(h:a.length=c.length):zaR (a++b) (c++d)=zaR a c++zaR b d:=by
 unfold zaR;rw[List.zip_append h,QC]
theorem zdm{a b:List Int}(h:a.length=b.length):(zaR a b).length=a.length:=by unfold zaR;rw[Qb,List.length_zip];omega
theorem zfu{a b:List Int}{i:Nat}{x y:Int}(h1:a[i]?=some x)(h2:b[i]?=some y):(zaR a b)[i]?=some (x-y):=by
 unfold zaR;rw[Qd,List.getElem?_zip_eq_some.mpr (by exact (⟨h1,h2⟩:a[i]?=some (x,y).1/\b[i]?=some (x,y).2))]
 rfl
theorem zmx{o:Ord}{a b:List Int}(h:a.length=b.length)(hne:a≠[]):zaR (ordc o a) (ordc o b)=zeP o a b:=by
 have hp:0<a.length:=Ui.mpr hne
 cases o with
 |firsts=>rfl
 |full=>
  have hml:=zdm h;have hx:a[a.length-1]?=some (zcQ a):=by unfold zcQ;rw[Qg,Qe (by omega)];rfl
  have hy:b[a.length-1]?=some (zcQ b):=by unfold zcQ;rw[←h,Qg,Qe (by omega)];rfl
  have hm:=zfu hx hy;show (0-zcQ a-(0-zcQ b))::zaR a b=((zaR a b).map λx=>-x).drop ((zaR a b).length-1)++zaR a b
  have hd:((zaR a b).map λx=>-x).drop ((zaR a b).length-1)=[-(zcQ a-zcQ b)]:=by
   rw[hml];have hl:a.length-1<((zaR a b).map λx=>-x).length:=by rw[Qb,hml];omega
   rw[Q8 hl,List.drop_of_length_le (by rw[Qb,hml];omega)]
   have e:((zaR a b).map λx=>-x)[a.length-1]?=some (-(zcQ a-zcQ b)):=by rw[Qd,hm];rfl
   rw[Qe hl] at e;rw[QY e]
  rw[hd];show _ = -(zcQ a-zcQ b)::zaR a b
  congr 1
  omega
 |lasts=>
  show zaR (a.reverse.map λx=>0-x) (b.reverse.map λx=>0-x)=((zaR a b).map λx=>-x).reverse;apply Jm;intro i;have hml:=zdm h
  by_cases hi:i<a.length
  ·obtain ⟨x,hx⟩:∃x,a[a.length-1-i]?=some x:=⟨_,Qe (by omega)⟩
   obtain ⟨y,hy⟩:∃y,b[a.length-1-i]?=some y:=⟨_,Qe (by omega)⟩
   have e1:(a.reverse.map λx=>0-x)[i]?=some (0-x):=by rw[Qd,Uc hi,hx];rfl
   have e2:(b.reverse.map λx=>0-x)[i]?=some (0-y):=by rw[Qd,Uc (by omega),←h,hy];rfl
   rw[zfu e1 e2,Uc (by rw[Qb,hml];exact hi),Qb,hml,Qd,zfu hx hy]
   show some (0-x-(0-y))=some (-(x-y))
   congr 1
   omega
  ·rw[QB (by rw[zdm (by rw[Qb,Qb,JA,JA,h]),Qb,JA];omega),QB (by rw[JA,Qb,hml];omega)]
def tf(L:Nat)(r:Int):Int:=if r=0 then 0 else (L:Int)+1-r
theorem zhT{L:Nat}:∀{xs ys:List Int},(∀r∈xs,0<=r/\r<=L)->(∀r∈ys,0<=r/\r<=L)->decide (0<fnz (zaR (xs.map (tf L)) (ys.map (tf L))))=btr (xs.zip ys)
 |[],ys,_,_=>by cases ys <;> rfl
 |_::_,[],_,_=>rfl
 |x::xs,y::ys,hx,hy=>by
  have bx:=hx x Qo;have by':=hy y Qo;rw[List.zip_cons_cons,btr];show decide (0<if tf L x-tf L y=0 then fnz (zaR (xs.map (tf L)) (ys.map (tf L))) else tf L x-tf L y)=_
  by_cases e:x=y
  ·rw[Qm e,Qm (by rw[e];omega),zhT (λr h=>hx r (Qj _ h)) (λr h=>hy r (Qj _ h))]
  ·have hne:tf L x-tf L y≠0:=by unfold tf;split <;> split <;> omega
   rw[Qy e,Qy hne];apply JO.2;rw[Jn,Bool.or_eq_true,Ja,Jn,Jn,Jn];unfold tf
   split <;> split <;> omega
section
variable{cs:List Int}{ls:L3}{ws us:LO}{o:Ord}{old:Option LO}{ts:List Int}
theorem zgN(g:Good cs ls)(dl:Deal cs ls ws)(ga:zbC cs.length ls.length old ts):ts.map (zcc ls ws)=(ts.map (rgA ls ws)).map (tf (lng ls)):=by
 rw[Jd];apply JB;intro z hz;have h:=ga.there z hz;obtain ⟨a,rfl⟩:∃a:Nat,z=a:=⟨z.toNat,by omega⟩
 have hal:a<ls.length:=by omega
 have hwl:a<ws.length:=by have:=dl.len;omega
 have hls:ls[a]?=some ls[a]:=Qe hal;have hwa:ws[a]?=some ws[a]:=Qe hwl;have hg:=zjy hls hwa;show zcc ls ws a=tf (lng ls) (rgA ls ws a);unfold zcc rgA;rw[Qu,Qg,Qg,Qg,hwa,hls,hg];show (match ws[a] with|none=>(0:Int)|some t=>(lng ls:Int)+1-(zay t ls[a]:Nat))=tf (lng ls) (rg ls[a] ws[a])
 have hp:=λt (e:ws[a]=some t)=>zcz (dl.wish a t ls[a] (by rw[hwa,e]) hls)
 generalize ws[a]=w at hp
 cases w with
 |none=>rfl
 |some t=>
  have:=hp t rfl
  show _=tf (lng ls) ((zay t ls[a]:Nat):Int);unfold tf;rw[Qy (by omega)]
theorem zmy{z:Int}:0<=rgA ls ws z/\rgA ls ws z<=lng ls:=by
 unfold rgA;rw[Qg]
 cases h:(rgot ls ws)[z.toNat]? with
 |none=>exact ⟨QW 0,by show (0:Int)<=_;omega⟩
 |some r=>exact zfs r (Qq h)
end
def val(B:Int):List Int->Int
 |[]=>0
 |d::r=>d*B ^ r.length+val B r
theorem zgO{B:Int}(h:0<B)(n:Nat):0<B ^ n:=Int.pow_pos h
theorem zfv{B:Int}(hB:0<B):∀{l:List Int},(∀d∈l, -(B-1)<=d/\d<=B-1) -> -(B ^ l.length-1)<=val B l/\val B l<=B ^ l.length-1
 |[],_=>by simp[val]
 |d::r,h=>by
  have h1:=h d Qo;have h2:=zfv hB (l:=r) λx hx=>h x (Qj _ hx);have hp:=zgO hB r.length;rw[val,QG,Int.pow_succ];generalize B ^ r.length=P at h2 hp;generalize val B r=v at h2;have u1:d*P<=(B-1)*P:=Jr h1.2 (by omega)
  have u2 : -(B-1)*P<=d*P:=Jr h1.1 (by omega)
  have e1:(B-1)*P=P*B-P:=by rw[Int.sub_mul,Int.one_mul,Int.mul_comm]
  have e2 : -(B-1)*P = -(P*B-P):=by rw[Int.neg_mul,e1]
  omega
theorem zfw{X Y P:Int}(hP:0<P)(hY : -(P-1)<=Y/\Y<=P-1):(0<X*P+Y ↔ 0<X∨X=0/\0<Y)/\(X*P+Y=0 ↔ X=0/\Y=0):=by
 rcases Int.lt_trichotomy X 0 with h|h|h
 ·have:X*P <= -1*P:=Jr (by omega) (by omega)
  constructor <;> constructor <;> intro h' <;> omega
 ·subst h
  rw[Int.zero_mul]
  constructor <;> constructor <;> intro h' <;> omega
 ·have:1*P<=X*P:=Jr (by omega) (by omega)
  constructor <;> constructor <;> intro h' <;> omega
theorem ziX{B:Int}(hB:0<B):∀{l:List Int},(∀d∈l, -(B-1)<=d/\d<=B-1)->(0<val B l ↔ 0<fnz l)/\(val B l=0 ↔ fnz l=0)
 |[],_=>by simp[val,fnz]
 |d::r,h=>by
  have hr:=λx hx=>h x (Qj d hx);have ih:=ziX hB (l:=r) hr;have tp:=zfw (X:=d) (zgO hB r.length) (zfv hB hr);show (0<d*B ^ r.length+val B r ↔ 0<if d=0 then fnz r else d)/\(d*B ^ r.length+val B r=0 ↔ (if d=0 then fnz r else d)=0)
  by_cases hd:d=0
  ·rw[Qm hd]
   constructor
   ·rw[tp.1,ih.1];omega
   ·rw[tp.2,ih.2];omega
  ·rw[Qy hd]
   constructor
   ·rw[tp.1];omega
   ·rw[tp.2];omega
theorem zgP{B:Int}:∀{xs ys:List Int},xs.length=ys.length->val B (zaR xs ys)=val B xs-val B ys
 |[],[],_=>rfl
 |x::xs,y::ys,h=>by
  have hl:xs.length=ys.length:=by simpa using h
  show (x-y)*B ^ (zaR xs ys).length+val B (zaR xs ys)=_;rw[zgP hl,zdm hl,val,val,←hl,Int.sub_mul];omega
theorem zpE{B:Int}(l:List Int):val B (l.map λx=>-x) = -val B l:=by
 induction l with
 |nil=>rfl
 |cons d r ih=>rw[Qz,val,val,ih,Qb,Int.neg_mul];omega
theorem zhU{B:Int}:∀{xs:List Int}{p:Nat},p<xs.length->val B (zeO xs p 1)=val B xs+B ^ (xs.length-1-p)
 |x::xs,0,_=>by
  show (x+1)*B ^ xs.length+val B xs=x*B ^ xs.length+val B xs+B ^ xs.length;rw[Int.add_mul,Int.one_mul];omega
 |x::xs,p+1,h=>by
  have hp:p<xs.length:=by simpa using h
  have ih:=zhU (B:=B) hp
  have e:zeO (x::xs) (p+1) 1=x::zeO xs p 1:=by
   unfold zeO;rw[List.set_cons_succ]
   rfl
  rw[e,val,val,ih,zfr];have e2:(x::xs).length-1-(p+1)=xs.length-1-p:=by rw[QG];omega
  rw[e2];omega
theorem zmz{n p:Nat}{qs:List Nat}:zeO (cntP n qs) p 1=cntP n (p::qs):=by
 apply Jm;intro k
 by_cases hk:k<n
 ·rw[zhN (zc8 hk),zc8 hk,Q4]
  congr 1
  by_cases e:k=p
  ·rw[if_pos e,e,if_pos (by simp)];omega
  ·have:¬(p==k)=true:=by rw[beq_iff_eq];exact λz=>e z.symm
   rw[Qy e,Qy this];omega
 ·rw[QB (by rw[zfr,zbh];omega),QB (by rw[zbh];omega)]
theorem zmA{B:Int}(n:Nat):val B (replicate n 0)=0:=by
 induction n with
 |zero=>rfl
 |succ n ih=>rw[QR,val,ih,Int.zero_mul];rfl
theorem zgQ{B:Int}{n:Nat}:∀{qs:List Nat},(∀p∈qs,p<n)->val B (cntP n qs)=(qs.map λp=>B ^ (n-1-p)).sum
 |[],_=>by rw[zjC,zmA];rfl
 |p::qs,h=>by
  have hp:=h p Qo;rw[←zmz,zhU (by rw[zbh];exact hp),zgQ (λq hq=>h q (Qj _ hq)),zbh,Qz,Q7]
  omega
theorem zpF{B:Int}{n:Nat}:∀{qs:List Nat},(∀p∈qs,p<n)->val B (cntP n qs).reverse=(qs.map λp=>B ^ p).sum:=λ{qs} h=>by
 have e:(cntP n qs).reverse=cntP n (qs.map λp=>n-1-p):=by
  apply Jm;intro k
  by_cases hk:k<n
  ·rw[Uc (by rw[zbh];exact hk),zbh,zc8 (by omega),zc8 hk]
   congr 2
   rw[List.count,List.count,List.countP_map];apply List.countP_congr;intro p hp
   have:=h p hp
   simp only[Function.comp,beq_iff_eq];omega
  ·rw[QB (by rw[JA,zbh];omega),QB (by rw[zbh];omega)]
 rw[e,zgQ (λp hp=>by obtain ⟨q,hq,rfl⟩:=Qv.mp hp;have:=h q hq;omega),Jd]
 congr 1
 apply JB;intro p hp
 have:=h p hp
 show B ^ (n-1-(n-1-p))=B ^ p
 congr 1
 omega
def digO(o:Ord)(L:Nat)(qs:List Nat):List Int:=match o with
 |.firsts=>cntP L qs
 |.full=>(qs.length:Int)::cntP L qs
 |.lasts=>(qs.length:Int)::(cntP L qs).reverse.map λx=>-x
theorem zmB{α:Type}(f g:α->Int)(l:List α):(l.map λx=>f x+g x).sum=(l.map f).sum+(l.map g).sum:=by
 induction l with
 |nil=>rfl
 |cons a r ih=>rw[Qz,Q7,ih,Qz,Q7,Qz,Q7];omega
theorem zpG{α:Type}(f g:α->Int)(l:List α):(l.map λx=>f x-g x).sum=(l.map f).sum-(l.map g).sum:=by
 induction l with
 |nil=>rfl
 |cons a r ih=>rw[Qz,Q7,ih,Qz,Q7,Qz,Q7];omega
theorem zfx{α:Type}(c:Int)(l:List α):(l.map λ_=>c).sum=(l.length:Int)*c:=by
 induction l with
 |nil=>simp
 |cons a r ih=>rw[Qz,Q7,ih,QG,Int.natCast_add,Int.add_mul];omega
theorem zpH(o:Ord){B:Int}{L:Nat}{sr:List Int}(h:∀r∈sr,1<=r/\r<=L):(sr.map (ordW o B L)).sum=val B (digO o L (sr.map λr=>(r-1).toNat)):=by
 have hq:∀p∈sr.map (λr=>(r-1).toNat),p<L:=λp hp=>by
  obtain ⟨r,hr,rfl⟩:=Qv.mp hp
  have:=h r hr
  omega
 have e1:(sr.map λr=>B ^ ((L:Int)-r).toNat).sum=val B (cntP L (sr.map λr=>(r-1).toNat)):=by
  rw[zgQ hq,Jd]
  congr 1
  apply JB;intro r hr
  have:=h r hr
  show B ^ _=B ^ (L-1-(r-1).toNat)
  congr 1
  omega
 have e2:(sr.map λr=>B ^ (r-1).toNat).sum=val B (cntP L (sr.map λr=>(r-1).toNat)).reverse:=by
  rw[zpF hq,Jd]
  rfl
 have e3:(sr.map λ_=>B ^ (L:Int).toNat).sum=((sr.map λr=>(r-1).toNat).length:Int)*B ^ L:=by
  rw[zfx,Qb,Qu]
 cases o with
 |firsts=>exact e1
 |full=>
  show (sr.map λr=>B ^ (L:Int).toNat+B ^ ((L:Int)-r).toNat).sum=((sr.map λr=>(r-1).toNat).length:Int)*B ^ (cntP L (sr.map λr=>(r-1).toNat)).length+val B (cntP L (sr.map λr=>(r-1).toNat));rw[zmB,e1,e3,zbh]
 |lasts=>
  show (sr.map λr=>B ^ (L:Int).toNat-B ^ (r-1).toNat).sum=((sr.map λr=>(r-1).toNat).length:Int)*B ^ ((cntP L (sr.map λr=>(r-1).toNat)).reverse.map λx=>-x).length+val B ((cntP L (sr.map λr=>(r-1).toNat)).reverse.map λx=>-x);rw[zpG,e2,e3,zpE,Qb,Qb,JA,zbh];omega
def srv(got:List Int):List Int:=got.filter λr=>decide (r≠0)
def plQ(got:List Int):List Nat:=(srv got).map λr=>(r-1).toNat
theorem zga{L:Nat}{got:List Int}(h:okR L got):cnts L got=cntP L (plQ got)++[(got.length:Int)-(plQ got).length]:=by
 unfold cnts
 congr 1
 ·unfold cntP
  apply JB;intro p _
  congr 1
  unfold plQ srv;rw[List.count,List.count,List.countP_map,List.countP_filter];apply List.countP_congr;intro r hr
  have:=h r hr
  simp only[Function.comp,beq_iff_eq,Ja,Jn];omega
 ·congr 1
  unfold plQ srv;rw[Qb,List.count]
  have e:got.length=got.countP (λr=>decide (r≠0))+got.countP (λr=>r==0):=by
   rw[List.length_eq_countP_add_countP (p:=λr=>decide (r≠0))]
   congr 1
   apply List.countP_congr;intro r _;simp
  rw[List.countP_eq_length_filter] at e;omega
theorem zfy:∀{a b:List Int},a.length=b.length->fnz (zaR a b)=0->a=b
 |[],[],_,_=>rfl
 |x::a,y::b,h,e=>by
  have e:(if x-y=0 then fnz (zaR a b) else x-y)=0:=e
  by_cases hxy:x-y=0
  ·rw[Qm hxy] at e
   rw[zfy (by simpa using h) e,show x=y by omega]
  ·rw[Qy hxy] at e;exact absurd e hxy
theorem zjD{n:Nat}{qs:List Nat}(h:∀p∈qs,p<n):(cntP n qs).sum=qs.length:=zf7 qs n h
theorem zoD{L:Nat}{got:List Int}(h:okR L got):∀p∈plQ got,p<L:=λp hp=>by
 obtain ⟨r,hr,rfl⟩:=Qv.mp hp;obtain ⟨hr,h0⟩:=Jp.mp hr
 have:=h r hr
 have:r≠0:=by simpa using h0
 omega
theorem zn1{o:Ord}{L:Nat}{g1 g2:List Int}(h1:okR L g1)(h2:okR L g2)(hl:g1.length=g2.length):fnz (zeP o (cnts L g1) (cnts L g2))=fnz (zaR (digO o L (plQ g1)) (digO o L (plQ g2))):=by
 have hcl:(cnts L g1).length=(cnts L g2).length:=by rw[zcw,zcw]
 have hne:cnts L g1≠[]:=λe=>by have:=zcw L g1;rw[e] at this;cases this
 rw[←zmx hcl hne,zga h1,zga h2];have l1:=zbh L (plQ g1);have l2:=zbh L (plQ g2);have s1:=zjD (zoD h1);have s2:=zjD (zoD h2);generalize hc1:cntP L (plQ g1)=C1 at *;generalize hc2:cntP L (plQ g2)=C2 at *;have hC:C1.length=C2.length:=by rw[l1,l2]
 have last:∀(C:List Int)(z:Int),zcQ (C++[z])=z:=λC z=>by
  unfold zcQ;rw[Ql,Qg,Qr (by show C.length<=C.length+1-1;omega)]
  show ([z][C.length+1-1-C.length]?).getD 0=z;rw[show C.length+1-1-C.length=0 by omega]
  rfl
 have tail:fnz (zaR C1 C2++zaR [(g1.length:Int)-(plQ g1).length] [(g2.length:Int)-(plQ g2).length])=fnz (zaR C1 C2):=by
  rw[zpD]
  by_cases e:fnz (zaR C1 C2)=0
  ·have:=zfy hC e
   rw[Qm e,e];show (if (g1.length:Int)-(plQ g1).length-((g2.length:Int)-(plQ g2).length)=0 then (0:Int) else _)=0;rw[Qm (by rw[this] at s1;omega)]
  ·rw[Qy e]
 cases o with
 |firsts=>
  show fnz (zaR (C1++_) (C2++_))=fnz (zaR (cntP L (plQ g1)) (cntP L (plQ g2)));rw[hc1,hc2,zft hC,tail]
 |full=>
  show fnz (zaR ((0-zcQ (C1++_))::(C1++_)) ((0-zcQ (C2++_))::(C2++_)))=fnz (zaR (((plQ g1).length:Int)::cntP L (plQ g1)) (((plQ g2).length:Int)::cntP L (plQ g2)));rw[hc1,hc2,last,last];show (if (0-((g1.length:Int)-(plQ g1).length))-(0-((g2.length:Int)-(plQ g2).length))=0 then fnz (zaR (C1++_) (C2++_)) else _)=(if ((plQ g1).length:Int)-(plQ g2).length=0 then fnz (zaR C1 C2) else _);rw[zft hC,tail];have e:(0-((g1.length:Int)-(plQ g1).length))-(0-((g2.length:Int)-(plQ g2).length))=((plQ g1).length:Int)-(plQ g2).length:=by omega
  rw[e]
  congr 1
 |lasts=>
  show fnz (zaR ((C1++[_]).reverse.map λx=>0-x) ((C2++[_]).reverse.map λx=>0-x))=fnz (zaR (((plQ g1).length:Int)::(cntP L (plQ g1)).reverse.map λx=>-x) (((plQ g2).length:Int)::(cntP L (plQ g2)).reverse.map λx=>-x));rw[hc1,hc2,List.reverse_append,List.reverse_append];have e0:(λx:Int=>0-x)=λx=>-x:=by funext x;omega
  rw[e0];show (if -((g1.length:Int)-(plQ g1).length) - -((g2.length:Int)-(plQ g2).length)=0 then fnz (zaR (C1.reverse.map λx=>-x) (C2.reverse.map λx=>-x)) else _)=(if ((plQ g1).length:Int)-(plQ g2).length=0 then fnz (zaR (C1.reverse.map λx=>-x) (C2.reverse.map λx=>-x)) else _);have e : -((g1.length:Int)-(plQ g1).length) - -((g2.length:Int)-(plQ g2).length)=((plQ g1).length:Int)-(plQ g2).length:=by omega
  rw[e]
  congr 1
theorem zgR{W W1 W2:Nat->List (List Int)->Int->Int}{c:Int}(h:∀i rs t,W i rs t=W1 i rs t*c+W2 i rs t):∀(ls:L3)(ws:LO)(k:Nat),sumO (gotW W k ls ws)=sumO (gotW W1 k ls ws)*c+sumO (gotW W2 k ls ws)
 |[],_,_=>by simp[gotW,sumO]
 |_::_,[],_=>by simp[gotW,sumO]
 |rs::ls,o::ws,k=>by
  rw[gotW,gotW,gotW,zcB,zcB,zcB,zgR h ls ws (k+1),Int.add_mul]
  cases o with
  |none=>show (0:Int)+_=0*c+_+(0+_);rw[Int.zero_mul];omega
  |some t=>show W k rs t+_=W1 k rs t*c+_+(W2 k rs t+_);rw[h];omega
theorem zjE{f:Int->Int}:∀(ls:L3)(ws:LO)(k:Nat),(∀(i:Nat) t rs,ws[i]?=some (some t)->ls[i]?=some rs->zay t rs≠0)->sumO (gotW (λ_ rs t=>f (zay t rs:Nat)) k ls ws)=((srv (rgot ls ws)).map f).sum
 |[],_,_,_=>by simp[gotW,sumO,rgot,srv]
 |_::_,[],_,_=>by simp[gotW,sumO,rgot,srv]
 |rs::ls,o::ws,k,h=>by
  have ih:=zjE (f:=f) ls ws (k+1) λi t r h1 h2=>h (i+1) t r (by simpa using h1) (by simpa using h2)
  have e:rgot (rs::ls) (o::ws)=rg rs o::rgot ls ws:=rfl;rw[gotW,zcB,ih,e]
  cases o with
  |none=>
   have:srv (rg rs none::rgot ls ws)=srv (rgot ls ws):=rfl
   rw[this];show (0:Int)+_=_;omega
  |some t=>
   have h0:=h 0 t rs rfl rfl
   have:srv (rg rs (some t)::rgot ls ws)=((zay t rs:Nat):Int)::srv (rgot ls ws):=by
    unfold srv;rw[List.filter_cons_of_pos (by show decide (((zay t rs:Nat):Int)≠0)=true;simpa using h0)]
    rfl
   rw[this,Qz,Q7]
   rfl
theorem zew{W:Nat->List (List Int)->Int->Int}{h:Nat->Int}:∀(ls:L3)(ws:LO)(k:Nat),ws.length=ls.length->(∀(i:Nat) rs o,ls[i]?=some rs->ws[i]?=some o->(o.map (W (k+i) rs)).getD 0=h (k+i))->sumO (gotW W k ls ws)=((List.range ls.length).map λi=>h (k+i)).sum
 |[],[],_,_,_=>by simp[gotW,sumO]
 |rs::ls,o::ws,k,hl,hh=>by
  have ih:=zew (h:=h) ls ws (k+1) (by simpa using hl) λi rs' o' h1 h2=>by
   have:=hh (i+1) rs' o' (by simpa using h1) (by simpa using h2)
   rw[show k+1+i=k+(i+1) by omega]
   exact this
  have h0:=hh 0 rs o rfl rfl;rw[gotW,zcB,ih,QG,List.range_succ_eq_map,Qz,Q7,Jd];rw[Uh] at h0;rw[Uh,h0]
  congr 2
  apply JB;intro i _;show h (k+1+i)=h (k+(i+1));rw[show k+1+i=k+(i+1) by omega]
theorem zmC{c:Int}{a:Nat}:∀n:Nat,((List.range n).map λi=>if i=a then c else 0).sum=if a<n then c else 0
 |0=>by simp
 |n+1=>by
  rw[Ua,QC,JE,zmC n];show _+((if n=a then c else 0)+0)=_
  by_cases h:a<n
  ·rw[Qm h,Qy (by omega),Qm (by omega)];omega
  ·by_cases h2:n=a
   ·rw[Qy h,Qm h2,Qm (by omega)];omega
   ·rw[Qy h,Qy h2,Qy (by omega)];omega
theorem zjF{b:Int}{g:Int->Int}{n:Nat}:∀{ts:List Int},ts.Nodup->(∀a∈ts,0<=a/\a<n)->((List.range n).map λi:Nat=>if (i:Int)∈ts then g i*b ^ (ts.length-1-ts.idxOf (i:Int)) else 0).sum=val b (ts.map g)
 |[],_,_=>by
  have:(λi:Nat=>if (i:Int)∈([]:List Int) then g i*b ^ (([]:List Int).length-1-([]:List Int).idxOf (i:Int)) else 0)=λ_=>(0:Int):=by funext i;rw[if_neg (by simp)]
  rw[this,zfx];simp[val]
 |a::r,hn,hb=>by
  obtain ⟨ha,hr⟩:=Up.mp hn;have h0:=hb a Qo;have ih:=zjF (b:=b) (g:=g) (n:=n) hr λx hx=>hb x (Qj _ hx)
  have e:(λi:Nat=>if (i:Int)∈a::r then g i*b ^ ((a::r).length-1-(a::r).idxOf (i:Int)) else 0) =
    λi:Nat=>(if i=a.toNat then g a*b ^ r.length else 0)+(if (i:Int)∈r then g i*b ^ (r.length-1-r.idxOf (i:Int)) else 0):=by
   funext i
   by_cases h:(i:Int)=a
   ·have hi:i=a.toNat:=by omega
    rw[Qm (by rw[h];exact Qo),Qm hi,Qy (by rw[h];exact ha),h,List.idxOf_cons_self,QG]
    simp
   ·have hi:¬i=a.toNat:=by omega
    rw[Qy hi,JR]
    by_cases h2:(i:Int)∈r
    ·have hb:(a==(i:Int))=false:=by simpa using Ne.symm h
     rw[Qm (Qj _ h2),Qm h2,List.idxOf_cons,hb,QG];show g i*b ^ (r.length+1-1-(r.idxOf (i:Int)+1))=_
     congr 2
     omega
    ·rw[if_neg h2,if_neg (by simp[h,h2])]
  rw[e,zmB,zmC,Qm (by omega),ih,Qz,val,Qb]
section
variable{cs:List Int}{ls:L3}{ws us:LO}{o:Ord}{old:Option LO}{ts:List Int}
theorem zmD(hl:ws.length=ls.length)(ga:zbC cs.length ls.length old ts):sumO (gotW (λi rs t=>zhP ts (lng ls+1) i (zay t rs:Nat)) 0 ls ws)=val ((lng ls:Int)+1) (ts.map (zcc ls ws)):=by
 rw[zew (h:=λi:Nat=>if (i:Int)∈ts then zcc ls ws i*((lng ls:Int)+1) ^ (ts.length-1-ts.idxOf (i:Int)) else 0) ls ws 0 hl,←zjF ga.once ga.there]
 ·congr 2
  funext i
  rw[QP]
 ·intro i rs o' h1 h2
  rw[QP]
  have e:zcc ls ws (i:Int)=(o'.map λt=>(lng ls:Int)+1-(zay t rs:Nat)).getD 0:=by
   unfold zcc;rw[Qu,Qg,Qg,h1,h2]
   cases o' <;> rfl
  rw[e]
  cases o' with
  |none=>
   show (0:Int)=if (i:Int)∈ts then 0*_ else 0;split
   ·rw[Int.zero_mul]
   ·rfl
  |some t=>rfl
theorem zhV{os:LO}:∀(ls:L3)(ws:LO)(k:Nat),ws.length=ls.length->sumO (gotW (λi _ t=>if os[i]?=some (some t) then 1 else 0) k ls ws)=((((os.drop k).zip ws).filter λp=>decide (p.1=p.2)&&p.2.isSome).length:Nat)
 |[],[],k,_=>by simp[gotW,sumO]
 |rs::ls,o::ws,k,hl=>by
  have ih:=zhV (os:=os) ls ws (k+1) (by simpa using hl)
  rw[gotW,zcB,ih]
  by_cases hk:k<os.length
  ·rw[Q8 hk,List.zip_cons_cons,Qe hk]
   cases o with
   |none=>rw[List.filter_cons_of_neg (by simp)];show (0:Int)+_=_;omega
   |some t=>
    show (if some os[k]=some (some t) then (1:Int) else 0)+_=_
    by_cases e:os[k]=some t
    ·rw[if_pos (by rw[e]),List.filter_cons_of_pos (by simp[e]),List.length_cons];omega
    ·rw[if_neg (by simpa using e),List.filter_cons_of_neg (by simp[e])];omega
  ·rw[J4 (by omega),J4 (by omega),List.zip_nil_left,List.zip_nil_left,QB (by omega)]
   cases o with
   |none=>rfl
   |some t=>rfl
theorem zn2(hl:ws.length=ls.length):sumO (gotW (λi _ t=>zev old i t) 0 ls ws)=(zcD old ws:Int):=by
 cases old with
 |none=>
  rw[zew (h:=λ_=>0) ls ws 0 hl,zfx]
  ·simp[zcD]
  ·intro i rs o' _ _
   cases o' <;> rfl
 |some os=>exact zhV ls ws 0 hl
theorem zhW(dl:Deal cs ls ws)(ga:zbC cs.length ls.length old ts):sumO (gotW (worW ls o old ts) 0 ls ws) =
  (val ((ls.length:Int)+1) (digO o (lng ls) (plQ (rgot ls ws)))*((ls.length:Int)+1)+zcD old ws)*((lng ls:Int)+1) ^ ts.length+val ((lng ls:Int)+1) (ts.map (zcc ls ws)):=by
 rw[zgR (W:=worW ls o old ts) (W1:=λi rs t=>ordW o (ls.length+1) (lng ls) (zay t rs:Nat)*((ls.length:Int)+1)+zev old i t) (W2:=λi rs t=>zhP ts (lng ls+1) i (zay t rs:Nat)) (c:=((lng ls:Int)+1) ^ ts.length) (λ_ _ _=>rfl) ls ws 0,
  zgR (W1:=λi rs t=>ordW o (ls.length+1) (lng ls) (zay t rs:Nat)) (W2:=λi _ t=>zev old i t) (c:=(ls.length:Int)+1) (λ_ _ _=>rfl) ls ws 0,zmD dl.len ga,zn2 dl.len,
  zjE (f:=λr=>ordW o (ls.length+1) (lng ls) r) ls ws 0 (λi t rs h1 h2=>zcz (dl.wish i t rs h1 h2)),zpH o]
 ·rfl
 ·intro r hr
  obtain ⟨hr,h0⟩:=Jp.mp hr
  have:=zfs (ls:=ls) (ws:=ws) r hr
  have:r≠0:=by simpa using h0
  omega
end
theorem zgS{lo n:Int}{a b:List Int}(ha:∀x∈a,lo<=x/\x<=lo+n)(hb:∀x∈b,lo<=x/\x<=lo+n):∀d∈zaR a b, -n<=d/\d<=n:=λd hd=>by
 unfold zaR at hd;obtain ⟨p,hp,rfl⟩:=Qv.mp hd;obtain ⟨h1,h2⟩:=List.of_mem_zip (a:=p.1) (b:=p.2) hp
 have:=ha _ h1
 have:=hb _ h2
 omega
theorem zgT{n:Nat}{qs:List Nat}{m:Int}(h:(qs.length:Int)<=m):∀x∈cntP n qs,0<=x/\x<=0+m:=λx hx=>by
 unfold cntP at hx;obtain ⟨p,_,rfl⟩:=Qv.mp hx
 have:=List.count_le_length (a:=p) (l:=qs)
 omega
theorem zn3(o:Ord)(L:Nat)(p q:List Nat):(digO o L p).length=(digO o L q).length:=by
 cases o <;> simp[digO,zbh]
theorem zpI(o:Ord){L:Nat}{p q:List Nat}{m:Int}(hp:(p.length:Int)<=m)(hq:(q.length:Int)<=m):∀d∈zaR (digO o L p) (digO o L q), -m<=d/\d<=m:=by
 have hc:=zgS (zgT (n:=L) hp) (zgT (n:=L) hq)
 cases o with
 |firsts=>exact hc
 |full=>
  intro d hd;rcases QU.mp (show d∈((p.length:Int)-q.length)::zaR (cntP L p) (cntP L q) from hd) with rfl|h
  ·omega
  ·exact hc d h
 |lasts=>
  intro d hd;rcases QU.mp (show d∈((p.length:Int)-q.length)::zaR ((cntP L p).reverse.map λx=>-x) ((cntP L q).reverse.map λx=>-x) from hd) with rfl|h
  ·omega
  ·refine zgS (lo:=-m) (n:=m) (λx hx=>?_) (λx hx=>?_) d h
   ·obtain ⟨y,hy,rfl⟩:=Qv.mp hx
    have:=zgT (n:=L) hp y (List.mem_reverse.mp hy)
    omega
   ·obtain ⟨y,hy,rfl⟩:=Qv.mp hx
    have:=zgT (n:=L) hq y (List.mem_reverse.mp hy)
    omega
theorem zkx{a a' k k' t t' B P:Int}:((a*B+k)*P+t)-((a'*B+k')*P+t')=((a-a')*B+(k-k'))*P+(t-t'):=by
 have e:(a-a')*B+(k-k')=(a*B+k)-(a'*B+k'):=by rw[Int.sub_mul];omega
 rw[e,Int.sub_mul (a*B+k)];omega
section
variable{cs:List Int}{ls:L3}{ws us:LO}{o:Ord}{old:Option LO}{ts:List Int}
theorem zmE:((plQ (rgot ls ws)).length:Int)<=ls.length:=by
 have h1:(plQ (rgot ls ws)).length<=(rgot ls ws).length:=by
  unfold plQ srv;rw[Qb];exact JM _ _
 have h2:(rgot ls ws).length<=ls.length:=by unfold rgot;rw[Uj];omega
 omega
theorem zhX(hl:ws.length=ls.length):(zcD old ws:Int)<=ls.length:=by
 cases old with
 |none=>show ((0:Nat):Int)<=_;omega
 |some os=>
  have h:=JM (λp:Option Int×Option Int=>decide (p.1=p.2)&&p.2.isSome) (os.zip ws);rw[List.length_zip] at h;show ((((os.zip ws).filter λp=>decide (p.1=p.2)&&p.2.isSome).length:Nat):Int)<=_;omega
theorem zjG(g:Good cs ls)(dl:Deal cs ls ws)(ga:zbC cs.length ls.length old ts):∀x∈ts.map (zcc ls ws),0<=x/\x<=0+(lng ls:Int):=λx hx=>by
 rw[zgN g dl ga] at hx;obtain ⟨y,hy,rfl⟩:=Qv.mp hx;obtain ⟨z,_,rfl⟩:=Qv.mp hy
 have:=zmy (ls:=ls) (ws:=ws) (z:=z)
 unfold tf
 split <;> omega
theorem zky(g:Good cs ls)(d1:Deal cs ls ws)(d2:Deal cs ls us)(ga:zbC cs.length ls.length old ts){w1 w2:Int}(e1:w1=sumO (gotW (worW ls o old ts) 0 ls ws))(e2:w2=sumO (gotW (worW ls o old ts) 0 ls us)) :
  (w2<w1 ↔ 0<fnz (zeP o (cnts (lng ls) (rgot ls ws)) (cnts (lng ls) (rgot ls us)))∨fnz (zeP o (cnts (lng ls) (rgot ls ws)) (cnts (lng ls) (rgot ls us)))=0/\((zcD old us:Int)<zcD old ws∨(zcD old ws:Int)=zcD old us/\0<fnz (zaR (ts.map (zcc ls ws)) (ts.map (zcc ls us))))) /\
  (w1=w2 ↔ fnz (zeP o (cnts (lng ls) (rgot ls ws)) (cnts (lng ls) (rgot ls us)))=0/\(zcD old ws:Int)=zcD old us/\fnz (zaR (ts.map (zcc ls ws)) (ts.map (zcc ls us)))=0):=by
 have hgl:(rgot ls ws).length=(rgot ls us).length:=by rw[zgL d1.len,zgL d2.len]
 rw[zn1 (zfs (ls:=ls) (ws:=ws)) (zfs (ls:=ls) (ws:=us)) hgl];have hB:(0:Int)<(ls.length:Int)+1:=by omega
 have hM:(0:Int)<(lng ls:Int)+1:=by omega
 have bd1:=zpI o (L:=lng ls) (zmE (ls:=ls) (ws:=ws)) (zmE (ls:=ls) (ws:=us));have bd2:=zgS (zjG g d1 ga) (zjG g d2 ga);have k1:=zhX (old:=old) d1.len;have k2:=zhX (old:=old) d2.len;have hl1:=zn3 o (lng ls) (plQ (rgot ls ws)) (plQ (rgot ls us));have hl2:(ts.map (zcc ls ws)).length=(ts.map (zcc ls us)).length:=by rw[Qb,Qb]
 have v1:=zgP (B:=(ls.length:Int)+1) hl1;have v2:=zgP (B:=(lng ls:Int)+1) hl2;have ml:(zaR (ts.map (zcc ls ws)) (ts.map (zcc ls us))).length=ts.length:=by rw[zdm hl2,Qb]
 have f1:=ziX hB (l:=zaR (digO o (lng ls) (plQ (rgot ls ws))) (digO o (lng ls) (plQ (rgot ls us)))) (λd hd=>by have:=bd1 d hd;omega)
 have f2:=ziX hM (l:=zaR (ts.map (zcc ls ws)) (ts.map (zcc ls us))) (λd hd=>by have:=bd2 d hd;omega)
 have sm:=zfv hM (l:=zaR (ts.map (zcc ls ws)) (ts.map (zcc ls us))) (λd hd=>by have:=bd2 d hd;omega)
 rw[ml] at sm;have tp1:=zfw (X:=val ((ls.length:Int)+1) (zaR (digO o (lng ls) (plQ (rgot ls ws))) (digO o (lng ls) (plQ (rgot ls us))))) (Y:=(zcD old ws:Int)-zcD old us) hB (by omega)
 have tp2:=zfw (X:=val ((ls.length:Int)+1) (zaR (digO o (lng ls) (plQ (rgot ls ws))) (digO o (lng ls) (plQ (rgot ls us))))*((ls.length:Int)+1)+((zcD old ws:Int)-zcD old us)) (zgO hM ts.length) sm
 have df:w1-w2=(val ((ls.length:Int)+1) (zaR (digO o (lng ls) (plQ (rgot ls ws))) (digO o (lng ls) (plQ (rgot ls us))))*((ls.length:Int)+1)+((zcD old ws:Int)-zcD old us))*((lng ls:Int)+1) ^ ts.length+val ((lng ls:Int)+1) (zaR (ts.map (zcc ls ws)) (ts.map (zcc ls us))):=by
  rw[e1,e2,zhW d1 ga,zhW d2 ga,v1,v2];exact zkx
 rw[←df] at tp2;generalize val ((ls.length:Int)+1) (zaR (digO o (lng ls) (plQ (rgot ls ws))) (digO o (lng ls) (plQ (rgot ls us))))*((ls.length:Int)+1)+((zcD old ws:Int)-zcD old us)=X at tp1 tp2;generalize val ((ls.length:Int)+1) (zaR (digO o (lng ls) (plQ (rgot ls ws))) (digO o (lng ls) (plQ (rgot ls us))))=V at tp1 f1;generalize val ((lng ls:Int)+1) (zaR (ts.map (zcc ls ws)) (ts.map (zcc ls us)))=Y at tp2 f2;generalize fnz (zaR (digO o (lng ls) (plQ (rgot ls ws))) (digO o (lng ls) (plQ (rgot ls us))))=A at f1 ⊢;generalize fnz (zaR (ts.map (zcc ls ws)) (ts.map (zcc ls us)))=C at f2 ⊢;constructor
 ·constructor
  ·intro h
   rcases tp2.1.mp (by omega) with h1|⟨h1,h2⟩
   ·rcases tp1.1.mp h1 with h3|⟨h3,h4⟩
    ·exact .inl (f1.1.mp h3)
    ·exact .inr ⟨f1.2.mp h3,.inl (by omega)⟩
   ·obtain ⟨h3,h4⟩:=tp1.2.mp h1
    exact .inr ⟨f1.2.mp h3,.inr ⟨by omega,f2.1.mp h2⟩⟩
  ·intro h
   have:0<w1-w2:=tp2.1.mpr (by
    rcases h with h|⟨h,h2|⟨h2,h3⟩⟩
    ·exact .inl (tp1.1.mpr (.inl (f1.1.mpr h)))
    ·exact .inl (tp1.1.mpr (.inr ⟨f1.2.mpr h,by omega⟩))
    ·exact .inr ⟨tp1.2.mpr ⟨f1.2.mpr h,by omega⟩,f2.1.mpr h3⟩)
   omega
 ·constructor
  ·intro h
   obtain ⟨h1,h2⟩:=tp2.2.mp (by omega)
   obtain ⟨h3,h4⟩:=tp1.2.mp h1;exact ⟨f1.2.mp h3,by omega,f2.2.mp h2⟩
  ·rintro ⟨h1,h2,h3⟩
   have:=tp2.2.mpr ⟨tp1.2.mpr ⟨f1.2.mpr h1,by omega⟩,f2.2.mpr h3⟩
   omega
theorem zmF(g:Good cs ls)(d1:Deal cs ls ws)(d2:Deal cs ls us)(ga:zbC cs.length ls.length old ts) :
  betW o (cnts (lng ls) (rgot ls ws)) (cnts (lng ls) (rgot ls us)) (zcD old ws) (zcD old us) (ts.map (rgA ls ws)) (ts.map (rgA ls us))=decide (sumO (gotW (worW ls o old ts) 0 ls us)<sumO (gotW (worW ls o old ts) 0 ls ws)):=by
 have ht:=zhT (L:=lng ls) (xs:=ts.map (rgA ls ws)) (ys:=ts.map (rgA ls us)) (λr h=>by obtain ⟨z,_,rfl⟩:=Qv.mp h;exact zmy) (λr h=>by obtain ⟨z,_,rfl⟩:=Qv.mp h;exact zmy)
 rw[←zgN g d1 ga,←zgN g d2 ga] at ht;have hs:=(zky (o:=o) g d1 d2 ga rfl rfl).1;unfold betW;rw[←ht];apply JO.2;rw[Jn,hs];generalize fnz (zeP o (cnts (lng ls) (rgot ls ws)) (cnts (lng ls) (rgot ls us)))=A;generalize fnz (zaR (ts.map (zcc ls ws)) (ts.map (zcc ls us)))=C
 by_cases h:A=0
 ·rw[Qm h]
  by_cases h2:(zcD old ws:Int)=zcD old us
  ·rw[Qm h2,Jn];omega
  ·rw[Qy h2,Jn];omega
 ·rw[Qy h,Jn];omega
end
theorem zn4{xs:List D}{a b:Option Int}:(DL.cutD xs a b).length<=xs.length:=by
 unfold DL.cutD;rw[QZ,Jj];omega
theorem zn5{xs:List D}{a b:Option Int}{x:D}(h:x∈DL.cutD xs a b):x∈xs:=by
 unfold DL.cutD at h;exact List.mem_of_mem_drop (List.mem_of_mem_take h)
theorem zmG{ns:List Int}{n:Int}{a b:Option Int}{i:Nat}{x:D}(h:(int n::DL.cutD (ns.map int) a b)[i]?=some x):∃c:Int,x=.int c:=by
 have hm:=Qq h;rcases QU.mp hm with rfl|hm
 ·exact ⟨n,rfl⟩
 ·obtain ⟨c,_,rfl⟩:=Qv.mp (zn5 hm)
  exact ⟨c,rfl⟩
theorem zmH{ns:List Int}{n:Int}{a b:Option Int}(h:ns.length<=1000):oAdd (.list [.int n]) (.list (DL.cutD (ns.map int) a b))=some (.list (int n::DL.cutD (ns.map int) a b)):=zca (by
 have:=zn4 (xs:=ns.map int) (a:=a) (b:=b)
 rw[Qb] at this;show 1+_<=_
 omega)
theorem zkz{α β:Type}{f:α->β}(hf:∀a b,f a=f b->a=b){l:List α}(h:l.Nodup):(l.map f).Nodup:=by
 unfold List.Nodup at h ⊢;rw[Uf];exact h.imp λhne e=>hne (hf _ _ e)
theorem zex:∀(ls:L3)(k:Nat),(∀rs∈ls,rs.flatten.Nodup)->(allW k ls).Nodup
 |[],_,_=>List.nodup_nil
 |rs::ls,k,h=>by
  show ((zcO rs.flatten).map (λt=>((k:Int),t))++allW (k+1) ls).Nodup;rw[List.nodup_append];refine ⟨?_,zex ls (k+1) λr hr=>h r (Qj _ hr),λa ha b hb e=>?_⟩
  ·exact zkz (λx y e=>(Prod.mk.inj e).2) ((zbk _).nodup_iff.mpr (h rs Qo))
  ·subst e
   obtain ⟨t,_,rfl⟩:=Qv.mp ha
   have:=zgF ls (k+1) _ hb
   simp at this;omega
def papD(tm:Int)(as ps:List Int):D:=.tuple [.int tm,.list (as.map int),.list (ps.map int)]
def zpJ(ps cs:List Int):List Int:=(ps.zip cs).map λp=>p.1*p.2
def zjH(cs as ps:List Int):Int:=as.sum+(zpJ ps cs).sum
theorem zmI{cs:List Int}{ls:L3}(g:Good cs ls):∀q∈allW 0 ls,(0<=q.1/\q.1<ls.length)/\0<=q.2/\q.2<cs.length:=λq hq=>by
 obtain ⟨i,rs,h1,h2,h3⟩:=zb2 hq
 have:=(g.rk rs (Qq h1)).flat q.2 h3
 have:=(Qh.mp h1).1
 omega
section
variable{cs:List Int}{ls:L3}{o:Ord}{old:Option LO}{ts:List Int}
theorem zn6(g:Good cs ls)(ga:zbC cs.length ls.length old ts){q:Int×Int}(hq:q∈allW 0 ls):0<=worV ls o old ts q.1 q.2/\worV ls o old ts q.1 q.2<18446744073709551616:=by
 obtain ⟨i,rs,h1,h2,h3⟩:=zb2 hq;have l7:=g.l7;have l1:=g.l1;have hL:lng ls<=5:=zf6 l1 λrs h=>(g.rk rs h).few;have hrl:=zhL (Qq h1);have hr1:1<=zay q.2 rs:=by have:=zcz h3;omega
 have hr2:zay q.2 rs<=lng ls:=by have:=zd6 q.2 rs;omega
 have htl:=ga.few
 have e:worV ls o old ts q.1 q.2=worW ls o old ts i rs q.2:=by
  unfold worV;rw[h2,QP,Qu]
  congr 1
  simp[List.getD,h1]
 rw[e];unfold worW;have pw:∀{b:Int}{n k:Nat},1<=b->b<=8->n<=k->1<=b ^ n/\b ^ n<=8 ^ k:=λ{b n k} h0 h8 hk=>⟨Int.pow_pos h0,zhR (by omega) h8 hk⟩
 have hb1:(1:Int)<=(ls.length:Int)+1:=by omega
 have hb8:(ls.length:Int)+1<=8:=by omega
 have hM1:(1:Int)<=(lng ls:Int)+1:=by omega
 have hM8:(lng ls:Int)+1<=8:=by omega
 have a1:=pw hb1 hb8 (n:=lng ls) (k:=5) hL;have a2:=pw hb1 hb8 (n:=((lng ls:Int)-(zay q.2 rs:Nat)).toNat) (k:=5) (by omega)
 have a3:=pw hb1 hb8 (n:=((zay q.2 rs:Nat)-1:Int).toNat) (k:=5) (by omega)
 have a4:((ls.length:Int)+1) ^ ((zay q.2 rs:Nat)-1:Int).toNat<=((ls.length:Int)+1) ^ lng ls:=by
  have:((zay q.2 rs:Nat)-1:Int).toNat<=lng ls:=by omega
  obtain ⟨k,hk⟩:=Nat.exists_eq_add_of_le this;rw[hk,Int.pow_add]
  have:=(pw hb1 hb8 (n:=k) (k:=5) (by omega)).1
  have hm:=Int.mul_le_mul_of_nonneg_left this (show 0<=((ls.length:Int)+1) ^ ((zay q.2 rs:Nat)-1:Int).toNat by omega)
  rw[Int.mul_one] at hm;exact hm
 have b1:0<=ordW o (ls.length+1) (lng ls) (zay q.2 rs)/\ordW o (ls.length+1) (lng ls) (zay q.2 rs)<=65536:=by
  cases o with
  |firsts=>show 0<=_ ^ _/\_ ^ _<=65536;omega
  |full=>
   show 0<=_ ^ ((lng ls:Int)).toNat+_ ^ _/\_ ^ ((lng ls:Int)).toNat+_ ^ _<=65536;rw[Qu];omega
  |lasts=>
   show 0<=_ ^ ((lng ls:Int)).toNat-_ ^ _/\_ ^ ((lng ls:Int)).toNat-_ ^ _<=65536;rw[Qu];omega
 have b2:0<=zev old i q.2/\zev old i q.2<=1:=by
  unfold zev;split
  ·omega
  ·split <;> omega
 have b3:=pw hM1 hM8 (n:=ts.length) (k:=7) (by omega)
 have b4:0<=zhP ts ((lng ls:Int)+1) i (zay q.2 rs)/\zhP ts ((lng ls:Int)+1) i (zay q.2 rs)<=8*8 ^ 7:=by
  unfold zhP;split
  ·have b5:=pw hM1 hM8 (n:=ts.length-1-ts.idxOf (i:Int)) (k:=7) (by omega)
   refine ⟨Int.mul_nonneg (by omega) (by omega),?_⟩
   exact Int.mul_le_mul (by omega) b5.2 (by omega) (by decide)
  ·exact ⟨by omega,by decide⟩
 have c1:0<=ordW o (ls.length+1) (lng ls) (zay q.2 rs)*(ls.length+1)+zev old i q.2/\ordW o (ls.length+1) (lng ls) (zay q.2 rs)*(ls.length+1)+zev old i q.2<=600000:=by
  have d1:0<=ordW o (ls.length+1) (lng ls) (zay q.2 rs)*((ls.length:Int)+1):=Int.mul_nonneg b1.1 (by omega)
  have d2:ordW o (ls.length+1) (lng ls) (zay q.2 rs)*((ls.length:Int)+1)<=65536*8:=Int.mul_le_mul b1.2 hb8 (by omega) (by decide)
  omega
 have d3:0<=(ordW o (ls.length+1) (lng ls) (zay q.2 rs)*(ls.length+1)+zev old i q.2)*((lng ls:Int)+1) ^ ts.length:=Int.mul_nonneg c1.1 (by omega)
 have d4:(ordW o (ls.length+1) (lng ls) (zay q.2 rs)*(ls.length+1)+zev old i q.2)*((lng ls:Int)+1) ^ ts.length<=600000*8 ^ 7:=Int.mul_le_mul c1.2 b3.2 (by omega) (by decide)
 omega
end
structure OkP(n m:Nat)(V:Int->Int->Int)(qs:LP)(tm:Int)(as ps:List Int):Prop where
 t0:0<=tm
 la:as.length=m
 lp:ps.length=n
 aa:∀a∈as,0<=a
 pp:∀p∈ps,0<=p
 le:∀q∈qs,tm*V q.1 q.2<=as.getD q.1.toNat 0+ps.getD q.2.toNat 0
def pz(ps:List Int)(ws:LO):Int:=(ws.map λo=>match o with|some t=>ps.getD t.toNat 0|none=>0).sum
def sumF(n:Nat)(f:Nat->Int):Int:=((List.range n).map f).sum
theorem zcC{n:Nat}{f:Nat->Int}:sumF (n+1) f=sumF n f+f n:=by
 unfold sumF;rw[Ua,QC,JE];simp
theorem zjI{f h:Nat->Int}:∀(n:Nat),sumF n (λk=>f k+h k)=sumF n f+sumF n h
 |0=>rfl
 |n+1=>by rw[zcC,zcC,zcC,zjI n];omega
theorem zgU{f h:Nat->Int}:∀(n:Nat),(∀k,k<n->f k<=h k)->sumF n f<=sumF n h
 |0,_=>QW _
 |n+1,e=>by
  have h1:=zgU n λk hk=>e k (by omega)
  have h2:=e n (by omega)
  rw[zcC,zcC];omega
theorem zfz:∀(n:Nat)(f:Nat->Int),(∀k,k<n->f k=0)->sumF n f=0
 |0,_,_=>rfl
 |n+1,f,e=>by rw[zcC,zfz n f λk hk=>e k (by omega),e n (by omega)];rfl
theorem zjJ{p:Nat->Int}{j:Nat}:∀(n:Nat),j<n->sumF n (λk=>if k=j then p k else 0)=p j
 |n+1,h=>by
  rw[zcC]
  by_cases e:n=j
  ·subst e
   rw[Qm rfl,zfz n _ λk hk=>Qy (by omega)]
   omega
  ·rw[Qy e,zjJ n (by omega)]
   omega
theorem zey{f h:Nat->Int}{n:Nat}(e:∀k,k<n->f k=h k):sumF n f=sumF n h:=JP (zgU n λk hk=>by rw[e k hk];exact QW _) (zgU n λk hk=>by rw[e k hk];exact QW _)
theorem zfA{ps:List Int}{n:Nat}:∀(ws:LO),(∀t,some t∈ws->0<=t/\t<n)->pz ps ws=sumF n λk=>((ws.count (some (k:Int)):Nat):Int)*ps.getD k 0
 |[],_=>by
  rw[zfz n _ λk _=>by simp]
  rfl
 |o::ws,h=>by
  have ih:=zfA (ps:=ps) ws λt ht=>h t (Qj _ ht)
  cases o with
  |none=>
   show ((0:Int)::(ws.map λo=>match o with|some t=>ps.getD t.toNat 0|none=>0)).sum=_
   rw[Q7];unfold pz at ih;rw[ih,JR];exact zey λk _=>by rw[List.count_cons];simp
  |some t=>
   have ht:=h t Qo;show (ps.getD t.toNat 0::(ws.map λo=>match o with|some t=>ps.getD t.toNat 0|none=>0)).sum=_
   rw[Q7];unfold pz at ih;rw[ih,←zjJ (p:=λk=>ps.getD k 0) (j:=t.toNat) n (by omega),←zjI]
   refine zey λk _=>?_;rw[Q4]
   by_cases e:k=t.toNat
   ·subst e
    have:(some t==some ((t.toNat:Nat):Int))=true:=by simp;omega
    rw[Qm rfl,Qm this,Int.natCast_add,Int.add_mul];omega
   ·have:¬(some t==some ((k:Nat):Int))=true:=by simp;omega
    rw[Qy e,Qy this,JR,Uh]
theorem zgb:∀(ps cs:List Int),ps.length=cs.length->(zpJ ps cs).sum=sumF cs.length λk=>cs.getD k 0*ps.getD k 0
 |ps,cs,h=>by
  unfold sumF zpJ
  congr 1
  apply Jm;intro i;rw[Qd,Qd]
  by_cases hi:i<cs.length
  ·rw[QS hi]
   have h1:ps[i]?=some ps[i]:=Qe (by omega)
   have h2:cs[i]?=some cs[i]:=Qe hi;have hz:(ps.zip cs)[i]?=some (ps[i],cs[i]):=List.getElem?_zip_eq_some.mpr ⟨h1,h2⟩;rw[hz];simp only[Option.map_some,Qg,h1,h2,JV,Int.mul_comm]
  ·rw[QB (l:=ps.zip cs) (by rw[List.length_zip];omega),QB (l:=List.range cs.length) (by rw[Qp];omega)]
   rfl
structure Stp where
 a:Nat
 b:Nat
 g:Int
 w:Option Nat
abbrev Tab:=List (Int×List Stp)
def ent(T:Tab)(p:Nat):Int×List Stp:=T.getD p (0,[])
def zc9(W T:Tab)(s:Stp):Tab:=if (ent T s.b).1<(ent W s.a).1+s.g then T.set s.b ((ent W s.a).1+s.g,(ent W s.a).2++[s]) else T
def zjK(W:Tab)(S:List Stp):Tab:=S.foldl (zc9 W) W
def zaJ(n:Nat)(S:List Stp):Nat->Tab
 |0=>replicate n (0,[])
 |t+1=>zjK (zaJ n S t) S
theorem zhY{T:Tab}{p:Nat}{x:Int×List Stp}(h:p<T.length):ent (T.set p x) p=x:=by
 unfold ent;rw[Qg,QF h];rfl
theorem zez{T:Tab}{p q:Nat}{x:Int×List Stp}(h:p≠q):ent (T.set p x) q=ent T q:=by
 unfold ent;rw[Qg,Qs h,←Qg]
theorem zmJ(W T:Tab)(s:Stp):(zc9 W T s).length=T.length:=by
 unfold zc9;split
 ·rw[Q6]
 ·rfl
structure zgc(W T:Tab)(S:List Stp):Prop where
 len:T.length=W.length
 up:∀p,(ent W p).1<=(ent T p).1
 how:∀p,ent T p=ent W p ∨ ∃s∈S,s.b=p/\ent T p=((ent W s.a).1+s.g,(ent W s.a).2++[s])/\(ent W p).1<(ent T p).1
theorem zhZ{W T:Tab}{S:List Stp}{s:Stp}(hs:s∈S)(hb:s.b<W.length)(k:zgc W T S):zgc W (zc9 W T s) S/\(∀p,(ent T p).1<=(ent (zc9 W T s) p).1)/\(ent W s.a).1+s.g<=(ent (zc9 W T s) s.b).1:=by
 have hbT:s.b<T.length:=by rw[k.len];exact hb
 unfold zc9;split
 ·rename_i h
  have self:=zhY (x:=((ent W s.a).1+s.g,(ent W s.a).2++[s])) hbT;refine ⟨⟨by rw[Q6];exact k.len,λp=>?_,λp=>?_⟩,λp=>?_,by rw[self];exact QW _⟩
  ·by_cases z:s.b=p
   ·subst z;rw[self];have:=k.up s.b;show _<=(ent W s.a).1+s.g;omega
   ·rw[zez z];exact k.up p
  ·by_cases z:s.b=p
   ·subst z;right;exact ⟨s,hs,rfl,self,by rw[self];have:=k.up s.b;show _<(ent W s.a).1+s.g;omega⟩
   ·rw[zez z];exact k.how p
  ·by_cases z:s.b=p
   ·subst z;rw[self];show _<=(ent W s.a).1+s.g;omega
   ·rw[zez z];exact QW _
 ·rename_i h
  exact ⟨k,λp=>QW _,by omega⟩
theorem zfB{W:Tab}{S:List Stp}(hS:∀s∈S,s.b<W.length):∀(R:List Stp)(T:Tab),(∀s∈R,s∈S)->zgc W T S->zgc W (R.foldl (zc9 W) T) S/\(∀p,(ent T p).1<=(ent (R.foldl (zc9 W) T) p).1)/\∀s∈R,(ent W s.a).1+s.g<=(ent (R.foldl (zc9 W) T) s.b).1
 |[],T,_,k=>⟨k,λ_=>QW _,λs h=>by cases h⟩
 |s::R,T,hR,k=>by
  obtain ⟨k1,u1,c1⟩:=zhZ (hR s Qo) (hS s (hR s Qo)) k;obtain ⟨k2,u2,c2⟩:=zfB hS R (zc9 W T s) (λx hx=>hR x (Qj _ hx)) k1;refine ⟨k2,λp=>JQ (u1 p) (u2 p),λx hx=>?_⟩;rcases QU.mp hx with rfl|hx
  ·exact JQ c1 (u2 x.b)
  ·exact c2 x hx
theorem zea{W:Tab}{S:List Stp}(hS:∀s∈S,s.b<W.length):zgc W (zjK W S) S/\∀s∈S,(ent W s.a).1+s.g<=(ent (zjK W S) s.b).1:=by
 obtain ⟨k,_,c⟩:=zfB hS S W (λ_ h=>h) ⟨rfl,λ_=>QW _,λ_=>.inl rfl⟩;exact ⟨k,c⟩
section
variable{n:Nat}{S:List Stp}(hS:∀s∈S,s.a<n/\s.b<n)
include hS
theorem zcA:∀t,(zaJ n S t).length=n
 |0=>by unfold zaJ;rw[QD]
 |t+1=>by
  unfold zaJ;rw[(zea (λs h=>by rw[zcA t];exact (hS s h).2)).1.len,zcA t]
theorem zb5(t:Nat):zgc (zaJ n S t) (zaJ n S (t+1)) S/\∀s∈S,(ent (zaJ n S t) s.a).1+s.g<=(ent (zaJ n S (t+1)) s.b).1 :=
 zea (λs h=>by rw[zcA hS t];exact (hS s h).2)
theorem zeb(p:Nat):ent (zaJ n S 0) p=(0,[]):=by
 unfold ent zaJ;rw[Qg,QA]
 split <;> rfl
theorem zdt:∀t,(∀p,(ent (zaJ n S t) p).2.length<=t)/\(∀p,0<t->ent (zaJ n S t) p≠ent (zaJ n S (t-1)) p->(ent (zaJ n S t) p).2.length=t)
 |0=>⟨λp=>by rw[zeb hS];exact Qx _,λp h=>absurd h (Jv _)⟩
 |t+1=>by
  obtain ⟨h1,h2⟩:=zdt t;obtain ⟨k,c⟩:=zb5 hS t
  have key:∀p,ent (zaJ n S (t+1)) p≠ent (zaJ n S t) p->(ent (zaJ n S (t+1)) p).2.length=t+1:=λp hne=>by
   rcases k.how p with e|⟨s,hs,hb,e,lt⟩
   ·exact absurd e hne
   ·rw[e,Ql,Jh]
    congr 1
    cases t with
    |zero=>rw[zeb hS];rfl
    |succ t=>
     refine h2 s.a (Nat.succ_pos t) λz=>?_;obtain ⟨k0,c0⟩:=zb5 hS t
     have:=c0 s hs
     rw[J6] at z;rw[e,z,←hb] at lt;exact absurd lt (by show ¬_<(ent (zaJ n S t) s.a).1+s.g;omega)
  refine ⟨λp=>?_,λp _ hne=>key p (by rw[J6] at hne;exact hne)⟩
  by_cases z:ent (zaJ n S (t+1)) p=ent (zaJ n S t) p
  ·rw[z];exact Nat.le_succ_of_le (h1 p)
  ·rw[key p z];exact Qx _
end
inductive Walk(S:List Stp):Nat->List Stp->Prop where
 |nil (p:Nat):Walk S p []
 |snoc {w:List Stp} {s:Stp} (hs:s∈S) (h:Walk S s.a w):Walk S s.b (w++[s])
def gain(w:List Stp):Int:=(w.map Stp.g).sum
theorem zjL:gain []=0:=rfl
theorem zbD(u v:List Stp):gain (u++v)=gain u+gain v:=by unfold gain;rw[QC,JE]
theorem zdu(s:Stp):gain [s]=s.g:=by unfold gain;simp
section
variable{n:Nat}{S:List Stp}(hS:∀s∈S,s.a<n/\s.b<n)
include hS
theorem zdn:∀t p,Walk S p (ent (zaJ n S t) p).2/\gain (ent (zaJ n S t) p).2=(ent (zaJ n S t) p).1
 |0,p=>by rw[zeb hS];exact ⟨.nil p,rfl⟩
 |t+1,p=>by
  rcases (zb5 hS t).1.how p with e|⟨s,hs,hb,e,_⟩
  ·rw[e];exact zdn t p
  ·obtain ⟨h1,h2⟩:=zdn t s.a
   rw[e,←hb];exact ⟨.snoc hs h1,by rw[zbD,zdu,h2]⟩
theorem zh0{t u:Nat}(h:t<=u)(p:Nat):(ent (zaJ n S t) p).1<=(ent (zaJ n S u) p).1:=by
 induction h with
 |refl=>exact QW _
 |step _ ih=>exact JQ ih ((zb5 hS _).1.up p)
theorem zmK{p:Nat}{w:List Stp}(h:Walk S p w):∀(t:Nat),w.length<=t->gain w<=(ent (zaJ n S t) p).1:=by
 induction h with
 |nil p=>
  intro t _
  have:=zh0 hS (JY t) p
  rw[zeb hS] at this;exact this
 |@snoc w s hs h ih=>
  intro t hl;rw[Ql,Jh] at hl;obtain ⟨u,rfl⟩:∃u,t=u+1:=⟨t-1,by omega⟩
  have:=ih u (by omega)
  have:=(zb5 hS u).2 s hs
  rw[zbD,zdu];omega
theorem zkA{t:Nat}(h0:0<t)(h:∀p,p<n->(ent (zaJ n S t) p).2.length≠t):∀s∈S,(ent (zaJ n S t) s.a).1+s.g<=(ent (zaJ n S t) s.b).1:=λs hs=>by
 obtain ⟨u,rfl⟩:∃u,t=u+1:=⟨t-1,by omega⟩
 have e:ent (zaJ n S (u+1)) s.a=ent (zaJ n S u) s.a:=Classical.byContradiction λz=>h s.a (hS s hs).1 ((zdt hS (u+1)).2 s.a h0 z);rw[e];exact (zb5 hS u).2 s hs
end
inductive Path(S:List Stp):Nat->List Stp->Nat->Prop where
 |nil (p:Nat):Path S p [] p
 |cons {s:Stp} {w:List Stp} {p:Nat} (hs:s∈S) (h:Path S s.b w p):Path S s.a (s::w) p
section
variable{S:List Stp}
theorem Path.append{q m p:Nat}{u v:List Stp}(h1:Path S q u m)(h2:Path S m v p):Path S q (u++v) p:=by
 induction h1 with
 |nil p=>exact h2
 |cons hs h ih=>exact .cons hs (ih h2)
theorem Path.split{p:Nat}{v:List Stp}:∀{u:List Stp}{q:Nat},Path S q (u++v) p->∃m,Path S q u m/\Path S m v p
 |[],q,h=>⟨q,.nil q,h⟩
 |s::u,q,h=>by
  cases h with
  |cons hs h=>
   obtain ⟨m,h1,h2⟩:=Path.split (u:=u) h;exact ⟨m,.cons hs h1,h2⟩
theorem Path.mem{q p:Nat}{w:List Stp}(h:Path S q w p):∀s∈w,s∈S:=by
 induction h with
 |nil p=>intro s h;cases h
 |cons hs h ih=>
  intro s hm;rcases QU.mp hm with rfl|hm
  ·exact hs
  ·exact ih s hm
theorem Walk.path{p:Nat}{w:List Stp}(h:Walk S p w):∃q,Path S q w p:=by
 induction h with
 |nil p=>exact ⟨p,.nil p⟩
 |snoc hs h ih=>
  obtain ⟨q,hq⟩:=ih;exact ⟨q,hq.append (.cons hs (.nil _))⟩
theorem Path.walk{p:Nat}:∀{w:List Stp}{q:Nat},Path S q w p->∀{u:List Stp},Walk S q u->Walk S p (u++w)
 |[],q,h,u,hu=>by cases h;rw[Ji];exact hu
 |s::w,q,h,u,hu=>by
  cases h with
  |cons hs h=>
   have:=Path.walk h (Walk.snoc hs hu)
   rw[Jl] at this;exact this
theorem Path.head{q p:Nat}{s:Stp}{w:List Stp}(h:Path S q (s::w) p):q=s.a:=by cases h;rfl
theorem Path.step{q p:Nat}{s:Stp}{w:List Stp}(h:Path S q (s::w) p):s∈S/\Path S s.b w p:=by cases h with|cons hs h=>exact ⟨hs,h⟩
theorem Path.at{q p:Nat}{w:List Stp}(h:Path S q w p){i:Nat}{s:Stp}(hi:w[i]?=some s):Path S q (w.take i) s.a/\Path S q (w.take (i+1)) s.b/\Path S s.b (w.drop (i+1)) p:=by
 have hl:i<w.length:=(Qh.mp hi).1
 have e:w.drop i=s::w.drop (i+1):=by
  rw[Q8 hl]
  congr 1
  exact (Qh.mp hi).2
 have h':Path S q (w.take i++w.drop i) p:=by rw[Ud];exact h
 obtain ⟨m,h1,h2⟩:=h'.split;rw[e] at h2;have hm:=h2.head;subst hm;obtain ⟨hs,h3⟩:=h2.step;refine ⟨h1,?_,h3⟩;rw[JL,hi];exact h1.append (.cons hs (.nil _))
theorem Path.next{q p:Nat}{w:List Stp}(h:Path S q w p){i:Nat}{s t:Stp}(hi:w[i]?=some s)(hj:w[i+1]?=some t):t.a=s.b:=by
 obtain ⟨_,_,h3⟩:=h.at hi;have hl:i+1<w.length:=(Qh.mp hj).1;rw[Q8 hl] at h3;rw[←(Qh.mp hj).2];exact h3.head.symm
structure ziY(w:List Stp)(i j:Nat):Prop where
 ij:i<=j
 jl:j<w.length
 same:∀s t,w[i]?=some s->w[j]?=some t->s.a=t.b
 first:∀j'<j,∀i' ≤ j',∀s t,w[i']?=some s->w[j']?=some t->s.a≠t.b
def zmL(w:List Stp):Prop:=∀j<w.length,∀i ≤ j,∀s t,w[i]?=some s->w[j]?=some t->s.a≠t.b
theorem zn7{n:Nat}(hS:∀s∈S,s.a<n/\s.b<n){q p:Nat}{w:List Stp}(h:Path S q w p)(hl:n<=w.length)(h0:0<n):¬zmL w:=λhn=>by
 obtain ⟨s0,w0,rfl⟩:∃s0 w0,w=s0::w0:=by
  cases w with
  |nil=>rw[QQ] at hl;omega
  |cons a b=>exact ⟨a,b,rfl⟩
 let P:List Nat:=s0.a::(s0::w0).map Stp.b
 have key:∀k l:Nat,k<l->∀x y:Nat,P[k]?=some x->P[l]?=some y->x≠y:=λk l hkl x y hx hy=>by
  obtain ⟨l,rfl⟩:∃m,l=m+1:=⟨l-1,by omega⟩
  have hy:((s0::w0).map Stp.b)[l]?=some y:=hy;rw[Qd] at hy
  cases ht:(s0::w0)[l]? with
  |none=>rw[ht] at hy;cases hy
  |some t=>
  rw[ht] at hy;cases hy;have hll:l<(s0::w0).length:=(Qh.mp ht).1;obtain ⟨s,hs⟩:∃s,(s0::w0)[k]?=some s:=⟨_,Qe (by omega)⟩
  have hxs:x=s.a:=by
   cases k with
   |zero=>cases hs;cases hx;rfl
   |succ k=>
    have hx:((s0::w0).map Stp.b)[k]?=some x:=hx;rw[Qd] at hx;obtain ⟨r,hr⟩:∃r,(s0::w0)[k]?=some r:=⟨_,Qe (by omega)⟩
    rw[hr] at hx;cases hx;exact (h.next hr hs).symm
  rw[hxs];exact hn l hll k (by omega) s t hs ht
 have nd:P.Nodup:=by
  rw[List.nodup_iff_pairwise_ne,List.pairwise_iff_getElem];intro k l hk hl2 hkl;exact key k l hkl _ _ (Qe hk) (Qe hl2)
 have bound:∀x∈P,x<n:=λx hx=>by
  rcases QU.mp hx with rfl|hx
  ·exact (hS s0 h.step.1).1
  ·obtain ⟨s,hs,rfl⟩:=Qv.mp hx
   exact (hS s (h.mem s hs)).2
 have le:P.length<=n:=by
  have:=List.Nodup.length_le_of_subset nd (l₂:=List.range n) λx hx=>Q5.mpr (bound x hx)
  rwa[Qp] at this
 have:P.length=(s0::w0).length+1:=by show ((s0::w0).map Stp.b).length+1=_;rw[Qb]
 omega
theorem zkB{n:Nat}(hS:∀s∈S,s.a<n/\s.b<n)(h0:0<n){p:Nat}(hw:(ent (zaJ n S n) p).2.length=n){i j:Nat}(r:ziY (ent (zaJ n S n) p).2 i j) :
  ∃x,Path S x (((ent (zaJ n S n) p).2.take (j+1)).drop i) x/\0<gain (((ent (zaJ n S n) p).2.take (j+1)).drop i):=by
 obtain ⟨hwk,hg⟩:=zdn hS n p;generalize hW:(ent (zaJ n S n) p).2=w at hw r hwk hg ⊢;obtain ⟨q,hp⟩:=hwk.path;have hij:=r.ij;have hjl:=r.jl;obtain ⟨s,hs⟩:∃s,w[i]?=some s:=⟨_,Qe (by omega)⟩
 obtain ⟨t,ht⟩:∃t,w[j]?=some t:=⟨_,Qe hjl⟩;have hst:=r.same s t hs ht;obtain ⟨a1,a2,a3⟩:=hp.at hs;obtain ⟨b1,b2,b3⟩:=hp.at ht
 have e1:w.take (j+1)=w.take i++(w.take (j+1)).drop i:=by
  have:=(Ud i (w.take (j+1))).symm
  rw[List.take_take,Nat.min_eq_left (by omega)] at this
  exact this
 rw[e1] at b2;obtain ⟨m,c1,c2⟩:=b2.split
 have hm:m=s.a:=by
  have e2:(w.take (j+1)).drop i=s::(w.take (j+1)).drop (i+1):=by
   rw[Q8 (by rw[QZ];omega)]
   congr 1
   rw[List.getElem_take];exact (Qh.mp hs).2
  rw[e2] at c2;exact c2.head
 subst hm;rw[←hst] at c2 b3;refine ⟨s.a,c2,?_⟩;have hsh:Path S q (w.take i++w.drop (j+1)) p:=a1.append b3;have hshw:=hsh.walk (u:=[]) (.nil q);rw[JC] at hshw;have hlen:(w.take i++w.drop (j+1)).length<=n-1:=by rw[Ql,QZ,Jj];omega
 have most:=zmK hS hshw (n-1) hlen
 have hgw:gain w=gain (w.take i)+gain ((w.take (j+1)).drop i)+gain (w.drop (j+1)):=by
  rw[←zbD,←e1,←zbD,Ud]
 rw[zbD] at most
 have lt:(ent (zaJ n S (n-1)) p).1<(ent (zaJ n S n) p).1:=by
  obtain ⟨k,_⟩:=zb5 hS (n-1);rw[Nat.sub_add_cancel h0] at k;rcases k.how p with e|⟨_,_,_,_,lt⟩
  ·have:=(zdt hS (n-1)).1 p
   rw[←e,hW,hw] at this;omega
  ·exact lt
 omega
theorem ziZ{q p:Nat}{w:List Stp}(h:Path S q w p){i j:Nat}(r:ziY w i j):(((w.take (j+1)).drop i).map Stp.a).Nodup:=by
 rw[List.nodup_iff_pairwise_ne,List.pairwise_iff_getElem];intro k l hk hl hkl;have hij:=r.ij;have hjl:=r.jl;simp only[Qb,Jj,QZ] at hk hl;simp only[JW,List.getElem_drop,List.getElem_take];obtain ⟨m,rfl⟩:∃m,l=m+1:=⟨l-1,by omega⟩
 have e1:w[i+m]?=some w[i+m]:=Qe (by omega)
 have e2:w[i+m+1]?=some w[i+(m+1)]:=Qe (by omega)
 have e3:w[i+k]?=some w[i+k]:=Qe (by omega)
 rw[h.next e1 e2];exact r.first (i+m) (by omega) (i+k) (by omega) _ _ e3 e1
end
def hadO(f:Int×Int->Int)(i:Nat):Option Int->Int
 |none=>0
 |some t=>f ((i:Int),t)
def plF(n:Nat):Option Int->Nat
 |none=>n
 |some t=>t.toNat
def unpl(n b:Nat):Option Int:=if b=n then none else some (b:Int)
def totF(f:Int×Int->Int)(k:Nat):LO->Int
 |[]=>0
 |o::r=>hadO f k o+totF f (k+1) r
theorem zjM(f:Int×Int->Int){o':Option Int}:∀{d:LO}{k i:Nat}{o:Option Int},d[i]?=some o->totF f k (d.set i o')=totF f k d+hadO f (k+i) o'-hadO f (k+i) o
 |[],_,_,_,h=>by cases h
 |x::d,k,0,o,h=>by
  cases h;show hadO f k o'+totF f (k+1) d=hadO f k x+totF f (k+1) d+hadO f k o'-hadO f k x
  omega
 |x::d,k,i+1,o,h=>by
  rw[List.set_cons_succ];unfold totF;rw[zjM f (d:=d) (k:=k+1) (i:=i) (o:=o) (by simpa using h),show k+1+i=k+(i+1) by omega]
  omega
theorem zh1{o' x:Option Int}:∀{d:LO}{i:Nat}{o:Option Int},d[i]?=some o->(((d.set i o').count x:Nat):Int)=(d.count x:Nat)+(if o'=x then 1 else 0)-(if o=x then 1 else 0)
 |[],_,_,h=>by cases h
 |y::d,0,o,h=>by
  cases h;rw[List.set_cons_zero,Q4,Q4]
  by_cases h1:o'=x <;> by_cases h2:y=x <;> simp[h1,h2] <;> omega
 |y::d,i+1,o,h=>by
  have ih:=zh1 (o':=o') (x:=x) (d:=d) (i:=i) (o:=o) (by simpa using h)
  rw[List.set_cons_succ,Q4,Q4];omega
structure zb1(cs:List Int)(qs:LP)(m:Nat)(ws:LO):Prop where
 len:ws.length=m
 wish:∀(i:Nat) t,ws[i]?=some (some t)->((i:Int),t)∈qs
 cop:∀(k:Nat) c,cs[k]?=some c->((ws.count (some (k:Int)):Nat):Int)<=c
structure zcR(n m:Nat)(qs:LP):Prop where
 nd:qs.Nodup
 lo:∀q∈qs,0<=q.1/\q.1<m/\0<=q.2/\q.2<n
inductive IsSt(cs:List Int)(f:Int×Int->Int)(qs:LP)(ws:LO):Stp->Prop where
 |mv {i:Nat} {o o':Option Int} (h:ws[i]?=some o) (hne:o'≠o) (hq:∀t,o'=some t->((i:Int),t)∈qs):IsSt cs f qs ws ⟨plF cs.length o,plF cs.length o',hadO f i o'-hadO f i o,some i⟩
 |left {t:Nat} {c:Int} (h:cs[t]?=some c) (hl:((ws.count (some (t:Int)):Nat):Int)<c):IsSt cs f qs ws ⟨t,cs.length,0,none⟩
 |give {t:Nat} (h:t<cs.length):IsSt cs f qs ws ⟨cs.length,t,0,none⟩
def app(n:Nat)(d:LO)(s:Stp):LO:=match s.w with
 |some i=>d.set i (unpl n s.b)
 |none=>d
def nIn(t:Nat)(R:List Stp):Nat:=(R.filter λs=>s.w.isSome&&s.b==t).length
def nOut(t:Nat)(R:List Stp):Nat:=(R.filter λs=>s.w.isSome&&s.a==t).length
section
variable{cs:List Int}{f:Int×Int->Int}{qs:LP}{m:Nat}{ws:LO}
theorem zrU(hp:zcR cs.length m qs){i:Nat}{o:Option Int}(h:∀t,o=some t->((i:Int),t)∈qs):unpl cs.length (plF cs.length o)=o:=by
 cases o with
 |none=>unfold unpl plF;rw[Qm rfl]
 |some t=>
  have:=hp.lo _ (h t rfl)
  show (if t.toNat=cs.length then none else some ((t.toNat:Nat):Int))=some t;rw[Qy (by omega)]
  congr 1
  omega
theorem zjN(hp:zcR cs.length m qs){i:Nat}{o:Option Int}{t:Nat}(ht:t<cs.length)(h:∀t,o=some t->((i:Int),t)∈qs):plF cs.length o=t ↔ o=some (t:Int):=by
 cases o with
 |none=>exact ⟨λe=>by have e:cs.length=t:=e;omega,λe=>by cases e⟩
 |some u=>
  have:=hp.lo _ (h u rfl)
  show u.toNat=t ↔ _;constructor
  ·intro e;congr 1;omega
  ·intro e;cases e;omega
theorem zeX(hp:zcR cs.length m qs)(hd:zb1 cs qs m ws):∀(R:List Stp)(d:LO),(∀s∈R,IsSt cs f qs ws s)->(R.map Stp.a).Nodup->(∀s∈R,∀i,s.w=some i->d[i]?=ws[i]?)->d.length=ws.length->(∀(i:Nat) t,d[i]?=some (some t)->((i:Int),t)∈qs) ->
  totF f 0 (R.foldl (app cs.length) d)=totF f 0 d+gain R/\(R.foldl (app cs.length) d).length=ws.length/\(∀(i:Nat) t,(R.foldl (app cs.length) d)[i]?=some (some t)->((i:Int),t)∈qs) /\
  ∀t,t<cs.length->(((R.foldl (app cs.length) d).count (some (t:Int)):Nat):Int)=(d.count (some (t:Int)):Nat)+(nIn t R:Nat)-(nOut t R:Nat)
 |[],d,_,_,_,hl,hq=>⟨by show _=_+gain [];rw[zjL];show totF f 0 d=_;omega,hl,hq,λt _=>by show ((d.count _:Nat):Int)=_+((0:Nat):Int)-((0:Nat):Int);omega⟩
 |s::R,d,hR,hn,ha,hl,hq=>by
  rw[Qz,List.nodup_cons] at hn;have hgc:gain (s::R)=s.g+gain R:=by show gain ([s]++R)=_;rw[zbD,zdu]
  rw[J8,hgc]
  cases hR s Qo with
  |@mv i o o' h hne hq'=>
   have hdi:d[i]?=some o:=(ha _ Qo i rfl).trans h;have ho:∀t,o=some t->((i:Int),t)∈qs:=λt e=>hd.wish i t (by rw[h,e])
   have hil:i<d.length:=(Qh.mp hdi).1
   have eapp:app cs.length d ⟨plF cs.length o,plF cs.length o',hadO f i o'-hadO f i o,some i⟩=d.set i o':=by
    show d.set i (unpl cs.length (plF cs.length o'))=_;rw[zrU hp hq']
   rw[eapp]
   obtain ⟨k1,k2,k3,k4⟩:=zeX hp hd R (d.set i o') (λs hs=>hR s (Qj _ hs)) hn.2 (λs hs j hj=>by
    have hji:i≠j:=λz=>by
     subst z
     cases hR s (Qj _ hs) with
     |@mv i2 o2 o2' h2 _ _=>
      cases hj;rw[h] at h2
      cases h2;exact hn.1 (Qv.mpr ⟨_,hs,rfl⟩)
     |left _ _=>cases hj
     |give _=>cases hj
    rw[Qs hji];exact ha s (Qj _ hs) j hj) (by rw[Q6];exact hl) (λj t e=>by
    by_cases z:i=j
    ·subst z
     rw[QF hil] at e;cases e;exact hq' t rfl
    ·rw[Qs z] at e;exact hq j t e)
   refine ⟨?_,k2,k3,λt ht=>?_⟩
   ·rw[k1,zjM f hdi,QP]
    show _=totF f 0 d+((hadO f i o'-hadO f i o)+gain R);omega
   ·rw[k4 t ht,zh1 hdi]
    have e1:(if o'=some (t:Int) then (1:Int) else 0)=if plF cs.length o'=t then 1 else 0:=by
     by_cases z:o'=some (t:Int)
     ·rw[Qm z,Qm ((zjN hp ht hq').mpr z)]
     ·rw[Qy z,Qy (λy=>z ((zjN hp ht hq').mp y))]
    have e2:(if o=some (t:Int) then (1:Int) else 0)=if plF cs.length o=t then 1 else 0:=by
     by_cases z:o=some (t:Int)
     ·rw[Qm z,Qm ((zjN hp ht ho).mpr z)]
     ·rw[Qy z,Qy (λy=>z ((zjN hp ht ho).mp y))]
    have e3:∀(x:Nat),((nIn t (⟨plF cs.length o,plF cs.length o',hadO f i o'-hadO f i o,some i⟩::R):Nat):Int)=(if plF cs.length o'=t then 1 else 0)+(nIn t R:Nat):=λx=>by
     unfold nIn;rw[List.filter_cons]
     by_cases z:plF cs.length o'=t
     ·rw[if_pos z,if_pos (by simp[z]),List.length_cons];omega
     ·rw[if_neg z,if_neg (by simp[z])];omega
    have e4:∀(x:Nat),((nOut t (⟨plF cs.length o,plF cs.length o',hadO f i o'-hadO f i o,some i⟩::R):Nat):Int)=(if plF cs.length o=t then 1 else 0)+(nOut t R:Nat):=λx=>by
     unfold nOut;rw[List.filter_cons]
     by_cases z:plF cs.length o=t
     ·rw[if_pos z,if_pos (by simp[z]),List.length_cons];omega
     ·rw[if_neg z,if_neg (by simp[z])];omega
    rw[e1,e2,e3 0,e4 0];omega
  |left _ _=>
   obtain ⟨k1,k2,k3,k4⟩:=zeX hp hd R d (λs hs=>hR s (Qj _ hs)) hn.2 (λs hs=>ha s (Qj _ hs)) hl hq;refine ⟨?_,k2,k3,k4⟩;show totF f 0 (R.foldl _ d)=totF f 0 d+(0+gain R);rw[k1];omega
  |give _=>
   obtain ⟨k1,k2,k3,k4⟩:=zeX hp hd R d (λs hs=>hR s (Qj _ hs)) hn.2 (λs hs=>ha s (Qj _ hs)) hl hq;refine ⟨?_,k2,k3,k4⟩;show totF f 0 (R.foldl _ d)=totF f 0 d+(0+gain R);rw[k1];omega
theorem zoE(t:Nat):∀R:List Stp,nIn t R<=(R.map Stp.b).count t
 |[]=>Qx _
 |s::R=>by
  have ih:=zoE t R;unfold nIn at ih ⊢;rw[List.filter_cons,Qz,Q4];split
  ·rename_i h
   rw[Ja] at h;rw[QG,Qm h.2];omega
  ·omega
theorem zn8(hp:zcR cs.length m qs)(hd:zb1 cs qs m ws){R:List Stp}(hR:∀s∈R,IsSt cs f qs ws s)(hn:(R.map Stp.a).Nodup)(hb:(R.map Stp.b).Perm (R.map Stp.a)):zb1 cs qs m (R.foldl (app cs.length) ws)/\totF f 0 (R.foldl (app cs.length) ws)=totF f 0 ws+gain R:=by
 obtain ⟨k1,k2,k3,k4⟩:=zeX hp hd R ws hR hn (λs hs i e=>rfl) rfl hd.wish;refine ⟨⟨by rw[k2];exact hd.len,k3,λt c hc=>?_⟩,k1⟩
 have ht:t<cs.length:=(Qh.mp hc).1;rw[k4 t ht];have h0:=hd.cop t c hc;have h1:(R.map Stp.a).count t<=1:=List.nodup_iff_count.mp hn t;have h2:=zoE t R;rw[hb.count_eq] at h2
 by_cases z:nIn t R=0
 ·omega
 ·have hin:nIn t R=1:=by omega
  have hmem:t∈R.map Stp.a:=List.count_pos_iff.mp (by omega)
  obtain ⟨s,hs,hst⟩:=Qv.mp hmem
  cases hR s hs with
  |@mv i o o' h hne hq'=>
   have:1<=nOut t R:=by
    unfold nOut;exact List.length_pos_iff.mpr (List.ne_nil_of_mem (List.mem_filter.mpr ⟨hs,by simpa using hst⟩))
   omega
  |@left u c' h hl=>
   have hst:u=t:=hst;subst hst;rw[h] at hc;cases hc;omega
  |@give u h=>
   have hst:cs.length=t:=hst;omega
end
theorem zpK{S:List Stp}{q p:Nat}{w:List Stp}(h:Path S q w p):w.map Stp.a++[p]=q::w.map Stp.b:=by
 induction h with
 |nil p=>rfl
 |cons hs h ih=>rw[Qz,Qz,List.cons_append,ih]
theorem zkC{S:List Stp}{x:Nat}{w:List Stp}(h:Path S x w x):(w.map Stp.b).Perm (w.map Stp.a):=by
 have e:=zpK h;have p1:(w.map Stp.a++[x]).Perm (x::w.map Stp.a):=List.perm_append_comm;rw[e] at p1;exact List.Perm.cons_inv p1
def zco(f:Int×Int->Int)(V:Nat->Int)(qs:LP)(i:Int):Int:=qs.foldl (λa q=>if q.1=i then max a (f q-V q.2.toNat) else a) 0
theorem zdv(f:Int×Int->Int)(V:Nat->Int)(i:Int):∀(qs:LP)(a:Int),a<=qs.foldl (λa q=>if q.1=i then max a (f q-V q.2.toNat) else a) a /\
  (∀q∈qs,q.1=i->f q-V q.2.toNat<=qs.foldl (λa q=>if q.1=i then max a (f q-V q.2.toNat) else a) a) /\
  ∀B,a<=B->(∀q∈qs,q.1=i->f q-V q.2.toNat<=B)->qs.foldl (λa q=>if q.1=i then max a (f q-V q.2.toNat) else a) a<=B
 |[],a=>⟨QW _,(λq h=>by cases h),λB h _=>h⟩
 |q::qs,a=>by
  rw[J8];obtain ⟨h1,h2,h3⟩:=zdv f V i qs (if q.1=i then max a (f q-V q.2.toNat) else a);have hb:a<=(if q.1=i then max a (f q-V q.2.toNat) else a):=by split <;> omega
  refine ⟨JQ hb h1,λp hp e=>?_,λB ha hB=>h3 B ?_ λp hp=>hB p (Qj _ hp)⟩
  ·rcases QU.mp hp with rfl|hp
   ·rw[Qm e] at h1 ⊢
    omega
   ·exact h2 p hp e
  ·have:=hB q Qo
   split
   ·rename_i e
    have:=this e
    omega
   ·exact ha
theorem zh2{f:Int×Int->Int}{ps:List Int}:∀(ws:LO)(k:Nat)(A:Nat->Int),(∀(j:Nat) o,ws[j]?=some o->A (k+j)=hadO f (k+j) o-(match o with|some t=>ps.getD t.toNat 0|none=>0))->((List.range' k ws.length).map A).sum=totF f k ws-pz ps ws
 |[],k,A,_=>by show (0:Int)=0-0;omega
 |o::ws,k,A,h=>by
  rw[QG,List.range'_succ,Qz,Q7,zh2 ws (k+1) A λj o' e=>by
   have:=h (j+1) o' (by simpa using e)
   rw[show k+1+j=k+(j+1) by omega]
   exact this]
  have h0:=h 0 o rfl;rw[Uh] at h0;rw[h0]
  cases o with
  |none=>show hadO f k none-0+(totF f (k+1) ws-pz ps ws)=hadO f k none+totF f (k+1) ws-(0+pz ps ws);omega
  |some t=>show hadO f k (some t)-ps.getD t.toNat 0+(totF f (k+1) ws-pz ps ws)=hadO f k (some t)+totF f (k+1) ws-(ps.getD t.toNat 0+pz ps ws);omega
section
variable{cs:List Int}{f:Int×Int->Int}{qs:LP}{m:Nat}{ws:LO}{S:List Stp}
theorem IsSt.lt(hp:zcR cs.length m qs)(hd:zb1 cs qs m ws){s:Stp}(h:IsSt cs f qs ws s):s.a<cs.length+1/\s.b<cs.length+1:=by
 have key:∀{i:Nat}{o:Option Int},(∀t,o=some t->((i:Int),t)∈qs)->plF cs.length o<cs.length+1:=λ{i o} h=>by
  cases o with
  |none=>exact Ug _
  |some t=>have:=hp.lo _ (h t rfl);show t.toNat<_;omega
 cases h with
 |mv h hne hq=>exact ⟨key λt e=>hd.wish _ t (by rw[h,e]),key hq⟩
 |left h hl=>have:=(Qh.mp h).1;exact ⟨Ue this,Ug _⟩
 |give h=>exact ⟨Ug _,Ue h⟩
theorem zn9{V:Nat->Int}(still:∀s∈S,V s.a+s.g<=V s.b){q p:Nat}{w:List Stp}(h:Path S q w p):V q+gain w<=V p:=by
 induction h with
 |nil p=>rw[zjL];omega
 |@cons s w p hs h ih=>
  have:=still s hs
  have e:gain (s::w)=s.g+gain w:=by show gain ([s]++w)=_;rw[zbD,zdu]
  omega
theorem zoa(hp:zcR cs.length m qs)(hd:zb1 cs qs m ws)(hin:∀s∈S,IsSt cs f qs ws s)(hall:∀s,IsSt cs f qs ws s->s∈S){V:Nat->Int}(hV:∀p,V p=(ent (zaJ (cs.length+1) S (cs.length+1)) p).1)
  (still:∀p,p<cs.length+1->(ent (zaJ (cs.length+1) S (cs.length+1)) p).2.length≠cs.length+1) :
  OkP cs.length m (λa b=>f (a,b)) qs 1 ((List.range m).map λi:Nat=>zco f V qs (i:Int)) ((List.range cs.length).map V)/\zjH cs ((List.range m).map λi:Nat=>zco f V qs (i:Int)) ((List.range cs.length).map V)=totF f 0 ws:=by
 have hS:∀s∈S,s.a<cs.length+1/\s.b<cs.length+1:=λs hs=>(hin s hs).lt hp hd;have st:∀s∈S,V s.a+s.g<=V s.b:=λs hs=>by rw[hV,hV];exact zkA hS (Nat.succ_pos _) still s hs
 have v0:∀p,0<=V p:=λp=>by
  have:=zh0 hS (JY (cs.length+1)) p
  rw[zeb hS] at this;rw[hV];exact this
 have vn:V cs.length=0:=by
  obtain ⟨hw,hg⟩:=zdn hS (cs.length+1) cs.length;obtain ⟨q,hq⟩:=hw.path;have h1:=zn9 st hq;rw[hg,←hV] at h1;have h2:=v0 q
  by_cases z:q=cs.length
  ·rw[z] at h1 h2;omega
  ·have hql:q<cs.length:=by
    cases hw2:(ent (zaJ (cs.length+1) S (cs.length+1)) cs.length).2 with
    |nil=>rw[hw2] at hq;cases hq;exact absurd rfl z
    |cons s w=>
     rw[hw2] at hq
     have:=(hS s hq.step.1).1
     rw[←hq.head] at this;omega
   have h3:=st _ (hall _ (.give hql));have h3:V cs.length+0<=V q:=h3
   have:=v0 cs.length
   omega
 have psD:∀k,k<cs.length->((List.range cs.length).map V).getD k 0=V k:=λk hk=>by
  rw[Qg,Qd,QS hk]
  rfl
 have ask:∀(i:Nat) o,ws[i]?=some o->zco f V qs (i:Int)=hadO f i o-(match o with|some t=>((List.range cs.length).map V).getD t.toNat 0|none=>0):=λi o h=>by
  obtain ⟨a1,a2,a3⟩:=zdv f V (i:Int) qs 0
  cases o with
  |none=>
   have:zco f V qs (i:Int)<=0:=a3 0 (QW _) λq hq e=>by
    have h1:=st _ (hall _ (.mv (f:=f) h (o':=some q.2) (by intro z;cases z) λt et=>by cases et;rw[←e];exact hq))
    have h1:V cs.length+(f ((i:Int),q.2)-0)<=V q.2.toNat:=h1;rw[←e] at h1
    have:f (q.1,q.2)=f q:=rfl
    omega
   show zco f V qs (i:Int)=0-0
   have:0<=zco f V qs (i:Int):=a1
   omega
  |some t=>
   have hq:=hd.wish i t h;have hb:=hp.lo _ hq;have hup:=st _ (hall _ (.mv (f:=f) h (o':=none) (by intro z;cases z) λt et=>by cases et))
   have hup:V t.toNat+(0-f ((i:Int),t))<=V cs.length:=hup;show zco f V qs (i:Int)=f ((i:Int),t)-((List.range cs.length).map V).getD t.toNat 0;rw[psD t.toNat (by omega)]
   have lo:f ((i:Int),t)-V t.toNat<=zco f V qs (i:Int):=a2 _ hq rfl
   have hi:zco f V qs (i:Int)<=f ((i:Int),t)-V t.toNat:=a3 _ (by omega) λq hq e=>by
    by_cases z:q.2=t
    ·have:q=((i:Int),t):=by rw[←e,←z]
     rw[this];exact QW _
    ·have h1:=st _ (hall _ (.mv (f:=f) h (o':=some q.2) (by intro y;cases y;exact z rfl) λt et=>by cases et;rw[←e];exact hq))
     have h1:V t.toNat+(f ((i:Int),q.2)-f ((i:Int),t))<=V q.2.toNat:=h1
     have:f (((i:Int)),q.2)=f q:=by rw[←e]
     omega
   omega
 refine ⟨⟨by decide,by rw[Qb,Qp],by rw[Qb,Qp],λa ha=>?_,λp hp'=>?_,λq hq=>?_⟩,?_⟩
 ·obtain ⟨i,_,rfl⟩:=Qv.mp ha
  exact (zdv f V (i:Int) qs 0).1
 ·obtain ⟨i,_,rfl⟩:=Qv.mp hp'
  exact v0 i
 ·have hb:=hp.lo q hq
  rw[psD q.2.toNat (by omega),Qg,Qd,QS (by omega)]
  have h2:=(zdv f V q.1 qs 0).2.1 q hq rfl;show 1*f q<=zco f V qs ((q.1.toNat:Nat):Int)+V q.2.toNat;have e:((q.1.toNat:Nat):Int)=q.1:=by omega
  rw[e];have h2:f q-V q.2.toNat<=zco f V qs q.1:=h2;omega
 ·unfold zjH
  rw[List.range_eq_range' (n:=m),←hd.len,zh2 (f:=f) (ps:=(List.range cs.length).map V) ws 0 (λi:Nat=>zco f V qs (i:Int)) λj o e=>by rw[QP];exact ask j o e]
  have hth:∀t,some t∈ws->0<=t/\t<cs.length:=λt ht=>by
   obtain ⟨i,hi⟩:=List.mem_iff_getElem?.mp ht
   have:=hp.lo _ (hd.wish i t hi)
   exact ⟨this.2.2.1,this.2.2.2⟩
  rw[zfA ws hth,zgb _ _ (by rw[Qb,Qp])]
  have e:sumF cs.length (λk=>cs.getD k 0*((List.range cs.length).map V).getD k 0)=sumF cs.length λk=>((ws.count (some (k:Int)):Nat):Int)*((List.range cs.length).map V).getD k 0:=zey λk hk=>by
   rw[psD k hk];have hc:cs[k]?=some (cs.getD k 0):=by rw[Qg,Qe hk];rfl
   have hle:=hd.cop k _ hc
   by_cases z:((ws.count (some (k:Int)):Nat):Int)=cs.getD k 0
   ·rw[z]
   ·have h1:=st _ (hall _ (.left (f:=f) (qs:=qs) hc (by omega)))
    have h1:V k+0<=V cs.length:=h1
    have:=v0 k
    have hz:V k=0:=by omega
    rw[hz,Int.mul_zero,Int.mul_zero]
  rw[e];omega
end
def askD:Option Nat->D
 |some i=>.int i
 |none=>.none
def stpD(s:Stp):D:=.tuple [.int s.a,.int s.b,.int s.g,askD s.w]
def zcx(x:Int×List Stp):D:=.tuple [.int x.1,.list (x.2.map stpD)]
def uncV(V:Int->Int->Int)(q:Int×Int):Int:=V q.1 q.2
def stA1(n:Nat)(f:Int×Int->Int)(ws:LO):List Stp:=(List.range ws.length).filterMap λi=>match ws.getD i none with
 |none=>none
 |some t=>some ⟨t.toNat,n, -(hadO f i (some t)),some i⟩
def stA2(n:Nat)(f:Int×Int->Int)(qs:LP)(ws:LO):List Stp:=qs.filterMap λq=>if ws.getD q.1.toNat none≠some q.2 then some ⟨plF n (ws.getD q.1.toNat none),q.2.toNat,f q-hadO f q.1.toNat (ws.getD q.1.toNat none),some q.1.toNat⟩ else none
def stC1(cs:List Int)(ws:LO):List Stp:=(List.range cs.length).filterMap λt=>if 0<cs.getD t 0-((ws.count (some (t:Int)):Nat):Int) then some ⟨t,cs.length,0,none⟩ else none
def stC2(n:Nat):List Stp:=(List.range n).map λt=>⟨n,t,0,none⟩
def zdo(cs:List Int)(f:Int×Int->Int)(qs:LP)(ws:LO):List Stp:=stA1 cs.length f ws++stA2 cs.length f qs ws++(stC1 cs ws++stC2 cs.length)
theorem zmM{m j:Nat}{h h':Nat->Int}(hj:j<m)(e:∀i,i≠j->h' i=h i):(((List.range m).map h).map int).set j (.int (h' j))=((List.range m).map h').map int:=by
 apply Jm;intro i
 by_cases z:j=i
 ·subst z
  rw[QF (by rw[Qb,Qb,Qp];exact hj),Qd,Qd,QS hj]
  rfl
 ·rw[Qs z,Qd,Qd,Qd,Qd]
  by_cases hi:i<m
  ·rw[QS hi]
   show some (int (h i))=some (int (h' i));rw[e i λy=>z y.symm]
  ·rw[QB (by rw[Qp];omega)]
   rfl
theorem zjO{m:Nat}{h:Nat->Int}{j:Nat}(hj:j<m):oIx (.list (((List.range m).map h).map int)) (.int (j:Int))=some (.int (h j)):=zaN (by rw[Qd,Qd,QS hj];rfl)
section
variable{cs:List Int}{ls:L3}{ws:LO}{V:Int->Int->Int}{qs:LP}
theorem zi0{n:Nat}{o:Option Int}(h:∀t,o=some t->0<=t):F_aw [.int n,optD o]=some (.int (plF n o)):=by
 refine za3 (Z:=[some (.pub (.int n)),some (.pub (optD o))]) rfl ?_;unfold g_aw
 cases o with
 |none=>exact zaB (zov (zaH (k:=isNon) (x:=PyData.none) (zad rfl)) (zad rfl)) rfl
 |some t=>
  refine zaB (zlz (zaH (k:=isNon) (x:=int t) (zad rfl)) (zad rfl)) ?_
  have:=h t rfl
  show Out.rt (.int t)=Out.rt (.int ((t.toNat:Nat):Int));rw[show ((t.toNat:Nat):Int)=t by omega]
def zcE(V:Int->Int->Int)(ws:LO)(qs:LP)(i:Nat):Int:=match ws.getD i none with
 |none=>0
 |some t=>if ((i:Int),t)∈qs then V i t else 0
theorem zi1{k:Int}(h0:0<=k)(h1:k<ws.length):oIx (zaM ws) (.int k)=some (optD (ws.getD k.toNat none)):=by
 obtain ⟨j,rfl⟩:∃j:Nat,k=j:=⟨k.toNat,by omega⟩
 refine zaN ?_;rw[Qd,Qu,Qg,Qe (by omega)]
 rfl
theorem zjP{i:Nat}{o:Option Int}(h:ws[i]?=some o):ws.getD i none=o:=by rw[Qg,h];rfl
theorem zmN(hp:zcR cs.length ws.length qs)(hd:zb1 cs qs ws.length ws)(hm:ws.length<=1000)(hq1:qs.length<=1000):F_ax [.int (cs.length:Nat),.list (qs.map (zbU V)),zaM ws]=some (.list ((stA1 cs.length (uncV V) ws++stA2 cs.length (uncV V) qs ws).map stpD)):=by
 refine za3 (Z:=[some (.pub (.int (cs.length:Nat))),some (.pub (.list (qs.map (zbU V)))),some (.pub (zaM ws)),none,none,none,none,none]) rfl ?_;unfold g_ax;have hlen:oLen [zaM ws]=some (.int ws.length):=by show oLen [.list (ws.map optD)]=_;rw[zaD,Qb]
 have pos:∀i t,ws.getD i none=some t->i<ws.length/\((i:Int),t)∈qs:=λi t e=>by
  by_cases hi:i<ws.length
  ·rw[Qg,Qe hi] at e
   exact ⟨hi,hd.wish i t (by rw[Qe hi];exact congrArg some e)⟩
  ·rw[Qg,QB (by omega)] at e;cases e
 refine zaq (zbB (ziC (n:=ws.length) (zbf (zab zag zai) (Qa rfl)) (za6 rfl hlen) hm) (Qa rfl) rfl) ?_;apply zaL;apply zbv (λk Z=>∃x4 x5 x6,Z=[some (.pub (.int (cs.length:Nat))),some (.pub (.list (qs.map (zbU V)))),some (.pub (zaM ws)),some (.own (((List.range ws.length).map (zcE V ws (qs.take k))).map int)),x4,x5,x6,none])
 case h1=>exact zaS (zad rfl) zbs
 case h0=>
  refine ⟨none,none,none,?_⟩
  have e:((List.range ws.length).map (zcE V ws (qs.take 0))).map int=replicate ws.length (.int 0):=by
   rw[List.eq_replicate_iff];refine ⟨by rw[Qb,Qb,Qp],λb hb=>?_⟩
   obtain ⟨x,hx,rfl⟩:=Qv.mp hb;obtain ⟨i,_,rfl⟩:=Qv.mp hx;unfold zcE;split
   ·rfl
   ·rw[if_neg (by rw[List.take_zero];simp)]
  rw[e]
  rfl
 case hst=>
  rintro k d Z hk ⟨x4,x5,x6,rfl⟩;rw[Qd] at hk
  cases hq:qs[k]? with
  |none=>rw[hq] at hk;cases hk
  |some q=>
  rw[hq] at hk;cases hk;have hb:=hp.lo q (Qq hq);refine ⟨_,tg_T rfl (tg_C (tg_N (Qa rfl) rfl) (tg_C (tg_N (Qa rfl) rfl) (tg_C (tg_N (Qa rfl) rfl) tg_0))),?_⟩;unfold zl3;have hta:qs.take (k+1)=qs.take k++[q]:=by rw[JL,hq];rfl
  apply zbc
  case h1=>exact zap (za8 rfl (zad rfl) (zi1 hb.1 hb.2.1)) (zad rfl) (zoA (b:=some q.2))
  case h2=>
   intro hh;have hh:ws.getD q.1.toNat none=some q.2:=Qa hh;refine zbp (zeo (zad rfl) rfl (zad rfl) rfl ⟨hb.1,by rw[Qb,Qb,Qp];exact hb.2.1⟩ rfl) (zaO ⟨some (.pub (.int q.1)),some (.pub (.int q.2)),some (.pub (.int (V q.1 q.2))),?_⟩)
   have e:=zmM (m:=ws.length) (j:=q.1.toNat) (h:=zcE V ws (qs.take k)) (h':=zcE V ws (qs.take (k+1))) (by omega) λi hne=>by
    unfold zcE
    cases ws.getD i none with
    |none=>rfl
    |some t=>
     dsimp only;rw[hta]
     by_cases z:((i:Int),t)∈qs.take k
     ·rw[Qm z,Qm (Jc _ z)]
     ·rw[Qy z,Qy]
      intro y;rcases QX.mp y with y|y
      ·exact z y
      ·have:=Je.mp y
       rw[←this] at hne;exact hne (by show i=((i:Int)).toNat;rw[Qu])
   have ev:zcE V ws (qs.take (k+1)) q.1.toNat=V q.1 q.2:=by
    unfold zcE;rw[hh];have ei:((q.1.toNat:Nat):Int)=q.1:=by omega
    dsimp only;rw[ei,if_pos (by rw[hta];exact List.mem_append_right _ (by simp))]
   rw[ev] at e;rw[←e]
   rfl
  case h3=>
   intro hh;have hh:¬ws.getD q.1.toNat none=some q.2:=Jf hh;refine zbq (zaO ⟨some (.pub (.int q.1)),some (.pub (.int q.2)),some (.pub (.int (V q.1 q.2))),?_⟩)
   have e:(List.range ws.length).map (zcE V ws (qs.take (k+1)))=(List.range ws.length).map (zcE V ws (qs.take k)):=JB λi _=>by
    unfold zcE
    cases hw:ws.getD i none with
    |none=>rfl
    |some t=>
     dsimp only;rw[hta]
     by_cases z:((i:Int),t)∈qs.take k
     ·rw[Qm z,Qm (Jc _ z)]
     ·rw[Qy z,Qy]
      intro y;rcases QX.mp y with y|y
      ·exact z y
      ·have y:=Je.mp y
       rw[←y] at hh;exact hh (by show ws.getD ((i:Int)).toNat none=some t;rw[Qu];exact hw)
   rw[e]
   rfl
 case hend=>
  rintro Z ⟨x4,x5,x6,rfl⟩;refine zaz ?_;have hth:qs.take (qs.map (zbU V)).length=qs:=by rw[Qb,JF]
  rw[hth]
  have hadE:∀i,zcE V ws qs i=hadO (uncV V) i (ws.getD i none):=λi=>by
   unfold zcE
   cases hw:ws.getD i none with
   |none=>rfl
   |some t=>exact Qm (pos i t hw).2
  have hc:∀y4 y5 y6 y7:Option Sl,zbz (gT 2 (gNC (gN 8) (gNC (gN 9) (gN0)))) (mMap (λd=>!isNon d) (dVar 9)) (mTup (zae (dVar 9) (zae (dVar 0) (zae (dNeg (dIxN 3 (dVar 8))) (zae (dVar 8) (mNil)))))) (zcT 0 (ws.map optD)) ([some (.pub (.int (cs.length:Nat))),some (.pub (.list (qs.map (zbU V)))),some (.pub (zaM ws)),some (.pub (.list (((List.range ws.length).map (zcE V ws qs)).map int))),y4,y5,y6,y7]++replicate 2 none) []=some ((stA1 cs.length (uncV V) ws).map stpD):=by
   intro y4 y5 y6 y7
   have em:(stA1 cs.length (uncV V) ws).map stpD=((List.range ws.length).map λi=>(match ws.getD i none with|none=>none|some t=>some (stpD ⟨t.toNat,cs.length, -(hadO (uncV V) i (some t)),some i⟩):Option D)).filterMap id:=by
    unfold stA1;rw[List.map_filterMap,List.filterMap_map]
    congr 1
    funext i
    dsimp only[Function.comp,id]
    cases ws.getD i none <;> rfl
   rw[em];refine zdl (λZ=>∃z4 z5 z6 z7 x y,Z=[some (.pub (.int (cs.length:Nat))),some (.pub (.list (qs.map (zbU V)))),some (.pub (zaM ws)),some (.pub (.list (((List.range ws.length).map (zcE V ws qs)).map int))),z4,z5,z6,z7,x,y]) _ _ _ _ (by rw[Qb,Qp,zaG,Qb]) ?_ ⟨y4,y5,y6,y7,none,none,rfl⟩ (by rw[zaG,Qb,QQ];omega)
   rintro i d e hdd he Z ⟨z4,z5,z6,z7,x,y,rfl⟩;obtain ⟨z,hz,rfl⟩:=zbL hdd;rw[Qd] at hz
   cases hw:ws[i]? with
   |none=>rw[hw] at hz;cases hz
   |some o=>
   rw[hw] at hz;cases hz;have hil:i<ws.length:=(Qh.mp hw).1;have hg:=zjP hw;rw[Qd,QS hil] at he;have he:some (match ws.getD i none with|none=>none|some t=>some (stpD ⟨t.toNat,cs.length, -(hadO (uncV V) i (some t)),some i⟩):Option D)=some e:=he
   rw[hg] at he;cases he;rw[QP];refine ⟨_,tg_T rfl (tg_C (tg_N (Qa rfl) rfl) (tg_C (tg_N (Qa rfl) rfl) tg_0)),?_,?_,_,_,_,_,_,_,rfl⟩
   ·cases o with
    |none=>exact zaH (k:=λd=>!isNon d) (x:=PyData.none) (zad rfl)
    |some t=>exact zaH (k:=λd=>!isNon d) (x:=int t) (zad rfl)
   ·intro v hv
    cases o with
    |none=>cases hv
    |some t=>
     cases hv;have hb:=hp.lo _ (pos i t hg).2
     have et:((t.toNat:Nat):Int)=t:=by have:=hb.2.2.1;omega
     show _=Res.ok (PyData.tuple [.int ((t.toNat:Nat):Int),.int ((cs.length:Nat):Int),.int (-(hadO (uncV V) i (some t))),.int (i:Nat)]) _;rw[et,show hadO (uncV V) i (some t)=zcE V ws qs i by rw[hadE,hg]]
     exact zb6 (zab (zad rfl) (zab (zad rfl) (zab (zfY (za8 rfl (zad rfl) (zjO hil))) (zab (zad rfl) zai)))) (Qa rfl)
  have nlS:∀S:List Stp,(S.map stpD).all nl0=true:=λS=>Jq.mpr λd hd=>by
   obtain ⟨s,_,rfl⟩:=Qv.mp hd;obtain ⟨a,b,g,w⟩:=s
   cases w <;> rfl
  have hcl:∀x4 x5 x6:Option Sl,zdC (zct (zdy (zae (dVar 2) (mNil))) 2 (gT 2 (gNC (gN 8) (gNC (gN 9) (gN0)))) (mMap (λd=>!isNon d) (dVar 9)) (mTup (zae (dVar 9) (zae (dVar 0) (zae (dNeg (dIxN 3 (dVar 8))) (zae (dVar 8) (mNil))))))) [some (.pub (.int (cs.length:Nat))),some (.pub (.list (qs.map (zbU V)))),some (.pub (zaM ws)),some (.own (((List.range ws.length).map (zcE V ws qs)).map int)),x4,x5,x6,none]=.ok ((stA1 cs.length (uncV V) ws).map stpD) [some (.pub (.int (cs.length:Nat))),some (.pub (.list (qs.map (zbU V)))),some (.pub (zaM ws)),some (.own (((List.range ws.length).map (zcE V ws qs)).map int)),x4,x5,x6,none]:=λx4 x5 x6=>
   znN (Z':=zcd [some (.pub (.int (cs.length:Nat))),some (.pub (.list (qs.map (zbU V)))),some (.pub (zaM ws)),some (.own (((List.range ws.length).map (zcE V ws qs)).map int)),x4,x5,x6,none]) (zbK (zch (zab (zad rfl) zai) zbS) (hc _ _ _ _)) (nlS _)
  refine zaq (zbB (hcl _ _ _) (Qa rfl) rfl) ?_;apply zaL;apply zbv (λk Z=>∃x4 x5 x6,Z=[some (.pub (.int (cs.length:Nat))),some (.pub (.list (qs.map (zbU V)))),some (.pub (zaM ws)),some (.own (((List.range ws.length).map (zcE V ws qs)).map int)),x4,x5,x6,some (.own ((stA1 cs.length (uncV V) ws++stA2 cs.length (uncV V) (qs.take k) ws).map stpD))])
  case h1=>exact zaS (zad rfl) zbs
  case h0=>exact ⟨_,_,_,by rw[JU];show _=[_,_,_,_,_,_,_,some (Sl.own ((stA1 cs.length (uncV V) ws++[]).map stpD))];rw[Ji];rfl⟩
  case hst=>
   rintro k d Z hk ⟨x4,x5,x6,rfl⟩;rw[Qd] at hk
   cases hq:qs[k]? with
   |none=>rw[hq] at hk;cases hk
   |some q=>
   rw[hq] at hk;cases hk;have hb:=hp.lo q (Qq hq);have hta:qs.take (k+1)=qs.take k++[q]:=by rw[JL,hq];rfl
   have hkl:k<qs.length:=(Qh.mp hq).1
   have hsz:((stA1 cs.length (uncV V) ws++stA2 cs.length (uncV V) (qs.take k) ws).map stpD).length<1000000:=by
    rw[Qb,Ql];have h1:(stA1 cs.length (uncV V) ws).length<=ws.length:=by unfold stA1;have:=Jk (λi=>match ws.getD i none with|none=>none|some t=>some (⟨t.toNat,cs.length, -(hadO (uncV V) i (some t)),some i⟩:Stp)) (List.range ws.length);rw[Qp] at this;exact this
    have h2:(stA2 cs.length (uncV V) (qs.take k) ws).length<=qs.length:=by unfold stA2;refine QO (Jk _ _) ?_;rw[QZ];omega
    omega
   refine ⟨_,tg_T rfl (tg_C (tg_N (Qa rfl) rfl) (tg_C (tg_N (Qa rfl) rfl) (tg_C (tg_N (Qa rfl) rfl) tg_0))),?_⟩;unfold zl2;have e2:∀r:List Stp,stA2 cs.length (uncV V) [q] ws=r->stA2 cs.length (uncV V) (qs.take (k+1)) ws=stA2 cs.length (uncV V) (qs.take k) ws++r:=λr hr=>by rw[hta];unfold stA2 at hr ⊢;rw[List.filterMap_append,hr]
   apply zbc
   case h1=>exact zap (za8 rfl (zad rfl) (zi1 hb.1 hb.2.1)) (zad rfl) (zq0 (b:=some q.2))
   case h2=>
    intro hh;have hh:¬ws.getD q.1.toNat none=some q.2:=by simpa using hh
    have hpl:F_aw [.int (cs.length:Nat),optD (ws.getD q.1.toNat none)]=some (.int (plF cs.length (ws.getD q.1.toNat none))):=zi0 λt e=>by have:=hp.lo _ (pos _ t e).2;exact this.2.2.1
    refine zbp (zeH rfl (zb6 (zab (zas (zab (zad rfl) (zab (za8 rfl (zad rfl) (zi1 hb.1 hb.2.1)) zai)) rfl hpl) (zab (zad rfl) (zab (zap (zad rfl) (zfX rfl (zad rfl) rfl (show oIx _ (.int q.1)=some (.int (zcE V ws qs q.1.toNat)) from by have:=zjO (m:=ws.length) (h:=zcE V ws qs) (j:=q.1.toNat) (by omega);rw[show ((q.1.toNat:Nat):Int)=q.1 by omega] at this;exact this)) zbX) (zab (zad rfl) zai)))) (Qa rfl)) rfl hsz rfl) (zaO ⟨some (.pub (.int q.1)),some (.pub (.int q.2)),some (.pub (.int (V q.1 q.2))),?_⟩)
    have er:stA2 cs.length (uncV V) [q] ws=[⟨plF cs.length (ws.getD q.1.toNat none),q.2.toNat,uncV V q-hadO (uncV V) q.1.toNat (ws.getD q.1.toNat none),some q.1.toNat⟩]:=by
     unfold stA2;rw[Jy,Qm hh]
     rfl
    rw[e2 _ er,←Jl,QC (l₂:=[_])];show _=[_,_,_,_,_,_,_,some (Sl.own (_++[PyData.tuple [_,.int ((q.2.toNat:Nat):Int),.int (uncV V q-hadO (uncV V) q.1.toNat (ws.getD q.1.toNat none)),.int ((q.1.toNat:Nat):Int)]]))];rw[show ((q.2.toNat:Nat):Int)=q.2 by omega,show ((q.1.toNat:Nat):Int)=q.1 by omega,←hadE]
    rfl
   case h3=>
    intro hh;have hh:ws.getD q.1.toNat none=some q.2:=by simpa using hh
    refine zbq (zaO ⟨some (.pub (.int q.1)),some (.pub (.int q.2)),some (.pub (.int (V q.1 q.2))),?_⟩)
    have er:stA2 cs.length (uncV V) [q] ws=[]:=by
     unfold stA2;rw[List.filterMap_cons,if_neg (by rw[hh];simp)]
     rfl
    rw[e2 _ er,Ji]
    rfl
  case hend=>
   rintro Z ⟨x4,x5,x6,rfl⟩;rw[hth];exact zaz (zaB (zbJ rfl rfl) rfl)
end
section
variable{cs:List Int}{ls:L3}{ws:LO}{V:Int->Int->Int}{qs:LP}
theorem zmO(g:Good cs ls)(hm:ws.length=ls.length):F_ay [zav cs ls,zaM ws]=some (.list ((stC1 cs ws++stC2 cs.length).map stpD)):=by
 refine za3 (Z:=[some (.pub (zav cs ls)),some (.pub (zaM ws)),none,none,none]) rfl ?_;unfold g_ay;have c6:=g.c6;have hlc:oLen [.list (cs.map int)]=some (.int cs.length):=by rw[zaD,Qb]
 refine zaq (zaZ (za4 (zab (za8 rfl zag ziR) zai) hlc) (Qa rfl) rfl) ?_;refine zaq (zaZ (zas (zab (zad rfl) (zab (zad rfl) zai)) rfl (zfK g)) (Qa rfl) rfl) ?_;have hll:(zd5 cs ws).length=cs.length:=by unfold zd5;rw[Qb,Qp]
 have hc:zbz (gT 2 (gNC (gN 5) (gNC (gN 6) (gN0)))) (zce (oIB λi j=>decide (j<i)) 6 (zah (.int 0))) (mTup (zae (dVar 5) (zae (dVar 2) (zae (zah (.int 0)) (zae (zah .none) (mNil)))))) (zcT 0 ((zd5 cs ws).map int)) (zaK [some (.pub (zav cs ls)),some (.pub (zaM ws)),some (.pub (.int cs.length)),some (.pub (.list ((zd5 cs ws).map int))),none]++replicate 2 none) []=some ((stC1 cs ws).map stpD):=by
  have em:(stC1 cs ws).map stpD=((List.range cs.length).map λt=>(if 0<cs.getD t 0-((ws.count (some (t:Int)):Nat):Int) then some (stpD ⟨t,cs.length,0,none⟩) else none:Option D)).filterMap id:=by
   unfold stC1;rw[List.map_filterMap,List.filterMap_map]
   congr 1
   funext i
   dsimp only[Function.comp,id]
   split <;> rfl
  rw[em];refine zdl (λZ=>∃x y,Z=[some (.pub (zav cs ls)),some (.pub (zaM ws)),some (.pub (.int cs.length)),some (.pub (.list ((zd5 cs ws).map int))),none,x,y]) _ _ _ _ (by rw[Qb,Qp,zaG,Qb,hll]) ?_ ⟨none,none,rfl⟩ (by rw[zaG,Qb,hll,QQ];omega)
  rintro i d e hd he Z ⟨x,y,rfl⟩;obtain ⟨z,hz,rfl⟩:=zbL hd;rw[Qd] at hz
  have hil:i<cs.length:=by
   rw[←hll]
   cases hw:(zd5 cs ws)[i]? with
   |none=>rw[hw] at hz;cases hz
   |some v=>exact (Qh.mp hw).1
  have hlv:(zd5 cs ws)[i]?=some (cs.getD i 0-((ws.count (some (i:Int)):Nat):Int)):=by unfold zd5;rw[Qd,QS hil];rfl
  rw[hlv] at hz;cases hz;rw[Qd,QS hil] at he;cases he;rw[QP];refine ⟨_,tg_T rfl (tg_C (tg_N (Qa rfl) rfl) (tg_C (tg_N (Qa rfl) rfl) tg_0)),?_,?_,_,_,rfl⟩
  ·have e:(if 0<cs.getD i 0-((ws.count (some (i:Int)):Nat):Int) then some (stpD ⟨i,cs.length,0,none⟩) else none:Option D).isSome=decide (0<cs.getD i 0-((ws.count (some (i:Int)):Nat):Int)):=by
    by_cases h:0<cs.getD i 0-((ws.count (some (i:Int)):Nat):Int)
    ·rw[Qm h,Q3 h];rfl
    ·rw[Qy h,QN h];rfl
   rw[e];exact zb4 rfl zag rfl
  ·intro v hv
   dsimp only at hv
   split at hv
   ·cases hv
    exact zb6 (zab (zad rfl) (zab (zad rfl) (zab zag (zab zag zai)))) (Qa rfl)
   ·cases hv
 refine zaq (zbB (zbK (zch (zab (zad rfl) zai) zbS) hc) (Qa rfl) rfl) ?_;have hrl:(zbN 0 (cs.length:Int)).length=cs.length:=by rw[zaY];omega
 have hc2:∀x4:Option Sl,zbz (gN 5) (zah true) (mTup (zae (dVar 2) (zae (dVar 5) (zae (zah (.int 0)) (zae (zah .none) (mNil)))))) (zbN 0 (cs.length:Int)) (zaK [some (.pub (zav cs ls)),some (.pub (zaM ws)),some (.pub (.int cs.length)),some (.pub (.list ((zd5 cs ws).map int))),x4]++replicate 1 none) []=some ((stC2 cs.length).map stpD):=λx4=>by
  refine zbP (λZ=>∃z x,Z=[some (.pub (zav cs ls)),some (.pub (zaM ws)),some (.pub (.int cs.length)),some (.pub (.list ((zd5 cs ws).map int))),z,x]) _ _ _ _ (by unfold stC2;rw[Qb,Qb,Qp,hrl]) ?_ ⟨_,none,rfl⟩ (by rw[hrl,QQ];omega)
  rintro i d e hd he Z ⟨z,x,rfl⟩;obtain ⟨rfl,hlt⟩:=zbR hd;unfold stC2 at he;rw[Qd,Qd,QS (by omega)] at he
  cases he;rw[JR];exact ⟨_,tg_N (Qa rfl) rfl,rfl,zb6 (zab (zad rfl) (zab (zad rfl) (zab zag (zab zag zai)))) (Qa rfl),_,_,rfl⟩
 have h1:(stC1 cs ws).length<=cs.length:=by unfold stC1;have:=Jk (λt=>if 0<cs.getD t 0-((ws.count (some (t:Int)):Nat):Int) then some (⟨t,cs.length,0,none⟩:Stp) else none) (List.range cs.length);rw[Qp] at this;exact this
 have h2:(stC2 cs.length).length=cs.length:=by unfold stC2;rw[Qb,Qp]
 refine zaB (zap (zbJ rfl rfl) (zaH (zbK (zcP (zab (zad rfl) zai) (zcj (by omega) (by omega))) (hc2 _))) (zca (by rw[Qb,Qb];omega))) ?_
 rw[QC]
theorem zeK(g:Good cs ls)(hm:ws.length=ls.length)(hp:zcR cs.length ws.length qs)(hd:zb1 cs qs ws.length ws)(hq1:qs.length<=1000):F_az [zav cs ls,.list (qs.map (zbU V)),zaM ws]=some (.list ((zdo cs (uncV V) qs ws).map stpD)):=by
 refine za3 (Z:=[some (.pub (zav cs ls)),some (.pub (.list (qs.map (zbU V)))),some (.pub (zaM ws))]) rfl ?_;unfold g_az;have c6:=g.c6;have l7:=g.l7;have hlc:oLen [.list (cs.map int)]=some (.int (cs.length:Nat)):=by rw[zaD,Qb]
 have h1:(stA1 cs.length (uncV V) ws).length<=ws.length:=by unfold stA1;have:=Jk (λi=>match ws.getD i none with|none=>none|some t=>some (⟨t.toNat,cs.length, -(hadO (uncV V) i (some t)),some i⟩:Stp)) (List.range ws.length);rw[Qp] at this;exact this
 have h2:(stA2 cs.length (uncV V) qs ws).length<=qs.length:=by unfold stA2;exact Jk _ _
 have h3:(stC1 cs ws).length<=cs.length:=by unfold stC1;have:=Jk (λt=>if 0<cs.getD t 0-((ws.count (some (t:Int)):Nat):Int) then some (⟨t,cs.length,0,none⟩:Stp) else none) (List.range cs.length);rw[Qp] at this;exact this
 have h4:(stC2 cs.length).length=cs.length:=by unfold stC2;rw[Qb,Qp]
 refine zaB (zap (zas (zab (za4 (zab (za8 rfl zag ziR) zai) hlc) (zab (zad rfl) (zab (zad rfl) zai))) rfl (zmN hp hd (by omega) hq1)) (zas (zab (zad rfl) (zab (zad rfl) zai)) rfl (zmO g hm)) (zca (by rw[Qb,Qb,Ql,Ql];omega))) ?_
 unfold zdo;rw[QC (l₁:=stA1 cs.length (uncV V) ws++stA2 cs.length (uncV V) qs ws)]
theorem zeY{m:Nat}{f:Int×Int->Int}(hp:zcR cs.length m qs)(hd:zb1 cs qs m ws):∀s∈zdo cs f qs ws,IsSt cs f qs ws s:=λs hs=>by
 have gt:∀{i:Nat}{o:Option Int},i<ws.length->ws.getD i none=o->ws[i]?=some o:=λ{i o} hi e=>by
  rw[Qg,Qe hi] at e;rw[Qe hi];exact congrArg some e
 unfold zdo at hs;rcases QX.mp hs with hs|hs
 ·rcases QX.mp hs with hs|hs
  ·unfold stA1 at hs
   obtain ⟨i,hi,e⟩:=Jo.mp hs;have hi:=Q5.mp hi
   cases hw:ws.getD i none with
   |none=>rw[hw] at e;cases e
   |some t=>
    rw[hw] at e;have e:=QY e;subst e
    have:=IsSt.mv (cs:=cs) (f:=f) (qs:=qs) (gt hi hw) (o':=none) (by intro z;cases z) (λt e=>by cases e)
    have e2:hadO f i none-hadO f i (some t) = -(hadO f i (some t)):=by show 0-_=_;omega
    rw[e2] at this;exact this
  ·unfold stA2 at hs
   obtain ⟨q,hq,e⟩:=Jo.mp hs;have hb:=hp.lo q hq
   split at e
   ·rename_i hne
    have e:=QY e;subst e;have hi:q.1.toNat<ws.length:=by rw[hd.len];omega
    have ei:((q.1.toNat:Nat):Int)=q.1:=by omega
    have:=IsSt.mv (cs:=cs) (f:=f) (qs:=qs) (gt hi rfl) (o':=some q.2) (λz=>hne z.symm) (λt e=>by cases e;rw[ei];exact hq)
    have e2:hadO f q.1.toNat (some q.2)=f q:=by show f (((q.1.toNat:Nat):Int),q.2)=_;rw[ei]
    rw[e2] at this;exact this
   ·cases e
 ·rcases QX.mp hs with hs|hs
  ·unfold stC1 at hs
   obtain ⟨t,ht,e⟩:=Jo.mp hs;have ht:=Q5.mp ht
   split at e
   ·rename_i hl
    have e:=QY e;subst e;exact .left (c:=cs.getD t 0) (by rw[Qg,Qe ht];rfl) (by omega)
   ·cases e
  ·unfold stC2 at hs
   obtain ⟨t,ht,rfl⟩:=Qv.mp hs;exact .give (Q5.mp ht)
theorem zmP{m:Nat}{f:Int×Int->Int}(hp:zcR cs.length m qs)(hd:zb1 cs qs m ws):∀s,IsSt cs f qs ws s->s∈zdo cs f qs ws:=λs hs=>by
 unfold zdo
 cases hs with
 |@mv i o o' h hne hq=>
  have hi:i<ws.length:=(Qh.mp h).1;have hg:=zjP h;refine Jc _ ?_
  cases o' with
  |none=>
   refine Jc _ ?_
   cases o with
   |none=>exact absurd rfl hne
   |some t=>
    unfold stA1;refine Jo.mpr ⟨i,Q5.mpr hi,?_⟩;rw[hg];show some (⟨t.toNat,cs.length, -(hadO f i (some t)),some i⟩:Stp)=some ⟨t.toNat,cs.length,0-hadO f i (some t),some i⟩;rw[show (0:Int)-hadO f i (some t) = -(hadO f i (some t)) by omega]
  |some t=>
   refine QI _ ?_;have hqt:=hq t rfl;have hb:=hp.lo _ hqt;unfold stA2;refine Jo.mpr ⟨((i:Int),t),hqt,?_⟩;dsimp only;rw[Qu,hg,Qm (λz=>hne z.symm)]
   rfl
 |@left t c h hl=>
  refine QI _ (Jc _ ?_);have ht:t<cs.length:=(Qh.mp h).1;unfold stC1;refine Jo.mpr ⟨t,Q5.mpr ht,?_⟩;have e:cs.getD t 0=c:=by rw[Qg,h];rfl
  rw[e,Qm (by omega)]
 |@give t h=>
  refine QI _ (QI _ ?_);unfold stC2;exact Qv.mpr ⟨t,Q5.mpr h,rfl⟩
end
theorem zmQ{W:Tab}{p:Nat}(h:p<W.length):oIx (.list (W.map zcx)) (.int (p:Int))=some (zcx (ent W p)):=by
 refine zaN ?_;unfold ent;rw[Qd,Qg,Qe h]
 rfl
theorem zmR{W:Tab}{S:List Stp}(hS:∀s∈S,s.a<W.length/\s.b<W.length)(hW:∀p,(ent W p).2.length<=1000)(hl:W.length<=1000):F_ba [.list (W.map zcx),.list (S.map stpD)]=some (.list ((zjK W S).map zcx)):=by
 refine za3 (Z:=[some (.pub (.list (W.map zcx))),some (.pub (.list (S.map stpD))),none,none,none,none,none,none,none,none]) rfl ?_;unfold g_ba;refine zaq (zbB (zji rfl (show zfh [.list (W.map zcx)]=some (W.map zcx) from rfl)) (Qa rfl) rfl) ?_
 apply zaL;apply zbv (λk Z=>∃x3 x4 x5 x6 x7 x8 x9,Z=[some (.pub (.list (W.map zcx))),some (.pub (.list (S.map stpD))),some (.own (((S.take k).foldl (zc9 W) W).map zcx)),x3,x4,x5,x6,x7,x8,x9])
 case h1=>exact zaS (zad rfl) zbs
 case h0=>exact ⟨_,_,_,_,_,_,_,rfl⟩
 case hst=>
  rintro k d Z hk ⟨x3,x4,x5,x6,x7,x8,x9,rfl⟩;rw[Qd] at hk
  cases hq:S[k]? with
  |none=>rw[hq] at hk;cases hk
  |some s=>
  rw[hq] at hk;cases hk;have hs:=hS s (Qq hq);have hta:S.take (k+1)=S.take k++[s]:=by rw[JL,hq];rfl
  have hfl:(S.take (k+1)).foldl (zc9 W) W=zc9 W ((S.take k).foldl (zc9 W) W) s:=by rw[hta,List.foldl_append];rfl
  have hTl:∀(R:List Stp)(T:Tab),(R.foldl (zc9 W) T).length=T.length:=λR=>by
   induction R with
   |nil=>intro T;rfl
   |cons x R ih=>intro T;rw[J8,ih,zmJ]
  generalize hT:(S.take k).foldl (zc9 W) W=T at hfl ⊢;have hTlen:T.length=W.length:=by rw[←hT,hTl]
  refine ⟨_,tg_N (Qa rfl) rfl,?_⟩;unfold zl6;refine zaq (zfm (zad rfl) (tg_T rfl (tg_C (tg_N (Qa rfl) rfl) (tg_C (tg_N (Qa rfl) rfl) (tg_C (tg_N (Qa rfl) rfl) (tg_C (tg_N (Qa rfl) rfl) tg_0)))))) ?_;refine zaq (zfm (za8 rfl (zad rfl) (zmQ hs.1)) (tg_T rfl (tg_C (tg_N (Qa rfl) rfl) (tg_C (tg_N (Qa rfl) rfl) tg_0)))) ?_;have i0:oIx (zcx (ent T s.b)) (.int 0)=some (.int (ent T s.b).1):=zaN (j:=0) rfl;apply zbc
  case h1=>exact zap (zap (zad rfl) (zad rfl) zaW) (zap (zfX rfl (zad rfl) rfl (zmQ (by rw[hTlen];exact hs.2))) zag i0) rfl
  case h2=>
   intro hh;have hh:(ent T s.b).1<(ent W s.a).1+s.g:=Qa hh
   have hadd:oAdd (.list ((ent W s.a).2.map stpD)) (.list [stpD s])=some (.list (((ent W s.a).2++[s]).map stpD)):=by
    rw[zca (by rw[Qb];have:=hW s.a;show _+1<=_;omega),QC];rfl
   refine zbp (zeo (zb6 (zab (zap (zad rfl) (zad rfl) zaW) (zab (zap (zad rfl) (zbf (zab (zad rfl) zai) (Qa rfl)) hadd) zai)) (Qa rfl)) rfl (zad rfl) rfl ⟨Int.natCast_nonneg _,by rw[Qb,hTlen];have:=hs.2;omega⟩ rfl) (zaO ⟨some (.pub (stpD s)),some (.pub (.int s.a)),some (.pub (.int s.b)),some (.pub (.int s.g)),some (.pub (askD s.w)),some (.pub (.int (ent W s.a).1)),some (.pub (.list ((ent W s.a).2.map stpD))),?_⟩)
   rw[hfl];unfold zc9;rw[Qm hh,List.map_set];show [_,_,some (Sl.own ((T.map zcx).set ((s.b:Int)).toNat _)),_,_,_,_,_,_,_]=_;rw[Qu]
   rfl
  case h3=>
   intro hh;have hh:¬(ent T s.b).1<(ent W s.a).1+s.g:=Jf hh;refine zbq (zaO ⟨some (.pub (stpD s)),some (.pub (.int s.a)),some (.pub (.int s.b)),some (.pub (.int s.g)),some (.pub (askD s.w)),some (.pub (.int (ent W s.a).1)),some (.pub (.list ((ent W s.a).2.map stpD))),?_⟩);rw[hfl];unfold zc9;rw[Qy hh]
   rfl
 case hend=>
  rintro Z ⟨x3,x4,x5,x6,x7,x8,x9,rfl⟩;refine zaz (zaB (zbJ rfl rfl) ?_);rw[Qb,JF]
  rfl
theorem zh3{n:Nat}{S:List Stp}(hS:∀s∈S,s.a<n/\s.b<n)(hn:n<=100):F_bb [.int (n:Nat),.list (S.map stpD)]=some (.list ((zaJ n S n).map zcx)):=by
 refine za3 (Z:=[some (.pub (.int (n:Nat))),some (.pub (.list (S.map stpD))),none,none]) rfl ?_;unfold g_bb
 have hmul:oMul (.list [.tuple [.int 0,.list []]]) (.int (n:Nat))=some (.list ((zaJ n S 0).map zcx)):=by
  rw[zmp (by omega)]
  unfold zaJ;rw[J7]
  rfl
 refine zaq (zaZ (zap (zbf (zab (zb6 (zab zag (zab (zbf zai (Qa rfl)) zai)) (Qa rfl)) zai) (Qa rfl)) (zad rfl) hmul) (Qa rfl) rfl) ?_;apply zaL;apply zbv (λk Z=>k<=n/\∃x3,Z=[some (.pub (.int (n:Nat))),some (.pub (.list (S.map stpD))),some (.pub (.list ((zaJ n S k).map zcx))),x3])
 case h1=>exact zcP (zab (zad rfl) zai) (zcj (by omega) (by omega))
 case h0=>exact ⟨JY _,_,rfl⟩
 case hst=>
  rintro k d Z hk ⟨_,x3,rfl⟩;obtain ⟨rfl,hlt⟩:=zbR hk;refine ⟨_,tg_N (Qa rfl) rfl,?_⟩;unfold zl7;have hl:=zcA hS k;have hlo:=zmR (W:=zaJ n S k) (S:=S) (by rw[hl];exact hS) (λp=>QO ((zdt hS k).1 p) (by omega)) (by rw[hl];omega)
  exact zbp (zaZ (zas (zab (zad rfl) (zab (zad rfl) zai)) rfl hlo) (Qa rfl) rfl) (zaO ⟨by omega,_,rfl⟩)
 case hend=>
  rintro Z ⟨_,x3,rfl⟩;refine zaz (zaB (zad rfl) ?_);rw[zaY,show ((n:Int)-0).toNat=n by omega]
theorem zq5{xs:List D}{i j:Nat}(hij:i<=j)(hj:j<=xs.length):DL.cutD xs (some (i:Int)) (some (j:Int))=(xs.take j).drop i:=by
 unfold DL.cutD HT.sIx;dsimp only;rw[Qy (by omega),Qy (by omega),Qu,Qu,Nat.min_eq_left hj,Nat.min_eq_left (show i<=xs.length by omega),List.drop_take]
theorem zfC{w:List Stp}(hl:w.length<=1000):∃d,F_bc [.list (w.map stpD)]=some d/\∃r,d=.list (r.map stpD)/\((zmL w/\r=[]) ∨ ∃i j,ziY w i j/\r=(w.take (j+1)).drop i):=by
 refine zdS (Z:=[some (.pub (.list (w.map stpD))),none,none,none]) rfl ?_;unfold g_bc;apply zaL;apply zbv (λk Z=>(∃x1 x2 x3,Z=[some (.pub (.list (w.map stpD))),x1,x2,x3])/\∀j'<k,∀i' ≤ j',∀s t,w[i']?=some s->w[j']?=some t->s.a≠t.b)
 case h1=>exact zch (zab (zad rfl) zai) zbS
 case h0=>exact ⟨⟨_,_,_,rfl⟩,λj' h=>absurd h (J9 _)⟩
 case hst=>
  rintro k d Z hk ⟨⟨x1,x2,x3,rfl⟩,hb⟩;obtain ⟨z,hz,rfl⟩:=zbL hk;rw[Qd] at hz
  cases ht:w[k]? with
  |none=>rw[ht] at hz;cases hz
  |some t=>
  rw[ht] at hz;cases hz;have hkl:k<w.length:=(Qh.mp ht).1;rw[QP];refine ⟨_,tg_T rfl (tg_C (tg_N (Qa rfl) rfl) (tg_C (tg_N (Qa rfl) rfl) tg_0)),?_⟩;unfold zl9;apply zbv (λl Z=>(∃x3,Z=[some (.pub (.list (w.map stpD))),some (.pub (.int (k:Nat))),some (.pub (stpD t)),x3])/\∀i'<l,∀s,w[i']?=some s->s.a≠t.b)
  case h1=>exact zcP (zab (zap (zad rfl) zag zaW) zai) (zcj (by omega) (by omega))
  case h0=>exact ⟨⟨_,rfl⟩,λi' h=>absurd h (J9 _)⟩
  case hst=>
   rintro l d Z hl2 ⟨⟨x3,rfl⟩,hc⟩;obtain ⟨rfl,hlt⟩:=zbR hl2;have hlk:l<=k:=by omega
   obtain ⟨s,hs⟩:∃s,w[l]?=some s:=⟨_,Qe (by omega)⟩
   refine ⟨_,tg_N (Qa rfl) rfl,?_⟩;have zl:(0:Int)+(l:Int)=l:=by omega
   rw[zl];unfold zl8;have il:oIx (.list (w.map stpD)) (.int (l:Int))=some (stpD s):=zaN (by rw[Qd,hs];rfl)
   have i0:oIx (stpD s) (.int 0)=some (.int s.a):=zaN (j:=0) rfl;have i1:oIx (stpD t) (.int 1)=some (.int t.b):=zaN (j:=1) rfl;apply zbc
   case h1=>exact zap (zap (za8 rfl (zad rfl) il) zag i0) (za8 rfl zag i1) zb3
   case h2=>
    intro hh;have hh:(s.a:Int)=(t.b:Int):=Qa hh
    have hcut:oSlA (.list (w.map stpD)) (some (l:Int)) (some ((k:Int)+1))=some (.list (((w.take (k+1)).drop l).map stpD)):=by
     rw[zck,show ((k:Int)+1)=((k+1:Nat):Int) by omega,zq5 (by omega) (by rw[Qb];omega),List.map_drop,Uk]
    refine zaB (zdB (zad rfl) (zbW (zad rfl)) (zbW (zap (zad rfl) zag zaW)) hcut) (zdR (zdR (zcu ⟨_,rfl,_,rfl,.inr ⟨l,k,⟨hlk,hkl,λs' t' e1 e2=>?_,hb⟩,rfl⟩⟩)));rw[hs] at e1;rw[ht] at e2;cases e1;cases e2;omega
   case h3=>
    intro hh;have hh:¬(s.a:Int)=(t.b:Int):=Jf hh;refine zbq (zaO ⟨⟨_,rfl⟩,λi' hi' s' e=>?_⟩);rcases JS.mp hi' with hi'|rfl
    ·exact hc i' hi' s' e
    ·rw[hs] at e;cases e;omega
  case hend=>
   rintro Z ⟨⟨x3,rfl⟩,hc⟩;refine zaO ⟨⟨_,_,_,rfl⟩,λj' hj' i' hi' s' t' e1 e2=>?_⟩;rcases JS.mp hj' with hj'|rfl
   ·exact hb j' hj' i' hi' s' t' e1 e2
   ·rw[ht] at e2
    cases e2;exact hc i' (by rw[zaY];omega) s' e1
 case hend=>
  rintro Z ⟨⟨x1,x2,x3,rfl⟩,hb⟩;refine zaz (zaB (zbf zai (Qa rfl)) ⟨_,rfl,[],rfl,.inl ⟨λj hj=>hb j (by rw[zaG,Qb];exact hj),rfl⟩⟩)
def zc0(n:Nat)(s:Stp):Option (Nat×Option Int):=s.w.map λi=>(i,unpl n s.b)
def takD(p:Nat×Option Int):D:=.tuple [.int (p.1:Nat),optD p.2]
def rot(b:Nat)(r:List Stp):List Stp:=r.drop b++r.take b
theorem zjQ(b:Nat)(r:List Stp):(rot b r).Perm r:=by
 unfold rot
 have:=List.perm_append_comm (l₁:=r.drop b) (l₂:=r.take b)
 rw[Ud] at this;exact this
theorem zh4{n:Nat}{r:List Stp}(hl:r.length<=1000):∃b,b<=r.length/\((∃s,r[b]?=some s/\s.a=n)∨(b=0/\∀s∈r,s.a≠n))/\F_bd [.int (n:Nat),.list (r.map stpD)]=some (.list (((rot b r).filterMap (zc0 n)).map takD)):=by
 have key:∃d,F_bd [.int (n:Nat),.list (r.map stpD)]=some d/\∃b,b<=r.length/\((∃s,r[b]?=some s/\s.a=n)∨(b=0/\∀s∈r,s.a≠n))/\d=.list (((rot b r).filterMap (zc0 n)).map takD):=by
  refine zdS (Z:=[some (.pub (.int (n:Nat))),some (.pub (.list (r.map stpD))),none,none,none,none,none,none,none,none]) rfl ?_;unfold g_bd;refine zaq (zaZ zag (Qa rfl) rfl) ?_;apply zaL;apply zbv (λk Z=>∃(b:Nat)(x3 x4:Option Sl),Z=[some (.pub (.int (n:Nat))),some (.pub (.list (r.map stpD))),some (.pub (.int (b:Nat))),x3,x4,none,none,none,none,none]/\b<=r.length/\((∃s,r[b]?=some s/\s.a=n)∨(b=0/\∀s∈r.take k,s.a≠n)))
  case h1=>exact zch (zab (zad rfl) zai) zbS
  case h0=>exact ⟨0,_,_,rfl,JY _,.inr ⟨rfl,λs h=>by rw[JU] at h;cases h⟩⟩
  case hst=>
   rintro k d Z hk ⟨b,x3,x4,rfl,hbl,hb⟩;obtain ⟨z,hz,rfl⟩:=zbL hk;rw[Qd] at hz
   cases ht:r[k]? with
   |none=>rw[ht] at hz;cases hz
   |some t=>
   rw[ht] at hz;cases hz;have hkl:k<r.length:=(Qh.mp ht).1;rw[QP];refine ⟨_,tg_T rfl (tg_C (tg_N (Qa rfl) rfl) (tg_C (tg_N (Qa rfl) rfl) tg_0)),?_⟩;unfold zmb;have i0:oIx (stpD t) (.int 0)=some (.int t.a):=zaN (j:=0) rfl;apply zbc
   case h1=>exact zap (za8 rfl zag i0) (zad rfl) zb3
   case h2=>
    intro hh;have hh:(t.a:Int)=(n:Int):=Qa hh;exact zbp (zaZ (zad rfl) (Qa rfl) rfl) (zaO ⟨k,_,_,rfl,by omega,.inl ⟨t,ht,by omega⟩⟩)
   case h3=>
    intro hh;have hh:¬(t.a:Int)=(n:Int):=Jf hh;refine zbq (zaO ⟨b,_,_,rfl,hbl,?_⟩);rcases hb with hb|⟨hb,hc⟩
    ·exact .inl hb
    ·refine .inr ⟨hb,λs hs=>?_⟩
     rw[JL,ht] at hs;rcases QX.mp hs with hs|hs
     ·exact hc s hs
     ·rw[Je.mp hs];omega
  case hend=>
   rintro Z ⟨b,x3,x4,rfl,hbl,hb⟩;refine zaz ?_
   have hb':(∃s,r[b]?=some s/\s.a=n)∨(b=0/\∀s∈r,s.a≠n):=by
    rw[zaG,Qb,JF] at hb;exact hb
   refine zaq (zbB (zen zai (Qa rfl)) (Qa rfl) rfl) ?_;have c1:oSlA (.list (r.map stpD)) (some (b:Int)) none=some (.list ((r.drop b).map stpD)):=by rw[zck,znU (by rw[Qb];exact hbl),List.map_drop]
   have c2:oSlA (.list (r.map stpD)) none (some (b:Int))=some (.list ((r.take b).map stpD)):=by rw[zck,zq1 (by rw[Qb];exact hbl),Uk]
   have c3:oAdd (.list ((r.drop b).map stpD)) (.list ((r.take b).map stpD))=some (.list ((rot b r).map stpD)):=by
    rw[zca (by rw[Qb,Qb,Jj,QZ];omega)]
    unfold rot;rw[QC]
   apply zaL;apply zbv (λk Z=>∃x6 x7 x8 x9,Z=[some (.pub (.int (n:Nat))),some (.pub (.list (r.map stpD))),some (.pub (.int (b:Nat))),x3,x4,some (.own ((((rot b r).take k).filterMap (zc0 n)).map takD)),x6,x7,x8,x9])
   case h1=>exact zaS (zap (zdB (zad rfl) (zbW (zad rfl)) zag c1) (zdB (zad rfl) zag (zbW (zad rfl)) c2) c3) zbs
   case h0=>exact ⟨_,_,_,_,rfl⟩
   case hst=>
    rintro k d Z hk ⟨x6,x7,x8,x9,rfl⟩;rw[Qd] at hk
    cases hq:(rot b r)[k]? with
    |none=>rw[hq] at hk;cases hk
    |some s=>
    rw[hq] at hk;cases hk;have hkl:k<(rot b r).length:=(Qh.mp hq).1;have hrl:(rot b r).length=r.length:=(zjQ b r).length_eq;have hta:(rot b r).take (k+1)=(rot b r).take k++[s]:=by rw[JL,hq];rfl
    refine ⟨_,tg_T rfl (tg_C (tg_N (Qa rfl) rfl) (tg_C (tg_N (Qa rfl) rfl) (tg_C (tg_N (Qa rfl) rfl) (tg_C (tg_N (Qa rfl) rfl) tg_0)))),?_⟩;unfold zma
    have hsz:((((rot b r).take k).filterMap (zc0 n)).map takD).length<1000000:=by
     rw[Qb]
     have:=Jk (zc0 n) ((rot b r).take k)
     rw[QZ] at this;omega
    cases hw:s.w with
    |none=>
     apply zbc
     case h1=>exact zaH (k:=λd=>!isNon d) (x:=askD none) (zad rfl)
     case h2=>intro hh;cases hh
     case h3=>
      intro _;refine zbq (zaO ⟨some (.pub (.int s.a)),some (.pub (.int s.b)),some (.pub (.int s.g)),some (.pub (askD none)),?_⟩);rw[hta,List.filterMap_append]
      have:[s].filterMap (zc0 n)=[]:=by unfold zc0;rw[Jy,hw];rfl
      rw[this,Ji]
      rfl
    |some i=>
     apply zbc
     case h1=>exact zaH (k:=λd=>!isNon d) (x:=askD (some i)) (zad rfl)
     case h3=>intro hh;cases hh
     case h2=>
      intro _
      have htest:∀Z:DEnv,Z[7]?=some (some (.pub (.int (s.b:Int))))->Z[0]?=some (some (.pub (.int (n:Int))))->mIf (zce oEq 7 (dVar 0)) (zah .none) (dVar 7) Z=.ok (optD (unpl n s.b)) Z:=λZ h7 h0=>by
       unfold unpl
       by_cases z:s.b=n
       ·rw[Qm z]
        exact zov (zb4 h7 (zad h0) (by rw[zb3,Q3 (by rw[z])])) zag
       ·rw[Qy z]
        exact zlz (zb4 h7 (zad h0) (by rw[zb3,QN (by omega)])) (zad h7)
      refine zbp (zeH rfl (zb6 (zab (zad rfl) (zab (htest _ rfl rfl) zai)) (Qa rfl)) rfl hsz rfl) (zaO ⟨some (.pub (.int s.a)),some (.pub (.int s.b)),some (.pub (.int s.g)),some (.pub (askD (some i))),?_⟩);rw[hta,List.filterMap_append]
      have:[s].filterMap (zc0 n)=[(i,unpl n s.b)]:=by unfold zc0;rw[Jy,hw];rfl
      rw[this,QC]
      rfl
   case hend=>
    rintro Z ⟨x6,x7,x8,x9,rfl⟩;refine zaz (zaB (zbJ rfl rfl) ⟨_,rfl,b,hbl,hb',?_⟩);rw[Qb,JF]
 obtain ⟨d,e,b,h1,h2,rfl⟩:=key;exact ⟨b,h1,h2,e⟩
theorem zfD(n:Nat):∀(R:List Stp)(d:LO),(R.filterMap (zc0 n)).foldl (λd p=>d.set p.1 p.2) d=R.foldl (app n) d
 |[],d=>rfl
 |s::R,d=>by
  rw[J8,Jy];unfold zc0 app
  cases s.w with
  |none=>exact zfD n R d
  |some i=>exact zfD n R (d.set i (unpl n s.b))
theorem zmS{ws:LO}{tk:List (Nat×Option Int)}(h:∀p∈tk,p.1<ws.length):F_av [zaM ws,.list (tk.map takD)]=some (zaM (tk.foldl (λd p=>d.set p.1 p.2) ws)):=by
 refine za3 (Z:=[some (.pub (zaM ws)),some (.pub (.list (tk.map takD))),none,none,none]) rfl ?_;unfold g_av;refine zaq (zbB (zji rfl (show zfh [zaM ws]=some (ws.map optD) from rfl)) (Qa rfl) rfl) ?_
 have hlen:∀(R:List (Nat×Option Int))(d:LO),(R.foldl (λd p=>d.set p.1 p.2) d).length=d.length:=λR=>by
  induction R with
  |nil=>intro d;rfl
  |cons p R ih=>intro d;rw[J8,ih,Q6]
 apply zaL;apply zbv (λk Z=>∃x3 x4,Z=[some (.pub (zaM ws)),some (.pub (.list (tk.map takD))),some (.own (((tk.take k).foldl (λd p=>d.set p.1 p.2) ws).map optD)),x3,x4])
 case h1=>exact zaS (zad rfl) zbs
 case h0=>exact ⟨_,_,rfl⟩
 case hst=>
  rintro k d Z hk ⟨x3,x4,rfl⟩;rw[Qd] at hk
  cases hq:tk[k]? with
  |none=>rw[hq] at hk;cases hk
  |some p=>
  rw[hq] at hk;cases hk;have hpl:=h p (Qq hq);have hta:tk.take (k+1)=tk.take k++[p]:=by rw[JL,hq];rfl
  refine ⟨_,tg_T rfl (tg_C (tg_N (Qa rfl) rfl) (tg_C (tg_N (Qa rfl) rfl) tg_0)),?_⟩;unfold zmd;refine zbp (zeo (zad rfl) rfl (zad rfl) rfl ⟨Int.natCast_nonneg _,by rw[Qb,hlen];omega⟩ rfl) (zaO ⟨some (.pub (.int (p.1:Nat))),some (.pub (optD p.2)),?_⟩)
  rw[hta,List.foldl_append];show [_,_,some (Sl.own ((((tk.take k).foldl (λd p=>d.set p.1 p.2) ws).map optD).set ((p.1:Int)).toNat (optD p.2))),_,_]=[_,_,some (Sl.own ((((tk.take k).foldl (λd p=>d.set p.1 p.2) ws).set p.1 p.2).map optD)),_,_];rw[Qu,List.map_set]
 case hend=>
  rintro Z ⟨x3,x4,rfl⟩;refine zaz (zaB (zbJ rfl rfl) ?_);rw[Qb,JF]
  rfl
def zdE(cs:List Int)(f:Int×Int->Int)(qs:LP)(ws:LO):Prop:=∀p,p<cs.length+1->(ent (zaJ (cs.length+1) (zdo cs f qs ws) (cs.length+1)) p).2.length≠cs.length+1
structure zob(cs:List Int)(f:Int×Int->Int)(qs:LP)(ws:LO)(r:List Stp)(b:Nat):Prop where
 rnd:∃x,Path (zdo cs f qs ws) x r x
 nd:(r.map Stp.a).Nodup
 pos:0<gain r
 bl:b<=r.length
 bat:(∃s,r[b]?=some s/\s.a=cs.length)∨(b=0/\∀s∈r,s.a≠cs.length)
def wayR(n b:Nat)(r:List Stp):List (Nat×Option Int):=(rot b r).filterMap (zc0 n)
theorem zc1(s:Stp)(R:List Stp):gain (s::R)=s.g+gain R:=by show gain ([s]++R)=_;rw[zbD,zdu]
theorem zmT{u v:List Stp}(h:u.Perm v):gain u=gain v:=by
 induction h with
 |nil=>rfl
 |cons x _ ih=>rw[zc1,zc1,ih]
 |swap x y l=>rw[zc1,zc1,zc1,zc1];omega
 |trans _ _ ih1 ih2=>rw[ih1,ih2]
theorem zmU{R:List Stp}(h:∀s∈R,s.g=0):gain R=0:=by
 induction R with
 |nil=>rfl
 |cons s R ih=>
  have e:gain (s::R)=s.g+gain R:=by show gain ([s]++R)=_;rw[zbD,zdu]
  rw[e,h s Qo,ih λx hx=>h x (Qj _ hx)]
  rfl
section
variable{cs:List Int}{ls:L3}{ws:LO}{V:Int->Int->Int}{qs:LP}{f:Int×Int->Int}{m:Nat}
theorem zob.does(hp:zcR cs.length m qs)(hd:zb1 cs qs m ws){r:List Stp}{b:Nat}(h:zob cs f qs ws r b):zb1 cs qs m ((wayR cs.length b r).foldl (λd p=>d.set p.1 p.2) ws)/\totF f 0 ((wayR cs.length b r).foldl (λd p=>d.set p.1 p.2) ws)=totF f 0 ws+gain r/\wayR cs.length b r≠[]/\∀p∈wayR cs.length b r,p.1<ws.length:=by
 obtain ⟨x,hx⟩:=h.rnd;have hin:∀s∈r,IsSt cs f qs ws s:=λs hs=>zeY hp hd s (hx.mem s hs);have pr:=zjQ b r;have hinR:∀s∈rot b r,IsSt cs f qs ws s:=λs hs=>hin s (pr.mem_iff.mp hs);have ndR:((rot b r).map Stp.a).Nodup:=(pr.map Stp.a).nodup_iff.mpr h.nd;have pbR:((rot b r).map Stp.b).Perm ((rot b r).map Stp.a):=((pr.map Stp.b).trans (zkC hx)).trans (pr.map Stp.a).symm;obtain ⟨h1,h2⟩:=zn8 hp hd hinR ndR pbR;unfold wayR;rw[zfD];refine ⟨h1,by rw[h2,zmT pr],λz=>?_,λp hpm=>?_⟩
 ·have:gain r=0:=zmU λs hs=>by
   have hw:zc0 cs.length s=none:=by
    have:=List.filterMap_eq_nil_iff.mp z s (pr.mem_iff.mpr hs)
    exact this
   cases hin s hs with
   |mv _ _ _=>cases hw
   |left _ _=>rfl
   |give _=>rfl
  have:=h.pos
  omega
 ·obtain ⟨s,hs,e⟩:=Jo.mp hpm
  cases hinR s hs with
  |@mv i o o' hw _ _=>
   cases e;exact (Qh.mp hw).1
  |left _ _=>cases e
  |give _=>cases e
theorem zgd(g:Good cs ls)(hm:ws.length=ls.length)(hp:zcR cs.length ws.length qs)(hd:zb1 cs qs ws.length ws)(hq1:qs.length<=500):∃d,F_be [zav cs ls,.list (qs.map (zbU V)),zaM ws]=some d/\((d=.list []/\zdE cs (uncV V) qs ws) ∨ ∃r b,d=.list ((wayR cs.length b r).map takD)/\zob cs (uncV V) qs ws r b):=by
 refine zdS (Z:=[some (.pub (zav cs ls)),some (.pub (.list (qs.map (zbU V)))),some (.pub (zaM ws)),none,none,none]) rfl ?_;unfold g_be;have c6:=g.c6;have l7:=g.l7;have hlc:oLen [.list (cs.map int)]=some (.int cs.length):=by rw[zaD,Qb]
 have hS:∀s∈zdo cs (uncV V) qs ws,s.a<cs.length+1/\s.b<cs.length+1:=λs hs=>(zeY hp hd s hs).lt hp hd;have hwd:=zh3 hS (by omega)
 have hsteps:=zeK (V:=V) g hm hp hd (by omega)
 refine zaq (zaZ (za4 (zab (za8 rfl zag ziR) zai) hlc) (Qa rfl) rfl) ?_;have hadd:oAdd (.int (cs.length:Int)) (.int 1)=some (.int ((cs.length+1:Nat):Int)):=by rw[zaW];rfl
 apply zaL;apply zbv (λk Z=>(∃x4 x5,Z=[some (.pub (zav cs ls)),some (.pub (.list (qs.map (zbU V)))),some (.pub (zaM ws)),some (.pub (.int cs.length)),x4,x5])/\∀p<k,(ent (zaJ (cs.length+1) (zdo cs (uncV V) qs ws) (cs.length+1)) p).2.length≠cs.length+1)
 case h1=>exact zaS (zas (zab (zap (zad rfl) zag hadd) (zab (zas (zab (zad rfl) (zab (zad rfl) (zab (zad rfl) zai))) rfl hsteps) zai)) rfl hwd) zbs
 case h0=>exact ⟨⟨_,_,rfl⟩,λp h=>absurd h (J9 _)⟩
 case hst=>
  rintro k d Z hk ⟨⟨x4,x5,rfl⟩,hb⟩;rw[Qd] at hk
  cases hq:(zaJ (cs.length+1) (zdo cs (uncV V) qs ws) (cs.length+1))[k]? with
  |none=>rw[hq] at hk;cases hk
  |some e=>
  rw[hq] at hk;cases hk;have he:ent (zaJ (cs.length+1) (zdo cs (uncV V) qs ws) (cs.length+1)) k=e:=by unfold ent;rw[Qg,hq];rfl
  refine ⟨_,tg_T rfl (tg_C (tg_N (Qa rfl) rfl) (tg_C (tg_N (Qa rfl) rfl) tg_0)),?_⟩;unfold zmc;have hlw:oLen [.list (e.2.map stpD)]=some (.int e.2.length):=by rw[zaD,Qb]
  apply zbc
  case h1=>exact zap (za6 rfl hlw) (zap (zad rfl) zag hadd) zb3
  case h2=>
   intro hh;have hh:((e.2.length:Nat):Int)=((cs.length+1:Nat):Int):=Qa hh;have hlen:e.2.length=cs.length+1:=by omega
   obtain ⟨d,hrw,r,rfl,hr⟩:=zfC (w:=e.2) (by omega)
   have hwk:=zdn hS (cs.length+1) k;rw[he] at hwk;obtain ⟨q,hpath⟩:=hwk.1.path;rcases hr with ⟨hno,rfl⟩|⟨i,j,hra,rfl⟩
   ·exact absurd hno (zn7 hS hpath (by omega) (Nat.succ_pos _))
   ·have hlr:((e.2.take (j+1)).drop i).length<=1000:=by rw[Jj,QZ];omega
    obtain ⟨b,hbl,hbat,hway⟩:=zh4 (n:=cs.length) hlr;have hrg:=zkB hS (Nat.succ_pos _) (p:=k) (by rw[he];exact hlen) (by rw[he];exact hra)
    rw[he] at hrg;obtain ⟨x,hx,hgp⟩:=hrg;exact zaB (zas (zab (zad rfl) (zab (zas (zab (zad rfl) zai) rfl hrw) zai)) rfl hway) (zdR (zcu ⟨_,rfl,.inr ⟨_,b,rfl,⟨⟨x,hx⟩,ziZ hpath hra,hgp,hbl,hbat⟩⟩⟩))
  case h3=>
   intro hh;have hh:¬((e.2.length:Nat):Int)=((cs.length+1:Nat):Int):=Jf hh;refine zbq (zaO ⟨⟨_,_,rfl⟩,λp hpk=>?_⟩);rcases JS.mp hpk with hpk|rfl
   ·exact hb p hpk
   ·rw[he];omega
 case hend=>
  rintro Z ⟨⟨x4,x5,rfl⟩,hb⟩;refine zaz (zaB (zbf zai (Qa rfl)) ⟨_,rfl,.inl ⟨rfl,λp hpn=>hb p ?_⟩⟩);rw[Qb,zcA hS];exact hpn
theorem zmV{M:Int}(hM0:0<=M)(hM:∀q∈qs,f q<=M):∀(ws:LO)(k:Nat),(∀(i:Nat) t,ws[i]?=some (some t)->(((k+i:Nat):Int),t)∈qs)->totF f k ws<=ws.length*M
 |[],k,_=>by show (0:Int)<=((0:Nat):Int)*M;rw[show (((0:Nat)):Int)=0 from rfl,Int.zero_mul];exact QW _
 |o::ws,k,h=>by
  have ih:=zmV hM0 hM ws (k+1) λi t e=>by
   have:=h (i+1) t (by simpa using e)
   rw[show k+1+i=k+(i+1) by omega]
   exact this
  have h0:hadO f k o<=M:=by
   cases o with
   |none=>exact hM0
   |some t=>exact hM _ (by have:=h 0 t rfl;rw[Uh] at this;exact this)
  rw[QG];show hadO f k o+totF f (k+1) ws<=_;rw[show (((ws.length+1:Nat)):Int)=(ws.length:Int)+1 by omega,Int.add_mul,Int.one_mul]
  omega
theorem zh5(g:Good cs ls)(hm:m=ls.length)(hp:zcR cs.length m qs)(hq1:qs.length<=500){M:Int}(hM0:0<=M)(hM:∀q∈qs,uncV V q<=M):∀(N:Nat)(ws:LO)(d:D),zb1 cs qs m ws->((d=.list []/\zdE cs (uncV V) qs ws) ∨ ∃r b,d=.list ((wayR cs.length b r).map takD)/\zob cs (uncV V) qs ws r b) ->
  (m*M-totF (uncV V) 0 ws<N)->∃ws',zb1 cs qs m ws'/\zdE cs (uncV V) qs ws'/\zcH (zfp (dVar 3)) zgB N [some (.pub (zav cs ls)),some (.pub (.list (qs.map (zbU V)))),some (.pub (zaM ws)),some (.pub d)]=.nx [some (.pub (zav cs ls)),some (.pub (.list (qs.map (zbU V)))),some (.pub (zaM ws')),some (.pub (.list []))]
 |0,ws,d,hd,_,hN=>by
  have:=zmV hM0 hM ws 0 (λi t e=>by rw[QP];exact hd.wish i t e)
  rw[hd.len] at this;exact absurd hN (by omega)
 |N+1,ws,d,hd,hg,hN=>by
  rcases hg with ⟨rfl,hst⟩|⟨r,b,rfl,hgr⟩
  ·refine ⟨ws,hd,hst,?_⟩
   unfold zcH;rw[zhD (ds:=[]) (zad rfl)]
   rfl
  ·obtain ⟨h1,h2,h3,h4⟩:=hgr.does hp hd
   generalize hws':(wayR cs.length b r).foldl (λd p=>d.set p.1 p.2) ws=ws' at h1 h2;have hbe:=zmS h4;rw[hws'] at hbe;obtain ⟨d',hgw,hg'⟩:=zgd (V:=V) (ws:=ws') g (by rw[h1.len,hm]) (by rw[h1.len];exact hp) (by rw[h1.len];exact h1) hq1
   obtain ⟨ws2,k1,k2,k3⟩:=zh5 g hm hp hq1 hM0 hM N ws' d' h1 hg' (by have:=hgr.pos;omega)
   refine ⟨ws2,k1,k2,?_⟩;unfold zcH;rw[zhD (ds:=(wayR cs.length b r).map takD) (zad rfl)]
   have hne:(!((wayR cs.length b r).map takD).isEmpty)=true:=by
    cases hw:wayR cs.length b r with
    |nil=>exact absurd hw h3
    |cons _ _=>rfl
   dsimp only;rw[Qm hne]
   have hb:Ho zgB [some (.pub (zav cs ls)),some (.pub (.list (qs.map (zbU V)))),some (.pub (zaM ws)),some (.pub (.list ((wayR cs.length b r).map takD)))] (λo=>o=.nx [some (.pub (zav cs ls)),some (.pub (.list (qs.map (zbU V)))),some (.pub (zaM ws')),some (.pub d')]):=by
    unfold zgB;refine zaq (zaZ (zas (zab (zad rfl) (zab (zad rfl) zai)) rfl hbe) (Qa rfl) rfl) ?_;exact zbp (zaZ (zas (zab (zad rfl) (zab (zad rfl) (zab (zad rfl) zai))) rfl hgw) (Qa rfl) rfl) rfl
   rw[hb.out];exact k3
theorem zge(g:Good cs ls)(hp:zcR cs.length ls.length qs)(hq1:qs.length<=500){M:Int}(hM0:0<=M)(hM:∀q∈qs,uncV V q<=M)(hF:ls.length*M<10 ^ 60):∃d,F_bf [zav cs ls,.list (qs.map (zbU V))]=some d/\∃ws,d=zaM ws/\zb1 cs qs ls.length ws/\zdE cs (uncV V) qs ws:=by
 refine zdS (Z:=[some (.pub (zav cs ls)),some (.pub (.list (qs.map (zbU V)))),none,none]) rfl ?_;unfold g_bf;have l7:=g.l7;have hll:oLen [.list (ls.map zaE)]=some (.int (ls.length:Nat)):=by rw[zaD,Qb]
 let ws0:LO:=replicate ls.length none
 have hmul:oMul (.list [.none]) (.int (ls.length:Nat))=some (zaM ws0):=by
  rw[zmp (by omega)]
  show _=some (PyData.list ((replicate ls.length none).map optD));rw[J7]
  rfl
 have hd0:zb1 cs qs ls.length ws0:=⟨by show (replicate _ _).length=_;rw[QD],(λi t h=>by
  have h:(replicate ls.length (none:Option Int))[i]?=some (some t):=h;rw[QA] at h
  split at h
  ·cases h
  ·cases h),λk c e=>by
  have h0:ws0.count (some (k:Int))=0:=List.count_eq_zero.mpr λh=>by cases (Um.mp h).2
  rw[h0]
  have:=g.c7 c (Qq e)
  show (0:Int)<=c
  omega⟩
 refine zaq (zaZ (zap (zbf (zab zag zai) (Qa rfl)) (za4 (zab (za8 rfl zag zeN) zai) hll) hmul) (Qa rfl) rfl) ?_;obtain ⟨d',hgw,hg'⟩:=zgd (V:=V) (ws:=ws0) g hd0.len (by rw[hd0.len];exact hp) (by rw[hd0.len];exact hd0) hq1
 refine zaq (zaZ (zas (zab (zad rfl) (zab (zad rfl) (zab (zad rfl) zai))) rfl hgw) (Qa rfl) rfl) ?_
 have h0:∀(n k:Nat),totF (uncV V) k (replicate n none)=0:=λn=>by
  induction n with
  |zero=>intro k;rfl
  |succ n ih=>intro k;rw[QR];show 0+totF (uncV V) (k+1) (replicate n none)=0;rw[ih];rfl
 have hfu:ls.length*M-totF (uncV V) 0 ws0<(FUEL:Nat):=by
  have e:totF (uncV V) 0 ws0=0:=h0 _ _;have e2:((FUEL:Nat):Int)=10 ^ 60:=by unfold FUEL;rfl
  rw[e,e2];omega
 obtain ⟨ws',k1,k2,k3⟩:=zh5 g rfl hp hq1 hM0 hM FUEL ws0 d' hd0 hg' hfu;refine zaq k3 ?_;exact zaB (zad rfl) ⟨_,rfl,ws',rfl,k1,k2⟩
end
section
variable{cs:List Int}{ls:L3}
end
section
variable{cs:List Int}{ls:L3}{as ps:List Int}
theorem zi2(g:Good cs ls):(allW 0 ls).length<=42:=by rw[(zdk ls 0).length_eq];exact zgH g
def rk(ls:L3)(q:Int×Int):Nat:=zay q.2 (ls.getD q.1.toNat [])
def wq(r:Nat)(ls:L3):LP:=(allW 0 ls).filter λq=>decide (rk ls q<=r)
def triD(q:Int×Int):D:=.tuple [.int q.1,.int q.2,.int 1]
theorem zmW(p:Int×Int->Bool):∀(qs:LP),(qs.map λq=>if p q then some (triD q) else none).filterMap id=(qs.filter p).map triD
 |[]=>rfl
 |q::r=>by
  have ih:=zmW p r;rw[Qz]
  cases h:p q with
  |true=>rw[List.filter_cons_of_pos h,Qz,←ih];rfl
  |false=>rw[List.filter_cons_of_neg (by rw[h];decide),←ih];rfl
theorem zeQ(g:Good cs ls)(r:Nat):F_bj [zav cs ls,.int r]=some (.list ((wq r ls).map triD)):=by
 refine za3 (Z:=[some (.pub (zav cs ls)),some (.pub (.int r))]) rfl ?_;unfold g_bj;have few:=zi2 g
 have hc:zbz (gT 2 (gNC (gN 2) (gNC (gN 3) (gN0)))) (dBin (oIB λi j=>decide (i<=j)) (dFun 2 F_ah (zae (dBin oIx (dIxN 0 (zah (.int 1))) (dVar 2)) (zae (dVar 3) (mNil)))) (dVar 1)) (mTup (zae (dVar 2) (zae (dVar 3) (zae (zah (.int 1)) (mNil))))) ((allW 0 ls).map duoD) (zaK [some (.pub (zav cs ls)),some (.pub (.int r))]++replicate 2 none) []=some ([]++(((allW 0 ls).map λq=>if decide (rk ls q<=r) then some (triD q) else none).filterMap id)):=by
  refine zdl (λZ=>∃x y,Z=[some (.pub (zav cs ls)),some (.pub (.int r)),x,y]) _ _ _ _ (by simp) ?_ ⟨none,none,rfl⟩ (by rw[List.length_map,List.length_nil];omega)
  rintro i d e hd he Z ⟨x,y,rfl⟩;rw[Qd] at hd;obtain ⟨q,hq,rfl⟩:=Option.map_eq_some_iff.mp hd;rw[Qd,hq] at he;cases he;obtain ⟨j,rs,h1,h2,h3⟩:=zb2 (Qq hq);rw[QP] at h2;have hg:ls.getD q.1.toNat []=rs:=by rw[h2,Qu,Qg,h1];rfl
  have hix:oIx (.list (ls.map zaE)) (.int q.1)=some (zaE rs):=by rw[h2];exact zpw h1
  refine ⟨[some (.pub (zav cs ls)),some (.pub (.int r)),some (.pub (.int q.1)),some (.pub (.int q.2))],tg_T rfl (tg_C (tg_N (Qa rfl) rfl) (tg_C (tg_N (Qa rfl) rfl) tg_0)),?_,?_,_,_,rfl⟩
  ·refine (zap (zas (zab (zap (za8 rfl zag zeN) (zad rfl) hix) (zab (zad rfl) zai)) rfl (zf4 q.2 rs)) (zad rfl) zow).trans ?_
   dsimp only;unfold rk;rw[hg]
   by_cases hr:zay q.2 rs<=r
   ·rw[Q3 (show ((zay q.2 rs:Nat):Int)<=(r:Int) by omega),Q3 hr];rfl
   ·rw[QN (show ¬((zay q.2 rs:Nat):Int)<=(r:Int) by omega),QN hr];rfl
  ·intro z hz
   dsimp only at hz
   split at hz
   ·cases hz
    exact zb6 (zab (zad rfl) (zab (zad rfl) (zab zag zai))) (Qa rfl)
   ·cases hz
 rw[zmW] at hc;exact zaB (zaH (zbK (zaS (zas (zab (zad rfl) zai) rfl (zd7 g)) zbs) hc)) rfl
theorem zec{t:Int}{rs:List (List Int)}(h:t∈rs.flatten)(r:Nat):zay t rs<=r ↔ t∈(rs.take r).flatten:=by
 have hx:∃x∈rs,(λr:List Int=>r.contains t) x=true:=by
  obtain ⟨x,hx,ht⟩:=JJ.mp h;exact ⟨x,hx,List.contains_iff_mem.mpr ht⟩
 have hlt:=List.findIdx_lt_length.mpr hx;have hat:=List.findIdx_getElem (w:=hlt);unfold zay;rw[Qm hlt];constructor
 ·intro hr
  refine List.mem_flatten.mpr ⟨rs[rs.findIdx λr=>r.contains t],?_,List.contains_iff_mem.mp hat⟩;exact List.mem_take_iff_getElem.mpr ⟨_,by omega,rfl⟩
 ·intro ht
  obtain ⟨x,hx,hxt⟩:=JJ.mp ht;obtain ⟨j,hj,rfl⟩:=List.mem_take_iff_getElem.mp hx
  have:¬j<rs.findIdx (λr=>r.contains t):=λhl=>by
   have:=List.not_of_lt_findIdx hl
   exact absurd (List.contains_iff_mem.mpr hxt) (by simpa using this)
  omega
end
theorem zjR{f:Int×Int->Int}{ps:List Int}:∀(ws:LO)(as:List Int)(k:Nat),as.length=ws.length->(∀a∈as,0<=a)->(∀(i:Nat) t,ws[i]?=some (some t)->f (((k+i:Nat):Int),t)<=as.getD i 0+ps.getD t.toNat 0)->totF f k ws<=as.sum+pz ps ws
 |[],[],k,_,_,_=>by show (0:Int)<=0+0;omega
 |o::ws,a::as,k,hl,ha,h=>by
  have ih:=zjR (f:=f) (ps:=ps) ws as (k+1) (by simpa using hl) (λx hx=>ha x (List.mem_cons_of_mem _ hx)) λi t e=>by
   have:=h (i+1) t (by simpa using e)
   rw[show k+1+i=k+(i+1) by omega]
   simpa using this
  have h0:=ha a Qo;rw[Q7]
  cases o with
  |none=>
   show 0+totF f (k+1) ws<=a+as.sum+(0+pz ps ws);omega
  |some t=>
   have h1:=h 0 t rfl;have h1:f ((k:Int),t)<=a+ps.getD t.toNat 0:=by simpa using h1
   show f ((k:Int),t)+totF f (k+1) ws<=a+as.sum+(ps.getD t.toNat 0+pz ps ws);omega
 |[],_::_,_,hl,_,_=>by cases hl
 |_::_,[],_,hl,_,_=>by cases hl
section
variable{cs:List Int}{ls:L3}{ws:LO}{qs:LP}{f:Int×Int->Int}{m:Nat}{as ps:List Int}
theorem zmX(hp:zcR cs.length m qs)(hd:zb1 cs qs m ws)(ok:OkP cs.length m (λa b=>f (a,b)) qs 1 as ps):totF f 0 ws<=zjH cs as ps:=by
 have h1:=zjR (f:=f) (ps:=ps) ws as 0 (by rw[ok.la,hd.len]) ok.aa λi t e=>by
  have:=ok.le _ (hd.wish i t e)
  rw[QP];have e1:((i:Int)).toNat=i:=Qu i;rw[Int.one_mul] at this;dsimp only at this;rw[e1] at this;exact this
 have hth:∀t,some t∈ws->0<=t/\t<cs.length:=λt ht=>by
  obtain ⟨i,hi⟩:=List.mem_iff_getElem?.mp ht
  have:=hp.lo _ (hd.wish i t hi)
  exact ⟨this.2.2.1,this.2.2.2⟩
 rw[zfA ws hth] at h1;unfold zjH;rw[zgb _ _ ok.lp]
 have h2:sumF cs.length (λk=>((ws.count (some (k:Int)):Nat):Int)*ps.getD k 0)<=sumF cs.length λk=>cs.getD k 0*ps.getD k 0:=zgU _ λk hk=>by
  have hc:cs[k]?=some (cs.getD k 0):=by rw[Qg,Qe hk];rfl
  have hk2:0<=ps.getD k 0:=by
   rw[Qg,Qe (by rw[ok.lp];exact hk)]
   exact ok.pp _ (JI _)
  exact Jr (hd.cop k _ hc) hk2
 omega
theorem zc2(hp:zcR cs.length m qs)(hd:zb1 cs qs m ws)(st:zdE cs f qs ws){us:LO}(hu:zb1 cs qs m us):totF f 0 us<=totF f 0 ws:=by
 obtain ⟨ok,e⟩:=zoa hp hd (zeY hp hd) (zmP hp hd) (V:=λp=>(ent (zaJ (cs.length+1) (zdo cs f qs ws) (cs.length+1)) p).1) (λ_=>rfl) st
 have:=zmX hp hu ok
 rw[e] at this;exact this
abbrev f1:Int×Int->Int:=uncV λ_ _=>1
def zci(ws:LO):Nat:=(ws.filter Option.isSome).length
theorem tot1:∀(ws:LO)(k:Nat),totF f1 k ws=(zci ws:Nat)
 |[],_=>rfl
 |none::ws,k=>by
  show 0+totF f1 (k+1) ws=_;rw[tot1 ws (k+1)];show _=(((none::ws).filter Option.isSome).length:Int);rw[List.filter_cons_of_neg (by simp)]
  unfold zci;omega
 |some t::ws,k=>by
  show 1+totF f1 (k+1) ws=_;rw[tot1 ws (k+1)];show _=(((some t::ws).filter Option.isSome).length:Int);rw[List.filter_cons_of_pos (by simp),List.length_cons]
  unfold zci;omega
theorem zed(g:Good cs ls)(r:Nat):zcR cs.length ls.length (wq r ls) where
 nd:=(zex ls 0 λrs hr=>(g.rk rs hr).once).filter _
 lo:=λq hq=>by
  have:=zmI g q (Jp.mp hq).1
  exact ⟨this.1.1,this.1.2,this.2.1,this.2.2⟩
theorem zq6(g:Good cs ls)(r:Nat):(wq r ls).length<=42:=QO (JM _ _) (zi2 g)
theorem zeR(g:Good cs ls)(r:Nat):∃ws,F_bk [zav cs ls,.int r]=some (zaM ws)/\zb1 cs (wq r ls) ls.length ws/\zdE cs f1 (wq r ls) ws:=by
 obtain ⟨d,hb,ws,rfl,h1,h2⟩:=zge (V:=λ_ _=>1) g (zed g r) (by have:=zq6 g r;omega) (M:=1) (by decide) (λq _=>QW _) (by have:=g.l7;omega)
 refine ⟨ws,?_,h1,h2⟩;refine za3 (Z:=[some (.pub (zav cs ls)),some (.pub (.int r))]) rfl ?_;unfold g_bk;exact zaB (zas (zab (zad rfl) (zab (zas (zab (zad rfl) (zab (zad rfl) zai)) rfl (zeQ g r)) zai)) rfl hb) rfl
theorem zi3(g:Good cs ls)(r:Nat):∃ws,F_bl [zav cs ls,.int r]=some (.int (zci ws:Nat))/\zb1 cs (wq r ls) ls.length ws/\zdE cs f1 (wq r ls) ws:=by
 obtain ⟨ws,hb,h1,h2⟩:=zeR g r;refine ⟨ws,?_,h1,h2⟩;refine za3 (Z:=[some (.pub (zav cs ls)),some (.pub (.int r))]) rfl ?_;unfold g_bl;have hl:ws.length<=7:=by rw[h1.len];exact g.l7
 have hc:zbz (gN 2) (mMap (λd=>!isNon d) (dVar 2)) (dVar 2) (ws.map optD) (zaK [some (.pub (zav cs ls)),some (.pub (.int r))]++replicate 1 none) []=some ((ws.filter Option.isSome).map optD):=by
  have em:(ws.filter Option.isSome).map optD=(ws.map λo=>(if o.isSome then some (optD o) else none:Option D)).filterMap id:=by
   rw[List.filterMap_map];clear h1 h2 hb hl
   induction ws with
   |nil=>rfl
   |cons o ws ih=>cases o <;> simp[ih]
  rw[em];refine zdl (λZ=>∃x,Z=[some (.pub (zav cs ls)),some (.pub (.int r)),x]) _ _ _ _ (by simp only[Qb]) ?_ ⟨none,rfl⟩ (by rw[Qb,QQ];omega)
  rintro i d e hd he Z ⟨x,rfl⟩;rw[Qd] at hd he
  cases hw:ws[i]? with
  |none=>rw[hw] at hd;cases hd
  |some o=>
  rw[hw] at hd he;cases hd;cases he;refine ⟨_,tg_N (Qa rfl) rfl,?_,?_,_,rfl⟩
  ·cases o with
   |none=>exact zaH (k:=λd=>!isNon d) (x:=PyData.none) (zad rfl)
   |some t=>exact zaH (k:=λd=>!isNon d) (x:=int t) (zad rfl)
  ·intro v hv
   cases o with
   |none=>cases hv
   |some t=>cases hv;exact zad rfl
 refine zaB (za4 (zab (zaH (zbK (zaS (zas (zab (zad rfl) (zab (zad rfl) zai)) rfl hb) zbs) hc)) zai) zaD) ?_;rw[Qb]
 rfl
def cutS(r:Nat)(ls:L3)(ws:LO):LO:=List.zipWith (λrs o=>match o with|some t=>if t∈(rs.take r).flatten then some t else none|none=>none) ls ws
theorem zh6(r:Nat)(x:Int):∀(ls:L3)(ws:LO),(cutS r ls ws).count (some x)<=ws.count (some x)
 |[],ws=>by unfold cutS;simp
 |rs::ls,[]=>by unfold cutS;simp
 |rs::ls,o::ws=>by
  have ih:=zh6 r x ls ws
  cases o with
  |none=>
   show (none::cutS r ls ws).count (some x)<=(none::ws).count (some x);rw[Q4,Q4];exact Nat.add_le_add ih (Qx _)
  |some t=>
   show ((if t∈(rs.take r).flatten then some t else none)::cutS r ls ws).count (some x)<=(some t::ws).count (some x);have hc:(if t∈(rs.take r).flatten then some t else none)=some t∨(if t∈(rs.take r).flatten then some t else none)=none:=by split <;> simp
   generalize (if t∈(rs.take r).flatten then some t else none)=c at hc;rcases hc with rfl|rfl
   ·rw[Q4,Q4]
    exact Nat.add_le_add ih (Qx _)
   ·rw[Q4,Q4,show ((none:Option Int)==some x)=false from rfl]
    simp;omega
theorem zoc(g:Good cs ls)(dl:Deal cs ls ws)(r:Nat):zb1 cs (wq r ls) ls.length (cutS r ls ws) where
 len:=by unfold cutS;rw[Uj,dl.len,Nat.min_self]
 wish:=λi t h=>by
  unfold cutS at h;rw[List.getElem?_zipWith] at h
  cases hl:ls[i]? with
  |none=>rw[hl] at h;cases h
  |some rs=>
  cases hw:ws[i]? with
  |none=>rw[hl,hw] at h;cases h
  |some o=>
  rw[hl,hw] at h
  cases o with
  |none=>cases h
  |some u=>
   have h:some (if u∈(rs.take r).flatten then some u else none)=some (some t):=h
   split at h
   ·rename_i hm
    cases h;have hf:=dl.wish i t rs hw hl
    unfold wq;refine Jp.mpr ⟨?_,?_⟩
    ·have:=zgG (k:=0) hl hf
     rwa[QP] at this
    ·refine Q3 ?_
     show zay t (ls.getD ((i:Int)).toNat [])<=r;rw[Qu,Qg,hl];exact (zec hf r).mpr hm
   ·cases h
 cop:=λk c e=>by
  have h1:=zh6 r (k:Int) ls ws;have h2:=dl.cop k c e;omega
end
section
variable{cs:List Int}{ls:L3}{ws:LO}{qs:LP}{V:Int->Int->Int}
def prW(cs:List Int)(f:Int×Int->Int)(qs:LP)(ws:LO)(p:Nat):Int:=(ent (zaJ (cs.length+1) (zdo cs f qs ws) (cs.length+1)) p).1
theorem zmY(g:Good cs ls)(hp:zcR cs.length ls.length qs)(hd:zb1 cs qs ls.length ws)(hq1:qs.length<=500):F_bg [zav cs ls,.list (qs.map (zbU V)),zaM ws]=some (.list (((List.range cs.length).map (prW cs (uncV V) qs ws)).map int)):=by
 refine za3 (Z:=[some (.pub (zav cs ls)),some (.pub (.list (qs.map (zbU V)))),some (.pub (zaM ws)),none,none]) rfl ?_;unfold g_bg;have c6:=g.c6;have hS:∀s∈zdo cs (uncV V) qs ws,s.a<cs.length+1/\s.b<cs.length+1:=λs hs=>(zeY hp hd s hs).lt hp hd;have hlc:oLen [.list (cs.map int)]=some (.int cs.length):=by rw[zaD,Qb]
 have has:F_az [zav cs ls,.list (qs.map (zbU V)),zaM ws]=some (.list ((zdo cs (uncV V) qs ws).map stpD)):=zeK g hd.len (by rw[hd.len];exact hp) (by rw[hd.len];exact hd) (by omega)
 have hwd:=zh3 hS (by omega)
 generalize hT:zaJ (cs.length+1) (zdo cs (uncV V) qs ws) (cs.length+1)=T at hwd;have hTl:T.length=cs.length+1:=by rw[←hT];exact zcA hS _
 refine zaq (zaZ (za4 (zab (za8 rfl zag ziR) zai) hlc) (Qa rfl) rfl) ?_;refine zaq (zaZ (zas (zab (zap (zad rfl) zag zaW) (zab (zas (zab (zad rfl) (zab (zad rfl) (zab (zad rfl) zai))) rfl has) zai)) rfl hwd) (Qa rfl) rfl) ?_
 have hcd:DL.cutD (T.map zcx) none (some (cs.length:Int))=(T.take cs.length).map zcx:=by
  have h2:HT.sIx (T.map zcx).length (T.map zcx).length (some (cs.length:Int))=cs.length:=by
   rw[Qb,hTl];unfold HT.sIx;simp;omega
  unfold DL.cutD;rw[h2,show HT.sIx (T.map zcx).length 0 none=0 from rfl,List.drop_zero,Nat.sub_zero,Uk]
 have hcut:oSlA (.list (T.map zcx)) none (some (cs.length:Int))=some (.list ((T.take cs.length).map zcx)):=by
  rw[zck,hcd]
 have hc:zbz (gT 2 (gNC (gN 5) (gNC (gN 6) (gN0)))) (zah true) (dVar 5) ((T.take cs.length).map zcx) (zaK [some (.pub (zav cs ls)),some (.pub (.list (qs.map (zbU V)))),some (.pub (zaM ws)),some (.pub (.int cs.length)),some (.pub (.list (T.map zcx)))]++replicate 2 none) []=some ([]++((List.range cs.length).map (prW cs (uncV V) qs ws)).map int):=by
  refine zbP (λZ=>∃x y,Z=[some (.pub (zav cs ls)),some (.pub (.list (qs.map (zbU V)))),some (.pub (zaM ws)),some (.pub (.int cs.length)),some (.pub (.list (T.map zcx))),x,y]) _ _ _ _ ?_ ?_ ⟨none,none,rfl⟩ ?_
  ·rw[Qb,Qb,Qb,QZ,Qp];omega
  ·rintro i d e hd' he Z ⟨x,y,rfl⟩
   rw[Qd,Qd] at he
   have hil:i<cs.length:=by
    have:=(Qh.mp hd').1
    rw[Qb,QZ] at this;omega
   rw[QS hil] at he;cases he;rw[Qd,List.getElem?_take_of_lt hil,Qe (by omega)] at hd'
   cases hd'
   have hv:prW cs (uncV V) qs ws i=T[i].1:=by
    unfold prW ent;rw[hT,Qg,Qe (by omega)]
    rfl
   rw[hv];exact ⟨_,tg_T rfl (tg_C (tg_N (Qa rfl) rfl) (tg_C (tg_N (Qa rfl) rfl) tg_0)),rfl,zad rfl,_,_,rfl⟩
  ·rw[QQ,Qb,QZ];omega
 exact zaB (zaH (zbK (zaS (zdB (zad rfl) zag (zbW (zad rfl)) hcut) zbs) hc)) rfl
theorem zpL{n m:Nat}(hp:zcR n m qs)(hm:m<=1000)(P:Nat->Int):F_bh [.int (m:Nat),.list (qs.map (zbU V)),.list (((List.range n).map P).map int)]=some (.list (((List.range m).map λi:Nat=>zco (uncV V) P qs (i:Int)).map int)):=by
 refine za3 (Z:=[some (.pub (.int (m:Nat))),some (.pub (.list (qs.map (zbU V)))),some (.pub (.list (((List.range n).map P).map int))),none,none,none,none]) rfl ?_;unfold g_bh;refine zaq (zbB (ziC (n:=m) (zbf (zab zag zai) (Qa rfl)) (zad rfl) hm) (Qa rfl) rfl) ?_;apply zaL;apply zbv (λk Z=>∃x4 x5 x6,Z=[some (.pub (.int (m:Nat))),some (.pub (.list (qs.map (zbU V)))),some (.pub (.list (((List.range n).map P).map int))),some (.own (((List.range m).map λi:Nat=>zco (uncV V) P (qs.take k) (i:Int)).map int)),x4,x5,x6])
 case h1=>exact zaS (zad rfl) zbs
 case h0=>
  refine ⟨none,none,none,?_⟩
  have e:(replicate m (int 0))=((List.range m).map λi:Nat=>zco (uncV V) P (qs.take 0) (i:Int)).map int:=by
   rw[Jd];apply List.ext_getElem
   ·rw[QD,Qb,Qp]
   ·intro i h1 h2
    rw[List.getElem_replicate,JW]
    rfl
  rw[←e]
  rfl
 case hst=>
  rintro k d Z hk ⟨x4,x5,x6,rfl⟩;rw[Qd] at hk
  cases hq:qs[k]? with
  |none=>rw[hq] at hk;cases hk
  |some q=>
  rw[hq] at hk;cases hk;have hb:=hp.lo q (Qq hq);obtain ⟨⟨a,ha⟩,⟨t,ht⟩⟩:(∃a:Nat,q.1=a)/\∃t:Nat,q.2=t:=⟨⟨q.1.toNat,by omega⟩,⟨q.2.toNat,by omega⟩⟩
  have ham:a<m:=by omega
  have htn:t<n:=by omega
  refine ⟨_,tg_T rfl (tg_C (tg_N (Qa rfl) rfl) (tg_C (tg_N (Qa rfl) rfl) (tg_C (tg_N (Qa rfl) rfl) tg_0))),?_⟩;unfold zl1
  have h1:oIx (.list (((List.range m).map λi:Nat=>zco (uncV V) P (qs.take k) (i:Int)).map int)) (.int q.1)=some (.int (zco (uncV V) P (qs.take k) (a:Int))):=by
   rw[ha];exact zaN (by rw[Qd,Qd,QS ham];rfl)
  have h2:oIx (.list (((List.range n).map P).map int)) (.int q.2)=some (.int (P t)):=by
   rw[ht];exact zaN (by rw[Qd,Qd,QS htn];rfl)
  refine zbp (zeo (za4 (zab (zfX rfl (zad rfl) rfl h1) (zab (zap (zad rfl) (za8 rfl (zad rfl) h2) zbX) zai)) zlB) rfl (zad rfl) rfl ⟨hb.1,by rw[Qb,Qb,Qp];exact hb.2.1⟩ rfl) (zaO ⟨some (.pub (.int q.1)),some (.pub (.int q.2)),some (.pub (.int (V q.1 q.2))),?_⟩)
  have e:∀i:Nat,zco (uncV V) P (qs.take (k+1)) (i:Int)=if q.1=(i:Int) then max (zco (uncV V) P (qs.take k) (i:Int)) (uncV V q-P q.2.toNat) else zco (uncV V) P (qs.take k) (i:Int):=λi=>by
   unfold zco;rw[List.take_add_one,hq,List.foldl_append]
   rfl
  have e2:((((List.range m).map λi:Nat=>zco (uncV V) P (qs.take k) (i:Int)).map int).set q.1.toNat (.int (if V q.1 q.2-P t > zco (uncV V) P (qs.take k) (a:Int) then V q.1 q.2-P t else zco (uncV V) P (qs.take k) (a:Int))))=((List.range m).map λi:Nat=>zco (uncV V) P (qs.take (k+1)) (i:Int)).map int:=by
   apply List.ext_getElem
   ·rw[Q6,Qb,Qb,Qb,Qb]
   ·intro i h1 h2
    have hi:i<m:=by rw[Qb,Qb,Qp] at h2;exact h2
    rw[List.getElem_set,JW,JW,JW,JW,J0,e]
    by_cases hia:a=i
    ·subst hia
     rw[Qm (by omega),Qm ha,show q.2.toNat=t by omega]
     congr 1
     show _=max _ (V q.1 q.2-P t)
     split <;> omega
    ·rw[Qy (by omega),Qy (by omega)]
  rw[←e2]
  rfl
 case hend=>
  rintro Z ⟨x4,x5,x6,rfl⟩;refine zaz (zaB (zbJ rfl rfl) ?_);rw[Qb,JF]
abbrev askL(m:Nat)(f:Int×Int->Int)(P:Nat->Int)(qs:LP):List Int:=(List.range m).map λi:Nat=>zco f P qs (i:Int)
theorem zh7(g:Good cs ls)(hp:zcR cs.length ls.length qs)(hd:zb1 cs qs ls.length ws)(hq1:qs.length<=500):F_bi [zav cs ls,.list (qs.map (zbU V)),zaM ws]=some (papD 1 (askL ls.length (uncV V) (prW cs (uncV V) qs ws) qs) ((List.range cs.length).map (prW cs (uncV V) qs ws))):=by
 refine za3 (Z:=[some (.pub (zav cs ls)),some (.pub (.list (qs.map (zbU V)))),some (.pub (zaM ws)),none]) rfl ?_;unfold g_bi;have l7:=g.l7;have hll:oLen [.list (ls.map zaE)]=some (.int ls.length):=by rw[zaD,Qb]
 refine zaq (zaZ (zas (zab (zad rfl) (zab (zad rfl) (zab (zad rfl) zai))) rfl (zmY g hp hd hq1)) (Qa rfl) rfl) ?_;exact zaB (zb6 (zab zag (zab (zas (zab (za4 (zab (za8 rfl zag zeN) zai) hll) (zab (zad rfl) (zab (zad rfl) zai))) rfl (zpL hp (by omega) _)) (zab (zad rfl) zai))) (Qa rfl)) rfl
theorem zeA(g:Good cs ls):zcR cs.length ls.length (allW 0 ls) where
 nd:=zex ls 0 λrs hr=>(g.rk rs hr).once
 lo:=λq hq=>by
  have:=zmI g q hq
  exact ⟨this.1.1,this.1.2,this.2.1,this.2.2⟩
theorem zfE{o:Ord}{old:Option LO}{ts:List Int}(g:Good cs ls)(ga:zbC cs.length ls.length old ts):∃ws,F_bm [zav cs ls,aimD o old ts]=some (.tuple [zaM ws,papD 1 (askL ls.length (uncV (worV ls o old ts)) (prW cs (uncV (worV ls o old ts)) (allW 0 ls) ws) (allW 0 ls)) ((List.range cs.length).map (prW cs (uncV (worV ls o old ts)) (allW 0 ls) ws))])/\zb1 cs (allW 0 ls) ls.length ws/\zdE cs (uncV (worV ls o old ts)) (allW 0 ls) ws:=by
 have hq:=zi2 g;have l7:=g.l7;obtain ⟨d,hb,ws,rfl,hd,hst⟩:=zge (V:=worV ls o old ts) g (zeA g) (by omega) (M:=18446744073709551616) (by decide) (λq hq=>Int.le_of_lt (zn6 g ga hq).2) (by omega)
 refine ⟨ws,?_,hd,hst⟩;refine za3 (Z:=[some (.pub (zav cs ls)),some (.pub (aimD o old ts)),none,none]) rfl ?_;unfold g_bm;refine zaq (zaZ (zas (zab (zad rfl) (zab (zad rfl) zai)) rfl (zgK g ga)) (Qa rfl) rfl) ?_;refine zaq (zaZ (zas (zab (zad rfl) (zab (zad rfl) zai)) rfl hb) (Qa rfl) rfl) ?_;exact zaB (zb6 (zab (zad rfl) (zab (zas (zab (zad rfl) (zab (zad rfl) (zab (zad rfl) zai))) rfl (zh7 g (zeA g) hd (by omega))) zai)) (Qa rfl)) rfl
end
section
variable{cs:List Int}{ls:L3}{ws:LO}{o:Ord}{old:Option LO}{ts:List Int}
theorem zfF(g:Good cs ls)(dl:Deal cs ls ws):F_bx [zav cs ls,zaM ws]=some (.bool true):=by
 refine za3 (Z:=[some (.pub (zav cs ls)),some (.pub (zaM ws)),none,none]) rfl ?_;unfold g_bx;have l7:=g.l7;have hl:=dl.len;have hll:oLen [.list (ls.map zaE)]=some (.int ls.length):=by rw[zaD,Qb]
 have hul:oLen [zaM ws]=some (.int ws.length):=by unfold zaM;rw[zaD,Qb]
 have hne:oNe (.int ws.length) (.int ls.length)=some false:=by rw[zep,hl];simp
 apply zaL;apply zbc
 case h1=>exact zcX (zcm (zbA (zaH (k:=λd=>PyData.bool (isTy d "list")) (x:=zaM ws) (zad rfl)))) (zap (za6 rfl hul) (za4 (zab (za8 rfl zag zeN) zai) hll) hne)
 case h2=>intro h;cases h
 case h3=>
  intro _;refine zbq (zaz ?_);apply zaL;apply zbv (λi Z=>∃x2 x3,Z=[some (.pub (zav cs ls)),some (.pub (zaM ws)),x2,x3])
  case h1=>exact zch (zab (zad rfl) zai) zbS
  case h0=>exact ⟨_,_,rfl⟩
  case hst=>
   rintro i d Z hi ⟨x2,x3,rfl⟩;obtain ⟨z,hz,rfl⟩:=zbL hi;rw[Qd] at hz
   cases hwi:ws[i]? with
   |none=>rw[hwi] at hz;cases hz
   |some o=>
   rw[hwi] at hz;cases hz;have hil:i<ls.length:=by have:=(Qh.mp hwi).1;omega
   have hls:ls[i]?=some ls[i]:=Qe hil;rw[QP];refine ⟨_,tg_T rfl (tg_C (tg_N (Qa rfl) rfl) (tg_C (tg_N (Qa rfl) rfl) tg_0)),?_⟩;unfold zl0
   cases o with
   |none=>
    apply zaL;apply zbc
    case h1=>exact ziw (zaH (k:=λd=>!isNon d) (x:=PyData.none) (zad rfl))
    case h2=>intro h;cases h
    case h3=>
     intro _;refine zbq (zaz ?_);apply zbc
     case h1=>exact ziw (zaH (k:=λd=>!isNon d) (x:=PyData.none) (zad rfl))
     case h2=>intro h;cases h
     case h3=>exact λ_=>zbq (zaO ⟨_,_,rfl⟩)
   |some t=>
    have htm:=dl.wish i t _ hwi hls;have gr:=g.rk ls[i] (Qq hls);have ht:=gr.flat t htm
    have hfl:(ls[i]).flatten.length<64:=by
     have:=zds cs.length _ gr.once gr.flat
     have:=g.c6
     omega
    apply zaL;apply zbc
    case h1=>exact zix (zaH (k:=λd=>!isNon d) (x:=int t) (zad rfl)) (zcX (zcm (zbA (zas (zab (zad rfl) zai) rfl (zgM t)))) (zb4 rfl (zas (zab (zad rfl) (zab (zad rfl) zai)) rfl (zhJ hls hfl)) zkw))
    case h2=>intro h;simp[htm] at h
    case h3=>
     intro _;refine zbq (zaz ?_);apply zbc
     case h1=>exact zix (zaH (k:=λd=>!isNon d) (x:=int t) (zad rfl)) (zap (zgo (zad rfl) (zab (zad rfl) zai) zf5) (zap (za8 rfl zag ziR) (zad rfl) (ix_c ht.1 ht.2)) rfl)
     case h2=>
      intro h;have h:=Qa h;obtain ⟨k,rfl⟩:∃k:Nat,t=k:=⟨t.toNat,by omega⟩
      have hc:=dl.cop k (cs.getD k 0) (by rw[Qg,Qe (show k<cs.length by omega)];rfl)
      rw[Qu] at h;omega
     case h3=>exact λ_=>zbq (zaO ⟨_,_,rfl⟩)
  case hend=>
   rintro Z ⟨x2,x3,rfl⟩;exact zaz (zaB zag rfl)
theorem zmZ(h:zb1 cs (allW 0 ls) ls.length ws):Deal cs ls ws where
 len:=h.len
 wish:=λi t rs hw hrs=>by
  obtain ⟨i',rs',h1,h2,h3⟩:=zb2 (h.wish i t hw);have h2:(i:Int)=((0+i':Nat):Int):=h2;have hii:i=i':=by omega
  subst hii;rw[hrs] at h1;cases h1;exact h3
 cop:=h.cop
theorem zi4(ls:L3):∀(ws:LO)(l2:L3)(k:Nat),(∀(j:Nat) rs,l2[j]?=some rs->ls.getD (k+j) []=rs)->ws.length=l2.length->totF (uncV (worV ls o old ts)) k ws=sumO (gotW (worW ls o old ts) k l2 ws)
 |[],[],_,_,_=>rfl
 |[],_::_,_,_,h=>by cases h
 |_::_,[],_,_,h=>by cases h
 |x::ws,rs::l2,k,hj,hl=>by
  have ih:=zi4 ls ws l2 (k+1) (λj r h=>by rw[show k+1+j=k+(j+1) by omega];exact hj (j+1) r h) (by simpa using hl)
  show hadO _ k x+totF _ (k+1) ws=sumO (x.map (worW ls o old ts k rs)::gotW _ (k+1) l2 ws);rw[zcB,ih]
  congr 1
  cases x with
  |none=>rfl
  |some t=>
   show worV ls o old ts (k:Int) t=worW ls o old ts k rs t;unfold worV;rw[Qu,show ls.getD k []=rs from hj 0 rs rfl]
end
def cR(r:Nat)(got:List Int):Nat:=(got.filter λx=>decide (1<=x)&&decide (x<=(r:Int))).length
theorem zi5(r:Nat):∀got:List Int,cR (r+1) got=cR r got+got.count (1+(r:Int))
 |[]=>rfl
 |x::got=>by
  have ih:=zi5 r got;unfold cR at ih ⊢;rw[Q4]
  by_cases h1:1<=x
  ·by_cases h2:x<=(r:Int)
   ·rw[List.filter_cons_of_pos (by simp[h1];omega),List.filter_cons_of_pos (by simp[h1,h2]),List.length_cons,List.length_cons,ih,if_neg (by simp;omega)]
    omega
   ·by_cases h3:x=1+(r:Int)
    ·rw[List.filter_cons_of_pos (by simp;omega),List.filter_cons_of_neg (by simp;omega),List.length_cons,ih,if_pos (by simp[h3])]
     omega
    ·rw[List.filter_cons_of_neg (by simp;omega),List.filter_cons_of_neg (by simp;omega),ih,if_neg (by simp[h3])]
     omega
  ·rw[List.filter_cons_of_neg (by simp;omega),List.filter_cons_of_neg (by simp;omega),ih,if_neg (by simp;omega)]
   omega
theorem zi6(got:List Int):cR 0 got=0:=by
 unfold cR;rw[List.length_eq_zero_iff,List.filter_eq_nil_iff];intro x _;simp;omega
theorem zh8{L r:Nat}{got:List Int}(h:r<=L):((cnts L got).take r).sum=((cR r got:Nat):Int):=by
 have key:∀r:Nat,((List.range r).map λp:Nat=>((got.count (1+(p:Int)):Nat):Int)).sum=((cR r got:Nat):Int):=λr=>by
  induction r with
  |zero=>rw[zi6];rfl
  |succ r ih=>
   rw[Ua,QC,JE,ih,zi5];simp
 rw[←key r];unfold cnts;rw[List.take_append_of_le_length (by rw[Qb,Qp];exact h),←Uk,List.take_range,Nat.min_eq_left h]
section
variable{cs:List Int}{ls:L3}{ws us:LO}
theorem zjS(r:Nat):∀(ls:L3)(ws:LO),(∀(i:Nat) t rs,ws[i]?=some (some t)->ls[i]?=some rs->t∈rs.flatten)->zci (cutS r ls ws)=cR r (rgot ls ws)
 |[],_,_=>by unfold cutS rgot;simp[zci,cR]
 |_::_,[],_=>by unfold cutS rgot;simp[zci,cR]
 |rs::ls,o::ws,h=>by
  have ih:=zjS r ls ws λi t rs e1 e2=>h (i+1) t rs (by simpa using e1) (by simpa using e2)
  cases o with
  |none=>
   show zci (none::cutS r ls ws)=cR r (0::rgot ls ws);unfold zci cR at ih ⊢;rw[List.filter_cons_of_neg (by simp),List.filter_cons_of_neg (by simp),ih]
  |some t=>
   have hm:=h 0 t rs rfl rfl;have h0:=zcz hm;have hr:=zec hm r;show zci ((if t∈(rs.take r).flatten then some t else none)::cutS r ls ws)=cR r (((zay t rs:Nat):Int)::rgot ls ws);unfold zci cR at ih ⊢
   by_cases hc:t∈(rs.take r).flatten
   ·have:=hr.mpr hc
    rw[if_pos hc,List.filter_cons_of_pos (by simp),List.filter_cons_of_pos (by simp;omega),List.length_cons,List.length_cons,ih]
   ·have:¬zay t rs<=r:=λz=>hc (hr.mp z)
    rw[if_neg hc,List.filter_cons_of_neg (by simp),List.filter_cons_of_neg (by simp;omega),ih]
theorem zeB:∀(ls:L3)(ws:LO),ws.length=ls.length->(∀(i:Nat) t rs,ws[i]?=some (some t)->ls[i]?=some rs->t∈rs.flatten)->(rgot ls ws).count 0+zci ws=ws.length
 |[],[],_,_=>rfl
 |[],_::_,hl,_=>by cases hl
 |_::_,[],hl,_=>by cases hl
 |rs::ls,o::ws,hl,h=>by
  have ih:=zeB ls ws (by simpa using hl) λi t rs e1 e2=>h (i+1) t rs (by simpa using e1) (by simpa using e2)
  unfold zci at ih ⊢
  cases o with
  |none=>
   show (0::rgot ls ws).count 0+_=_;rw[List.count_cons_self,List.filter_cons_of_neg (by simp),List.length_cons]
   omega
  |some t=>
   have h0:=zcz (h 0 t rs rfl rfl);show (((zay t rs:Nat):Int)::rgot ls ws).count 0+_=_;rw[List.count_cons_of_ne (by omega),List.filter_cons_of_pos (by simp),List.length_cons,List.length_cons]
   omega
theorem zgV{x:Int}{r:List Int}(h:fnz (x::r)<=0):x<=0:=by
 unfold fnz at h
 split at h <;> omega
theorem zm0{o:Ord}{old:Option LO}{ts:List Int}(g:Good cs ls)(d1:Deal cs ls us)(d2:Deal cs ls ws)(ga:zbC cs.length ls.length old ts)(h:sumO (gotW (worW ls o old ts) 0 ls us)<=sumO (gotW (worW ls o old ts) 0 ls ws)):(o=.firsts->1<=lng ls->cR 1 (rgot ls us)<=cR 1 (rgot ls ws))/\(o≠.firsts->(rgot ls ws).count 0<=(rgot ls us).count 0):=by
 have hb:=zmF (o:=o) g d1 d2 ga;rw[QN (by omega)] at hb
 have hf:fnz (zeP o (cnts (lng ls) (rgot ls us)) (cnts (lng ls) (rgot ls ws)))<=0:=by
  unfold betW at hb
  by_cases z:fnz (zeP o (cnts (lng ls) (rgot ls us)) (cnts (lng ls) (rgot ls ws)))=0
  ·omega
  ·rw[Qy z] at hb
   have:=Jf hb
   omega
 have hlast:zaR (cnts (lng ls) (rgot ls us)) (cnts (lng ls) (rgot ls ws))=zaR ((List.range (lng ls)).map λr:Nat=>(((rgot ls us).count (1+(r:Int)):Nat):Int)) ((List.range (lng ls)).map λr:Nat=>(((rgot ls ws).count (1+(r:Int)):Nat):Int))++[(((rgot ls us).count 0:Nat):Int)-(((rgot ls ws).count 0:Nat):Int)]:=by
  unfold cnts;rw[zft (by rw[Qb,Qb])]
  rfl
 refine ⟨λho hL=>?_,λho=>?_⟩
 ·subst ho
  obtain ⟨L,hLe⟩:∃L,lng ls=L+1:=⟨lng ls-1,by omega⟩
  have e:∀got:List Int,∃r,cnts (lng ls) got=((cR 1 got:Nat):Int)::r:=λgot=>by
   rw[hLe,zi5 0 got,zi6];unfold cnts;rw[List.range_succ_eq_map];exact ⟨_,by rw[Qz,List.cons_append,QP]⟩
  obtain ⟨r1,e1⟩:=e (rgot ls us);obtain ⟨r2,e2⟩:=e (rgot ls ws);rw[e1,e2] at hf
  have:=zgV (show fnz ((((cR 1 (rgot ls us):Nat):Int)-((cR 1 (rgot ls ws):Nat):Int))::zaR r1 r2)<=0 from hf)
  omega
 ·have hx : -((((rgot ls us).count 0:Nat):Int)-(((rgot ls ws).count 0:Nat):Int))<=0:=by
   cases o with
   |firsts=>exact absurd rfl ho
   |full=>
    unfold zeP at hf;dsimp only at hf;rw[hlast,List.map_append,List.length_append,List.drop_append_of_le_length (by rw[List.length_map];simp),List.drop_of_length_le (by rw[List.length_map];simp)] at hf
    exact zgV hf
   |lasts=>
    unfold zeP at hf;dsimp only at hf;rw[hlast,QC,List.reverse_append] at hf;exact zgV hf
  omega
theorem zod(g:Good cs ls){r r':Nat}(hr:r<=r'){lw lw':LO}(h1:zb1 cs (wq r ls) ls.length lw)(h2:zb1 cs (wq r' ls) ls.length lw')(st:zdE cs f1 (wq r' ls) lw'):zci lw<=zci lw':=by
 have hd:zb1 cs (wq r' ls) ls.length lw:=⟨h1.len,λi t h=>by
  have:=Jp.mp (h1.wish i t h)
  have h3:rk ls ((i:Int),t)<=r:=Qa this.2;exact Jp.mpr ⟨this.1,Q3 (by omega)⟩,h1.cop⟩
 have:=zc2 (zed g r') h2 st hd
 rw[tot1,tot1] at this;omega
theorem zm1(r:Nat)(h:lng ls<=r):wq r ls=wq (lng ls) ls:=by
 unfold wq;refine List.filter_congr λq hq=>decide_eq_decide.mpr ?_
 have hk:rk ls q<=lng ls:=by
  obtain ⟨i,rs,h1,h2,h3⟩:=zb2 hq;unfold rk;rw[h2,Qu,QP,Qg,h1]
  have:=zhL (Qq h1)
  have h4:zay q.2 rs<=rs.length:=(zec h3 rs.length).mpr (by rw[JF];exact h3)
  show zay q.2 rs<=_;omega
 omega
end
section
variable{cs:List Int}{ls:L3}{ws:LO}{o:Ord}{old:Option LO}{ts:List Int}
def levD(lv:Nat->Nat):List Int:=(List.range 7).map λr=>((lv r:Nat):Int)
theorem zgf{lv:Nat->Nat}{k:Nat}(h:k<7):oIx (.list ((levD lv).map int)) (.int (k:Int))=some (.int (lv k:Nat)):=zaN (by unfold levD;rw[Qd,Qd,QS h];rfl)
theorem zoe{xs:List D}{r:Nat}(h:r<=xs.length):DL.cutD xs none (some (r:Int))=xs.take r:=by
 have h2:HT.sIx xs.length xs.length (some (r:Int))=r:=by
  unfold HT.sIx;simp
  split <;> omega
 unfold DL.cutD;rw[h2,show HT.sIx xs.length 0 none=0 from rfl,List.drop_zero,Nat.sub_zero]
theorem zjT(g:Good cs ls)(dl:Deal cs ls ws){lv:Nat->Nat}(h:∀r,zci (cutS r ls ws)<=lv r):F_by [zav cs ls,.list ((levD lv).map int),zaM ws]=some (.bool true):=by
 refine za3 (Z:=[some (.pub (zav cs ls)),some (.pub (.list ((levD lv).map int))),some (.pub (zaM ws)),none,none]) rfl ?_;unfold g_by
 have hL:lng ls<=5:=zf6 g.l1 λrs h=>(g.rk rs h).few;refine zaq (zaZ (zas (zab (zad rfl) (zab (zad rfl) zai)) rfl (zd9 g dl)) (Qa rfl) rfl) ?_;have hlen:oLen [.list ((cnts (lng ls) (rgot ls ws)).map int)]=some (.int ((lng ls+1:Nat):Int)):=by rw[zaD,Qb,zcw]
 apply zaL;apply zbv (λ_ Z=>∃x,Z=[some (.pub (zav cs ls)),some (.pub (.list ((levD lv).map int))),some (.pub (zaM ws)),some (.pub (.list ((cnts (lng ls) (rgot ls ws)).map int))),x])
 case h1=>exact zcP (zab (za6 rfl hlen) zai) (zcj (by omega) (by omega))
 case h0=>exact ⟨_,rfl⟩
 case hst=>
  rintro r d Z hi ⟨x,rfl⟩;obtain ⟨rfl,hr⟩:=zbR hi;refine ⟨_,tg_N (Qa rfl) rfl,?_⟩;rw[JR];unfold zlZ
  have hsl:oSlA (.list ((cnts (lng ls) (rgot ls ws)).map int)) none (some (r:Int))=some (.list (((cnts (lng ls) (rgot ls ws)).take r).map int)):=by
   rw[zck,zoe (by rw[Qb,zcw];omega),Uk]
  have hcmp:oIB (λi j=>decide (j<i)) (.int ((cnts (lng ls) (rgot ls ws)).take r).sum) (.int (lv r:Nat))=some false:=by
   show some (decide ((lv r:Int)<((cnts (lng ls) (rgot ls ws)).take r).sum))=_;rw[zh8 (by omega),←zjS r ls ws dl.wish,QN (by have:=h r;omega)]
  apply zbc
  case h1=>exact zap (za4 (zab (zdB (zad rfl) zag (zbW (zad rfl)) hsl) zai) zjl) (za8 rfl (zad rfl) (zgf (by omega))) hcmp
  case h2=>intro h;cases h
  case h3=>exact λ_=>zbq (zaO ⟨_,rfl⟩)
 case hend=>
  rintro Z ⟨x,rfl⟩;exact zaz (zaB zag rfl)
theorem zm2(L:Nat)(got:List Int):zcQ (cnts L got)=((got.count 0:Nat):Int):=by
 unfold zcQ;rw[zcw,J6,Qg];unfold cnts;rw[Qr (by rw[Qb,Qp];exact Qx _),Qb,Qp,Nat.sub_self]
 rfl
theorem zpM(g:Good cs ls)(dl:Deal cs ls ws){lv:Nat->Nat}(h1:o=.firsts->1<=lng ls->cR 1 (rgot ls ws)=lv 1)(h2:o≠.firsts->((rgot ls ws).count 0:Nat)+lv (lng ls)=ls.length):F_bz [zav cs ls,.list ((levD lv).map int),.str o.tx,zaM ws]=some (.bool true):=by
 refine za3 (Z:=[some (.pub (zav cs ls)),some (.pub (.list ((levD lv).map int))),some (.pub (.str o.tx)),some (.pub (zaM ws)),none]) rfl ?_;unfold g_bz;have hL:lng ls<=5:=zf6 g.l1 λrs h=>(g.rk rs h).few;refine zaq (zaZ (zas (zab (zad rfl) (zab (zad rfl) zai)) rfl (zd9 g dl)) (Qa rfl) rfl) ?_;have hlen:oLen [.list ((cnts (lng ls) (rgot ls ws)).map int)]=some (.int ((lng ls+1:Nat):Int)):=by rw[zaD,Qb,zcw]
 have hll:oLen [.list (ls.map zaE)]=some (.int ls.length):=by rw[zaD,Qb]
 have hne:cnts (lng ls) (rgot ls ws)≠[]:=λe=>by have:=zcw (lng ls) (rgot ls ws);rw[e] at this;cases this
 apply zaL;refine zbc (b:=o.isF) (Z1:=[some (.pub (zav cs ls)),some (.pub (.list ((levD lv).map int))),some (.pub (.str o.tx)),some (.pub (zaM ws)),some (.pub (.list ((cnts (lng ls) (rgot ls ws)).map int)))]) (zb4 rfl zag (zoB o)) (λhf=>?_) (λhf=>?_)
 ·have ho:o=.firsts:=by cases o <;> first|rfl|cases hf
  by_cases hz:lng ls=0
  ·refine zaB (zjg (t:=true) (u:=true) (zaH (zap (za6 rfl hlen) zag (by rw[zb3,hz];rfl))) λz=>by cases z) (zcu rfl)
  ·have h0:oIx (.list ((cnts (lng ls) (rgot ls ws)).map int)) (.int 0)=some (.int (lv 1:Nat)):=zaN (j:=0) (by
    rw[←h1 ho (by omega),Qd]
    have e:=zh8 (L:=lng ls) (r:=1) (got:=rgot ls ws) (by omega)
    cases hc:cnts (lng ls) (rgot ls ws) with
    |nil=>exact absurd hc hne
    |cons a r=>
     rw[hc] at e;have e:a+0=((cR 1 (rgot ls ws):Nat):Int):=e;rw[←e,Int.add_zero]
     rfl)
   refine zaB (zjg (t:=decide (((lng ls+1:Nat):Int)=1)) (u:=true) (zaH (zap (za6 rfl hlen) zag zb3)) λ_=>zaH (zap (za8 rfl zag h0) (za8 rfl zag (zgf (k:=1) (by decide))) (by rw[zb3];simp))) (zcu ?_)
   rw[Bool.or_true]
 ·have ho:o≠.firsts:=λe=>by subst e;cases hf
  have h2:=h2 ho;refine zbq (zaz (zaB (zaH (zap (za8 rfl (zfY zag) (zn0 hne)) (zap (za4 (zab (za8 rfl zag zeN) zai) hll) (za8 rfl (zap (za6 rfl hlen) zag zbX) (show oIx _ (.int (((lng ls+1:Nat):Int)-1))=some (.int (lv (lng ls):Nat)) by rw[show ((lng ls+1:Nat):Int)-1=((lng ls:Nat):Int) by omega];exact zgf (by omega))) zbX) zb3)) ?_))
  rw[zm2,Q3 (by omega)]
end
theorem zof:∀{xs:List Int},xs.Pairwise (· <= ·)->zcO xs=xs:=λ{xs} h=>by
 refine (zbk xs).eq_of_pairwise (le:=(· <= ·)) (λa b _ _ h1 h2=>JP h1 h2) (zfk xs) h
theorem zoF{i:Int}{j:Int}(h:i=j):oNe (.int i) (.int j)=some false:=by rw[zep,h];simp
theorem zog:∀ns:List Int,ns.length<=63->F_ca [.list (ns.map int)]=some (.bool true):=by
 intro ns hns;refine za3 (Z:=[some (.pub (.list (ns.map int))),none,none,none,none,none,none,none,none,none]) rfl ?_;unfold g_ca;obtain ⟨r,hr,cs,ls,rfl,g⟩:=ziN (ns:=ns) (by omega) 1
 have l7:=g.l7;have c6:=g.c6;have hL:lng ls<=5:=zf6 g.l1 λrs h=>(g.rk rs h).few;obtain ⟨v0,hv0⟩:=zcK ns 0 (by omega)
 obtain ⟨v3,hv3⟩:=zcK ns 3 (by omega)
 obtain ⟨r,ha,o,old,ts,rfl,ga⟩:=znX g v0 5;refine zaq (zaZ (zas (zab (zad rfl) (zab zag (zab zag (zab zag (zab zag zai))))) rfl hr) (Qa rfl) rfl) ?_;refine zaq (zaZ (zas (zab (zad rfl) (zab (zas (zab (zad rfl) (zab zag zai)) rfl hv0) (zab zag zai))) rfl ha) (Qa rfl) rfl) ?_;have hlv:∀r:Nat,∃lw,F_bl [zav cs ls,.int r]=some (.int (zci lw:Nat))/\zb1 cs (wq r ls) ls.length lw/\zdE cs f1 (wq r ls) lw:=λr=>zi3 g r;obtain ⟨lw,hlw⟩:=Classical.axiomOfChoice hlv
 let lv:Nat->Nat:=λr=>zci (lw r)
 have mono:∀r r',r<=r'->lv r<=lv r':=λr r' h=>zod g h (hlw r).2.1 (hlw r').2.1 (hlw r').2.2
 have hlong:∀r,lng ls<=r->lv r=lv (lng ls):=λr h=>Nat.le_antisymm (by
  have h1:=(hlw r).2.1;rw[zm1 r h] at h1
  have:=zc2 (zed g (lng ls)) (hlw (lng ls)).2.1 (hlw (lng ls)).2.2 h1
  rw[tot1,tot1] at this;show zci (lw r)<=zci (lw (lng ls))
  omega) (mono _ _ h)
 have top:∀us,Deal cs ls us->∀r,zci (cutS r ls us)<=lv r:=λus du r=>by
  have:=zc2 (zed g r) (hlw r).2.1 (hlw r).2.2 (zoc g du r)
  rw[tot1,tot1] at this;show _<=zci (lw r);omega
 have ldeal:∀r,Deal cs ls (lw r)/\cR r (rgot ls (lw r))=lv r:=λr=>by
  have key:∀(i:Nat) t rs,(lw r)[i]?=some (some t)->ls[i]?=some rs->t∈rs.flatten/\t∈(rs.take r).flatten:=λi t rs hw hrs=>by
   have hq:=Jp.mp ((hlw r).2.1.wish i t hw);obtain ⟨i',rs',h1,h2,h3⟩:=zb2 hq.1;have h2:(i:Int)=((0+i':Nat):Int):=h2;have hii:i=i':=by omega
   subst hii;rw[hrs] at h1;cases h1;have h4:zay t (ls.getD ((i:Int)).toNat [])<=r:=Qa hq.2;rw[Qu,Qg,hrs] at h4;exact ⟨h3,(zec h3 r).mp h4⟩
  have dl:Deal cs ls (lw r):=⟨(hlw r).2.1.len,λi t rs hw hrs=>(key i t rs hw hrs).1,(hlw r).2.1.cop⟩;refine ⟨dl,?_⟩;rw[←zjS r ls (lw r) dl.wish]
  have e:cutS r ls (lw r)=lw r:=by
   apply Jm;intro i;have hl:=dl.len;unfold cutS;rw[List.getElem?_zipWith]
   cases hw:(lw r)[i]? with
   |none=>cases ls[i]? <;> rfl
   |some x=>
    have hil:=(Qh.mp hw).1;have hrs:ls[i]?=some ls[i]:=Qe (by omega)
    rw[hrs]
    cases x with
    |none=>rfl
    |some t=>
     show some (if t∈(ls[i].take r).flatten then some t else none)=_;rw[Qm (key i t _ hw hrs).2]
  rw[e]
 have lv0:lv 0=0:=by
  have:=(ldeal 0).2
  rw[zi6] at this;exact this.symm
 have lvm:lv 6<=ls.length:=by
  show zci (lw 6)<=_;unfold zci;rw[←(hlw 6).2.1.len];exact JM _ _
 have hasc:(levD lv).Pairwise (· <= ·):=by
  unfold levD;rw[Uf];exact List.pairwise_lt_range.imp λh=>by have:=mono _ _ (Nat.le_of_lt h);omega
 have hc:zbz (gN 10) (zah true) (dFun 2 F_bl (zae (dVar 1) (zae (dVar 10) (mNil)))) (zbN 0 7) (zaK [some (.pub (.list (ns.map int))),some (.pub (zav cs ls)),some (.pub (aimD o old ts)),none,none,none,none,none,none,none]++replicate 1 none) []=some ([]++(levD lv).map int):=by
  refine zbP (λZ=>∃x,Z=[some (.pub (.list (ns.map int))),some (.pub (zav cs ls)),some (.pub (aimD o old ts)),none,none,none,none,none,none,none,x]) _ _ _ _ (by unfold levD;rw[Qb,Qb,Qp,zaY];rfl) ?_ ⟨none,rfl⟩ (by rw[zaY];decide)
  rintro i d e hd he Z ⟨x,rfl⟩;obtain ⟨rfl,hi⟩:=zbR hd;unfold levD at he;rw[Qd,Qd,QS (by omega)] at he
  cases he;rw[JR];exact ⟨_,tg_N (Qa rfl) rfl,rfl,zas (zab (zad rfl) (zab (zad rfl) zai)) rfl (hlw i).1,_,rfl⟩
 refine zaq (zbB (zbK (zcP (zab zag zai) (zcj (by omega) (by omega))) hc) (Qa rfl) rfl) ?_
 rw[JC]
 let S0:Option Sl:=some (.pub (.list (ns.map int)))
 let S1:Option Sl:=some (.pub (zav cs ls))
 let S2:Option Sl:=some (.pub (aimD o old ts))
 let S3:Option Sl:=some (.pub (.list ((levD lv).map int)))
 have hll:oLen [.list (ls.map zaE)]=some (.int ls.length):=by rw[zaD,Qb]
 have hlay:(PyData.list ((levD lv).map int)).canLay0=true:=zdj λx hx=>by obtain ⟨t,_,rfl⟩:=Qv.mp hx;rfl
 have hdep:(PyData.list ((levD lv).map int)).depth<=60:=Nat.le_trans (ziJ (n:=0) (zd0 λx hx=>by obtain ⟨t,_,rfl⟩:=List.mem_map.mp hx;simp[PyData.depth])) (by decide)
 have hsort:zgz [.list ((levD lv).map int)]=some (.list ((levD lv).map int)):=by
  rw[zet (by unfold levD;rw[Qb,Qp];decide),zof hasc]
 have hgt:oIB (λi j=>decide (j<i)) (.int (lv 6:Nat)) (.int ls.length)=some false:=by
  show some (decide ((ls.length:Int)<(lv 6:Nat)))=_;rw[QN (by omega)]
 apply zaL;refine zbc (b:=false) (Z1:=[S0,S1,S2,S3,none,none,none,none,none,none]) (zcX (zap (zfX rfl zag rfl (zgf (k:=0) (by decide))) zag (zoF (by rw[lv0];rfl))) (zcX (zpr (za4 (zab (zbJ rfl rfl) zai) hsort) rfl (zpx hlay hdep)) (zap (za8 rfl zag (zgf (k:=6) (by decide))) (za4 (zab (za8 rfl zag zeN) zai) hll) hgt))) (λz=>by cases z) λ_=>zbq (zaz ?_)
 have hpow:oPow (.int 10) (.int 59)=some (.int ((10 ^ 59:Nat):Int)):=by
  rw[zlA ⟨by decide,by decide,by decide⟩]
  rfl
 apply zaL
 refine zbc (b:=false) (Z1:=[S0,S1,S2,S3,none,none,none,none,none,none]) (zap (zas (zab (zad rfl) (zab (zap zag zag hpow) zai)) rfl (hlw (10 ^ 59)).1) (za8 rfl (zas (zab (zad rfl) zai) rfl (zdD g)) (zgf (by omega))) (zoF (by
  have:=hlong (10 ^ 59) (QO hL (by decide))
  show ((lv (10 ^ 59):Nat):Int)=_;rw[this]))) (λz=>by cases z) λ_=>zbq (zaz ?_)
 have turn:∀(o:Ord)(old:Option LO)(ts:List Int),zbC cs.length ls.length old ts->∀(y7 y8 y9:Option Sl)(Q:Out->Prop),(∀z7,Q (.nx [S0,S1,S2,S3,some (.pub (.str o.tx)),some (.pub (oldD old)),some (.pub (.list (ts.map int))),z7,y8,y9]))->Ho ziI [S0,S1,S2,S3,some (.pub (.str o.tx)),some (.pub (oldD old)),some (.pub (.list (ts.map int))),y7,y8,y9] Q:=λo old ts ga y7 y8 y9 Q hQ=>by
  unfold ziI;obtain ⟨ws,hbd,hdq,hst⟩:=zfE (o:=o) g ga;have dl:=zmZ hdq;have hix:∀d:D,oIx (.tuple [zaM ws,d]) (.int 0)=some (zaM ws):=λd=>zaN (j:=0) rfl;refine zaq (zaZ (zap (zas (zab (zad rfl) (zab (zb6 (zab (zad rfl) (zab (zad rfl) (zab (zad rfl) zai))) (Qa rfl)) zai)) rfl hbd) zag (hix _)) (Qa rfl) rfl) ?_
  have most:∀us,Deal cs ls us->sumO (gotW (worW ls o old ts) 0 ls us)<=sumO (gotW (worW ls o old ts) 0 ls ws):=λus du=>by
   have hu:zb1 cs (allW 0 ls) ls.length us:=⟨du.len,λi t h=>by
    have hil:i<ls.length:=by have:=(Qh.mp h).1;have:=du.len;omega
    have hrs:ls[i]?=some ls[i]:=Qe hil
    have:=zgG (k:=0) hrs (du.wish i t _ h hrs)
    rwa[QP] at this,du.cop⟩
   have:=zc2 (zeA g) hdq hst hu
   rw[zi4 ls us ls 0 (λj rs h=>by rw[QP,Qg,h];rfl) du.len,zi4 ls ws ls 0 (λj rs h=>by rw[QP,Qg,h];rfl) dl.len] at this
   exact this
  have hends:=zpM (o:=o) g dl (lv:=lv) (λho hl=>by
   have h1:=(zm0 g (ldeal 1).1 dl ga (most _ (ldeal 1).1)).1 ho hl;rw[(ldeal 1).2] at h1;have h2:=top ws dl 1;rw[zjS 1 ls ws dl.wish] at h2
   omega) (λho=>by
   have h1:=(zm0 g (ldeal (lng ls)).1 dl ga (most _ (ldeal (lng ls)).1)).2 ho;have n1:=zeB ls (lw (lng ls)) (ldeal (lng ls)).1.len (ldeal (lng ls)).1.wish;have n2:=zeB ls ws dl.len dl.wish;have e1:zci (lw (lng ls))=lv (lng ls):=rfl;have l1:=(ldeal (lng ls)).1.len;have l2:=dl.len
   have h3:zci ws<=lv (lng ls):=by
    have hq:zb1 cs (wq (lng ls) ls) ls.length ws:=⟨dl.len,λi t h=>by
     have hm:=hdq.wish i t h;refine Jp.mpr ⟨hm,Q3 ?_⟩;have hw:=zm1 (ls:=ls) (lng ls) (Qx _);obtain ⟨i',rs,e2,e3,e4⟩:=zb2 hm;have e3:(i:Int)=((0+i':Nat):Int):=e3;have hii:i=i':=by omega
     subst hii;unfold rk;show zay t (ls.getD ((i:Int)).toNat [])<=_;rw[Qu,Qg,e2];have h5:=zhL (Qq e2);have h6:zay t rs<=rs.length:=(zec e4 rs.length).mpr (by rw[JF];exact e4)
     show zay t rs<=_
     omega,dl.cop⟩
    have:=zc2 (zed g (lng ls)) (hlw (lng ls)).2.1 (hlw (lng ls)).2.2 hq
    rw[tot1,tot1] at this;show _<=zci (lw (lng ls));omega
   omega)
  apply zaL;refine zbc (b:=false) (Z1:=[S0,S1,S2,S3,some (.pub (.str o.tx)),some (.pub (oldD old)),some (.pub (.list (ts.map int))),some (.pub (zaM ws)),y8,y9]) (zcX (zcm (zbA (zas (zab (zad rfl) (zab (zad rfl) zai)) rfl (zfF g dl)))) (zcm (zbA (zas (zab (zad rfl) (zab (zad rfl) (zab (zad rfl) zai))) rfl (zjT g dl (top ws dl)))))) (λz=>by cases z) λ_=>zbq (zaz ?_)
  exact zbc (b:=false) (Z1:=[S0,S1,S2,S3,some (.pub (.str o.tx)),some (.pub (oldD old)),some (.pub (.list (ts.map int))),some (.pub (zaM ws)),y8,y9]) (zcm (zbA (zas (zab (zad rfl) (zab (zad rfl) (zab (zad rfl) (zab (zad rfl) zai)))) rfl hends))) (λz=>by cases z) λ_=>zbq (hQ _)
 have g0:zbC cs.length ls.length none []:=⟨(λws h=>by cases h),(λws t h=>by cases h),List.nodup_nil,(λa h=>by cases h)⟩
 apply zaL;apply zbv (λ_ Z=>∃(y4 y5 y6 y7 y8 y9:Option Sl),Z=[S0,S1,S2,S3,y4,y5,y6,y7,y8,y9])
 case h1=>exact zaS (zbf (zab (zad rfl) (zab (zb6 (zab zag (zab zag (zab (zbf zai (Qa rfl)) zai))) (Qa rfl)) (zab (zb6 (zab zag (zab zag (zab (zbf zai (Qa rfl)) zai))) (Qa rfl)) (zab (zb6 (zab zag (zab zag (zab (zbf zai (Qa rfl)) zai))) (Qa rfl)) zai)))) (Qa rfl)) zbs
 case h0=>exact ⟨_,_,_,_,_,_,rfl⟩
 case hst=>
  rintro i d Z hi ⟨y4,y5,y6,y7,y8,y9,rfl⟩
  obtain ⟨o',old',ts',rfl,ga'⟩:∃o old ts,d=aimD o old ts/\zbC cs.length ls.length old ts:=by
   match i,hi with
   |0,hi=>cases hi;exact ⟨o,old,ts,rfl,ga⟩
   |1,hi=>cases hi;exact ⟨.firsts,none,[],rfl,g0⟩
   |2,hi=>cases hi;exact ⟨.full,none,[],rfl,g0⟩
   |3,hi=>cases hi;exact ⟨.lasts,none,[],rfl,g0⟩
   |_+4,hi=>cases hi
  refine ⟨_,tg_T rfl (tg_C (tg_N (Qa rfl) rfl) (tg_C (tg_N (Qa rfl) rfl) (tg_C (tg_N (Qa rfl) rfl) tg_0))),?_⟩;exact turn o' old' ts' ga' _ _ _ _ λz7=>zaO ⟨_,_,_,_,_,_,rfl⟩
 case hend=>
  rintro Z ⟨y4,y5,y6,y7,y8,y9,rfl⟩;refine zaz ?_;apply zaL;apply zbv (λ_ Z=>∃(y4 y5 y6 y7 y8 y9:Option Sl),Z=[S0,S1,S2,S3,y4,y5,y6,y7,y8,y9])
  case h1=>exact zch (zab (zap (zbf (zab (zas (zab (zad rfl) (zab zag zai)) rfl hv3) zai) (Qa rfl)) (zdB (zad rfl) (zbW zag) (zbW zag) zck) (zmH (by omega))) zai) zbS
  case h0=>exact ⟨_,_,_,_,_,_,rfl⟩
  case hst=>
   rintro i d Z hi ⟨y4,y5,y6,y7,y8,y9,rfl⟩;obtain ⟨x,hx,rfl⟩:=zbL hi;obtain ⟨c,rfl⟩:=zmG hx;rw[QP];refine ⟨_,tg_T rfl (tg_C (tg_N (Qa rfl) rfl) (tg_C (tg_N (Qa rfl) rfl) tg_0)),?_⟩;unfold zmh;obtain ⟨r,hdt,ws,rfl,dw⟩:=zkr g c (31+(i:Int));exact zbc (b:=false) (Z1:=[S0,S1,S2,S3,y4,y5,y6,y7,some (.pub (.int i)),some (.pub (.int c))]) (zcm (zbA (zas (zab (zad rfl) (zab (zad rfl) (zab (zas (zab (zad rfl) (zab (zad rfl) (zab (zap zag (zad rfl) zaW) zai))) rfl hdt) zai))) rfl (zjT g dw (top ws dw))))) (λz=>by cases z) λ_=>zbq (zaO ⟨_,_,_,_,_,_,rfl⟩)
  case hend=>
   rintro Z ⟨y4,y5,y6,y7,y8,y9,rfl⟩;exact zaz (zaB zag rfl)
end W
open PySem PySem.W PyProof.Rows
set_option maxRecDepth 100000 in
set_option maxHeartbeats 0 in
theorem PySem.Challenge.cw_wishdeal_k54_whole_levels_and_counts_holds : PySem.Challenge.rw_wishdeal_k54_whole_levels_and_counts.Holds := by
 w_on;o_law
 refine holds_open (q:=W.q0) (loose:=[]) (Xt:=λs=>xlAt W.q0 [] s&&recOk [] s) (XP:=XL W.q0 []) (Yf:=Hook.obs .none) (Ya:=Hook.val .none) (YP:=Hook.says .none) (N:=5062) (d:=W.d_ca) (kwd:=[])
  W.zq9 (Hook.of .none) (Hook.keeps .none) (λs e=>xl_of s (Bool.and_eq_true_iff.mp e).1) XL.keeps (by rfl) (by rfl) (by rfl)
  (λs e=>recFacts_of (Bool.and_eq_true_iff.mp e).2) (by rfl) (by assumption) (by decide +kernel) ⟨rfl,rfl,rfl,rfl,rfl,by decide +kernel⟩ ?hw (W.walk W.zog)
 case hw=>w_witness2


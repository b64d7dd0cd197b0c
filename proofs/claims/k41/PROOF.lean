import PyProof.Rows.All
import Wide.All
import OpenK.AllK
import Wide.FinOn
import Lean
import PyProof.EqAt
import PyProof.EqKinds
import PyProof.TupleCall
import PyProof.EnumMake
import PyProof.ZipIter
import PyProof.ExcClass2
import PyProof.ExcInit
import PyProof.ExcBaseAll.ValueError
import PyProof.FString2
import PyProof.ExcArgsOwn
import PyProof.InstStoreFacts
import ObjForm.Fk.InstStore
import ObjForm.Fk.InstLoad
import PyProof.StationsW
import PyProof.RulesAs
import PyProof.NsDelKeeps
import OpenK.KMore
import PyProof.IsiBase
import OpenK.KNot
import PyProof.Rows.RuleN_isinstance
import PyProof.NeData
import PyProof.P3In
import PyProof.StrWalks
import PyProof.ConsumeWalk
import PyProof.SliceStr2
import PyProof.MeetsStr
import KE.KItem
import KE.KUnpack
import KE.KRevSl
import PyProof.Rows.SetFrom
import PyProof.SetRoads
import PyProof.Rows.Range3
import PyProof.CallType
import PyProof.Rows.CallKwBuiltin
import PyProof.Rows.MinMaxN
import PyProof.SumWalkG
import PyProof.Rows.SeqMore
import PyProof.Rows.SortWalk
import PyProof.Rows.SumAny
import PyProof.Rows.SeqMore2
import KE.KSortTup
import PyProof.Rows.SortShellK
import PyProof.ReprRoads
import PyProof.ReprBulk
import PyProof.CallFns
import PyProof.NeKinds
import PyProof.Rows.StrJoinMade
import PyProof.StrCalls
import KE.KIntText
import PyProof.ReprDict
import PyProof.DictIter
import PyProof.Rows.DictUnroll
import PySem.Challenge.RW_wishdeal_k41_a_best_dealing
set_option Elab.async false
set_option linter.all false
set_option maxRecDepth 100000
set_option maxHeartbeats 4000000
theorem Qa:type_of% @of_decide_eq_true:=@of_decide_eq_true
theorem Qb:type_of% @List.length_map:=@List.length_map
theorem Qd:type_of% @PySem.wpAny_bind:=@PySem.wpAny_bind
theorem Qe:type_of% @List.getElem?_map:=@List.getElem?_map
theorem Qf:type_of% @List.getElem?_eq_getElem:=@List.getElem?_eq_getElem
theorem Qg:type_of% @List.getElem?_eq_some_iff:=@List.getElem?_eq_some_iff
theorem Qh:type_of% @PySem.wpAny_pure:=@PySem.wpAny_pure
theorem Qi:type_of% @PySem.Heap.lt_size:=@PySem.Heap.lt_size
theorem Qj:type_of% @PySem.Heap.get?_push_of_some:=@PySem.Heap.get?_push_of_some
theorem Qk:type_of% @List.mem_cons_of_mem:=@List.mem_cons_of_mem
theorem Ql:type_of% @List.length_append:=@List.length_append
theorem Qm:type_of% @List.mem_cons_self:=@List.mem_cons_self
theorem Qn:type_of% @if_pos:=@if_pos
theorem Qo:type_of% @List.getElem?_set_ne:=@List.getElem?_set_ne
theorem Qp:type_of% @List.mem_of_getElem?:=@List.mem_of_getElem?
theorem Qq:type_of% @PySem.PassesOwn.never:=@PySem.PassesOwn.never
theorem Qr:type_of% @List.getD_eq_getElem?_getD:=@List.getD_eq_getElem?_getD
theorem Qs:type_of% @Nat.le_refl:=@Nat.le_refl
theorem Qt:type_of% @List.mem_map:=@List.mem_map
theorem Qu:type_of% @List.length_range:=@List.length_range
theorem Qv:type_of% @List.getElem?_append_left:=@List.getElem?_append_left
theorem Qw:type_of% @List.getElem?_append_right:=@List.getElem?_append_right
theorem Qx:type_of% @PySem.Heap.get?_push_size:=@PySem.Heap.get?_push_size
theorem Qy:type_of% @List.getElem?_replicate:=@List.getElem?_replicate
theorem Qz:type_of% @Int.toNat_natCast:=@Int.toNat_natCast
theorem QA:type_of% @if_neg:=@if_neg
theorem QB:type_of% @List.map_cons:=@List.map_cons
theorem QC:type_of% @List.getElem?_set_self:=@List.getElem?_set_self
theorem QD:type_of% @Nat.lt_of_lt_of_le:=@Nat.lt_of_lt_of_le
theorem QE:type_of% @List.length_nil:=@List.length_nil
theorem QF:type_of% @List.map_append:=@List.map_append
theorem QG:type_of% @PySem.wpAny_mono:=@PySem.wpAny_mono
theorem QH:type_of% @Nat.le_trans:=@Nat.le_trans
theorem QI:type_of% @List.length_replicate:=@List.length_replicate
theorem QJ:type_of% @List.mem_append_right:=@List.mem_append_right
theorem QK:type_of% @List.length_cons:=@List.length_cons
theorem QL:type_of% @PySem.wpAny_loadPart_at:=@PySem.wpAny_loadPart_at
theorem QM:type_of% @List.size_toArray:=@List.size_toArray
theorem QN:type_of% @Nat.ne_of_lt:=@Nat.ne_of_lt
theorem QO:type_of% @List.flatten_cons:=@List.flatten_cons
theorem QP:type_of% @List.length_take:=@List.length_take
theorem QQ:type_of% @decide_eq_false:=@decide_eq_false
theorem QR:type_of% @List.mem_cons:=@List.mem_cons
theorem QS:type_of% @List.mem_append:=@List.mem_append
theorem QT:type_of% @Int.le_refl:=@Int.le_refl
theorem QU:type_of% @List.lookup_cons:=@List.lookup_cons
theorem QW:type_of% @List.all_eq_true:=@List.all_eq_true
theorem QX:type_of% @List.getElem?_range:=@List.getElem?_range
theorem QY:type_of% @Option.some.inj:=@Option.some.inj
theorem QZ:type_of% @PySem.wpAny_truthy_bool:=@PySem.wpAny_truthy_bool
theorem Q0:type_of% @List.mem_singleton:=@List.mem_singleton
theorem Q2:type_of% @List.replicate_succ:=@List.replicate_succ
theorem Q3:type_of% @List.length_set:=@List.length_set
theorem Q4:type_of% @Nat.zero_add:=@Nat.zero_add
theorem Q5:type_of% @List.map_map:=@List.map_map
theorem Q6:type_of% @List.mem_range:=@List.mem_range
theorem Q7:type_of% @List.mem_append_left:=@List.mem_append_left
theorem Q8:type_of% @List.append_assoc:=@List.append_assoc
theorem Q9:type_of% @decide_eq_true:=@decide_eq_true
theorem Ja:type_of% @List.length_singleton:=@List.length_singleton
theorem Jb:type_of% @List.append_nil:=@List.append_nil
theorem Jc:type_of% @Nat.le_of_not_lt:=@Nat.le_of_not_lt
theorem Jd:type_of% @List.length_filterMap_le:=@List.length_filterMap_le
theorem Je:type_of% @Array.getD_eq_getD_getElem?:=@Array.getD_eq_getD_getElem?
theorem Jf:type_of% @List.getElem?_eq_none:=@List.getElem?_eq_none
theorem Jg:type_of% @Array.length_toList:=@Array.length_toList
theorem Jh:type_of% @PySem.boot_len:=@PySem.boot_len
theorem Ji:type_of% @List.length_drop:=@List.length_drop
theorem Jj:type_of% @List.drop_eq_getElem_cons:=@List.drop_eq_getElem_cons
theorem Jk:type_of% @Bool.false_ne_true:=@Bool.false_ne_true
theorem Jl:type_of% @of_decide_eq_false:=@of_decide_eq_false
theorem Jm:type_of% @Bool.and_eq_true:=@Bool.and_eq_true
theorem Jn:type_of% @List.filterMap_cons:=@List.filterMap_cons
theorem Jo:type_of% @List.mem_filterMap:=@List.mem_filterMap
theorem Jp:type_of% @List.nil_append:=@List.nil_append
theorem Jq:type_of% @PySem.wpAny_isSubtype_exc:=@PySem.wpAny_isSubtype_exc
theorem Jr:type_of% @Array.getElem?_eq_getElem:=@Array.getElem?_eq_getElem
theorem Js:type_of% @PySem.wpAny_standAt:=@PySem.wpAny_standAt
theorem Jt:type_of% @PySem.wpAny_passesOwn:=@PySem.wpAny_passesOwn
theorem Ju:type_of% @PySem.wpAny_typeNameOfWhole_keyiter:=@PySem.wpAny_typeNameOfWhole_keyiter
theorem Jv:type_of% @Nat.lt_irrefl:=@Nat.lt_irrefl
theorem Jw:type_of% @PySem.F.slot_dict_keyiterator_next:=@PySem.F.slot_dict_keyiterator_next
theorem Jx:type_of% @List.pairwise_cons:=@List.pairwise_cons
theorem Jy:type_of% @PySem.W.Fast.te1987589406359920131:=@PySem.W.Fast.te1987589406359920131
theorem Jz:type_of% @List.take_length:=@List.take_length
theorem JA:type_of% @PyProof.Rows.callWith_type1:=@PyProof.Rows.callWith_type1
theorem JB:type_of% @PySem.wpAny_call_entry:=@PySem.wpAny_call_entry
theorem JC:type_of% @PySem.wpAny_holding:=@PySem.wpAny_holding
theorem JD:type_of% @PySem.W.kia_one:=@PySem.W.kia_one
theorem JE:type_of% @Bool.false_eq_true:=@Bool.false_eq_true
theorem JF:type_of% @PySem.wpAny_pyIter_list:=@PySem.wpAny_pyIter_list
theorem JG:type_of% @Nat.zero_le:=@Nat.zero_le
theorem JH:type_of% @List.take_succ:=@List.take_succ
theorem JI:type_of% @PyProof.Rows.boot_all:=@PyProof.Rows.boot_all
theorem JJ:type_of% @List.foldl_cons:=@List.foldl_cons
theorem JK:type_of% @List.length_zip:=@List.length_zip
theorem JL:type_of% @Int.le_antisymm:=@Int.le_antisymm
theorem JM:type_of% @List.count_cons:=@List.count_cons
theorem JN:type_of% @Nat.ne_of_gt:=@Nat.ne_of_gt
theorem JO:type_of% @Int.le_trans:=@Int.le_trans
theorem JP:type_of% @Nat.lt_succ_iff_lt_or_eq:=@Nat.lt_succ_iff_lt_or_eq
theorem JQ:type_of% @PySem.mem_of_lookup:=@PySem.mem_of_lookup
theorem JR:type_of% @List.getElem?_cons_succ:=@List.getElem?_cons_succ
theorem JS:type_of% @Option.getD_some:=@Option.getD_some
theorem JT:type_of% @List.getElem_map:=@List.getElem_map
theorem JU:type_of% @Nat.le_succ:=@Nat.le_succ
theorem JV:type_of% @List.length_pos_of_mem:=@List.length_pos_of_mem
theorem JW:type_of% @List.zip_cons_cons:=@List.zip_cons_cons
theorem JX:type_of% @Nat.not_lt_zero:=@Nat.not_lt_zero
theorem JY:type_of% @PyProof.Rows.boot_sum:=@PyProof.Rows.boot_sum
theorem JZ:type_of% @List.take_append_drop:=@List.take_append_drop
theorem J0:type_of% @Nat.lt_succ_of_lt:=@Nat.lt_succ_of_lt
theorem J4:type_of% @List.take_zero:=@List.take_zero
theorem J5:type_of% @List.mem_of_mem_take:=@List.mem_of_mem_take
theorem J6:type_of% @Nat.lt_succ_self:=@Nat.lt_succ_self
theorem J7:type_of% @Int.zero_add:=@Int.zero_add
theorem J8:type_of% @List.filter_eq_self:=@List.filter_eq_self
theorem J9:type_of% @if_false:=@if_false
theorem Ua:type_of% @List.sum_cons:=@List.sum_cons
theorem Ub:type_of% @Array.Perm.refl:=@Array.Perm.refl
theorem Uc:type_of% @List.map_nil:=@List.map_nil
theorem Ud:type_of% @Nat.succ_pos:=@Nat.succ_pos
theorem Ue:type_of% @Nat.add_zero:=@Nat.add_zero
theorem Uf:type_of% @List.mem_flatten:=@List.mem_flatten
theorem Ug:type_of% @Int.not_lt:=@Int.not_lt
abbrev L3:=List (List (List Int))
abbrev LO:=List (Option Int)
abbrev LP:=List (Int×Int)
open PySem.W (Frag)
open PySem.PyData (int)
open List (replicate)
namespace DL
open PySem PySem.Spec PySem.W PyProof.Rows
def topRunT(tb:String->Option Builtin)(p:Program)(w:World)(m:Nat)(ann:Option Value):Nat->SharedT->Thread->Option SharedT
 |0,_,_=>none
 |n+1,s,t=>match through t,stepOk m ann t with
  |true,_=>some s
  |false,false=>none
  |false,true=>match stepT (denote tb) p w s t with
   |some x=>topRunT tb p w m ann n x.1 x.2
   |none=>none
theorem zeA{tb:String->Option Builtin}{p:Program}{w:World}{m:Nat}{ann:Option Value}:∀{n:Nat}{s s':SharedT}{t:Thread},topRunT tb p w m ann n s t=some s'->topRun tb p w m ann n s.abs t=some s'.abs
 |0,_,_,_,h=>by cases h
 |n+1,s,s',t,h=>by
  rw[topRunT] at h;rw[topRun]
  cases ht:through t with
  |true=>rw[ht] at h;cases h;rfl
  |false=>
   rw[ht] at h
   cases hk:stepOk m ann t with
   |false=>rw[hk] at h;cases h
   |true=>
    rw[hk] at h;dsimp only at h ⊢
    cases hs:stepT (denote tb) p w s t with
    |none=>rw[hs] at h;cases h
    |some x=>rw[hs] at h;rw[stepT_spec hs];exact zeA h
def btOf(l:List Obj):BT:=(l.foldl (λ(x:BT×Nat) o=>(x.1.ins x.2 o,x.2+1)) (.nil,0)).1
noncomputable def T0 (w:World) (os:OsState):SharedT:=⟨btOf (boot_heap w.params).objs.toList,11,(boot_heap w.params).life,#[],boot_drawn,boot_toks,os⟩
theorem znd(w:World)(os:OsState):(T0 w os).abs=⟨boot_heap w.params,#[],boot_drawn,boot_toks,os⟩:=by kernel_rfl
theorem zku(w:World):((boot_heap w.params).isNs mainGlobals&&(#[]:Array GenState).size==0,(boot_heap w.params).objs.size,(boot_heap w.params).nsMap mainGlobals "__annotations__")=(true,11,some (.ref 6)):=by kernel_rfl
noncomputable abbrev zry (p q:Program) (loose:List Str) (Xt:Shared->Bool) (w:World) (t:SharedT) :=
 ((staticsOk (importedModules p.main.body) (boot_heap w.params) t.abs.heap&&namesBound p t.abs.heap&&gensDone t.abs&&laidKept (boot_heap w.params) t.abs.heap),openSeen q loose (importedModules p.main.body) Xt true t.abs)
theorem zoZ{p q:Program}{loose:List Str}{Xt:Shared->Bool}{N M:Nat}(e:opening p=plainProg p.main.scope.names)(hN:Nat.ble 600 N=true)(f:∀s,fenceModules? p s=some s)(le:Nat.ble M N=true)
  (run:∀(w:World)(os:OsState),(topRunT treeTable p w 11 (some (.ref 6)) M (T0 w os) (topStub p)).map (zry p q loose Xt w)=some (true,openGood q loose)):LeftO p q loose Xt (Hook.obs .none) (Hook.val .none) N:=λw=>by
 obtain ⟨⟨h,gs,d,k,os⟩,e0,e'⟩:=Option.map_eq_some_iff.mp (boot_open e hN f w);have e':(h,gs,d,k)=(boot_heap w.params,#[],boot_drawn,boot_toks):=e';obtain ⟨rfl,rfl,rfl,rfl⟩:h=boot_heap w.params/\gs=#[]/\d=boot_drawn/\k=boot_toks:=by simpa only[Prod.mk.injEq] using e'
 obtain ⟨t,ht,l⟩:=Option.map_eq_some_iff.mp (run w os);have hr:=zeA ht;rw[znd] at hr;have r:=topRun_mono (N-M) _ _ _ _ hr;rw[show M+(N-M)=N by have:=Nat.le_of_ble_eq_true le;omega] at r
 obtain ⟨l1,l2⟩:=Prod.mk.inj l;have z:=zku w;obtain ⟨z1,z2,z3⟩:_/\_/\_:=by simpa only[Prod.mk.injEq] using z
 have tf:topFrom treeTable p w N ⟨boot_heap w.params,#[],boot_drawn,boot_toks,os⟩=some t.abs:=by
  unfold topFrom;dsimp only;rw[z1,z2,z3,r];show (match staticsOk (importedModules p.main.body) (boot_heap w.params) t.abs.heap&&namesBound p t.abs.heap&&gensDone t.abs&&laidKept (boot_heap w.params) t.abs.heap with|true=>some t.abs|false=>none)=_
  rw[l1]
 unfold openEnds;rw[e0];show (topFrom treeTable p w N _).map _=_;rw[tf];exact congrArg some (Prod.ext l2 rfl)
end DL
open PySem in
lay_quick PySem.Challenge.pw_wishdeal_k41_a_best_dealing DL.topRunT PySem.W.openGood PySem.W.staticsOk PySem.W.namesBound PySem.W.laidKept PySem.W.xlAt
namespace W
open PySem PySem.Spec DL
abbrev p0:Program:=PySem.Challenge.pw_wishdeal_k41_a_best_dealing
def zeN:List Nat:=[1,2,4,5,6,8,9,10,11,12,13,14,15,16,17,18,19,21,23,24,25,27,28,29,31,32,33,34,35,37,39,40,41,42,43,44,45,46,47,48,49,50,51,53,55,56,57,58,59,60,61,62,63,64,65,66,67,68,69,70,71,72,73,74]
def ixL:List Nat:=[1,2,12,13,14,15,16,17,18,19,21,24,25,27,28,29,31,32,33,34,35,37,39,40,41,42,43,44,45,46,47,48,49,50,51,53,55,56,57,58,59,60,61,62,63,64,65,66,67,68,69,70,71,72,73,74]
abbrev q0:Program:=PySem.W.view p0 zeN
theorem zrz:∀(w:World)(os:OsState),(PySem.W.Fast.tw10708255244068714335 PySem.W.Fast.tw14364793385576792824 PySem.W.Fast.tw14258967140297658108 w 11 (some (.ref 6)) 2678 (T0 w os) (PySem.W.topStub PySem.W.Fast.tw14258967140297658108)).map (λt=>((PySem.W.Fast.tw13471830651028734593 (PySem.W.Fast.tw5923862056798008813 (Program.main PySem.W.Fast.tw14258967140297658108).body) (PySem.W.boot_heap w.params) t.abs.heap&&PySem.W.Fast.tw4683006035507612052 PySem.W.Fast.tw14258967140297658108 t.abs.heap&&PySem.W.gensDone t.abs&&PySem.W.Fast.tw16898566250750103049 (PySem.W.boot_heap w.params) t.abs.heap),PySem.W.Fast.tw4187177175401517315 (PySem.W.view PySem.W.Fast.tw14258967140297658108 zeN) [] (PySem.W.Fast.tw5923862056798008813 (Program.main PySem.W.Fast.tw14258967140297658108).body) (λs=>PySem.W.Fast.tw4757257242682413121 (PySem.W.view PySem.W.Fast.tw14258967140297658108 zeN) [] s&&PySem.W.recOk [] s) true t.abs))=some (true,PySem.W.Fast.tw3486900944545009338 (PySem.W.view PySem.W.Fast.tw14258967140297658108 zeN) []):=by
 intro w os
 kernel_rfl
theorem zrA:PySem.W.LeftO p0 q0 [] (λs=>PySem.W.xlAt q0 [] s&&PySem.W.recOk [] s) (PySem.W.Hook.obs .none) (PySem.W.Hook.val .none) 5256:=by
 refine zoZ (M:=2678) (by kernel_rfl) rfl (λs=>by kernel_rfl) rfl λw os=>?_
 have h:=zrz w os;rw[←PySem.W.Fast.te10708255244068714335,←PySem.W.Fast.te14364793385576792824,←PySem.W.Fast.te4187177175401517315,←PySem.W.Fast.te5923862056798008813,←PySem.W.Fast.te13471830651028734593,←PySem.W.Fast.te4683006035507612052,←PySem.W.Fast.te16898566250750103049,←PySem.W.Fast.te4757257242682413121,←PySem.W.Fast.te3486900944545009338,←PySem.W.Fast.te14258967140297658108] at h;exact h
end W
namespace L2
open PySem PySem.Spec PyProof.Rows
abbrev Key:=Sum Int Str
def zjG:Key->Value->Bool
 |.inl k,v=>Value.isInt k v
 |.inr x,v=>Value.isStrOf x v
def keyH(w:World):Key->Int
 |.inl k=>hashInt k
 |.inr x=>hashStr w x
theorem zbC:∀{k:Key}{v:Value},zjG k v=true->(∃i t,k=Sum.inl i/\v=Value.int i t)∨(∃x t,k=Sum.inr x/\v=Value.str x t)
 |.inl i,v,h=>by
  obtain ⟨t,e⟩:=Value.isInt_shape (k:=i) (v:=v) h;exact .inl ⟨i,t,rfl,e⟩
 |.inr x,v,h=>by
  obtain ⟨t,e⟩:=Value.isStrOf_shape (x:=x) (v:=v) h;exact .inr ⟨x,t,rfl,e⟩
theorem zkv(i:Int)(t:Tok):zjG (.inl i) (.int i t)=true:=by simp[zjG,Value.isInt]
theorem zkw(x:Str)(t:Tok):zjG (.inr x) (.str x t)=true:=by simp[zjG,Value.isStrOf]
theorem zp5(a b:Int):decide ((Sum.inl a:Key)=Sum.inl b)=(a==b):=by
 by_cases e:a=b
 ·subst e;simp
 ·have h:¬(Sum.inl a:Key)=Sum.inl b:=λq=>e (Sum.inl.inj q)
  rw[QQ h];exact (beq_eq_false_iff_ne.mpr e).symm
theorem zp6(a b:Str):decide ((Sum.inr a:Key)=Sum.inr b)=decide (a=b):=by
 by_cases e:a=b
 ·subst e;simp
 ·have h:¬(Sum.inr a:Key)=Sum.inr b:=λq=>e (Sum.inr.inj q)
  rw[QQ h,QQ e]
theorem zp7(a:Int)(b:Str):decide ((Sum.inl a:Key)=Sum.inr b)=false:=QQ (λq=>nomatch q)
theorem zp8(a:Str)(b:Int):decide ((Sum.inr a:Key)=Sum.inl b)=false:=QQ (λq=>nomatch q)
def zb5(prog:Program)(w:World):PySem.KeyKind prog w Key where
 is:=zjG
 hash:=keyH w
 inj:=λv a b ha hb=>by
  rcases zbC ha with ⟨i,t,rfl,rfl⟩|⟨x,t,rfl,rfl⟩
  ·rcases zbC hb with ⟨j,u,rfl,e⟩|⟨y,u,rfl,e⟩
   ·injection e with e1 _;rw[e1]
   ·exact nomatch e
  ·rcases zbC hb with ⟨j,u,rfl,e⟩|⟨y,u,rfl,e⟩
   ·exact nomatch e
   ·injection e with e1 _;rw[e1]
 byValue:=λk v h=>by
  rcases zbC h with ⟨i,t,rfl,rfl⟩|⟨x,t,rfl,rfl⟩ <;> rfl
 pyHash:=λhv h=>by
  rcases zbC hv with ⟨i,t,rfl,rfl⟩|⟨x,t,rfl,rfl⟩
  ·exact wpAny_pyHash_int h
  ·exact wpAny_pyHash_str h
 eqBool:=λhu hv h=>by
  rcases zbC hu with ⟨i,t,rfl,rfl⟩|⟨x,t,rfl,rfl⟩
  ·rcases zbC hv with ⟨j,u,rfl,rfl⟩|⟨y,u,rfl,rfl⟩
   ·rw[zp5] at h;exact wpAny_eqBool_int h
   ·rw[zp7] at h;exact SeqAt.EqAt.int_str i t y u _ _ _ _ h
  ·rcases zbC hv with ⟨j,u,rfl,rfl⟩|⟨y,u,rfl,rfl⟩
   ·rw[zp8] at h;exact SeqAt.EqAt.str_int x t j u _ _ _ _ h
   ·rw[zp6] at h;exact wpAny_eqBool_str h
 «strs»:=λk x t v h=>by
  rcases zbC h with ⟨i,u,rfl,e⟩|⟨y,u,rfl,e⟩
  ·exact nomatch e
  ·injection e with e1 _
   subst e1
   cases v <;> rfl
theorem zh6(prog:Program)(w:World)(i:Int)(t:Tok):(zb5 prog w).is (.inl i) (.int i t)=true:=zkv i t
theorem zh7(prog:Program)(w:World)(x:Str)(t:Tok):(zb5 prog w).is (.inr x) (.str x t)=true:=zkw x t
inductive V where
 |non|bl (b:Bool)|int (i:Int)|str (x:Str)|byt (b:Array UInt8)|flt (b:UInt64)|ref (a:Addr)|ty (n:String)
 deriving DecidableEq
def RelV:V->Value->Prop
 |.non,u=>u=Value.none
 |.bl b,u=>u=Value.bool b
 |.int i,u=>∃t,u=Value.int i t
 |.str x,u=>∃t,u=Value.str x t
 |.byt b,u=>∃t,u=Value.bytes b t
 |.flt b,u=>∃t,u=Value.float b t
 |.ref a,u=>u=Value.ref a
 |.ty n,u=>u=Value.type n
abbrev Vals:List V->List Value->Prop:=Paired RelV
theorem Vals.length{xs:List V}{us:List Value}(r:Vals xs us):xs.length=us.length:=Paired.length r
theorem Vals.get:∀{xs:List V}{us:List Value}{i:Nat}{x:V},Vals xs us->xs[i]?=some x->∃u,us[i]?=some u/\RelV x u
 |_,_,_,_,.nil,e=>by simp at e
 |_,_,0,_,.cons r _,e=>by simp at e;subst e;exact ⟨_,rfl,r⟩
 |_,_,i+1,x,.cons _ t,e=>by
  obtain ⟨u,h1,h2⟩:=Vals.get (i:=i) (x:=x) t (by simpa using e)
  exact ⟨u,by simpa using h1,h2⟩
theorem Vals.set{x:V}{u:Value}(r:RelV x u):∀{xs:List V}{us:List Value}(i:Nat),Vals xs us->Vals (xs.set i x) (us.set i u)
 |_,_,_,.nil=>.nil
 |_,_,0,.cons _ t=>.cons r t
 |_,_,i+1,.cons q t=>.cons q (Vals.set r i t)
theorem Vals.append:∀{xs ys:List V}{us ws:List Value},Vals xs us->Vals ys ws->Vals (xs++ys) (us++ws)
 |_,_,_,_,.nil,s=>s
 |_,_,_,_,.cons r t,s=>.cons r (Vals.append t s)
theorem Vals.take:∀{xs:List V}{us:List Value}(n:Nat),Vals xs us->Vals (xs.take n) (us.take n)
 |_,_,0,_=>.nil
 |_,_,_+1,.nil=>.nil
 |_,_,n+1,.cons r t=>.cons r (Vals.take n t)
theorem Vals.drop:∀{xs:List V}{us:List Value}(n:Nat),Vals xs us->Vals (xs.drop n) (us.drop n)
 |_,_,0,r=>r
 |_,_,_+1,.nil=>.nil
 |_,_,n+1,.cons _ t=>Vals.drop n t
def RelO:Option V->Option Value->Prop
 |some v,some u=>RelV v u
 |none,none=>True
 |_,_=>False
def KV{κ:Type}:List (κ×V)->List (κ×Value)->Prop:=Paired λ(p:κ×V) (q:κ×Value)=>p.1=q.1/\RelV p.2 q.2
def kV:Key->V
 |.inl i=>.int i
 |.inr x=>.str x
inductive HO where
  |lst (xs:List V)
  |tup (xs:List V)
  |dK (kvs:List (Key×V))|dT (kvs:List (List Key×V))
  |set (S:Int->Bool) (n:Nat)
  |ins (C dx:Addr) (fs:List (Str×V))
  |own (x:Addr)
  |xd (fs:List (Str×V))
  |met (f x:Addr)
  |rng (lo hi:Int)
  |frz (o:Obj) (u:HO)
  |tbl (ps:Array Value)
  |ext (φ:Heap->Prop)
abbrev Hp:=Addr->Option HO
def upd(H:Hp)(a:Addr)(o:HO):Hp:=λb=>if b=a then some o else H b
theorem zaE{H:Hp}{a:Addr}{o:HO}:upd H a o a=some o:=by unfold upd;rw[Qn rfl]
theorem zaI{H:Hp}{a b:Addr}{o:HO}(h:b≠a):upd H a o b=H b:=by unfold upd;rw[QA h]
theorem zp9{H:Hp}{a b:Addr}{o u:HO}(h:H a=some o)(h':H b=some u)(d:o≠u):a≠b:=by
 intro e;subst e;rw[h] at h';exact d (QY h')
theorem zaT{H:Hp}{a b:Addr}{o:HO}(h:H a=some o)(h':H b=none):a≠b:=by
 intro e;subst e;rw[h] at h';cases h'
section
variable(P:Program)(w:World)
def zb6(H:Hp)(h:Heap)(a:Addr):HO->Prop
 |.lst xs=>xs.length<=sizeLine/\∃(its:List Value)(n:Nat),Vals xs its/\h.get? a=some { cls:=.type "list", data:=.seq its.toArray n }
 |.tup xs=>xs.length<=sizeLine/\∃its:List Value,Vals xs its/\IsTup h a its.toArray
 |.dK kvs=>kvs.length<=sizeLine/\(a==sysModules)=false/\∃vs,KV kvs vs/\h.DictOf (zb5 P w) a vs
 |.dT kvs=>kvs.length<=sizeLine/\(a==sysModules)=false/\∃xs:List (List Key×Addr×Value),
   Paired (λ(p:List Key×V) (q:List Key×Addr×Value)=>p.1=q.1/\H q.2.1=some (.tup (p.1.map kV))/\RelV p.2 q.2.2) kvs xs /\
   ∃o es ep,h.get? a=some o/\o.ExactDict/\o.data=.dict es ep/\es.toList=xs.map (entryOfKey (tupleKind (zb5 P w)))/\(xs.map (·.1)).Nodup
 |.set S n=>h.SetOf (intKind P w) a S n
 |.ins C dx fs=>H dx=some (.own a)/\fs.length<=1000/\dx≠a/\h.get? a=some (PySem.W.instObj C dx) /\
   ∃mA,h.Ns1 dx mA/\(∀f,RelO (fs.lookup f) (mA f))/\PySem.Within mA (fs.map (·.1))
 |.own _=>∃o,h.get? a=some o
 |.xd fs=>∃mA,h.Ns1 a mA/\∀f,RelO (fs.lookup f) (mA f)
 |.rng lo hi=>∃t u v,h.get? a=some { cls:=.type "range", data:=.fields #[.int lo t,.int hi u,.int 1 v] }
 |.frz o u=>h.get? a=some o/\zb6 H h a u
 |.tbl ps=>h.get? a=some { cls:=.none,data:=.fields ps }
 |.met f x=>h.get? a=some (PySem.W.methodObj (.ref f) (.ref x))
 |.ext φ=>φ h/\(∃o,h.get? a=some o)/\∀h1 h2:Heap,φ h1->(∀o,h1.get? a=some o->h2.get? a=some o)->φ h2
def HOk(H:Hp)(h:Heap):Prop:=∀a o,H a=some o->zb6 P w H h a o
end
section
variable{P:Program}{w:World}{H H':Hp}{h h':Heap}{a:Addr}{o:HO}
theorem zb6.lt(x:zb6 P w H h a o):a<h.objs.size:=by
 cases o with
 |lst xs=>obtain ⟨_,_,_,_,e⟩:=x;exact Qi e
 |tup xs=>obtain ⟨_,_,_,p⟩:=x;exact p.lt
 |dK kvs=>obtain ⟨_,_,_,_,o,_,_,e,_⟩:=x;exact Qi e
 |dT kvs=>obtain ⟨_,_,_,_,o,_,_,e,_⟩:=x;exact Qi e
 |set S n=>obtain ⟨o,_,_,_,e,_⟩:=x;exact Qi e
 |ins C dx fs=>obtain ⟨_,_,_,e,_⟩:=x;exact Qi e
 |own y=>obtain ⟨_,e⟩:=x;exact Qi e
 |xd fs=>obtain ⟨_,⟨_,_,_,e,_⟩,_⟩:=x;exact Qi e
 |rng lo hi=>obtain ⟨_,_,_,e⟩:=x;exact Qi e
 |frz ob u=>obtain ⟨e,_⟩:=x;exact Qi e
 |tbl ps=>exact Qi (show h.get? a=some _ from x)
 |met f y=>exact Qi (show h.get? a=some _ from x)
 |ext φ=>obtain ⟨_,⟨_,e⟩,_⟩:=x;exact Qi e
theorem Paired.mapP{α β:Type}{F G:α->β->Prop}:∀{l₁:List α}{l₂:List β},Paired F l₁ l₂->(∀a b,F a b->G a b)->Paired G l₁ l₂
 |_,_,.nil,_=>.nil
 |_,_,.cons r t,f=>.cons (f _ _ r) (Paired.mapP t f)
theorem zb6.stay(x:zb6 P w H h a o)(k:∀b u,(b=a∨H b=some (.own a))->h.get? b=some u->h'.get? b=some u)
  (ho:∀b,H b=some (.own a)->H' b=some (.own a)) (ht:∀b xs,H b=some (.tup xs)->H' b=some (.tup xs)):zb6 P w H' h' a o:=by
 induction o with
 |lst xs=>obtain ⟨z,its,n,r,e⟩:=x;exact ⟨z,its,n,r,k _ _ (.inl rfl) e⟩
 |tup xs=>obtain ⟨z,its,r,ob,e,c⟩:=x;exact ⟨z,its,r,ob,k _ _ (.inl rfl) e,c⟩
 |dK kvs=>obtain ⟨z,y,vs,r,ob,es,ep,e,c⟩:=x;exact ⟨z,y,vs,r,ob,es,ep,k _ _ (.inl rfl) e,c⟩
 |dT kvs=>
  obtain ⟨z,y,xs,r,ob,es,ep,e,c⟩:=x;exact ⟨z,y,xs,Paired.mapP r λp q z=>⟨z.1,ht _ _ z.2.1,z.2.2⟩,ob,es,ep,k _ _ (.inl rfl) e,c⟩
 |set S n=>obtain ⟨ob,es,ep,t,e,c⟩:=x;exact ⟨ob,es,ep,t,k _ _ (.inl rfl) e,c⟩
 |ins C dx fs=>
  obtain ⟨d,z,ne,e,mA,⟨od,es,ep,e2,c⟩,r⟩:=x;exact ⟨ho _ d,z,ne,k _ _ (.inl rfl) e,mA,⟨od,es,ep,k _ _ (.inr d) e2,c⟩,r⟩
 |own y=>obtain ⟨ob,e⟩:=x;exact ⟨ob,k _ _ (.inl rfl) e⟩
 |xd fs=>obtain ⟨mA,⟨od,es,ep,e,c⟩,r⟩:=x;exact ⟨mA,⟨od,es,ep,k _ _ (.inl rfl) e,c⟩,r⟩
 |rng lo hi=>obtain ⟨t,u,v,e⟩:=x;exact ⟨t,u,v,k _ _ (.inl rfl) e⟩
 |frz ob u ih=>obtain ⟨e,q⟩:=x;exact ⟨k _ _ (.inl rfl) e,ih q⟩
 |tbl ps=>
  have e:h.get? a=some { cls:=.none,data:=.fields ps }:=x;show h'.get? a=some { cls:=.none,data:=.fields ps };exact k a _ (.inl rfl) e
 |met f y=>
  have e:h.get? a=some (PySem.W.methodObj (.ref f) (.ref y)):=x;show h'.get? a=some (PySem.W.methodObj (.ref f) (.ref y));exact k a _ (.inl rfl) e
 |ext φ=>obtain ⟨p,⟨o,e⟩,st⟩:=x;exact ⟨st _ _ p λo q=>k _ _ (.inl rfl) q,⟨o,k _ _ (.inl rfl) e⟩,st⟩
theorem HOk.lt(x:HOk P w H h)(e:H a=some o):a<h.objs.size:=(x a o e).lt
theorem HOk.fresh(x:HOk P w H h)(e:h.objs.size<=a):H a=none:=by
 cases q:H a with
 |none=>rfl
 |some u=>exact absurd (QD (x.lt q) e) (Jv _)
theorem HOk.kept(x:HOk P w H h)(k:∀b u,h.get? b=some u->h'.get? b=some u):HOk P w H h':=λa o e=>
 (x a o e).stay (λb u _ q=>k b u q) (λ_ q=>q) λ_ _ q=>q
theorem HOk.laid(x:HOk P w H h)(k:∀b u,h.get? b=some u->h'.get? b=some u)(hp:h.objs.size<=a)(new:zb6 P w (upd H a o) h' a o):HOk P w (upd H a o) h':=λb u e=>by
 have hn:=x.fresh hp
 by_cases hb:b=a
 ·subst hb;rw[zaE] at e;cases e;exact new
 ·rw[zaI hb] at e
  exact (x b u e).stay (λc v _ q=>k c v q) (λc q=>by rw[zaI (zaT q hn)];exact q) λc xs q=>by rw[zaI (zaT q hn)];exact q
end
def Rd(H:Hp)(a:Addr)(u:HO):Prop:=H a=some u ∨ ∃o,H a=some (.frz o u)
theorem Rd.ok{P:Program}{w:World}{H:Hp}{h:Heap}{a:Addr}{u:HO}(r:Rd H a u)(x:HOk P w H h):zb6 P w H h a u:=by
 rcases r with r|⟨o,r⟩
 ·exact x a u r
 ·obtain ⟨_,q⟩:=x a _ r
  exact q
def Mut:Option HO->Prop
 |some (.lst _)=>True
 |some (.dK _)=>True
 |some (.dT _)=>True
 |some (.set _ _)=>True
 |some (.ins _ _ _)=>True
 |some (.ext _)=>True
 |_=>False
section
variable{P:Program}{w:World}{H:Hp}{h h':Heap}{x e:Addr}{o':HO}
theorem HOk.write(ok:HOk P w H h)(mu:Mut (H x))(he:e=x∨H e=some (.own x))(k:∀b u,b≠e->h.get? b=some u->h'.get? b=some u)(heo:∃u,h'.get? e=some u)
  (new:zb6 P w (upd H x o') h' x o'):HOk P w (upd H x o') h':=λb u q=>by
 have nown:∀c y,H c=some (.own y)->c≠x:=λc y r z=>by subst z;rw[r] at mu;exact mu
 have ntup:∀c xs,H c=some (.tup xs)->c≠x:=λc xs r z=>by subst z;rw[r] at mu;exact mu
 by_cases hb:b=x
 ·subst hb;rw[zaE] at q;cases q;exact new
 ·rw[zaI hb] at q
  by_cases hbe:b=e
  ·have q':H b=some (.own x):=by
    rcases he with z|z
    ·exact absurd (hbe.trans z) hb
    ·rw[hbe];exact z
   rw[q] at q';cases q';obtain ⟨v,hv⟩:=heo;exact ⟨v,by rw[hbe];exact hv⟩
  ·refine (ok b u q).stay (λc v hc r=>k c v ?_ r) (λc r=>by rw[zaI (nown c b r)];exact r) λc xs r=>by rw[zaI (ntup c xs r)];exact r
   rcases hc with rfl|hc
   ·exact hbe
   ·rintro rfl
    rcases he with z|z
    ·exact nown c b hc z
    ·rw[hc] at z;cases z;exact hb rfl
end
structure Un(fs ex:List Addr)(H H':Hp)(h h':Heap):Prop where
 keep:∀b o,h.get? b=some o->H b=none->b∉fs->b∉ex->h'.get? b=some o
 slot:∀b o,h.get? b=some o->H b=none->b∈fs->b∉ex->∃sl,h'.get? b=some { o with slots:=sl }
 free:∀b o,h.get? b=some o->H b=none->b∉ex->H' b=none
 there:∀b o,h.get? b=some o->b∉ex->∃o',h'.get? b=some o'
 tups:∀b xs,H b=some (.tup xs)->H' b=some (.tup xs)
 frzs:∀b o u,H b=some (.frz o u)->H' b=some (.frz o u)
 tbls:∀b ps,H b=some (.tbl ps)->∃more,H' b=some (.tbl (ps++more))
section
variable{fs fs' ex ex':List Addr}{H H1 H2:Hp}{h h1 h2 h':Heap}{a x e:Addr}{o:HO}
theorem Un.any(u:Un fs ex H H1 h h1){b:Addr}{ob:Obj}(q:h.get? b=some ob)(n:H b=none)(hx:b∉ex):∃sl,h1.get? b=some { ob with slots:=sl }:=by
 by_cases hb:b∈fs
 ·exact u.slot b ob q n hb hx
 ·exact ⟨ob.slots,u.keep b ob q n hb hx⟩
theorem Un.kept(k:∀b u,h.get? b=some u->h'.get? b=some u):Un fs ex H H h h' :=
 ⟨λb ob q _ _ _=>k b ob q,λb ob q _ _ _=>⟨ob.slots,k b ob q⟩,λ_ _ _ n _=>n,λb ob q _=>⟨ob,k b ob q⟩,λ_ _ q=>q,λ_ _ _ q=>q,λ_ ps q=>⟨#[],by rw[q];simp⟩⟩
theorem Un.refl:Un fs ex H H h h:=Un.kept λ_ _ q=>q
theorem Un.laid(k:∀b u,h.get? b=some u->h'.get? b=some u)(hp:h.objs.size<=a)(hn:H a=none):Un fs ex H (upd H a o) h h' where
 keep:=λb u q _ _ _=>k b u q
 slot:=λb u q _ _ _=>⟨u.slots,k b u q⟩
 free:=λb u q n _=>by rw[zaI (QN (QD (Qi q) hp))];exact n
 there:=λb u q _=>⟨u,k b u q⟩
 tups:=λb xs q=>by rw[zaI (zaT q hn)];exact q
 frzs:=λb u xs q=>by rw[zaI (zaT q hn)];exact q
 tbls:=λb ps q=>⟨#[],by rw[zaI (zaT q hn),q];simp⟩
theorem Un.write(mu:Mut (H x))(he:e=x∨H e=some (.own x))(k:∀b u,b≠e->h.get? b=some u->h'.get? b=some u)(heo:∃u,h'.get? e=some u):Un fs ex H (upd H x o) h h':=by
 have hx:∀b,H b=none->b≠x:=λb n z=>by subst z;rw[n] at mu;exact mu
 have hb:∀b,H b=none->b≠e:=λb n z=>by
  subst z;rcases he with r|r
  ·exact hx b n r
  ·rw[n] at r;cases r
 have hm:∀b u,H b=some u->¬Mut (some u)->b≠x:=λb u q nm z=>by subst z;rw[q] at mu;exact nm mu
 refine ⟨λb u q n _ _=>k b u (hb b n) q,λb u q n _ _=>⟨u.slots,k b u (hb b n) q⟩,λb u q n _=>by rw[zaI (hx b n)];exact n,λb u q _=>?_,
  λb xs q=>by rw[zaI (hm b _ q λz=>z)];exact q,λb u xs q=>by rw[zaI (hm b _ q λz=>z)];exact q,λb ps q=>⟨#[],by rw[zaI (hm b _ q λz=>z),q];simp⟩⟩
 by_cases hbe:b=e
 ·subst hbe;exact heo
 ·exact ⟨u,k b u hbe q⟩
end
def trk(h:Heap)(H:Hp):List Addr:=(List.range h.objs.size).filter λa=>(H a).isSome
def hidT(h:Heap)(H:Hp):Heap:=PySem.W.hideAll h (trk h H)
theorem zkx(h:Heap)(H:Hp):(hidT h H).objs.size=h.objs.size:=PySem.W.hideAll_size _ _
theorem zne{h:Heap}{H:Hp}{b:Addr}{o:Obj}(e:h.get? b=some o)(n:H b=none):(hidT h H).get? b=some o :=
 PySem.W.hideAll_get _ e λhm=>by
  have q:(H b).isSome=true:=(List.mem_filter.mp hm).2;rw[n] at q;simp at q
theorem zo0{h:Heap}{H:Hp}{b:Addr}{o:Obj}(e:(hidT h H).get? b=some o):h.get? b=some o/\H b=none:=by
 have e':h.get? b=some o:=PySem.W.of_hideAll (trk h H) e;refine ⟨e',?_⟩
 cases q:H b with
 |none=>rfl
 |some x=>
  have hm:b∈trk h H:=List.mem_filter.mpr ⟨List.mem_range.mpr (Heap.lt_size e'),by simp[q]⟩
  have z:(hidT h H).get? b=none:=PySem.W.hideAll_none (trk h H) hm;rw[z] at e;cases e
structure Mod(K:Frag)(mg:Str->Option Value)(base:Heap):Prop where
 kin:K.In base
 glob:base.Ns mainGlobals mg
 blt:∃mb,base.Ns builtinsNs mb/\∀x:Str,x ≠ "__name__" -> mb x=bootBuiltins x
 nolimit:base.NoLimit
structure Cx where
 prog:Program
 w:World
 K:Frag
 mg:Str->Option Value
 base:Heap
 A:Around
 N:List Str
 s₀:Shared
 H₀:Hp
 env:Env
 outer:List Env
 stack:List Env
 ex:List Addr
 fn:Str->Bool
 calm:Bool
 pn:List (Addr×Obj)
 xe:Value->Shared->Prop
def frs(l:List Env):List Addr:=l.filterMap (·.frame)
abbrev Cx.fs(X:Cx):List Addr:=frs X.outer
def Vis(sc:Scope)(x:Str):Prop:=sc.names.lookup x=some .local∨sc.names.lookup x=some .cell∨sc.names.lookup x=some .free
def Loc(sc:Scope)(x:Str):Prop:=sc.names.lookup x=some .local∨sc.names.lookup x=some .cell
def Look(env:Env)(h:Heap)(m:Str->Option Value)(x:Str)(u:Value):Prop :=
 (env.kindOf x=some .local/\m x=some u)∨((env.kindOf x=some .cell∨env.kindOf x=some .free)/\∃c,env.cells.lookup x=some c/\h.IsCell c (some u))
structure Cx.Ok(X:Cx):Prop where
 mod:Mod X.K X.mg X.base
 kind:X.env.scope.kind=.function
 glob:X.env.globals=mainGlobals
 blt:X.env.builtins=builtinsNs
 above:X.s₀.heap.objs.size<=X.env.locals
 inj:∀x y c,X.env.cells.lookup x=some c->X.env.cells.lookup y=some c->x=y
 has:∀x,(X.env.kindOf x=some .cell∨X.env.kindOf x=some .free)->∃c,X.env.cells.lookup x=some c
 cab:∀x c,X.fn x=true->X.env.cells.lookup x=some c->X.s₀.heap.objs.size<=c
 hd:X.calm=true->X.A.handled=none
 frames:X.A.frames=some X.stack
 stk:X.stack=X.outer∨(X.stack=X.env::X.outer/\X.env.frame=some X.env.locals)
 exf:∀b∈X.ex,b≠X.env.locals/\∀x c,X.env.cells.lookup x=some c->c≠b
 bs:∀b o,X.base.get? b=some o->X.s₀.heap.get? b=some o/\X.H₀ b=none
 bsz:X.base.objs.size<=X.s₀.heap.objs.size
 noex:∀b o,X.base.get? b=some o->b∉X.ex
 exfs:∀b∈X.ex,b∉X.fs
 funs:X.s₀.heap.FunFrames X.base X.outer
 frf:∀b∈X.fs,X.H₀ b=none
structure Inv(X:Cx)(pins:List (Addr×Obj))(σ:List (Option V))(H:Hp)(s:Shared):Prop where
 ok:X.Ok
 os:s.os=X.s₀.os
 bare:AllBare s.gens
 base:Un X.fs X.ex X.H₀ H X.s₀.heap s.heap
 loc:∃m,s.heap.Ns X.env.locals m/\∀(i:Nat)(x:Str)(v:V),X.N[i]?=some x->σ[i]?=some (some v)->Vis X.env.scope x->∃u,RelV v u/\Look X.env s.heap m x u
 cell:∀x c,X.env.cells.lookup x=some c->∃v,s.heap.IsCell c v
 free:H X.env.locals=none
 freeC:∀x c,X.env.cells.lookup x=some c->H c=none
 pin:∀p∈X.pn++pins,s.heap.get? p.1=some p.2/\H p.1=none/\p.1≠X.env.locals/\p.1∉X.fs/\∀v,p.2.data≠.cell v
 hok:HOk X.prog X.w H s.heap
 len:σ.length=X.N.length
section
variable{X:Cx}{pins:List (Addr×Obj)}{σ:List (Option V)}{H H':Hp}{s:Shared}{h':Heap}
theorem Cx.Ok.nofr(ok:X.Ok){b:Addr}{o:Obj}(e:X.base.get? b=some o):b∉X.fs:=λhb=>by
 have:=(ok.funs.mem hb).1
 rw[e] at this;cases this
theorem Inv.bs(I:Inv X pins σ H s):∀b o,X.base.get? b=some o->s.heap.get? b=some o/\H b=none:=λb o e=>
 ⟨I.base.keep b o (I.ok.bs b o e).1 (I.ok.bs b o e).2 (I.ok.nofr e) (I.ok.noex b o e),I.base.free b o (I.ok.bs b o e).1 (I.ok.bs b o e).2 (I.ok.noex b o e)⟩
theorem Inv.bk(I:Inv X pins σ H s):∀b o,X.base.get? b=some o->s.heap.get? b=some o:=λb o e=>(I.bs b o e).1
theorem Inv.mod(I:Inv X pins σ H s):Mod X.K X.mg X.base:=I.ok.mod
theorem Inv.kIn(I:Inv X pins σ H s):X.K.In s.heap:=I.ok.mod.kin.keeps I.bk
theorem Inv.lt(I:Inv X pins σ H s):X.env.locals<s.heap.objs.size:=let ⟨_,hn,_⟩:=I.loc;hn.lt
theorem Inv.sz(I:Inv X pins σ H s):X.s₀.heap.objs.size<=s.heap.objs.size:=QH I.ok.above (Nat.le_of_lt I.lt)
theorem Inv.nofs(I:Inv X pins σ H s){a:Addr}(h:s.heap.objs.size<=a):a∉X.fs:=λhb=>by
 obtain ⟨_,o,ho,_⟩:=I.ok.funs.mem hb;exact absurd (QD (Qi ho) (QH I.sz h)) (Jv _)
theorem Inv.cne(I:Inv X pins σ H s):∀x c,X.env.cells.lookup x=some c->c≠X.env.locals:=λx c e z=>by
 obtain ⟨v,o,ho,hd⟩:=I.cell x c e;obtain ⟨m,⟨o',es,ep,ho',hd',_⟩,_⟩:=I.loc;rw[z,ho'] at ho;cases ho;rw[hd'] at hd;cases hd
theorem Inv.funs(I:Inv X pins σ H s):s.heap.FunFrames X.base X.outer:=by
 have all:∀(l:List Env),(∀b∈frs l,b∈X.fs)->X.s₀.heap.FunFrames X.base l->s.heap.FunFrames X.base l:=by
  intro l
  induction l with
  |nil=>intro _ _;trivial
  |cons env r ih=>
   intro hs hl;obtain ⟨hk,⟨L,o,hf,hn,ho,hd⟩,hr⟩:=hl;have hL:L∈X.fs:=hs L (by unfold frs;rw[Jn,hf];exact Qm)
   obtain ⟨sl,e⟩:=I.base.slot L o ho (I.ok.frf L hL) hL λz=>I.ok.exfs L z hL;exact ⟨hk,⟨L,_,hf,hn,e,hd⟩,ih (λb hb=>hs b (by unfold frs;rw[Jn,hf];exact Qk _ hb)) hr⟩
 exact all X.outer (λ_ hb=>hb) I.ok.funs
theorem Inv.stack(I:Inv X pins σ H s):s.heap.FunFrames X.base X.stack:=by
 rcases I.ok.stk with e|⟨e,hf⟩
 ·rw[e];exact I.funs
 ·rw[e]
  obtain ⟨m,hn,_⟩:=I.loc;refine .cons (by rw[I.ok.kind];decide) hf hn ?_ I.funs
  exact Heap.get?_none_of_le (QH I.ok.bsz I.ok.above)
theorem Inv.stkSub(I:Inv X pins σ H s):∀b∈frs X.stack,b∈X.env.locals::X.fs:=λb hb=>by
 rcases I.ok.stk with e|⟨e,hf⟩
 ·rw[e] at hb;exact Qk _ hb
 ·rw[e] at hb
  unfold frs at hb;rw[Jn,hf] at hb;exact hb
theorem Inv.stkFree(I:Inv X pins σ H s):∀b∈frs X.stack,H b=none:=λb hb=>by
 rcases QR.mp (I.stkSub b hb) with e|hb
 ·rw[e];exact I.free
 ·obtain ⟨_,o,ho,_⟩:=I.ok.funs.mem hb
  exact I.base.free b o ho (I.ok.frf b hb) λz=>I.ok.exfs b z hb
theorem Inv.step{g':Array GenState}{t':Nat}{d':Drawn}{ch:List Addr}(I:Inv X pins σ H s)
  (hch:∀b∈ch,(b∈X.ex∨X.s₀.heap.objs.size<=b)/\b≠X.env.locals/\(∀x c,X.env.cells.lookup x=some c->c≠b)/\∀p∈X.pn++pins,p.1≠b)
  (keep:∀b o,b≠X.env.locals->b∉X.fs->b∉ch->s.heap.get? b=some o->H b=none->h'.get? b=some o)
  (slot:∀b o,b≠X.env.locals->b∈X.fs->b∉ch->s.heap.get? b=some o->H b=none->∃sl,h'.get? b=some { o with slots:=sl }) (free:∀b o,b∉ch->s.heap.get? b=some o->H b=none->H' b=none)
  (there:∀b o,b∉ch->s.heap.get? b=some o->∃o',h'.get? b=some o')
  (tups:∀b xs,H b=some (.tup xs)->H' b=some (.tup xs)) (frzs:∀b o u,H b=some (.frz o u)->H' b=some (.frz o u)) (tbls:∀b ps,H b=some (.tbl ps)->∃more,H' b=some (.tbl (ps++more)))
  (ns:∀m,s.heap.Ns X.env.locals m->h'.Ns X.env.locals m) (hok:HOk X.prog X.w H' h') (hg:AllBare g') :
  Inv X pins σ H' { s with heap:=h',gens:=g',drawn:=d',toks:=t' }:=by
 have neL:∀b o,X.s₀.heap.get? b=some o->b≠X.env.locals:=λb o e=>QN (QD (Qi e) I.ok.above)
 have neC:∀b o,X.s₀.heap.get? b=some o->b∉X.ex->b∉ch:=λb o e hx hb=>by
  rcases (hch b hb).1 with z|z
  ·exact hx z
  ·exact absurd (QD (Qi e) z) (Jv _)
 have cellK:∀x c,X.env.cells.lookup x=some c->∀v,s.heap.IsCell c v->h'.IsCell c v:=λx c e v ⟨o,ho,hd⟩=>by
  have nch:c∉ch:=λz=>(hch c z).2.2.1 x c e rfl
  by_cases hc:c∈X.fs
  ·obtain ⟨sl,q⟩:=slot c o (I.cne x c e) hc nch ho (I.freeC x c e)
   exact ⟨_,q,hd⟩
  ·exact ⟨o,keep c o (I.cne x c e) hc nch ho (I.freeC x c e),hd⟩
 refine ⟨I.ok,I.os,hg,⟨λb o e n hb hx=>?_,λb o e n hb hx=>?_,λb o e n hx=>?_,λb o e hx=>?_,λb xs e=>tups b xs (I.base.tups b xs e),λb o xs e=>frzs b o xs (I.base.frzs b o xs e),λb ps e=>?_⟩,?_,λx c e=>?_,?_,λx c e=>?_,λp hp=>?_,hok,I.len⟩
 ·exact keep b o (neL b o e) hb (neC b o e hx) (I.base.keep b o e n hb hx) (I.base.free b o e n hx)
 ·obtain ⟨sl,e1⟩:=I.base.slot b o e n hb hx
  obtain ⟨sl',e2⟩:=slot b _ (neL b o e) hb (neC b o e hx) e1 (I.base.free b o e n hx);exact ⟨sl',e2⟩
 ·obtain ⟨o',e1⟩:=I.base.there b o e hx
  exact free b o' (neC b o e hx) e1 (I.base.free b o e n hx)
 ·obtain ⟨o',e1⟩:=I.base.there b o e hx
  exact there b o' (neC b o e hx) e1
 ·obtain ⟨m1,e1⟩:=I.base.tbls b ps e
  obtain ⟨m2,e2⟩:=tbls b _ e1;exact ⟨m1++m2,by rw[e2,Array.append_assoc]⟩
 ·obtain ⟨m,hn,hl⟩:=I.loc
  refine ⟨m,ns m hn,λi x v e1 e2 e3=>?_⟩;obtain ⟨u,r,l⟩:=hl i x v e1 e2 e3;refine ⟨u,r,?_⟩;rcases l with l|⟨k,c,e,z⟩
  ·exact .inl l
  ·exact .inr ⟨k,c,e,cellK x c e _ z⟩
 ·obtain ⟨v,z⟩:=I.cell x c e
  exact ⟨v,cellK x c e v z⟩
 ·obtain ⟨m,⟨o,_,_,ho,_⟩,_⟩:=I.loc
  exact free _ o (λz=>(hch _ z).2.1 rfl) ho I.free
 ·obtain ⟨v,o,ho,hd⟩:=I.cell x c e
  exact free c o (λz=>(hch c z).2.2.1 x c e rfl) ho (I.freeC x c e)
 ·obtain ⟨e,n,ne,nf,d⟩:=I.pin p hp
  have nch:p.1∉ch:=λz=>(hch p.1 z).2.2.2 p hp rfl;exact ⟨keep p.1 p.2 ne nf nch e n,free p.1 p.2 nch e n,ne,nf,d⟩
theorem Inv.un{t':Nat}(I:Inv X pins σ H s)(u:Un X.fs [] H H' s.heap h')(hok:HOk X.prog X.w H' h'):Inv X pins σ H' { s with heap:=h',toks:=t' }:=by
 obtain ⟨m,⟨o,es,ep,ho,r⟩,_⟩:=id I.loc;obtain ⟨sl,hL⟩:=u.any ho I.free (by simp)
 exact I.step (g':=s.gens) (d':=s.drawn) (ch:=[]) (λ_ z=>nomatch z) (λb o _ hb _ e n=>u.keep b o e n hb (by simp)) (λb o _ hb _ e n=>u.slot b o e n hb (by simp)) (λb o _ e n=>u.free b o e n (by simp)) (λb o _ e=>u.there b o e (by simp)) u.tups u.frzs u.tbls (λm' hm=>by
  obtain ⟨o',es',ep',ho',r'⟩:=hm;rw[ho] at ho';cases ho';exact ⟨_,es',ep',hL,r'⟩) hok I.bare
theorem Inv.call{g':Array GenState}{t':Nat}{d':Drawn}{ch:List Addr}(I:Inv X pins σ H s)(u:Un (frs X.stack) ch H H' s.heap h')(hok:HOk X.prog X.w H' h')(hg:AllBare g')
  (hch:∀b∈ch,(b∈X.ex∨X.s₀.heap.objs.size<=b)/\b≠X.env.locals/\(∀x c,X.env.cells.lookup x=some c->c≠b)/\∀p∈X.pn++pins,p.1≠b) :
  Inv X pins σ H' { s with heap:=h',gens:=g',drawn:=d',toks:=t' }:=by
 obtain ⟨m,⟨o,es,ep,ho,r⟩,_⟩:=id I.loc;obtain ⟨sl,hL⟩:=u.any ho I.free λz=>(hch _ z).2.1 rfl
 exact I.step (ch:=ch) hch (λb o hL hb hc e n=>u.keep b o e n (λz=>(QR.mp (I.stkSub b z)).elim hL hb) hc) (λb o _ _ hc e n=>u.any e n hc) (λb o hc e n=>u.free b o e n hc) (λb o hc e=>u.there b o e hc) u.tups u.frzs u.tbls (λm' hm=>by
  obtain ⟨o',es',ep',ho',r'⟩:=hm;rw[ho] at ho';cases ho';exact ⟨_,es',ep',hL,r'⟩) hok hg
theorem Inv.turned{t':Nat}{it:Addr}(I:Inv X pins σ H s)(k:∀b o,b≠it->s.heap.get? b=some o->h'.get? b=some o)(hn:H it=none)(hL:it≠X.env.locals)
  (h1:it∈X.ex∨X.s₀.heap.objs.size<=it) (h2:∀x c,X.env.cells.lookup x=some c->c≠it) (h3:∀p∈X.pn++pins,p.1≠it):Inv X pins σ H { s with heap:=h',toks:=t' }:=by
 have nit:∀b u,H b=some u->b≠it:=λb u e z=>by rw[z,hn] at e;cases e
 refine I.step (g':=s.gens) (d':=s.drawn) (ch:=[it]) (λb hb=>?_) (λb o _ _ hc e _=>k b o (λz=>hc (by simp[z])) e) (λb o _ _ hc e _=>⟨o.slots,k b o (λz=>hc (by simp[z])) e⟩) (λ_ _ _ _ n=>n)
  (λb o hc e=>⟨o,k b o (λz=>hc (by simp[z])) e⟩) (λ_ _ e=>e) (λ_ _ _ e=>e) (λb ps e=>⟨#[],by rw[e];simp⟩) (λm hm=>?_) (λb u e=>?_) I.bare
 ·have e:b=it:=by simpa using hb
  subst e;exact ⟨h1,hL,h2,h3⟩
 ·obtain ⟨o,es,ep,ho,r⟩:=hm
  exact ⟨o,es,ep,k _ o (Ne.symm hL) ho,r⟩
 ·refine (I.hok b u e).stay (λc v hc q=>k c v ?_ q) (λ_ q=>q) λ_ _ q=>q
  rcases hc with z|z
  ·rw[z];exact nit b u e
  ·exact nit c _ z
theorem Inv.tok(I:Inv X pins σ H s)(t:Nat):Inv X pins σ H { s with toks:=t }:=I.un (h':=s.heap) (t':=t) Un.refl I.hok
theorem Inv.kept{t':Nat}(I:Inv X pins σ H s)(k:∀b u,s.heap.get? b=some u->h'.get? b=some u):Inv X pins σ H { s with heap:=h',toks:=t' }:=I.un (Un.kept k) (I.hok.kept k)
theorem Inv.laid{a:Addr}{o:HO}{t':Nat}(I:Inv X pins σ H s)(k:∀b u,s.heap.get? b=some u->h'.get? b=some u)(hp:s.heap.objs.size<=a)(new:zb6 X.prog X.w (upd H a o) h' a o) :
  Inv X pins σ (upd H a o) { s with heap:=h',toks:=t' }:=I.un (Un.laid k hp (I.hok.fresh hp)) (I.hok.laid k hp new)
theorem Inv.write{x e:Addr}{o:HO}{t':Nat}(I:Inv X pins σ H s)(mu:Mut (H x))(he:e=x∨H e=some (.own x))(k:∀b u,b≠e->s.heap.get? b=some u->h'.get? b=some u)(heo:∃u,h'.get? e=some u)
  (new:zb6 X.prog X.w (upd H x o) h' x o):Inv X pins σ (upd H x o) { s with heap:=h',toks:=t' }:=I.un (Un.write mu he k heo) (I.hok.write mu he k heo new)
theorem Inv.pins_of{pins':List (Addr×Obj)}(I:Inv X pins σ H s)(h:∀p∈pins',s.heap.get? p.1=some p.2/\H p.1=none/\p.1≠X.env.locals/\p.1∉X.fs/\∀v,p.2.data≠.cell v):Inv X pins' σ H s :=
 ⟨I.ok,I.os,I.bare,I.base,I.loc,I.cell,I.free,I.freeC,λp hp=>(QS.mp hp).elim (λz=>I.pin p (Q7 _ z)) (h p),I.hok,I.len⟩
theorem ziX{N:List Str}(hN:N.Nodup){i j:Nat}{x:Str}(a:N[i]?=some x)(b:N[j]?=some x):i=j:=by
 obtain ⟨h1,e1⟩:=Qg.mp a;obtain ⟨h2,e2⟩:=Qg.mp b;exact (List.getElem_inj hN).mp (e1.trans e2.symm)
theorem zeX{M:Model}{A:Around}{E:Value->Shared->Prop}{i:Nat}{x:Str}{v:V}{u:Value}{Q:Unit->Shared->Prop}(I:Inv X pins σ H s)(hN:X.N.Nodup)(hi:X.N[i]?=some x)(hx:Loc X.env.scope x)(r:RelV v u)
  (h:∀s',Inv X pins (σ.set i (some v)) H s'->(∃a,Heap.SameBut a s.heap s'.heap/\(a=X.env.locals∨X.env.cells.lookup x=some a))->Q () s') (hf:X.fn x=true∨X.env.scope.names.lookup x=some .local:=by first|exact .inl rfl|exact .inr rfl|assumption):wpAny M A (storeName X.env x u) Q E s:=by
 obtain ⟨m,hn,hl⟩:=id I.loc;have hcls:(X.env.scope.kind==.class || (X.env.scope.kind==.module&&X.env.locals != X.env.globals))=false:=by rw[I.ok.kind];rfl
 have hiσ:i<σ.length:=by rw[I.len];exact (Qg.mp hi).1
 have cne:=I.cne
 have tracked:∀{a:Addr}{h':Heap},(∃o,s.heap.get? a=some o/\H a=none)->Heap.SameBut a s.heap h'->HOk X.prog X.w H h':=λ{a h'} ha hs b ob e=>by
  obtain ⟨_,_,hfree⟩:=ha;refine (I.hok b ob e).stay (λc w' hc q=>(hs.2 c ?_).trans q) (λ_ q=>q) λ_ _ q=>q;rintro rfl;rcases hc with rfl|hc
  ·rw[hfree] at e;cases e
  ·rw[hfree] at hc;cases hc
 rcases hx with hk|hk
 ·refine wpAny_storeName_local hk hn (λh' hn' hs=>?_) hcls
  obtain ⟨oL,_,_,hoL,_⟩:=id hn;refine h _ ⟨I.ok,I.os,I.bare,⟨λb o e n hb hx=>?_,λb o e n hb hx=>?_,I.base.free,λb o e hx=>?_,I.base.tups,I.base.frzs,I.base.tbls⟩,⟨_,hn',λj y v' e1 e2 e3=>?_⟩,λy c e=>?_,I.free,I.freeC,λp hp=>?_,tracked ⟨oL,hoL,I.free⟩ hs,by simpa using I.len⟩ ⟨_,hs,.inl rfl⟩
  ·exact (hs.2 b (QN (QD (Qi e) I.ok.above))).trans (I.base.keep b o e n hb hx)
  ·obtain ⟨sl,e1⟩:=I.base.slot b o e n hb hx
   exact ⟨sl,(hs.2 b (QN (QD (Qi e) I.ok.above))).trans e1⟩
  ·obtain ⟨o',e1⟩:=I.base.there b o e hx
   exact ⟨o',(hs.2 b (QN (QD (Qi e) I.ok.above))).trans e1⟩
  ·by_cases hj:j=i
   ·subst hj
    rw[hi] at e1;cases e1;rw[QC hiσ] at e2;cases e2;exact ⟨u,r,.inl ⟨hk,by simp⟩⟩
   ·rw[Qo (Ne.symm hj)] at e2
    obtain ⟨u',r',q⟩:=hl j y v' e1 e2 e3;refine ⟨u',r',?_⟩;rcases q with ⟨k,e⟩|⟨k,c,e,z⟩
    ·refine .inl ⟨k,?_⟩
     have:y≠x:=λe=>hj (ziX hN e1 (e ▸ hi))
     simp[this,e]
    ·exact .inr ⟨k,c,e,z.sameBut hs (cne y c e)⟩
  ·obtain ⟨w',z⟩:=I.cell y c e
   exact ⟨w',z.sameBut hs (cne y c e)⟩
  ·obtain ⟨e,n,ne,nf,d⟩:=I.pin p hp
   exact ⟨(hs.2 p.1 ne).trans e,n,ne,nf,d⟩
 ·have hfn:X.fn x=true:=by
   rcases hf with z|z
   ·exact z
   ·rw[z] at hk;cases hk
  obtain ⟨c,hc⟩:=I.ok.has x (.inl hk);obtain ⟨w',z⟩:=I.cell x c hc;refine wpAny_storeName_cell I.ok.kind hk hc z (λh' hc' hs=>?_);obtain ⟨oc,hoc,hocd⟩:=id z;refine h { s with heap:=h' } ⟨I.ok,I.os,I.bare,⟨λb o e n hb hx=>?_,λb o e n hb hx=>?_,I.base.free,λb o e hx=>?_,I.base.tups,I.base.frzs,I.base.tbls⟩,⟨m,hn.sameBut hs (Ne.symm (cne x c hc)),λj y v' e1 e2 e3=>?_⟩,λy c' e=>?_,I.free,I.freeC,λp hp=>?_,tracked ⟨oc,hoc,I.freeC x c hc⟩ hs,by simpa using I.len⟩ ⟨c,hs,.inr hc⟩
  ·exact (hs.2 b (QN (QD (Qi e) (I.ok.cab x c hfn hc)))).trans (I.base.keep b o e n hb hx)
  ·obtain ⟨sl,e1⟩:=I.base.slot b o e n hb hx
   exact ⟨sl,(hs.2 b (QN (QD (Qi e) (I.ok.cab x c hfn hc)))).trans e1⟩
  ·obtain ⟨o',e1⟩:=I.base.there b o e hx
   exact ⟨o',(hs.2 b (QN (QD (Qi e) (I.ok.cab x c hfn hc)))).trans e1⟩
  ·by_cases hj:j=i
   ·subst hj
    rw[hi] at e1;cases e1;rw[QC hiσ] at e2;cases e2;exact ⟨u,r,.inr ⟨.inl hk,c,hc,hc'⟩⟩
   ·rw[Qo (Ne.symm hj)] at e2
    obtain ⟨u',r',q⟩:=hl j y v' e1 e2 e3;refine ⟨u',r',?_⟩;rcases q with q|⟨k,c',e,z'⟩
    ·exact .inl q
    ·refine .inr ⟨k,c',e,z'.sameBut hs ?_⟩
     rintro rfl;exact hj (ziX hN e1 (I.ok.inj _ _ _ e hc ▸ hi))
  ·by_cases hcc:c'=c
   ·subst hcc;exact ⟨_,hc'⟩
   ·obtain ⟨w2,z2⟩:=I.cell y c' e
    exact ⟨w2,z2.sameBut hs hcc⟩
  ·obtain ⟨e,n,ne,nf,d⟩:=I.pin p hp
   refine ⟨(hs.2 p.1 ?_).trans e,n,ne,nf,d⟩;intro q;rw[q,hoc] at e;have q':oc=p.2:=QY e;exact d w' (by rw[←q'];exact hocd)
theorem zgd{M:Model}{A:Around}{E:Value->Shared->Prop}{i:Nat}{x:Str}{v:V}{u:Value}{Q:Unit->Shared->Prop}(I:Inv X pins σ H s)(hN:X.N.Nodup)(hi:X.N[i]?=some x)(hx:Loc X.env.scope x)(r:RelV v u)
  (h:∀s',Inv X pins (σ.set i (some v)) H s'->Q () s') (hf:X.fn x=true∨X.env.scope.names.lookup x=some .local:=by first|exact .inl rfl|exact .inr rfl|assumption):wpAny M A (storeName X.env x u) Q E s :=
 zeX I hN hi hx r (λs' I' _=>h s' I') hf
theorem Inv.call'{s':Shared}{ch:List Addr}(I:Inv X pins σ H s)(ho:s'.os=s.os)(u:Un (frs X.stack) ch H H' s.heap s'.heap)(hok:HOk X.prog X.w H' s'.heap)(hg:AllBare s'.gens)
  (hch:∀b∈ch,(b∈X.ex∨X.s₀.heap.objs.size<=b)/\b≠X.env.locals/\(∀x c,X.env.cells.lookup x=some c->c≠b)/\∀p∈X.pn++pins,p.1≠b):Inv X pins σ H' s':=by
 obtain ⟨h',g',d',t',o'⟩:=s';have e:o'=s.os:=ho;subst e;exact I.call (g':=g') (t':=t') (d':=d') u hok hg hch
end
abbrev XK:=Value->Option Addr->Hp->Prop
abbrev St:=List (Option V)
abbrev VK:=V->Hp->Prop
abbrev TE:=St->Hp->VK->Prop
abbrev TT:=St->Hp->(Bool->Hp->Prop)->Prop
abbrev TA:=St->Hp->(List V->Hp->Prop)->Prop
structure Ends where
 nx:St->Hp->Prop
 rt:VK
 bk:St->Hp->Prop:=λ_ _=>False
 ct:St->Hp->Prop:=λ_ _=>False
abbrev TS:=Ends->St->Hp->Prop
def EP(X:Cx)(pins:List (Addr×Obj))(σ:St)(Q:VK)(u:Value)(s':Shared):Prop:=∃v H',Inv X pins σ H' s'/\RelV v u/\Q v H'
def TP(X:Cx)(pins:List (Addr×Obj))(σ:St)(Q:Bool->Hp->Prop)(b:Bool)(s':Shared):Prop:=∃H',Inv X pins σ H' s'/\Q b H'
def AP(X:Cx)(pins:List (Addr×Obj))(σ:St)(Q:List V->Hp->Prop)(us:List Value)(s':Shared):Prop:=∃vs H',Inv X pins σ H' s'/\Vals vs us/\Q vs H'
def SP(X:Cx)(pins:List (Addr×Obj))(D:Ends)(f:Flow)(s':Shared):Prop :=
 match f with
 |.next=>∃σ' H',Inv X pins σ' H' s'/\D.nx σ' H'
 |.brk=>∃σ' H',Inv X pins σ' H' s'/\D.bk σ' H'
 |.cont=>∃σ' H',Inv X pins σ' H' s'/\D.ct σ' H'
 |.ret u=>∃v σ' H',Inv X pins σ' H' s'/\RelV v u/\D.rt v H'
def PE(X:Cx)(e:Expr)(t:TE):Prop :=
 ∀(pins:List (Addr×Obj))(s:Shared)(σ:St)(H:Hp)(Q:VK),Inv X pins σ H s->t σ H Q->wpAny (model X.prog X.w) X.A (eval e X.env) (EP X pins σ Q) X.xe s
def PT(X:Cx)(e:Expr)(t:TT):Prop :=
 ∀(pins:List (Addr×Obj))(s:Shared)(σ:St)(H:Hp)(Q:Bool->Hp->Prop),Inv X pins σ H s->t σ H Q->wpAny (model X.prog X.w) X.A (isTrue e X.env (eval e X.env)) (TP X pins σ Q) X.xe s
def PW(X:Cx)(e:Expr)(t:TT):Prop :=
 ∀(whole:Sem Value)(pins:List (Addr×Obj))(s:Shared)(σ:St)(H:Hp)(Q:Bool->Hp->Prop),Inv X pins σ H s->t σ H Q->wpAny (model X.prog X.w) X.A (isTrue e X.env whole) (TP X pins σ Q) X.xe s
theorem PW.pt{X:Cx}{e:Expr}{t:TT}(h:PW X e t):PT X e t:=h _
def PA(X:Cx)(es:List Expr)(t:TA):Prop :=
 ∀(pos:Pos)(pins:List (Addr×Obj))(s:Shared)(σ:St)(H:Hp)(Q:List V->Hp->Prop),Inv X pins σ H s->t σ H Q->wpAny (model X.prog X.w) X.A (spliced (backTo pos (starEach es X.env))) (AP X pins σ Q) X.xe s
def PS(X:Cx)(st:Stmt)(t:TS):Prop :=
 ∀(pins:List (Addr×Obj))(s:Shared)(σ:St)(H:Hp)(D:Ends),Inv X pins σ H s->t D σ H->wpAny (model X.prog X.w) X.A (exec st X.env) (SP X pins D) X.xe s
def PSs(X:Cx)(st:List Stmt)(t:TS):Prop :=
 ∀(pins:List (Addr×Obj))(s:Shared)(σ:St)(H:Hp)(D:Ends),Inv X pins σ H s->t D σ H->wpAny (model X.prog X.w) X.A (execs st X.env) (SP X pins D) X.xe s
theorem thn{α:Type}{t:Sem α}{Q Q':α->Shared->Prop}{M:Model}{A:Around}{E:Value->Shared->Prop}{s:Shared}(h:wpAny M A t Q E s)(hQ:∀a s,Q a s->Q' a s):wpAny M A t Q' E s:=QG h hQ λ_ _ x=>x
section
variable{X:Cx}
def tVar(i:Nat):TE:=λσ H Q=>∃v,σ[i]?=some (some v)/\Q v H
def tC(v:V):TE:=λ_ H Q=>Q v H
theorem zot{i:Nat}{x:Str}{pos:Pos}(hN:X.N[i]?=some x)(hv:Vis X.env.scope x)(hd:(x==("__debug__" : Str))=false:=by decide)(hcd:(x==("__classdict__" : Str))=false:=by decide):PE X (.Name x pos) (tVar i):=by
 intro pins s σ H Q I h;obtain ⟨v,e,h⟩:=h;obtain ⟨m,hn,hl⟩:=I.loc;obtain ⟨u,r,l⟩:=hl i x v hN e hv;have fin:EP X pins σ Q u s:=⟨v,H,I,r,h⟩;rcases l with ⟨hk,hm⟩|⟨hk,c,hc,hcell⟩
 ·exact wpAny_Name (wpAny_loadName_local I.ok.kind hk hn hm fin) hd
 ·rcases hk with hk|hk
  ·exact wpAny_Name (wpAny_loadName_cell I.ok.kind hk hc hcell fin) hd
  ·exact wpAny_Name (wpAny_loadName_free I.ok.kind hk hc hcell fin hcd) hd
theorem zqa{i j pos}:PE X (.Constant (.int i) j pos) (tC (.int i)):=λ_ _ _ H _ I h=>wpAny_Constant_int ⟨.int i,H,I.tok _,⟨_,rfl⟩,h⟩
theorem zrB{b j pos}:PE X (.Constant (.bool b) j pos) (tC (.bl b)):=λ_ _ _ H _ I h=>Constant_bool ⟨.bl b,H,I,rfl,h⟩
theorem zqb{j pos}:PE X (.Constant .none j pos) (tC .non):=λ_ _ _ H _ I h=>Constant_none ⟨.non,H,I,rfl,h⟩
theorem zqc{x j pos}:PE X (.Constant (.str x) j pos) (tC (.str x)):=λ_ _ _ H _ I h=>Calls.Constant_str ⟨.str x,H,I.tok _,⟨_,rfl⟩,h⟩
def Gl(X:Cx)(x:Str):Prop:=X.env.kindOf x=some .globalImplicit
theorem zky{E:Value->Shared->Prop}{pins:List (Addr×Obj)}{s:Shared}{σ:St}{H:Hp}{x:Str}{u:Value}{pos:Pos}{Q:Value->Shared->Prop}(I:Inv X pins σ H s)(hg:Gl X x)(hm:X.mg x=some u)(h:Q u s)
  (hd:(x==("__debug__" : Str))=false:=by decide):wpAny (model X.prog X.w) X.A (eval (.Name x pos) X.env) Q E s :=
 Calls.Name_function_global I.ok.kind hg (Calls.loadGlobal_global (by rw[I.ok.glob];exact I.mod.glob.keeps I.bk) hm h) hd
theorem zeB{E:Value->Shared->Prop}{pins:List (Addr×Obj)}{s:Shared}{σ:St}{H:Hp}{x:Str}{u:Value}{pos:Pos}{Q:Value->Shared->Prop}(I:Inv X pins σ H s)(hg:Gl X x)(hm:X.mg x=none)(hv:bootBuiltins x=some u)(h:Q u s)
  (hn:x ≠ "__name__" := by decide) (hd:(x==("__debug__" : Str))=false:=by decide):wpAny (model X.prog X.w) X.A (eval (.Name x pos) X.env) Q E s:=by
 obtain ⟨mb,h1,h2⟩:=I.mod.blt;exact Calls.Name_function_global I.ok.kind hg (Calls.loadGlobal_builtin (by rw[I.ok.glob];exact I.mod.glob.keeps I.bk) hm (by rw[I.ok.blt];exact h1.keeps I.bk) ((h2 x hn).trans hv) h) hd
theorem zkz{x:Str}{v:V}{u:Value}{pos:Pos}(hg:Gl X x)(hm:X.mg x=some u)(r:RelV v u)(hd:(x==("__debug__" : Str))=false:=by decide):PE X (.Name x pos) (tC v) :=
 λ_ _ _ H _ I h=>zky I hg hm ⟨v,H,I,r,h⟩ hd
theorem zo1{x:Str}{v:V}{u:Value}{pos:Pos}(hg:Gl X x)(hm:X.mg x=none)(hv:bootBuiltins x=some u)(r:RelV v u)(hn:x ≠ "__name__" := by decide)(hd:(x==("__debug__" : Str))=false:=by decide):PE X (.Name x pos) (tC v) :=
 λ_ _ _ H _ I h=>zeB I hg hm hv ⟨v,H,I,r,h⟩ hn hd
variable{a b:Expr}{ta tb:TE}{pos:Pos}
def PC(X:Cx)(op:CmpOp)(a b:Expr)(t:TE):Prop :=
 ∀(pins:List (Addr×Obj))(s:Shared)(σ:St)(H:Hp)(Q:VK),Inv X pins σ H s->t σ H Q ->
  wpAny (model X.prog X.w) X.A (eval a X.env) (λv s₁=>wpAny (model X.prog X.w) X.A (eval b X.env) (λu s₂=>wpAny (model X.prog X.w) X.A (compareOp op v u) (EP X pins σ Q) X.xe s₂) X.xe s₁) X.xe s
theorem ziY(b:Expr){op:CmpOp}(h:op≠.In)(h2:op≠.NotIn):behindInMarks op b=false:=by
 have e1:(op==CmpOp.In)=false:=by cases op <;> first|rfl|exact absurd rfl h
 have e2:(op==CmpOp.NotIn)=false:=by cases op <;> first|rfl|exact absurd rfl h2
 cases b <;> simp[behindInMarks,e1,e2]
def tIsN(ta:TE):TE:=λσ H Q=>ta σ H λx H1=>Q (.bl (decide (x=.non))) H1
def zrC(ta:TE):TE:=λσ H Q=>ta σ H λx H1=>Q (.bl (!decide (x=.non))) H1
theorem RelV.none_iff{x:V}{v:Value}(r:RelV x v):(v==Value.none)=decide (x=.non):=by
 cases x with
 |non=>cases r;rfl
 |bl _=>cases r;rfl
 |int _=>obtain ⟨t,rfl⟩:=r;rfl
 |str _=>obtain ⟨t,rfl⟩:=r;rfl
 |byt _=>obtain ⟨t,rfl⟩:=r;rfl
 |flt _=>obtain ⟨t,rfl⟩:=r;rfl
 |ref _=>cases r;rfl
 |ty _=>cases r;rfl
theorem zou{j pos'}(ha:PE X a ta):PC X .Is a (.Constant .none j pos') (tIsN ta):=by
 intro pins s σ H Q I h;refine thn (ha pins s σ H _ I h) λv s1 ⟨x,H1,I1,r1,q1⟩=>?_;exact Constant_none (is_none_gen ⟨.bl _,H1,I1,by rw[r1.none_iff];rfl,q1⟩)
theorem zo2{j pos'}(ha:PE X a ta):PC X .IsNot a (.Constant .none j pos') (zrC ta):=by
 intro pins s σ H Q I h;refine thn (ha pins s σ H _ I h) λv s1 ⟨x,H1,I1,r1,q1⟩=>?_;exact Constant_none (isnot_none_gen ⟨.bl _,H1,I1,by rw[r1.none_iff];rfl,q1⟩)
def tB(t:TE):TT:=λσ H Q=>t σ H λx H1=>∃c,x=.bl c/\Q c H1
theorem zqd{op:CmpOp}{t:TE}(h:PC X op a b t)(h1:behindInMarks op b=false:=by first|exact ziY _ (by decide) (by decide)|rfl):PE X (.Compare a [op] [b] pos) t:=λpins s σ H Q I hw=>wpAny_Compare1 (h pins s σ H Q I hw) h1
theorem zov{op:CmpOp}{t:TE}(h:PC X op a b t)(h1:behindInMarks op b=false:=by first|exact ziY _ (by decide) (by decide)|rfl):PT X (.Compare a [op] [b] pos) (tB t):=by
 intro pins s σ H Q I hw;refine wpAny_isTrue_Compare1 (thn (h pins s σ H _ I hw) λv s1 h1=>thn h1 λu s2 h2=>thn h2 λc s3 ⟨x,H1,I1,r1,q1⟩=>?_) h1;obtain ⟨d,rfl,q⟩:=q1;cases r1;exact QZ ⟨H1,I1,q⟩
theorem zqe{e:Expr}{t:TE}(h:PE X e t)(he:∀whole,isTrue e X.env whole=(do let v ←whole;standAt e.pos;holding [v] (truthy v)):=by intro _;rfl):PT X e (tB t):=by
 intro pins s σ H Q I hw;refine isTrue_plain (thn (h pins s σ H _ I hw) λv s1 ⟨x,H1,I1,r1,q1⟩=>?_) (he _);obtain ⟨d,rfl,q⟩:=q1;cases r1;exact QZ ⟨H1,I1,q⟩
variable{tA tB':TT}{rest:List Expr}
def tAnd(t u:TT):TT:=λσ H Q=>t σ H λc H1=>if c=true then u σ H1 Q else Q false H1
def tOr(t u:TT):TT:=λσ H Q=>t σ H λc H1=>if c=true then Q true H1 else u σ H1 Q
def tNot(t:TT):TT:=λσ H Q=>t σ H λc H1=>Q (!c) H1
theorem zo3(ha:PT X a tA):PW X (.BoolOp .And [a] pos) tA:=by
 intro wh pins s σ H Q I h;refine isTrue_and (thn (ha pins s σ H Q I h) λc s1 e=>?_)
 cases c with
 |true=>exact isTrue_and_nil e
 |false=>exact e
theorem zqf(ha:PT X a tA):PW X (.BoolOp .Or [a] pos) tA:=by
 intro wh pins s σ H Q I h;refine isTrue_or (thn (ha pins s σ H Q I h) λc s1 e=>?_)
 cases c with
 |false=>exact isTrue_or_nil e
 |true=>exact e
theorem zqg(ha:PT X a tA)(hb:PW X (.BoolOp .And (b::rest) pos) tB'):PW X (.BoolOp .And (a::b::rest) pos) (tAnd tA tB'):=by
 intro wh pins s σ H Q I h;refine isTrue_and (thn (ha pins s σ H _ I h) λc s1 ⟨H1,I1,q1⟩=>?_)
 cases c with
 |true=>exact hb wh pins s1 σ H1 Q I1 q1
 |false=>exact ⟨H1,I1,q1⟩
theorem zrD(ha:PT X a tA)(hb:PW X (.BoolOp .Or (b::rest) pos) tB'):PW X (.BoolOp .Or (a::b::rest) pos) (tOr tA tB'):=by
 intro wh pins s σ H Q I h;refine isTrue_or (thn (ha pins s σ H _ I h) λc s1 ⟨H1,I1,q1⟩=>?_)
 cases c with
 |true=>exact ⟨H1,I1,q1⟩
 |false=>exact hb wh pins s1 σ H1 Q I1 q1
theorem zqh(ha:PT X a tA):PT X (.UnaryOp .Not a pos) (tNot tA):=by
 intro pins s σ H Q I h;exact isTrue_not (ha pins s σ H (λc H1=>Q (!c) H1) I h)
def zrE(ta tb:TE):TE:=λσ H Q=>ta σ H λx H1=>∃c,x=.bl c/\if c=true then tb σ H1 Q else Q (.bl false) H1
def tOrV(ta tb:TE):TE:=λσ H Q=>ta σ H λx H1=>∃c,x=.bl c/\if c=true then Q (.bl true) H1 else tb σ H1 Q
def zrF(ta:TE):TE:=λσ H Q=>ta σ H λx H1=>∃c,x=.bl c/\Q (.bl (!c)) H1
theorem zqi{op}{t:TE}(h:PE X a t):PE X (.BoolOp op [a] pos) t:=λpins s σ H Q I hw=>BoolOp_one (h pins s σ H Q I hw)
theorem zqj(ha:PE X a ta)(hb:PE X (.BoolOp .And (b::rest) pos) tb):PE X (.BoolOp .And (a::b::rest) pos) (zrE ta tb):=by
 intro pins s σ H Q I h;refine BoolOp_and (thn (ha pins s σ H _ I h) λv s1 ⟨x,H1,I1,r1,q1⟩=>?_);obtain ⟨c,rfl,q1⟩:=q1;cases r1;refine QZ ?_
 cases c with
 |true=>exact hb pins s1 σ H1 Q I1 q1
 |false=>exact ⟨.bl false,H1,I1,rfl,q1⟩
theorem zrG(ha:PE X a ta)(hb:PE X (.BoolOp .Or (b::rest) pos) tb):PE X (.BoolOp .Or (a::b::rest) pos) (tOrV ta tb):=by
 intro pins s σ H Q I h;refine BoolOp_or (thn (ha pins s σ H _ I h) λv s1 ⟨x,H1,I1,r1,q1⟩=>?_);obtain ⟨c,rfl,q1⟩:=q1;cases r1;refine QZ ?_
 cases c with
 |false=>exact hb pins s1 σ H1 Q I1 q1
 |true=>exact ⟨.bl true,H1,I1,rfl,q1⟩
theorem zqk(ha:PE X a ta):PE X (.UnaryOp .Not a pos) (zrF ta):=by
 intro pins s σ H Q I h;refine UnaryOp_ (thn (ha pins s σ H _ I h) λv s1 ⟨x,H1,I1,r1,q1⟩=>?_);obtain ⟨c,rfl,q1⟩:=q1;cases r1;exact not_of (QZ ⟨.bl (!c),H1,I1,rfl,q1⟩)
def tIf(t:TT)(ta tb:TE):TE:=λσ H Q=>t σ H λc H1=>if c=true then ta σ H1 Q else tb σ H1 Q
theorem znf{c:Expr}(hc:PT X c tA)(ha:PE X a ta)(hb:PE X b tb):PE X (.IfExp c a b pos) (tIf tA ta tb):=by
 intro pins s σ H Q I h;refine wpAny_IfExp (thn (hc pins s σ H _ I h) λd s1 ⟨H1,I1,q1⟩=>?_)
 cases d with
 |true=>exact ha pins s1 σ H1 Q I1 q1
 |false=>exact hb pins s1 σ H1 Q I1 q1
end
def SqL(K:Frag)(H:Hp)(a:Addr)(xs:List V):Prop :=
 Rd H a (.lst xs) ∨
  ∃(o:Obj)(its:Array Value)(n:Nat),K.lookup a=some o/\o.cls=.type "list" /\ o.dict=none/\o.data=.seq its n/\its.size<=sizeLine/\Vals xs its.toList
def SqT(K:Frag)(H:Hp)(a:Addr)(xs:List V):Prop :=
 Rd H a (.tup xs) ∨
  ∃(o:Obj)(its:Array Value)(n:Nat),K.lookup a=some o/\o.cls=.type "tuple" /\ o.data=.seq its n/\its.size<=sizeLine/\Vals xs its.toList
def absV:Value->Option V
 |.none=>some .non
 |.bool b=>some (.bl b)
 |.int i _=>some (.int i)
 |.str x _=>some (.str x)
 |.bytes b _=>some (.byt b)
 |.float b _=>some (.flt b)
 |.ref a=>some (.ref a)
 |.type n=>some (.ty n)
 |_=>none
theorem RelV.abs{x:V}{u:Value}(r:RelV x u):absV u=some x:=by
 cases x with
 |non=>cases r;rfl
 |bl _=>cases r;rfl
 |int _=>obtain ⟨t,rfl⟩:=r;rfl
 |str _=>obtain ⟨t,rfl⟩:=r;rfl
 |byt _=>obtain ⟨t,rfl⟩:=r;rfl
 |flt _=>obtain ⟨t,rfl⟩:=r;rfl
 |ref _=>cases r;rfl
 |ty _=>cases r;rfl
theorem RelV.inj{x y:V}{u:Value}(r:RelV x u)(q:RelV y u):x=y:=QY (r.abs.symm.trans q.abs)
theorem Vals.inj:∀{xs ys:List V}{us:List Value},Vals xs us->Vals ys us->xs=ys
 |_,_,_,.nil,.nil=>rfl
 |_,_,_,.cons r t,.cons r' t'=>by rw[r.inj r',Vals.inj t t']
section
variable{X:Cx}{pins:List (Addr×Obj)}{σ:St}{H:Hp}{s:Shared}{a:Addr}{xs ys:List V}
theorem SqL.of{K:Frag}(h:H a=some (.lst xs)):SqL K H a xs:=.inl (.inl h)
theorem SqT.of{K:Frag}(h:H a=some (.tup xs)):SqT K H a xs:=.inl (.inl h)
theorem Inv.list(I:Inv X pins σ H s)(h:SqL X.K H a xs):∃its:List Value,Vals xs its/\PlainL s.heap a its.toArray/\xs.length<=sizeLine:=by
 rcases h with h|⟨o,its,n,hk,hc,hd,hs,hz,r⟩
 ·obtain ⟨z,its,n,r,e⟩:=h.ok I.hok
  exact ⟨its,r,⟨_,n,e,rfl,rfl,rfl⟩,z⟩
 ·refine ⟨its.toList,r,⟨o,n,I.kIn a o hk,hc,hd,by simpa using hs⟩,?_⟩
  have e:=r.length;simp only[Jg] at e;omega
theorem Inv.tuple(I:Inv X pins σ H s)(h:SqT X.K H a xs):∃its:List Value,Vals xs its/\IsTup s.heap a its.toArray/\xs.length<=sizeLine:=by
 rcases h with h|⟨o,its,n,hk,hc,hs,hz,r⟩
 ·obtain ⟨z,its,r,p⟩:=h.ok I.hok
  exact ⟨its,r,p,z⟩
 ·refine ⟨its.toList,r,⟨o,I.kIn a o hk,hc,n,by simpa using hs⟩,?_⟩
  have e:=r.length;simp only[Jg] at e;omega
theorem Inv.list_inj(I:Inv X pins σ H s)(h:SqL X.K H a xs)(h':SqL X.K H a ys):xs=ys:=by
 obtain ⟨its,r,⟨o,n,e,_,_,d⟩,_⟩:=I.list h;obtain ⟨its',r',⟨o',n',e',_,_,d'⟩,_⟩:=I.list h';rw[e] at e';cases e';rw[d] at d';injection d' with d1 _
 have:its=its':=by simpa using congrArg Array.toList d1
 subst this;exact r.inj r'
theorem Inv.tuple_inj(I:Inv X pins σ H s)(h:SqT X.K H a xs)(h':SqT X.K H a ys):xs=ys:=by
 obtain ⟨its,r,⟨o,e,_,n,d⟩,_⟩:=I.tuple h;obtain ⟨its',r',⟨o',e',_,n',d'⟩,_⟩:=I.tuple h';rw[e] at e';cases e';rw[d] at d';injection d' with d1 _
 have:its=its':=by simpa using congrArg Array.toList d1
 subst this;exact r.inj r'
end
abbrev Cx.wish(X:Cx)(E:Value->Shared->Prop):Cx:={ X with xe:=E }
abbrev Cx.nox(X:Cx):Cx:=X.wish λ_ _=>False
theorem Cx.Ok.wish{X:Cx}(ok:X.Ok)(E:Value->Shared->Prop):(X.wish E).Ok :=
 ⟨ok.mod,ok.kind,ok.glob,ok.blt,ok.above,ok.inj,ok.has,ok.cab,ok.hd,ok.frames,ok.stk,ok.exf,ok.bs,ok.bsz,ok.noex,ok.exfs,ok.funs,ok.frf⟩
theorem Cx.Ok.unwish{X:Cx}{E:Value->Shared->Prop}(ok:(X.wish E).Ok):X.Ok :=
 ⟨ok.mod,ok.kind,ok.glob,ok.blt,ok.above,ok.inj,ok.has,ok.cab,ok.hd,ok.frames,ok.stk,ok.exf,ok.bs,ok.bsz,ok.noex,ok.exfs,ok.funs,ok.frf⟩
section
variable{X:Cx}{pins:List (Addr×Obj)}{σ:St}{H:Hp}{s:Shared}{E:Value->Shared->Prop}
theorem Inv.wish(I:Inv X pins σ H s)(E:Value->Shared->Prop):Inv (X.wish E) pins σ H s:=⟨I.ok.wish E,I.os,I.bare,I.base,I.loc,I.cell,I.free,I.freeC,I.pin,I.hok,I.len⟩
theorem Inv.unwish(I:Inv (X.wish E) pins σ H s):Inv X pins σ H s:=⟨I.ok.unwish,I.os,I.bare,I.base,I.loc,I.cell,I.free,I.freeC,I.pin,I.hok,I.len⟩
theorem SP.unwish{D:Ends}{f:Flow}{s':Shared}(h:SP (X.wish E) pins D f s'):SP X pins D f s':=by
 cases f with
 |next=>obtain ⟨σ',H',I,q⟩:=h;exact ⟨σ',H',I.unwish,q⟩
 |brk=>obtain ⟨σ',H',I,q⟩:=h;exact ⟨σ',H',I.unwish,q⟩
 |cont=>obtain ⟨σ',H',I,q⟩:=h;exact ⟨σ',H',I.unwish,q⟩
 |ret u=>obtain ⟨v,σ',H',I,r,q⟩:=h;exact ⟨v,σ',H',I.unwish,r,q⟩
theorem PSs.nox{st:List Stmt}{t:TS}(h:PSs X.nox st t):PSs X st t:=λpins s σ H D I hw=>
 QG (h pins s σ H D (I.wish _) hw) (λ_ _ q=>q.unwish) λ_ _ z=>False.elim z
end
section
variable{X:Cx}{st:Stmt}{rest:List Stmt}{t u:TS}{e:Expr}{te:TE}{pos:Pos}
def zrH:TS:=λD σ H=>D.nx σ H
def tSeq(t u:TS):TS:=λD σ H=>t { D with nx:=u D } σ H
theorem zo4:PSs X [] zrH:=λ_ _ σ H _ I h=>wpAny_execs_nil ⟨σ,H,I,h⟩
theorem zge(h1:PS X st t)(h2:PSs X rest u):PSs X (st::rest) (tSeq t u):=by
 intro pins s σ H D I h;refine wpAny_execs_cons (thn (h1 pins s σ H { D with nx:=u D } I h) λf s1 q=>?_)
 cases f with
 |next=>
  obtain ⟨σ',H',I',q⟩:=q;exact h2 pins s1 σ' H' D I' q
 |ret v=>exact q
 |brk=>exact q
 |cont=>exact q
theorem zh8(h1:PS X st t):PSs X [st] t:=by
 intro pins s σ H D I h;refine wpAny_execs_cons (thn (h1 pins s σ H D I h) λf s1 q=>?_)
 cases f with
 |next=>exact wpAny_execs_nil q
 |ret v=>exact q
 |brk=>exact q
 |cont=>exact q
theorem Inv.quiet{pins:List (Addr×Obj)}{σ:St}{H:Hp}{s:Shared}(I:Inv X pins σ H s):interactive X.env=false:=by simp[interactive,I.ok.kind]
def zrI(te:TE):TS:=λD σ H=>te σ H λ_ H1=>D.nx σ H1
theorem zh9(he:PE X e te)(hs:swapsWith e none pos.line X.env=pure false:=by rfl):PS X (.Expr e pos) (zrI te):=by
 intro pins s σ H D I h;exact wpAny_Expr_any (thn (he pins s σ H _ I h) λv s1 ⟨x,H1,I1,r1,q1⟩=>⟨σ,H1,I1,q1⟩) I.quiet hs
def tRet(te:TE):TS:=λD σ H=>te σ H D.rt
theorem zow(he:PE X e te):PS X (.Return (some e) pos) (tRet te):=by
 intro pins s σ H D I h;exact wpAny_Return_some (thn (he pins s σ H _ I h) λv s1 ⟨x,H1,I1,r1,q1⟩=>⟨x,σ,H1,I1,r1,q1⟩)
def tIfS(c:TT)(t u:TS):TS:=λD σ H=>c σ H λb H1=>if b=true then t D σ H1 else u D σ H1
theorem zrJ{c:Expr}{a b:List Stmt}{tc:TT}(hc:PT X c tc)(ha:PSs X a t)(hb:PSs X b u):PS X (.If c a b pos) (tIfS tc t u):=by
 intro pins s σ H D I h;refine wpAny_If (thn (hc pins s σ H _ I h) λd s1 ⟨H1,I1,q1⟩=>?_)
 cases d with
 |true=>exact ha pins s1 σ H1 D I1 q1
 |false=>exact hb pins s1 σ H1 D I1 q1
end
abbrev TG:=V->St->Hp->(St->Hp->Prop)->Prop
abbrev TGs:=List V->St->Hp->(St->Hp->Prop)->Prop
def PG(X:Cx)(target:Expr)(t:TG):Prop :=
 ∀(pins:List (Addr×Obj))(s:Shared)(σ:St)(H:Hp)(v:V)(u:Value)(Q:St->Hp->Prop),Inv X pins σ H s->RelV v u->t v σ H Q ->
  wpAny (model X.prog X.w) X.A (assign target X.env u) (λ_ s'=>∃σ' H',Inv X pins σ' H' s'/\Q σ' H') X.xe s
def PGs(X:Cx)(ts:List Expr)(t:TGs):Prop :=
 ∀(pins:List (Addr×Obj))(s:Shared)(σ:St)(H:Hp)(vs:List V)(us:List Value)(Q:St->Hp->Prop),Inv X pins σ H s->Vals vs us->t vs σ H Q ->
  wpAny (model X.prog X.w) X.A (assignInOrder ((assignEach ts X.env).map (·.2)) us) (λ_ s'=>∃σ' H',Inv X pins σ' H' s'/\Q σ' H') X.xe s
abbrev TIp:=V->V->Hp->VK->Prop
def PIp(X:Cx)(op:Operator)(t:TIp):Prop :=
 ∀(pins:List (Addr×Obj))(s:Shared)(σ:St)(H:Hp)(x y:V)(v u:Value)(Q:VK),Inv X pins σ H s->RelV x v->RelV y u->t x y H Q ->
  wpAny (model X.prog X.w) X.A (inplaceOp op v u) (EP X pins σ Q) X.xe s
section
variable{X:Cx}{pos:Pos}
def zo5(i:Nat):TG:=λv σ H Q=>Q (σ.set i (some v)) H
theorem zam{i:Nat}{x:Str}(hN:X.N.Nodup)(hi:X.N[i]?=some x)(hx:Loc X.env.scope x)(hf:X.fn x=true∨X.env.scope.names.lookup x=some .local:=by first|exact .inl rfl|exact .inr rfl|assumption):PG X (.Name x pos) (zo5 i):=by
 intro pins s σ H v u Q I r h;exact wpAny_assign_Name (zgd I hN hi hx r (λs' I'=>⟨_,H,I',h⟩) hf)
def gNil:TGs:=λvs σ H Q=>vs=[]/\Q σ H
def zrK(t:TG)(u:TGs):TGs:=λvs σ H Q=>∃v r,vs=v::r/\t v σ H λσ' H'=>u r σ' H' Q
theorem zkA:PGs X [] gNil:=by
 intro pins s σ H vs us Q I r h;obtain ⟨e,h⟩:=h;subst e;cases r;exact assignInOrder_nil ⟨σ,H,I,h⟩
theorem zgf{e:Expr}{es:List Expr}{t:TG}{u:TGs}(h1:PG X e t)(h2:PGs X es u)
  (hs:(assignEach (e::es) X.env).map (·.2)=assign e X.env::(assignEach es X.env).map (·.2):=by rfl):PGs X (e::es) (zrK t u):=by
 intro pins s σ H vs us Q I r h;obtain ⟨v,vr,e1,h⟩:=h;subst e1
 cases r with
 |cons r rr=>
  rw[hs];refine assignInOrder_cons (thn (h1 pins s σ H _ _ _ I r h) λ_ s1 ⟨σ1,H1,I1,q1⟩=>?_);exact h2 pins s1 σ1 H1 _ _ Q I1 rr q1
def gTup(K:Frag)(n:Nat)(t:TGs):TG:=λv σ H Q=>∃a xs,v=.ref a/\SqT K H a xs/\xs.length=n/\t xs σ H Q
theorem zox{es:List Expr}{k:Nat}{t:TGs}{n:Nat}(hc:X.calm=true)(h:PGs X es t)
  (hn:(assignEach es X.env).length=n:=by rfl) (hst:(assignEach es X.env).findIdx? (·.1)=none:=by rfl):PG X (.Tuple es k pos) (gTup X.K n t):=by
 intro pins s σ H v u Q I r hw;obtain ⟨a,xs,e1,hq,hl,hw⟩:=hw;subst e1;cases r;obtain ⟨its,rv,ht,hz⟩:=I.tuple hq;refine assign_Tuple_tuple (I.ok.hd hc) ht (by simp[hn,←hl,rv.length]) hst λh' hx=>?_
 have I1:Inv X pins σ H { s with heap:=h' }:=I.kept (t':=s.toks) λb o e=>hx b o (QN (Qi e)) e;exact h pins _ σ H xs _ Q I1 (by simpa using rv) hw
def tAsg(te:TE)(g:TG):TS:=λD σ H=>te σ H λx H1=>g x σ H1 D.nx
theorem zql{tg e:Expr}{te:TE}{g:TG}(he:PE X e te)(hg:PG X tg g)(hs:swapsWithSole [tg] e pos.line X.env=pure false:=by rfl)(hw:swappedStores [tg] e X.env=pure none:=by rfl)
  (h1:(assignEach [tg] X.env).map (·.2)=[assign tg X.env]:=by rfl):PS X (.Assign [tg] e pos) (tAsg te g):=by
 intro pins s σ H D I h;refine wpAny_Assign_stores (thn (he pins s σ H _ I h) λv s1 ⟨x,H1,I1,r1,q1⟩=>?_) hs hw;rw[h1];exact thn (hg pins s1 σ H1 x v _ I1 r1 q1) λ_ s2 q=>q
theorem zkB{i:Nat}{x:Str}{e:Expr}{te:TE}{pos':Pos}(hN:X.N.Nodup)(hi:X.N[i]?=some x)(hx:Loc X.env.scope x)(he:PE X e te)(hs:swapsWith e (some (.Name x pos')) pos.line X.env=pure false:=by rfl)(hf:X.fn x=true∨X.env.scope.names.lookup x=some .local:=by first|exact .inl rfl|exact .inr rfl|assumption) :
  PS X (.Assign [.Name x pos'] e pos) (tAsg te (zo5 i)):=by
 intro pins s σ H D I h;refine wpAny_Assign_Name (thn (he pins s σ H _ I h) λv s1 ⟨y,H1,I1,r1,q1⟩=>?_) hs;exact zgd I1 hN hi hx r1 (λs2 I2=>⟨_,H1,I2,q1⟩) hf
def tAug(i:Nat)(te:TE)(ti:TIp):TS:=λD σ H=>∃x,σ[i]?=some (some x)/\te σ H λy H1=>ti x y H1 λz H2=>D.nx (σ.set i (some z)) H2
theorem zqm{i:Nat}{x:Str}{e:Expr}{te:TE}{op:Operator}{ti:TIp}{pos':Pos}(hN:X.N.Nodup)(hi:X.N[i]?=some x)(hx:Loc X.env.scope x)(he:PE X e te)(ho:PIp X op ti)(hf:X.fn x=true∨X.env.scope.names.lookup x=some .local:=by first|exact .inl rfl|exact .inr rfl|assumption) :
  PS X (.AugAssign (.Name x pos') op e pos) (tAug i te ti):=by
 intro pins s σ H D I h;obtain ⟨v,e1,h⟩:=h;obtain ⟨m,hn,hl⟩:=I.loc;have vis:Vis X.env.scope x:=by rcases hx with k|k;exact .inl k;exact .inr (.inl k)
 obtain ⟨u,r,l⟩:=hl i x v hi e1 vis;refine wpAny_AugAssign_Name ?_
 have go:wpAny (model X.prog X.w) X.A (eval e X.env) (λw s₂=>wpAny (model X.prog X.w) X.A (inplaceOp op u w) (λr s₃=>wpAny (model X.prog X.w) X.A (storeName X.env x r) (λ_=>SP X pins D .next) X.xe s₃) X.xe s₂) X.xe s:=by
  refine thn (he pins s σ H _ I h) λw s1 ⟨y,H1,I1,r1,q1⟩=>?_;refine thn (ho pins s1 σ H1 v y u w _ I1 r r1 q1) λz s2 ⟨zv,H2,I2,r2,q2⟩=>?_;exact zgd I2 hN hi hx r2 (λs3 I3=>⟨_,H2,I3,q2⟩) hf
 rcases l with ⟨hk,hm⟩|⟨hk,c,hc,hcell⟩
 ·exact wpAny_loadName_local I.ok.kind hk hn hm go
 ·rcases hk with hk|hk
  ·exact wpAny_loadName_cell I.ok.kind hk hc hcell go
  ·rcases hx with k|k
   ·have:X.env.scope.names.lookup x=some .free:=hk
    rw[k] at this;cases this
   ·have:X.env.scope.names.lookup x=some .free:=hk
    rw[k] at this;cases this
end
section
variable{X:Cx}{pos:Pos}
def zqn(c:TT)(tb:TS):TS:=λD σ H=>∃W:Nat->St->Hp->Prop,(∃m,W m σ H)/\∀m σ H,W m σ H ->
 c σ H λb H1=>if b=true then ∃N:St->Hp->Prop,(∀σ' H',N σ' H'->∃m',m'<m/\W m' σ' H')/\tb { D with nx:=N,ct:=N,bk:=D.nx } σ H1 else D.nx σ H1
theorem zng{c:Expr}{body:List Stmt}{tc:TT}{tb:TS}(hp:PassesOwn (model X.prog X.w) X.A X.env X.xe)(hc:PT X c tc)(hb:PSs X body tb):PS X (.While c body [] pos) (zqn tc tb):=by
 intro pins s σ H D I h;obtain ⟨W,⟨m0,w0⟩,turn⟩:=h;refine wpAny_While (codeAny_whileLoop (λn s'=>∃σ' H',Inv X pins σ' H' s'/\W n σ' H') ?_ m0 ⟨σ,H,I,w0⟩);rintro n s1 ⟨σ1,H1,I1,w1⟩;refine Jt hp (thn (hc pins s1 σ1 H1 _ I1 (turn n σ1 H1 w1)) λb s2 ⟨H2,I2,q2⟩=>?_)
 cases b with
 |true=>
  obtain ⟨N,hN,q2⟩:=q2;rw[Qn rfl];refine Jt hp (thn (hb pins s2 σ1 H2 _ I2 q2) λf s3 q3=>?_)
  cases f with
  |next=>
   obtain ⟨σ3,H3,I3,n3⟩:=q3;obtain ⟨m',hm,w3⟩:=hN σ3 H3 n3;exact ⟨m',hm,σ3,H3,I3,w3⟩
  |cont=>
   obtain ⟨σ3,H3,I3,n3⟩:=q3;obtain ⟨m',hm,w3⟩:=hN σ3 H3 n3;exact ⟨m',hm,σ3,H3,I3,w3⟩
  |brk=>exact q3
  |ret v=>exact q3
 |false=>
  rw[QA Jk];exact wpAny_execs_nil ⟨σ1,H2,I2,q2⟩
end
structure It where
 go:Nat->Hp->Prop
 yld:Nat->Hp->V->Hp->Prop
 stop:Nat->Hp->Prop
def FpOk(X:Cx)(pins:List (Addr×Obj))(H:Hp)(b:Addr):Prop :=
 H b=none/\b≠X.env.locals/\b∉X.fs/\(b∈X.ex∨X.s₀.heap.objs.size<=b)/\(∀x c,X.env.cells.lookup x=some c->c≠b)/\∀p∈X.pn++pins,p.1≠b
theorem Inv.fpOk{X:Cx}{pins:List (Addr×Obj)}{σ:St}{H H':Hp}{s:Shared}{b:Addr}(I:Inv X pins σ H s)(hb:s.heap.objs.size<=b)(hn:H' b=none):FpOk X pins H' b:=by
 refine ⟨hn,JN (QD I.lt hb),I.nofs hb,.inr (QH I.sz hb),λx c e z=>?_,λp hp z=>?_⟩
 ·obtain ⟨v,q⟩:=I.cell x c e
  exact absurd (QD q.lt (by rw[z];exact hb)) (Jv _)
 ·exact absurd (QD (Qi (I.pin p hp).1) (by rw[z];exact hb)) (Jv _)
structure Turn(P:Program)(w:World)(K:Frag)(tg:Expr)(J:It)(fp:List Addr)(it:Addr)(tn:Nat->Heap->Prop):Prop where
 mem:it∈fp
 obj:∀i h,tn i h->∀b∈fp,∃o,h.get? b=some o/\∀v,o.data≠.cell v
 keep:∀i h h',tn i h->(∀b∈fp,∀o,h.get? b=some o->h'.get? b=some o)->tn i h'
 item:∀(X:Cx),X.prog=P->X.w=w->X.K=K->X.calm=true->∀(i:Nat)(pins:List (Addr×Obj))(s:Shared)(σ:St)(H:Hp)(E:Value->Shared->Prop),Inv X pins σ H s->(∀b∈fp,FpOk X pins H b)->tn i s.heap->J.go i H ->
  wpAny (model P w) X.A (pyNext (.ref it)) (λr s1=>∃u,r=some u /\
   wpAny (model P w) X.A (letOwnedTupleGo tg (.ref it) u) (λ_ s2=>∃x H',Inv X pins σ H' s2/\RelV x u/\J.yld i H x H'/\tn (i+1) s2.heap/\∀b∈fp,H' b=none) E s1) E s
 done:∀(X:Cx),X.prog=P->X.w=w->X.K=K->X.calm=true->∀(i:Nat)(pins:List (Addr×Obj))(s:Shared)(σ:St)(H:Hp)(E:Value->Shared->Prop),Inv X pins σ H s->(∀b∈fp,FpOk X pins H b)->tn i s.heap->J.stop i H ->
  wpAny (model P w) X.A (pyNext (.ref it)) (λr s1=>r=none/\Inv X pins σ H s1) E s
 self:∀(A:Around)(i:Nat)(s:Shared)(Q:Value->Shared->Prop)(E:Value->Shared->Prop),tn i s.heap->Q (.ref it) s->wpAny (model P w) A (pyIter (.ref it)) Q E s
abbrev TI:=St->Hp->(It->Hp->Prop)->Prop
def PIE(X:Cx)(pins:List (Addr×Obj))(σ:St)(tg:Expr)(R:It->Hp->Prop)(itv:Value)(s2:Shared):Prop :=
 ∃(it:Addr)(fp:List Addr)(tn:Nat->Heap->Prop)(J:It)(H':Hp),itv=.ref it/\Inv X pins σ H' s2/\Turn X.prog X.w X.K tg J fp it tn/\tn 0 s2.heap/\(∀b∈fp,FpOk X pins H' b)/\R J H'
def PI(X:Cx)(tg iter:Expr)(wi:TI):Prop :=
 ∀(pins:List (Addr×Obj))(s:Shared)(σ:St)(H:Hp)(R:It->Hp->Prop),Inv X pins σ H s->wi σ H R ->
  wpAny (model X.prog X.w) X.A (eval iter X.env) (λv s1=>wpAny (model X.prog X.w) X.A (pyIter v) (PIE X pins σ tg R) X.xe s1) X.xe s
theorem zkC{M:Model}{A:Around}{E:Value->Shared->Prop}{s:Shared}{tg:Expr}{it:Addr}{u:Value}{o:Obj}{n:String}{vs:Array Value}{Q:Unit->Shared->Prop}(ho:s.heap.get? it=some o)(hc:o.cls=.type n)(hd:o.data=.fields vs)
  (hn:["enumerate", "zip", "dict_itemiterator", "dict_reverseitemiterator", "odict_iterator", "itertools.zip_longest", "itertools.pairwise"].contains n=false) (hQ:Q () s):wpAny M A (letOwnedTupleGo tg (.ref it) u) Q E s:=by
 unfold letOwnedTupleGo
 cases tg <;> first
  |exact Qh hQ
  |(cases u <;> first
    |exact Qh hQ
    |(
      refine Qd (wpAny_load ho ?_);rw[hc,hd]
      show wpAny M A (if (["enumerate", "zip", "dict_itemiterator", "dict_reverseitemiterator", "odict_iterator", "itertools.zip_longest", "itertools.pairwise"].contains n&&vs[0]?==some (rawInt _))=true then _ else _) Q E s
      rw[QA (by intro h;rw[hn,Bool.false_and] at h;cases h)]
      exact Qh hQ))
def Itl(K:Frag)(a:Addr):It :=
 ⟨λi H=>∃xs x,SqL K H a xs/\xs[i]?=some x,λi H x H'=>H'=H/\∀xs,SqL K H a xs->xs[i]?=some x,λi H=>∃xs,SqL K H a xs/\xs.length<=i⟩
def Itt(K:Frag)(a:Addr):It :=
 ⟨λi H=>∃xs x,SqT K H a xs/\xs[i]?=some x,λi H x H'=>H'=H/\∀xs,SqT K H a xs->xs[i]?=some x,λi H=>∃xs,SqT K H a xs/\xs.length<=i⟩
def Itr(lo:Int)(n:Nat):It:=⟨λi _=>i<n,λi H x H'=>H'=H/\x=.int (lo+i),λi _=>n<=i⟩
theorem zkD{P:Program}{w:World}{K:Frag}{tg:Expr}(a it:Addr):Turn P w K tg (Itl K a) [it] it (λi h=>h.IsListIter it a i) where
 mem:=by simp
 obj:=λi h st b hb=>by
  have e:b=it:=by simpa using hb
  subst e;obtain ⟨o,e,c,d⟩:=st;exact ⟨o,e,λv z=>by rw[d] at z;cases z⟩
 keep:=λi h h' st k=>st.at λo e=>k it (by simp) o e
 item:=by
  intro X hP hw hK hc i pins s σ H E I hf st hg;subst hP hw hK;obtain ⟨xs,x,hq,hx⟩:=hg;obtain ⟨its,rv,p,hz⟩:=I.list hq;obtain ⟨u,hu,ru⟩:=rv.get hx;obtain ⟨f0,f1,f2,f3,f4,f5⟩:=hf it (by simp)
  refine wpAny_pyNext_list_item st p.isList (x:=u) (by simpa using hu) λh' st' sb=>?_
  have I1:Inv X pins σ H { s with heap:=h' }:=I.turned (t':=s.toks) (λb o hb e=>(sb.2 b hb).trans e) f0 f1 f3 f4 f5;obtain ⟨o,e,c,d⟩:=id st';exact ⟨u,rfl,zkC (s:={ s with heap:=h' }) e c d (by decide) ⟨x,H,I1,ru,⟨rfl,λys hy=>by rw[I.list_inj hy hq];exact hx⟩,st',λb hb=>(hf b hb).1⟩⟩
 done:=by
  intro X hP hw hK hc i pins s σ H E I hf st hg;subst hP hw hK;obtain ⟨xs,hq,hx⟩:=hg;obtain ⟨its,rv,p,hz⟩:=I.list hq;obtain ⟨f0,f1,f2,f3,f4,f5⟩:=hf it (by simp)
  have hl:=rv.length;exact wpAny_pyNext_list_end (I.ok.hd hc) st p.isList (by simp;omega) λh' eb=>⟨rfl,I.turned (t':=s.toks) (λb o hb e=>eb b o hb e) f0 f1 f3 f4 f5⟩
 self:=λ_ _ _ _ _ st h=>wpAny_pyIter_listiter st h
theorem zjH{P:Program}{w:World}{K:Frag}{tg:Expr}(a it:Addr):Turn P w K tg (Itt K a) [it] it (λi h=>h.IsTupleIter it a i) where
 mem:=by simp
 obj:=λi h st b hb=>by
  have e:b=it:=by simpa using hb
  subst e;obtain ⟨o,e,c,d⟩:=st;exact ⟨o,e,λv z=>by rw[d] at z;cases z⟩
 keep:=λi h h' st k=>st.at λo e=>k it (by simp) o e
 item:=by
  intro X hP hw hK hc i pins s σ H E I hf st hg;subst hP hw hK;obtain ⟨xs,x,hq,hx⟩:=hg;obtain ⟨its,rv,p,hz⟩:=I.tuple hq;obtain ⟨u,hu,ru⟩:=rv.get hx;obtain ⟨f0,f1,f2,f3,f4,f5⟩:=hf it (by simp)
  refine wpAny_pyNext_tuple_item st (show s.heap.IsTuple a its.toArray from p) (x:=u) (by simpa using hu) λh' st' sb=>?_
  have I1:Inv X pins σ H { s with heap:=h' }:=I.turned (t':=s.toks) (λb o hb e=>(sb.2 b hb).trans e) f0 f1 f3 f4 f5;obtain ⟨o,e,c,d⟩:=id st';exact ⟨u,rfl,zkC (s:={ s with heap:=h' }) e c d (by decide) ⟨x,H,I1,ru,⟨rfl,λys hy=>by rw[I.tuple_inj hy hq];exact hx⟩,st',λb hb=>(hf b hb).1⟩⟩
 done:=by
  intro X hP hw hK hc i pins s σ H E I hf st hg;subst hP hw hK;obtain ⟨xs,hq,hx⟩:=hg;obtain ⟨its,rv,p,hz⟩:=I.tuple hq;obtain ⟨f0,f1,f2,f3,f4,f5⟩:=hf it (by simp)
  have hl:=rv.length;exact wpAny_pyNext_tuple_end (I.ok.hd hc) st (show s.heap.IsTuple a its.toArray from p) (by simp;omega) λh' eb=>⟨rfl,I.turned (t':=s.toks) (λb o hb e=>eb b o hb e) f0 f1 f3 f4 f5⟩
 self:=λ_ _ _ _ _ st h=>wpAny_pyIter_tupleiter st h
theorem zjI{P:Program}{w:World}{K:Frag}{tg:Expr}(it:Addr)(lo:Int)(n:Nat):Turn P w K tg (Itr lo n) [it] it (λi h=>IsRangeIter h it (lo+(i:Nat)*1) ((n:Int)-(i:Nat)) 1) where
 mem:=by simp
 obj:=λi h st b hb=>by
  have e:b=it:=by simpa using hb
  subst e
  exact ⟨_,st,λv z=>by
   have z':Data.fields _=Data.cell v:=z;cases z'⟩
 keep:=λi h h' st k=>k it (by simp) _ st
 item:=by
  intro X hP hw hK hc i pins s σ H E I hf st hg;subst hP hw hK;obtain ⟨f0,f1,f2,f3,f4,f5⟩:=hf it (by simp)
  have W:=Walks.range (prog:=X.prog) (w:=X.w) (I.ok.hd hc) it lo 1 n;refine W.item i s _ _ hg st λv h' tk hv st' kk=>?_;obtain ⟨t,rfl⟩:=hv;have I1:Inv X pins σ H { s with heap:=h',toks:=tk }:=I.turned (λb o hb e=>kk b o (by simpa using hb) e) f0 f1 f3 f4 f5
  refine ⟨_,rfl,zkC (s:={ s with heap:=h',toks:=tk }) (n := "range_iterator") st' rfl rfl (by decide) ⟨.int (lo+i),H,I1,⟨t,?_⟩,⟨rfl,rfl⟩,st',λb hb=>(hf b hb).1⟩⟩
  rw[Int.mul_one]
 done:=by
  intro X hP hw hK hc i pins s σ H E I hf st hg;subst hP hw hK;obtain ⟨f0,f1,f2,f3,f4,f5⟩:=hf it (by simp)
  exact wpAny_pyNext_range_end (I.ok.hd hc) st (by have:n<=i:=hg;omega) λh' eb=>⟨rfl,I.turned (t':=s.toks) (λb o hb e=>eb b o hb e) f0 f1 f3 f4 f5⟩
 self:=λ_ _ _ _ _ st h=>wpAny_pyIter_rangeiter st h
section
variable{X:Cx}{tg:Expr}
theorem ziZ{pins:List (Addr×Obj)}{σ:St}{H:Hp}{s:Shared}{R:It->Hp->Prop}{E:Value->Shared->Prop}{lo hi:Int}{t u v:Tok}{tk:Nat}(I:Inv X pins σ H s)(h1 : -(2 ^ 62)<=lo)(h2:lo<2 ^ 62)(h3 : -(2 ^ 62)<=hi)(h4:hi<2 ^ 62)
  (q:R (Itr lo (hi-lo).toNat) H):wpAny (model X.prog X.w) X.A (pyIter (.ref s.heap.objs.size)) (PIE X pins σ tg R) E { s with heap:=s.heap.push { cls:=.type "range", data:=.fields #[.int lo t,.int hi u,.int 1 v] },toks:=tk }:=by
 refine wpAny_pyIter_range (IsRange.new ..) (small_one h1 h2 h3 h4) ?_
 have I1:Inv X pins σ H { s with heap:=s.heap.push { cls:=.type "range", data:=.fields #[.int lo t,.int hi u,.int 1 v] },toks:=tk }:=I.kept λb o e=>Qj _ e
 refine ⟨(s.heap.push { cls:=.type "range", data:=.fields #[.int lo t,.int hi u,.int 1 v] }).objs.size,[(s.heap.push { cls:=.type "range", data:=.fields #[.int lo t,.int hi u,.int 1 v] }).objs.size],_,_,H,rfl,
  I1.kept (t':=tk) λb o e=>Qj _ e,zjI _ lo (hi-lo).toNat,?_,λb hb=>?_,q⟩
 ·have e1:lo+((0:Nat):Int)*1=lo:=by simp
  have e2:(((hi-lo).toNat:Nat):Int)-((0:Nat):Int)=Builtin.Range.rangeSize lo hi 1:=by rw[rangeSize_one];split <;> omega
  show IsRangeIter _ _ (lo+((0:Nat):Int)*1) ((((hi-lo).toNat:Nat):Int)-((0:Nat):Int)) 1;rw[e1,e2];exact Qx _ rfl
 ·have e:b=(s.heap.push { cls:=.type "range", data:=.fields #[.int lo t,.int hi u,.int 1 v] }).objs.size:=by simpa using hb
  subst e;exact I1.fpOk (Qs _) (I1.hok.fresh (Qs _))
def zrL(ta:TA):TI:=λσ H R=>ta σ H λvs H1=>∃j:Int,vs=[.int j] /\ -(2 ^ 62)<=j/\j<2 ^ 62/\R (Itr 0 j.toNat) H1
def zrM(ta:TA):TI:=λσ H R=>ta σ H λvs H1=>∃i j:Int,vs=[.int i,.int j]/\(-(2 ^ 62)<=i/\i<2 ^ 62 /\ -(2 ^ 62)<=j/\j<2 ^ 62)/\R (Itr i (j-i).toNat) H1
theorem zkE{a:Expr}{ta:TA}{p pos:Pos}(hg:Gl X "range")(hm:X.mg "range" = none)(ha:PA X [a] ta)(hs:starEach [a] X.env=[(false,eval a X.env)]:=by rfl):PI X tg (.Call (.Name "range" p) [a] [] pos) (zrL ta):=by
 intro pins s σ H R I h;refine Call_ (zeB I hg hm boot_range (JA (thn (ha pos pins s σ H _ I h) λus s1 ⟨vs,H1,I1,r1,q1⟩=>?_) hs rfl));obtain ⟨j,e,q1,q2,q⟩:=q1;subst e
 cases r1 with
 |cons r rr=>
  cases rr;obtain ⟨t,rfl⟩:=r
  exact call_range_1 (ziZ I1 (by omega) (by omega) q1 q2 (by simpa using q))
theorem zkF{a b:Expr}{ta:TA}{p pos:Pos}(hg:Gl X "range")(hm:X.mg "range" = none)(ha:PA X [a,b] ta)(hs:starEach [a,b] X.env=[(false,eval a X.env),(false,eval b X.env)]:=by rfl)(hs2:starEach [b] X.env=[(false,eval b X.env)]:=by rfl) :
  PI X tg (.Call (.Name "range" p) [a,b] [] pos) (zrM ta):=by
 intro pins s σ H R I h;refine Call_ (zeB I hg hm boot_range (JA (thn (ha pos pins s σ H _ I h) λus s1 ⟨vs,H1,I1,r1,q1⟩=>?_) (by rw[hs,hs2]) (by rw[hs2];rfl)))
 obtain ⟨i,j,e,⟨q1,q2,q3,q4⟩,q⟩:=q1;subst e
 cases r1 with
 |cons r rr=>
  cases rr with
  |cons r' rr=>
   cases rr;obtain ⟨t,rfl⟩:=r
   obtain ⟨t',rfl⟩:=r';exact call_range_2 (ziZ I1 q1 q2 q3 q4 q)
def tFor(wi:TI)(g:TG)(tb:TS):TS:=λD σ H=>wi σ H λJ H1=>∃W:Nat->Nat->St->Hp->Prop,(∃m,W 0 m σ H1)/\∀i m σ H,W i m σ H ->
 (J.stop i H/\D.nx σ H)∨(J.go i H/\∃N:St->Hp->Prop,(∀σ' H',N σ' H'->∃m',m'<m/\W (i+1) m' σ' H')/\∀x H',J.yld i H x H'->g x σ H' λσ2 H2=>tb { D with nx:=N,ct:=N,bk:=D.nx } σ2 H2)
def zgS(fp:List Addr)(h:Heap):List (Addr×Obj):=fp.filterMap λb=>(h.get? b).map λo=>(b,o)
theorem zdu{fp:List Addr}{h:Heap}{b:Addr}{o:Obj}(hb:b∈fp)(e:h.get? b=some o):(b,o)∈zgS fp h:=Jo.mpr ⟨b,hb,by rw[e];rfl⟩
theorem zkG{fp:List Addr}{h:Heap}{p:Addr×Obj}(hp:p∈zgS fp h):p.1∈fp/\h.get? p.1=some p.2:=by
 obtain ⟨b,hb,e⟩:=Jo.mp hp
 cases q:h.get? b with
 |none=>rw[q] at e;cases e
 |some o=>
  rw[q] at e;have e':(b,o)=p:=QY e;subst e';exact ⟨hb,q⟩
theorem Inv.pinned{pins:List (Addr×Obj)}{σ:St}{H:Hp}{s:Shared}{fp:List Addr}(I:Inv X pins σ H s)(hf:∀b∈fp,FpOk X pins H b)(ho:∀b∈fp,∃o,s.heap.get? b=some o/\∀v,o.data≠.cell v):Inv X (pins++zgS fp s.heap) σ H s :=
 I.pins_of λp hp=>(QS.mp hp).elim (λz=>I.pin p (QJ _ z)) λz=>by
  obtain ⟨hb,e⟩:=zkG z;obtain ⟨f0,f1,f2,_⟩:=hf p.1 hb;obtain ⟨o,e',d⟩:=ho p.1 hb;rw[e] at e';cases e';exact ⟨e,f0,f1,f2,d⟩
theorem Inv.unpinned{pins pl:List (Addr×Obj)}{σ:St}{H:Hp}{s:Shared}(I:Inv X (pins++pl) σ H s):Inv X pins σ H s:=I.pins_of λp hp=>I.pin p (QJ _ (Q7 _ hp))
theorem zoy{iter:Expr}{body:List Stmt}{wi:TI}{g:TG}{tb:TS}{pos:Pos}(hp:PassesOwn (model X.prog X.w) X.A X.env X.xe)(hc:X.calm=true)(hi:PI X tg iter wi)(hg:PG X tg g)(hb:PSs X body tb)
  (hs:∀x,foldedSetIterable iter X.env x=pure x:=by intro _;rfl):PS X (.For tg iter body [] pos) (tFor wi g tb):=by
 intro pins s σ H D I h;refine wpAny_For (thn (hi pins s σ H _ I h) λv s1 h1=>thn h1 λitv s2 h2=>?_) hs;obtain ⟨it,fp,tn,J,H2,e,I2,T,st2,f2,W,⟨m0,w0⟩,turn⟩:=h2;subst e;have stat:∀{H':Hp},(∀b∈fp,H' b=none)->∀b∈fp,FpOk X pins H' b:=λhn b hb=>⟨hn b hb,(f2 b hb).2⟩;refine codeAny_forLoop_any (λn s'=>∃i σ' H',Inv X pins σ' H' s'/\tn i s'.heap/\(∀b∈fp,H' b=none)/\W i n σ' H') ?_ m0 ⟨0,σ,H2,I2,st2,λb hb=>(f2 b hb).1,w0⟩;rintro n s3 ⟨i,σ3,H3,I3,st3,fr3,w3⟩;rcases turn i n σ3 H3 w3 with ⟨stop,qn⟩|⟨go,N,hN,step⟩
 ·refine Jt hp (thn (T.done X rfl rfl rfl hc i pins s3 σ3 H3 X.xe I3 (stat fr3) st3 stop) λr s4 ⟨hr,I4⟩=>?_)
  subst hr;exact wpAny_execs_nil ⟨σ3,H3,I4,qn⟩
 ·refine Jt hp (thn (T.item X rfl rfl rfl hc i pins s3 σ3 H3 X.xe I3 (stat fr3) st3 go) λr s4 ⟨u,hr,h4⟩=>?_)
  subst hr;refine Jt hp (thn h4 λ_ s5 ⟨x,H5,I5,r5,y5,st5,fr5⟩=>?_);have I5':=I5.pinned (stat fr5) (T.obj _ _ st5);refine Jt hp (thn (hg _ s5 σ3 H5 x u _ I5' r5 (step x H5 y5)) λ_ s6 ⟨σ6,H6,I6,q6⟩=>?_);refine Jt hp (thn (hb _ s6 σ6 H6 _ I6 q6) λf s7 q7=>?_)
  have again:∀{σ7:St}{H7:Hp},Inv X (pins++zgS fp s5.heap) σ7 H7 s7->N σ7 H7->∃m,m<n/\∃i σ' H',Inv X pins σ' H' s7/\tn i s7.heap/\(∀b∈fp,H' b=none)/\W i m σ' H':=λ{σ7 H7} I7 n7=>by
   obtain ⟨m',hm,w7⟩:=hN σ7 H7 n7;refine ⟨m',hm,i+1,σ7,H7,I7.unpinned,T.keep _ _ _ st5 λb hb o e=>(I7.pin (b,o) (QJ _ (QJ _ (zdu hb e)))).1,λb hb=>?_,w7⟩;obtain ⟨o,e,d⟩:=T.obj _ _ st5 b hb;exact (I7.pin (b,o) (QJ _ (QJ _ (zdu hb e)))).2.1
  cases f with
  |next=>obtain ⟨σ7,H7,I7,n7⟩:=q7;exact again I7 n7
  |cont=>obtain ⟨σ7,H7,I7,n7⟩:=q7;exact again I7 n7
  |brk=>obtain ⟨σ7,H7,I7,q7⟩:=q7;exact ⟨σ7,H7,I7.unpinned,q7⟩
  |ret v=>obtain ⟨x7,σ7,H7,I7,r7,q7⟩:=q7;exact ⟨x7,σ7,H7,I7.unpinned,r7,q7⟩
end
abbrev R2:=V->V->Hp->VK->Prop
def OpR(X:Cx)(f:Value->Value->Sem Value)(r:R2):Prop :=
 ∀(pins:List (Addr×Obj))(s:Shared)(σ:St)(H:Hp)(x y:V)(v u:Value)(Q:VK),Inv X pins σ H s->RelV x v->RelV y u->r x y H Q ->
  wpAny (model X.prog X.w) X.A (f v u) (EP X pins σ Q) X.xe s
def UnR(X:Cx)(f:Value->Sem Value)(r:V->Hp->VK->Prop):Prop :=
 ∀(pins:List (Addr×Obj))(s:Shared)(σ:St)(H:Hp)(x:V)(v:Value)(Q:VK),Inv X pins σ H s->RelV x v->r x H Q ->
  wpAny (model X.prog X.w) X.A (f v) (EP X pins σ Q) X.xe s
def zc1(X:Cx)(f:Value)(r:List V->Hp->VK->Prop):Prop :=
 ∀(pins:List (Addr×Obj))(s:Shared)(σ:St)(H:Hp)(xs:List V)(us:List Value)(Q:VK),Inv X pins σ H s->Vals xs us->r xs H Q ->
  wpAny (model X.prog X.w) X.A (call f us) (EP X pins σ Q) X.xe s
def TruR(X:Cx)(r:V->Hp->(Bool->Hp->Prop)->Prop):Prop :=
 ∀(pins:List (Addr×Obj))(s:Shared)(σ:St)(H:Hp)(x:V)(v:Value)(Q:Bool->Hp->Prop),Inv X pins σ H s->RelV x v->r x H Q ->
  wpAny (model X.prog X.w) X.A (truthy v) (TP X pins σ Q) X.xe s
def tOp(r:R2)(ta tb:TE):TE:=λσ H Q=>ta σ H λx H1=>tb σ H1 λy H2=>r x y H2 Q
def tUn(r:V->Hp->VK->Prop)(ta:TE):TE:=λσ H Q=>ta σ H λx H1=>r x H1 Q
def rI(C:Int->Int->Prop)(g:Int->Int->V):R2:=λx y H Q=>∃i j,x=.int i/\y=.int j/\C i j/\Q (g i j) H
def rI0(g:Int->Int->V):R2:=λx y H Q=>∃i j,x=.int i/\y=.int j/\Q (g i j) H
def rU(g:Int->V):V->Hp->VK->Prop:=λx H Q=>∃i,x=.int i/\Q (g i) H
section
variable{X:Cx}{a b c:Expr}{ta tb tc:TE}{pos:Pos}
theorem binT(ha:PE X a ta)(hb:PE X b tb){pins:List (Addr×Obj)}{s:Shared}{σ:St}{H:Hp}{R:V->V->Hp->Prop}(I:Inv X pins σ H s)
  (h:ta σ H λx H1=>tb σ H1 λy H2=>R x y H2) {Q:Value->Shared->Prop} {f:Value->Value->Sem Value}
  (hf:∀v u s2 x y H2,Inv X pins σ H2 s2->RelV x v->RelV y u->R x y H2->wpAny (model X.prog X.w) X.A (f v u) Q X.xe s2) :
  wpAny (model X.prog X.w) X.A (eval a X.env) (λv s₁=>wpAny (model X.prog X.w) X.A (eval b X.env) (λu s₂=>wpAny (model X.prog X.w) X.A (f v u) Q X.xe s₂) X.xe s₁) X.xe s:=by
 refine thn (ha pins s σ H _ I h) λv s1 ⟨x,H1,I1,r1,q1⟩=>?_;refine thn (hb pins s1 σ H1 _ I1 q1) λu s2 ⟨y,H2,I2,r2,q2⟩=>?_;exact hf v u s2 x y H2 I2 r1 r2 q2
theorem zqo{op:Operator}{r:R2}(ho:OpR X (binaryOp op) r)(ha:PE X a ta)(hb:PE X b tb):PE X (.BinOp a op b pos) (tOp r ta tb):=by
 intro pins s σ H Q I h;exact wpAny_BinOp (binT ha hb I h λv u s2 x y H2 I2 rx ry q=>ho pins s2 σ H2 x y v u Q I2 rx ry q)
theorem zrN{op:UnaryOp}{r:V->Hp->VK->Prop}(ho:UnR X (unaryOp op) r)(ha:PE X a ta):PE X (.UnaryOp op a pos) (tUn r ta):=by
 intro pins s σ H Q I h;exact UnaryOp_ (thn (ha pins s σ H _ I h) λv s1 ⟨x,H1,I1,r1,q1⟩=>ho pins s1 σ H1 x v Q I1 r1 q1)
theorem opI{f:Value->Value->Sem Value}{C:Int->Int->Prop}{g:Int->Int->Int}
  (rule:∀(i j:Int)(t u:Tok)(s:Shared)(Q:Value->Shared->Prop)(E:Value->Shared->Prop),C i j->Q (.int (g i j) s.toks) { s with toks:=s.toks+1 }->wpAny (model X.prog X.w) X.A (f (.int i t) (.int j u)) Q E s) :
  OpR X f (rI C λi j=>.int (g i j)):=by
 intro pins s σ H x y v u Q I rx ry h;obtain ⟨i,j,rfl,rfl,hc,q⟩:=h;obtain ⟨t,rfl⟩:=rx;obtain ⟨t',rfl⟩:=ry;exact rule i j t t' s _ _ hc ⟨.int (g i j),H,I.tok _,⟨_,rfl⟩,q⟩
theorem opI0{f:Value->Value->Sem Value}{g:Int->Int->Int}
  (rule:∀(i j:Int)(t u:Tok)(s:Shared)(Q:Value->Shared->Prop)(E:Value->Shared->Prop),Q (.int (g i j) s.toks) { s with toks:=s.toks+1 }->wpAny (model X.prog X.w) X.A (f (.int i t) (.int j u)) Q E s) :
  OpR X f (rI0 λi j=>.int (g i j)):=by
 intro pins s σ H x y v u Q I rx ry h;obtain ⟨i,j,rfl,rfl,q⟩:=h;obtain ⟨t,rfl⟩:=rx;obtain ⟨t',rfl⟩:=ry;exact rule i j t t' s _ _ ⟨.int (g i j),H,I.tok _,⟨_,rfl⟩,q⟩
theorem opB0{f:Value->Value->Sem Value}{g:Int->Int->Bool}
  (rule:∀(i j:Int)(t u:Tok)(s:Shared)(Q:Value->Shared->Prop)(E:Value->Shared->Prop),Q (.bool (g i j)) s->wpAny (model X.prog X.w) X.A (f (.int i t) (.int j u)) Q E s) :
  OpR X f (rI0 λi j=>.bl (g i j)):=by
 intro pins s σ H x y v u Q I rx ry h;obtain ⟨i,j,rfl,rfl,q⟩:=h;obtain ⟨t,rfl⟩:=rx;obtain ⟨t',rfl⟩:=ry;exact rule i j t t' s _ _ ⟨.bl (g i j),H,I,rfl,q⟩
def CPow(i j:Int):Prop:=0<=j/\j<=1000000/\i.natAbs<2 ^ 64
def CMul(i j:Int):Prop:=(-(2 ^ 64)<i/\i<2 ^ 64)∨(-(2 ^ 64)<j/\j<2 ^ 64)
theorem CMul.ok{i j:Int}(h:CMul i j):IntMulOk i j:=by
 rcases h with ⟨h1,h2⟩|⟨h1,h2⟩
 ·exact .of_left (intBits_le_64 h1 h2)
 ·exact .of_right (intBits_le_64 h1 h2)
theorem zqp:OpR X (binaryOp .Add) (rI0 λi j=>.int (i+j)):=opI0 λ_ _ _ _ _ _ _ q=>add_int q
theorem zqq:OpR X (binaryOp .Sub) (rI0 λi j=>.int (i-j)):=opI0 λ_ _ _ _ _ _ _ q=>sub_int q
theorem zqr:OpR X (binaryOp .Mult) (rI CMul λi j=>.int (i*j)):=opI λ_ _ _ _ _ _ _ hc q=>mul_int q hc.ok
theorem zqs:OpR X (binaryOp .Mod) (rI (λ_ j=>0<j) λi j=>.int (i % j)):=opI λi j _ _ _ _ _ hc q=>by
 have h1:(0:Int)<j:=hc;exact mod_int' (by omega) (by rw[Int.fmod_eq_emod_of_nonneg i (by omega)];exact q)
theorem zqt:OpR X (binaryOp .Pow) (rI CPow λi j=>.int (i ^ j.toNat)):=opI λ_ _ _ _ _ _ _ hc q=>pow_int_small hc.1 hc.2.1 hc.2.2 q
theorem zo6:OpR X (inplaceOp .Mult) (rI CMul λi j=>.int (i*j)):=opI λ_ _ _ _ _ _ _ hc q=>imul_int q hc.ok
theorem unI{f:Value->Sem Value}{g:Int->Int}
  (rule:∀(i:Int)(t:Tok)(s:Shared)(Q:Value->Shared->Prop)(E:Value->Shared->Prop),Q (.int (g i) s.toks) { s with toks:=s.toks+1 }->wpAny (model X.prog X.w) X.A (f (.int i t)) Q E s) :
  UnR X f (rU λi=>.int (g i)):=by
 intro pins s σ H x v Q I rx h;obtain ⟨i,rfl,q⟩:=h;obtain ⟨t,rfl⟩:=rx;exact rule i t s _ _ ⟨.int (g i),H,I.tok _,⟨_,rfl⟩,q⟩
theorem zqu:UnR X (unaryOp .USub) (rU λi=>.int (-i)):=unI λ_ _ _ _ _ q=>neg_int q
end
section
variable{X:Cx}{a b c:Expr}{ta tb tc:TE}{pos:Pos}
theorem zoz{pins:List (Addr×Obj)}{σ:St}{H:Hp}{s:Shared}{Q:VK}{k k':Bool}(I:Inv X pins σ H s)(q:Q (.bl k) H)(e:k=k'):EP X pins σ Q (.bool k') s:=by
 subst e;exact ⟨.bl k,H,I,rfl,q⟩
theorem zrO:OpR X (compareOp .Lt) (rI0 λi j=>.bl (decide (i<j))):=opB0 λ_ _ _ _ _ _ _ q=>lt_int q
theorem zrP:OpR X (compareOp .LtE) (rI0 λi j=>.bl (decide (i<=j))):=opB0 λ_ _ _ _ _ _ _ q=>le_int q
theorem zrQ:OpR X (compareOp .Gt) (rI0 λi j=>.bl (decide (j<i))):=opB0 λ_ _ _ _ _ _ _ q=>gt_int q
theorem zrR:OpR X (compareOp .GtE) (rI0 λi j=>.bl (decide (j<=i))):=opB0 λ_ _ _ _ _ _ _ q=>ge_int q
theorem zkH:OpR X (compareOp .In) (λx y H Q=>∃i j,x=.str i/\y=.str j/\Q (.bl (!(Builtin.Str.occurrences j i 0 j.length 1).isEmpty)) H):=by
 intro pins s σ H x y v u Q I rx ry h;obtain ⟨i,j,rfl,rfl,q⟩:=h;obtain ⟨t,rfl⟩:=rx;obtain ⟨t',rfl⟩:=ry;exact in_str (zoz I q rfl)
theorem zgT:OpR X (compareOp .NotIn) (λx y H Q=>∃i j,x=.str i/\y=.str j/\Q (.bl (!(!(Builtin.Str.occurrences j i 0 j.length 1).isEmpty))) H):=by
 intro pins s σ H x y v u Q I rx ry h;obtain ⟨i,j,rfl,rfl,q⟩:=h;obtain ⟨t,rfl⟩:=rx;obtain ⟨t',rfl⟩:=ry;exact notIn_str (zoz I q rfl)
theorem OpR.or{f:Value->Value->Sem Value}{r r':R2}(h:OpR X f r)(h':OpR X f r'):OpR X f (λx y H Q=>r x y H Q∨r' x y H Q):=by
 intro pins s σ H x y v u Q I rx ry q;rcases q with q|q
 ·exact h pins s σ H x y v u Q I rx ry q
 ·exact h' pins s σ H x y v u Q I rx ry q
theorem za4(b:Expr){op:CmpOp}(h:op≠.In:=by decide)(h2:op≠.NotIn:=by decide):behindInMarks op b=false:=by
 have e1:(op==CmpOp.In)=false:=by cases op <;> first|rfl|exact absurd rfl h
 have e2:(op==CmpOp.NotIn)=false:=by cases op <;> first|rfl|exact absurd rfl h2
 cases b <;> simp[behindInMarks,e1,e2]
theorem zkI{op:CmpOp}{r:R2}(ho:OpR X (compareOp op) r)(ha:PE X a ta)(hb:PE X b tb)(hm:behindInMarks op b=false):PE X (.Compare a [op] [b] pos) (tOp r ta tb):=by
 intro pins s σ H Q I h;exact wpAny_Compare1 (binT ha hb I h λv u s2 x y H2 I2 rx ry q=>ho pins s2 σ H2 x y v u Q I2 rx ry q) hm
def zqv(t:TE):TT:=λσ H Q=>t σ H λx H'=>∃k,x=.bl k/\Q k H'
theorem zia{op:CmpOp}{r:R2}(ho:OpR X (compareOp op) r)(ha:PE X a ta)(hb:PE X b tb)(hm:behindInMarks op b=false):PT X (.Compare a [op] [b] pos) (zqv (tOp r ta tb)):=by
 intro pins s σ H Q I h
 refine wpAny_isTrue_Compare1 (thn (ha pins s σ H _ I h) λv s1 ⟨x,H1,I1,r1,q1⟩=>thn (hb pins s1 σ H1 _ I1 q1) λu s2 ⟨y,H2,I2,r2,q2⟩=>
  thn (ho pins s2 σ H2 x y v u _ I2 r1 r2 q2) λc s3 ⟨z,H3,I3,r3,k,e,q3⟩=>?_) hm
 subst e;cases r3;exact QZ ⟨H3,I3,q3⟩
def zoA(r r':R2)(ta tb tc:TE):TE:=λσ H Q=>ta σ H λx H1=>tb σ H1 λy H2=>r x y H2 λz H3=>∃k,z=.bl k /\
 (if k=true then tc σ H3 λw' H4=>r' y w' H4 Q else Q (.bl false) H3)
theorem znh{op op':CmpOp}{r r':R2}(ho:OpR X (compareOp op) r)(ho':OpR X (compareOp op') r')(ha:PE X a ta)(hb:PE X b tb)(hc:PE X c tc)
  (hm:lastMarks [op,op'] [b,c]=false:=by with_unfolding_all rfl):PE X (.Compare a [op,op'] [b,c] pos) (zoA r r' ta tb tc):=by
 intro pins s σ H Q I h
 refine Compare_chain (thn (ha pins s σ H _ I h) λv s1 ⟨x,H1,I1,r1,q1⟩=>chain_link (thn (hb pins s1 σ H1 _ I1 q1) λu s2 ⟨y,H2,I2,r2,q2⟩=>
  thn (ho pins s2 σ H2 x y v u _ I2 r1 r2 q2) λd s3 ⟨z,H3,I3,r3,k,e,q3⟩=>?_)) hm
 subst e;cases r3;refine QZ ?_
 cases k with
 |false=>exact ite_ff ⟨.bl false,H3,I3,rfl,q3⟩
 |true=>exact ite_tt (chain_last (thn (hc pins s3 σ H3 _ I3 q3) λw' s4 ⟨z',H4,I4,r4,q4⟩=>ho' pins s4 σ H4 y z' u w' Q I4 r2 r4 q4))
theorem zni{op op':CmpOp}{r r':R2}(ho:OpR X (compareOp op) r)(ho':OpR X (compareOp op') r')(ha:PE X a ta)(hb:PE X b tb)(hc:PE X c tc)
  (hm:lastMarks [op,op'] [b,c]=false:=by with_unfolding_all rfl):PT X (.Compare a [op,op'] [b,c] pos) (zqv (zoA r r' ta tb tc)):=by
 intro pins s σ H Q I h
 refine isTrue_chain (thn (ha pins s σ H _ I h) λv s1 ⟨x,H1,I1,r1,q1⟩=>test_link (thn (hb pins s1 σ H1 _ I1 q1) λu s2 ⟨y,H2,I2,r2,q2⟩=>
  thn (ho pins s2 σ H2 x y v u _ I2 r1 r2 q2) λd s3 ⟨z,H3,I3,r3,k,e,q3⟩=>?_)) hm
 subst e;cases r3;refine QZ ?_
 cases k with
 |false=>
  obtain ⟨k',e',q'⟩:=q3;cases e';exact ite_ff ⟨H3,I3,q'⟩
 |true=>
  refine ite_tt (test_last (thn (hc pins s3 σ H3 _ I3 q3) λw' s4 ⟨z',H4,I4,r4,q4⟩=>thn (ho' pins s4 σ H4 y z' u w' _ I4 r2 r4 q4) λd' s5 ⟨z2,H5,I5,r5,k2,e2,q5⟩=>?_));subst e2;cases r5;exact QZ ⟨H5,I5,q5⟩
def TruV(K:Frag)(x:V)(H:Hp)(k:Bool):Prop :=
 match x with
 |.non=>k=false
 |.bl b=>k=b
 |.int i=>k=(i != 0)
 |.str y=>y.length<=sizeLine/\k=((y.length:Int) != 0)
 |.byt y=>y.size<=sizeLine/\k=((y.size:Int) != 0)
 |.ref p=>(∃xs,SqL K H p xs/\k = !xs.isEmpty)∨(∃xs,SqT K H p xs/\k = !xs.isEmpty) ∨ ∃kvs,H p=some (.dK kvs)/\k = !kvs.isEmpty
 |_=>False
theorem zjJ{κ:Type}{kvs:List (κ×V)}{vs:List (κ×Value)}(r:KV kvs vs):(!vs.isEmpty) = !kvs.isEmpty:=by
 cases r <;> rfl
theorem zfO{xs:List V}{its:List Value}(r:Vals xs its):(!its.toArray.isEmpty) = !xs.isEmpty:=by
 cases r <;> simp
theorem zgU:(sizeLine:Nat)<2 ^ 63:=by rw[sizeLine_eq];decide
theorem zqw:TruR X (λx H Q=>∃k,TruV X.K x H k/\Q k H):=by
 intro pins s σ H x v Q I rx h;obtain ⟨k,e,q⟩:=h;have hl:=zgU;have hs:sizeLine=16777216:=sizeLine_eq
 cases x with
 |non=>
  cases rx;have e':k=false:=e
  subst e';exact truthy_none ⟨H,I,q⟩
 |bl b=>
  cases rx;have e':k=b:=e
  subst e';exact QZ ⟨H,I,q⟩
 |int i=>
  obtain ⟨t,rfl⟩:=rx;have e':k=(i != 0):=e;subst e';exact PySem.P.truthy_int ⟨H,I,q⟩
 |str y=>
  obtain ⟨t,rfl⟩:=rx;obtain ⟨hy,e'⟩:y.length<=sizeLine/\k=((y.length:Int) != 0):=e;subst e';exact PySem.P.truthy_str (by omega) ⟨H,I.tok _,q⟩
 |byt y=>
  obtain ⟨t,rfl⟩:=rx;obtain ⟨hy,e'⟩:y.size<=sizeLine/\k=((y.size:Int) != 0):=e;subst e';exact PySem.W.truthy_bytes (by omega) ⟨H,I.tok _,q⟩
 |ref p=>
  cases rx;have e':(∃xs,SqL X.K H p xs/\k = !xs.isEmpty)∨(∃xs,SqT X.K H p xs/\k = !xs.isEmpty) ∨ ∃kvs,H p=some (.dK kvs)/\k = !kvs.isEmpty:=e
  rcases e' with ⟨xs,hx,e'⟩|⟨xs,hx,e'⟩|⟨kvs,hx,e'⟩
  ·subst e'
   obtain ⟨its,r,pl,hz⟩:=I.list hx;have hlen:=r.length;exact wpAny_truthy_list pl.isList (by simp only[QM];omega) ⟨H,I.tok _,by rw[zfO r];exact q⟩
  ·subst e'
   obtain ⟨its,r,pl,hz⟩:=I.tuple hx;have hlen:=r.length;exact truthy_tuple pl (by simp only[QM];omega) ⟨H,I.tok _,by rw[zfO r];exact q⟩
  ·subst e'
   obtain ⟨hz,hS,vs,r,m⟩:kvs.length<=sizeLine/\(p==sysModules)=false/\∃vs,KV kvs vs/\s.heap.DictOf (zb5 X.prog X.w) p vs:=I.hok p _ hx;have hlen:kvs.length=vs.length:=Paired.length r;exact wpAny_truthy_dict hS m (by omega) ⟨H,I.tok _,by rw[zjJ r];exact q⟩
 |_=>exact (show False from e).elim
theorem znj(ha:PE X a ta)(he:∀whole,isTrue a X.env whole=(do let v ←whole;standAt a.pos;holding [v] (truthy v))) :
  PT X a (λσ H Q=>ta σ H λx H'=>∃k,TruV X.K x H' k/\Q k H'):=by
 intro pins s σ H Q I h;exact isTrue_plain (thn (ha pins s σ H _ I h) λv s1 ⟨x,H1,I1,r1,q1⟩=>zqw pins s1 σ H1 x v Q I1 r1 q1) (he _)
theorem zjK:OpR X (binaryOp .Add) (λx y H Q=>∃i j,x=.str i/\y=.str j/\i.length+j.length<=sizeLine/\Q (.str (i++j)) H):=by
 intro pins s σ H x y v u Q I rx ry h;obtain ⟨i,j,rfl,rfl,hz,q⟩:=h;obtain ⟨t,rfl⟩:=rx;obtain ⟨t',rfl⟩:=ry;exact add_str (λt' tk=>⟨.str (i++j),H,I.tok _,⟨_,rfl⟩,q⟩) hz
theorem znk{x:V}{us:List Value}(r:Vals [x] us):∃u,us=[u]/\RelV x u:=by
 cases r with
 |cons r1 r2=>cases r2;exact ⟨_,rfl,r1⟩
theorem zo7{x y:V}{us:List Value}(r:Vals [x,y] us):∃u w',us=[u,w']/\RelV x u/\RelV y w':=by
 cases r with
 |cons r1 r2=>
  cases r2 with
  |cons r3 r4=>cases r4;exact ⟨_,_,rfl,r1,r3⟩
theorem zkJ(hc:X.calm=true):zc1 X (.builtin "max") (λxs H Q=>∃i j,xs=[.int i,.int j]/\Q (.int (if j > i then j else i)) H):=by
 intro pins s σ H xs us Q I r h;obtain ⟨i,j,rfl,q⟩:=h;obtain ⟨u,w',rfl,⟨t,rfl⟩,⟨t',rfl⟩⟩:=zo7 r;refine max_two_ints (I.ok.hd hc) λh' tk k=>⟨_,H,I.kept k,?_,q⟩
 by_cases hj:j > i
 ·rw[Qn hj,Qn hj];exact ⟨_,rfl⟩
 ·rw[QA hj,QA hj];exact ⟨_,rfl⟩
theorem zkK:zc1 X (.type "int") (λxs H Q=>(∃i,xs=[.int i]/\Q (.int i) H) ∨ ∃k,xs=[.bl k]/\Q (.int (if k then 1 else 0)) H):=by
 intro pins s σ H xs us Q I r h;rcases h with ⟨i,rfl,q⟩|⟨k,rfl,q⟩
 ·obtain ⟨u,rfl,t,rfl⟩:=znk r
  exact call_int_int ⟨.int i,H,I,⟨_,rfl⟩,q⟩
 ·obtain ⟨u,rfl,r1⟩:=znk r
  cases r1;exact call_int_bool ⟨.int (if k then 1 else 0),H,I.tok _,⟨_,rfl⟩,q⟩
def LenV(K:Frag)(x:V)(H:Hp)(n:Nat):Prop :=
 match x with
 |.str y=>y.length<=sizeLine/\n=y.length
 |.byt y=>y.size<=sizeLine/\n=y.size
 |.ref p=>(∃xs,SqL K H p xs/\n=xs.length) ∨ ∃xs,SqT K H p xs/\n=xs.length
 |_=>False
theorem zi0:zc1 X (.builtin "len") (λxs H Q=>∃x n,xs=[x]/\LenV X.K x H n/\Q (.int n) H):=by
 intro pins s σ H xs us Q I r h;obtain ⟨x,n,rfl,e,q⟩:=h;obtain ⟨u,rfl,rx⟩:=znk r;have hl:=zgU;have hs:sizeLine=16777216:=sizeLine_eq
 cases x with
 |str y=>
  obtain ⟨t,rfl⟩:=rx;obtain ⟨hy,e'⟩:y.length<=sizeLine/\n=y.length:=e;subst e';exact len_str (by omega) ⟨.int _,H,I.tok _,⟨_,rfl⟩,q⟩
 |byt y=>
  obtain ⟨t,rfl⟩:=rx;obtain ⟨hy,e'⟩:y.size<=sizeLine/\n=y.size:=e;subst e';exact PySem.W.len_bytes (by omega) ⟨.int _,H,I.tok _,⟨_,rfl⟩,q⟩
 |ref p=>
  cases rx;have e':(∃xs,SqL X.K H p xs/\n=xs.length) ∨ ∃xs,SqT X.K H p xs/\n=xs.length:=e
  rcases e' with ⟨xs,hx,e'⟩|⟨xs,hx,e'⟩
  ·subst e'
   obtain ⟨its,r',pl,hz⟩:=I.list hx;have hlen:=r'.length;exact Calls.call_len_list pl.isList (by simp only[QM];omega) ⟨.int xs.length,H,I.tok _,⟨_,by simp only[QM];rw[hlen]⟩,q⟩
  ·subst e'
   obtain ⟨its,r',pl,hz⟩:=I.tuple hx;have hlen:=r'.length;exact len_tuple pl (by simp only[QM];omega) ⟨.int xs.length,H,I.tok _,⟨_,by simp only[QM];rw[hlen]⟩,q⟩
 |_=>exact (show False from e).elim
end
section
variable{prog:Program}{w:World}{A:Around}{E:Value->Shared->Prop}{s:Shared}{K:Frag}{x dx C f:Addr}{mA:Str->Option Value}{name:Str}{v:Value}
end
theorem RelO.some_of{v:V}{o:Option Value}(r:RelO (some v) o):∃u,o=some u/\RelV v u:=by
 cases o with
 |none=>exact (show False from r).elim
 |some u=>exact ⟨u,rfl,r⟩
section
variable{P:Program}{w:World}{H H':Hp}{h h':Heap}{a C dx:Addr}{fs fs':List (Str×V)}
end
section
variable{X:Cx}{pins:List (Addr×Obj)}{σ:St}{H:Hp}{s:Shared}{a C dx:Addr}{fs:List (Str×V)}{f:Str}{v:V}{A:Around}{E:Value->Shared->Prop}
end
section
variable{X:Cx}{o e value:Expr}{f:Str}{pos pos' tpos:Pos}{ta tv:TE}
end
section
variable{X:Cx}{pins:List (Addr×Obj)}{σ:St}{H:Hp}{s:Shared}{A:Around}{E:Value->Shared->Prop}{Q:Value->Shared->Prop}{c:Value}{b:Bool}
end
structure Room(k:Nat)(A:Around):Prop where
 hd:A.handled=none
 dp:A.depth+3*k+5<recursionLimit
 un:A.units+16*k+200<cLine
 gd:A.guards=some []
theorem Room.mono{j k:Nat}{A:Around}(r:Room k A)(h:j<=k):Room j A:=⟨r.hd,by have:=r.dp;omega,by have:=r.un;omega,r.gd⟩
theorem Room.deeper{k:Nat}{A:Around}(r:Room (k+1) A)(env:Env):Room k (A.deeper env) :=
 ⟨r.hd,by have:=r.dp;show A.depth+1+3*k+5<_;omega,by have:=r.un;show A.units+3+16*k+200<_;omega,r.gd⟩
theorem Room.depth{k:Nat}{A:Around}(r:Room k A):A.depth<recursionLimit:=by have:=r.dp;omega
theorem Room.units{k:Nat}{A:Around}(r:Room k A):A.units+64<cLine:=by have:=r.un;omega
def tNil:TA:=λ_ H Q=>Q [] H
def zrS(ta:TE)(tr:TA):TA:=λσ H Q=>ta σ H λx H1=>tr σ H1 λxs H2=>Q (x::xs) H2
section
variable{X:Cx}{e:Expr}{es:List Expr}{te:TE}{t:TA}{pos:Pos}
theorem zeC:PA X [] tNil:=λ_ _ _ _ H Q I h=>Calls.spliced_nil ⟨[],H,I,.nil,h⟩
theorem zcM(ha:PE X e te)(hr:PA X es t)(hs:starEach (e::es) X.env=(false,eval e X.env)::starEach es X.env:=by rfl):PA X (e::es) (zrS te t):=by
 intro pos pins s σ H Q I h;rw[hs];show wpAny _ _ (spliced ((false,eval e X.env)::backTo pos (starEach es X.env))) _ _ s;refine Calls.spliced_cons (thn (ha pins s σ H _ I h) λu s1 ⟨x,H1,I1,r1,q1⟩=>?_);exact thn (hr pos pins s1 σ H1 _ I1 q1) λus s2 ⟨xs,H2,I2,r2,q2⟩=>⟨x::xs,H2,I2,.cons r1 r2,q2⟩
def tTup(t:TA):TE:=λσ H Q=>t σ H λxs H1=>xs.length<=sizeLine/\∀p,H1 p=none->Q (.ref p) (upd H1 p (.tup xs))
def tLst(t:TA):TE:=λσ H Q=>t σ H λxs H1=>xs.length<=sizeLine/\∀p,H1 p=none->Q (.ref p) (upd H1 p (.lst xs))
theorem zoB{x1}(h:PA X es t):PE X (.Tuple es x1 pos) (tTup t):=by
 intro pins s σ H Q I hq;refine wpAny_Tuple_spliced (thn (h pos pins s σ H _ I hq) λus s1 ⟨xs,H1,I1,r,z,q⟩=>⟨by rw[←r.length];exact z,?_⟩)
 have hf:H1 s1.heap.objs.size=none:=I1.hok.fresh (Qs _);refine ⟨.ref s1.heap.objs.size,upd H1 s1.heap.objs.size (.tup xs),I1.laid (t':=s1.toks) (λb u e=>Qj _ e) (Qs _) ?_,rfl,q _ hf⟩;exact ⟨z,us,r,⟨_,Qx _ rfl,rfl,_,rfl⟩⟩
theorem zoC(h:PA X es t):PE X (.List es pos) (tLst t):=by
 intro pins s σ H Q I hq;refine wpAny_List_spliced (thn (h pos pins s σ H _ I hq) λus s1 ⟨xs,H1,I1,r,z,q⟩=>⟨by rw[←r.length];exact z,?_⟩)
 have hf:H1 s1.heap.objs.size=none:=I1.hok.fresh (Qs _);refine ⟨.ref s1.heap.objs.size,upd H1 s1.heap.objs.size (.lst xs),I1.laid (t':=s1.toks) (λb u e=>Qj _ e) (Qs _) ?_,rfl,q _ hf⟩;exact ⟨z,us,0,r,Qx _ rfl⟩
end
abbrev Sp:=List V->Hp->VK->XK->Prop
abbrev CXT:=List Env->Hp->Shared->XK->Value->Shared->Prop
structure Env0(P:Program)(w:World)(K:Frag)(mg:Str->Option Value)(base:Heap)(A:Around)(outer:List Env)(s:Shared)(H:Hp):Prop where
 frames:A.frames=some outer
 mod:Mod K mg base
 bs:∀b o,base.get? b=some o->s.heap.get? b=some o/\H b=none
 bsz:base.objs.size<=s.heap.objs.size
 funs:s.heap.FunFrames base outer
 frf:∀b∈frs outer,H b=none
 hok:HOk P w H s.heap
 bare:AllBare s.gens
def CE(outer:List Env)(P:Program)(w:World)(H:Hp)(s:Shared)(Q:VK)(u:Value)(s':Shared):Prop :=
 ∃v H',s'.os=s.os/\AllBare s'.gens/\Un (frs outer) [] H H' s.heap s'.heap/\HOk P w H' s'.heap/\RelV v u/\Q v H'
def CR(CX:CXT)(outer:List Env)(P:Program)(w:World)(H:Hp)(s:Shared)(Q:VK)(E:XK)(r:Result)(s':Shared):Prop :=
 match r with
 |.ok (.ret u)=>CE outer P w H s Q u s'
 |.ok _=>False
 |.error e=>CX outer H s E e s'
structure FnOk(P:Program)(w:World)(K:Frag)(mg:Str->Option Value)(base:Heap)(CX:CXT)(k:Nat)(f:Addr)(fd:FuncData)(ps:List Str)(sp:Sp):Prop where
 len:∀vs H Q E,sp vs H Q E->vs.length=ps.length
 run:∀(A:Around)(outer:List Env)(s:Shared)(H:Hp)(args:Args)(us:List Value)(vs:List V)(Q:VK)(E:XK),Room k A->Env0 P w K mg base A outer s H->BindsTo s fd args (ps.zip us)->Vals vs us->sp vs H Q E ->
  codeAny (model P w) A (.call (.ref f) args) (CR CX outer P w H s Q E) s
section
variable{X:Cx}{pins:List (Addr×Obj)}{σ:St}{H:Hp}{s s':Shared}
theorem Inv.env0(I:Inv X pins σ H s):Env0 X.prog X.w X.K X.mg X.base X.A X.stack s H :=
 ⟨I.ok.frames,I.ok.mod,I.bs,QH I.ok.bsz I.sz,I.stack,I.stkFree,I.hok,I.bare⟩
theorem Inv.after{Q:VK}{u:Value}(I:Inv X pins σ H s)(h:CE X.stack X.prog X.w H s Q u s'):EP X pins σ Q u s':=by
 obtain ⟨v,H',os,bare,un,hok,r,q⟩:=h;obtain ⟨hh,g,d,t,os'⟩:=s';obtain rfl:os'=s.os:=os;exact ⟨v,H',I.call (h':=hh) (g':=g) (d':=d) (t':=t) (ch:=[]) un hok bare (λb z=>absurd z (by simp)),r,q⟩
end
def zrT(sp:Sp)(dvs:List V)(E:XK)(t:TA):TE:=λσ H Q=>t σ H λvs H1=>sp (vs++dvs) H1 Q E
def zgV(K:Frag)(fd:FuncData)(ps:List Str)(ds:List Value):Prop :=
 ∀(s:Shared)(us:List Value),K.In s.heap->(us++ds).length=ps.length->BindsTo s fd ⟨us,[]⟩ (ps.zip (us++ds))
theorem zgV.all{K:Frag}{fd:FuncData}{ps:List Str}(h:∀us:List Value,us.length=ps.length->bindArgs fd ⟨us,[]⟩=pure (ps.zip us)):zgV K fd ps []:=λs us _ hl=>by
 rw[Jb] at hl ⊢;exact .of_eq (h us hl)
def zkL(CX:CXT)(X:Cx)(E:XK):Prop:=∀(pins:List (Addr×Obj))(σ:St)(H:Hp)(s:Shared)(e:Value)(s':Shared),Inv X pins σ H s->CX X.stack H s E e s'->X.xe e s'
section
variable{X:Cx}{CX:CXT}{k:Nat}{f C:Addr}{fd:FuncData}{ps:List Str}{sp:Sp}{dvs:List V}{ds:List Value}{E:XK}{x m:Str}{p pos apos:Pos}{e o:Expr}{es:List Expr}{ta:TE}{t:TA}
theorem zqx{pins:List (Addr×Obj)}{σ:St}{H:Hp}{s:Shared}{Q:VK}{us:List Value}{vs:List V}(F:FnOk X.prog X.w X.K X.mg X.base CX k f fd ps sp)(hr:Room k X.A)(hb:zgV X.K fd ps ds)(hd:Vals dvs ds)(hx:zkL CX X E)
  (I:Inv X pins σ H s) (r:Vals vs us) (h:sp (vs++dvs) H Q E):wpAny (model X.prog X.w) X.A (call (.ref f) us) (EP X pins σ Q) X.xe s:=by
 have r2:Vals (vs++dvs) (us++ds):=r.append hd;have hl:(us++ds).length=ps.length:=by rw[←r2.length];exact F.len _ _ _ _ h
 refine wpAny_call (codeAny_mono (F.run X.A X.stack s H ⟨us,[]⟩ (us++ds) (vs++dvs) Q E hr I.env0 (hb s us I.kIn hl) r2 h) λr s' hq=>?_)
 cases r with
 |error e=>exact hx pins σ H s e s' I hq
 |ok fl=>
  cases fl with
  |ret u=>exact I.after hq
  |next=>exact False.elim hq
  |brk=>exact False.elim hq
  |cont=>exact False.elim hq
theorem zo8(F:FnOk X.prog X.w X.K X.mg X.base CX k f fd ps sp)(hr:Room k X.A)(hg:Gl X x)(hm:X.mg x=some (.ref f))(hk:PySem.W.keepIn X.K (.ref f)=true)(hb:zgV X.K fd ps ds)(hd:Vals dvs ds)(hx:zkL CX X E)
  (ha:PA X (e::es) t) (hdb:(x==("__debug__" : Str))=false:=by decide) (he:starEach (e::es) X.env=(false,eval e X.env)::starEach es X.env:=by rfl) (hpl:(backTo pos (starEach es X.env)).any (·.1)=false:=by rfl) :
  PE X (.Call (.Name x p) (e::es) [] pos) (zrT sp dvs E t):=by
 intro pins s σ H Q I h;refine wpAny_Call_Name_kw (zky I hg hm ?_ hdb);refine PySem.W.callWith_K (h₀:=X.base) I.ok.mod.kin hk (thn (ha pos pins s σ H _ I h) λus s1 ⟨vs,H1,I1,r,q⟩=>⟨I1.kIn,?_⟩) he hpl;exact zqx F hr hb hd hx I1 r q
end
section
variable{X:Cx}{CX:CXT}{k:Nat}{f C:Addr}{fd:FuncData}{ps ks:List Str}{sp:Sp}{E:XK}{x m:Str}{p pos apos kpos:Pos}{e o:Expr}{es:List Expr}{kws:List Keyword}{te ta:TE}{t tk:TA}{nm:Option Str}
variable{g:List Value->List Value->List Value}{gV:List V->List V->List V}
end
structure zeY(N P:List Str)(sc:Scope):Prop where
 kind:sc.kind=.function
 co:sc.isCoroutine=false
 gen:sc.isGenerator=false
 nd:N.Nodup
 pre:N.take P.length=P
 par:∀x∈P,sc.names.lookup x=some .local∨sc.names.lookup x=some .cell
 nofree:∀y∈sc.names,y.2≠.free
theorem zgW{kindOf:Str->Option NameKind}{x:Str}:∀{binds:List (Str×Value)}{m:Str->Option Value},(∀v,(x,v)∉binds)->bindL kindOf binds m x=m x
 |[],_,_=>rfl
 |(n,v)::r,m,h=>by
  unfold bindL;rw[zgW λw hw=>h w (Qk _ hw)];split
  ·have:x≠n:=by rintro rfl;exact h v Qm
   simp[this]
  ·rfl
theorem zgX{kindOf:Str->Option NameKind}{x:Str}:∀{binds:List (Str×Value)}{m:Str->Option Value},(∀v,(x,v)∉binds)->bindC kindOf binds m x=m x
 |[],_,_=>rfl
 |(n,v)::r,m,h=>by
  unfold bindC;rw[zgX λw hw=>h w (Qk _ hw)];split
  ·rfl
  ·have:x≠n:=by rintro rfl;exact h v Qm
   simp[this]
theorem zgY{kindOf:Str->Option NameKind}{x:Str}{v:Value}:∀{P:List Str}{vs:List Value}{i:Nat}{m:Str->Option Value},P.Nodup->P[i]?=some x->vs[i]?=some v->kindOf x=some .local ->
  bindL kindOf (P.zip vs) m x=some v
 |[],_,_,_,_,h,_,_=>by simp at h
 |_::_,[],_,_,_,_,h,_=>by simp at h
 |p::P,w::vs,0,m,nd,h1,h2,hk=>by
  simp at h1 h2;subst h1;subst h2;show bindL kindOf ((p,w)::P.zip vs) m p=_;unfold bindL;rw[zgW λv hv=>(List.nodup_cons.mp nd).1 (List.of_mem_zip hv).1,Qn hk];simp
 |p::P,w::vs,i+1,m,nd,h1,h2,hk=>by
  show bindL kindOf ((p,w)::P.zip vs) m x=_;unfold bindL;exact zgY (i:=i) (List.nodup_cons.mp nd).2 (by simpa using h1) (by simpa using h2) hk
theorem zgZ{kindOf:Str->Option NameKind}{x:Str}{v:Value}:∀{P:List Str}{vs:List Value}{i:Nat}{m:Str->Option Value},P.Nodup->P[i]?=some x->vs[i]?=some v->kindOf x≠some .local ->
  bindC kindOf (P.zip vs) m x=some v
 |[],_,_,_,_,h,_,_=>by simp at h
 |_::_,[],_,_,_,_,h,_=>by simp at h
 |p::P,w::vs,0,m,nd,h1,h2,hk=>by
  simp at h1 h2;subst h1;subst h2;show bindC kindOf ((p,w)::P.zip vs) m p=_;unfold bindC;rw[zgX λv hv=>(List.nodup_cons.mp nd).1 (List.of_mem_zip hv).1,QA hk];simp
 |p::P,w::vs,i+1,m,nd,h1,h2,hk=>by
  show bindC kindOf ((p,w)::P.zip vs) m x=_;unfold bindC;exact zgZ (i:=i) (List.nodup_cons.mp nd).2 (by simpa using h1) (by simpa using h2) hk
def zeZ(N:List Str)(vs:List V):St:=vs.map some++replicate (N.length-vs.length) none
def cxOf(CX:CXT)(P:Program)(w:World)(K:Frag)(mg:Str->Option Value)(base:Heap)(N:List Str)(qual:Str)(scope:Scope)(f:Addr)(cd:Value)(A:Around)(outer:List Env)(s:Shared)(H:Hp)(E:XK):Cx where
 prog:=P
 w:=w
 K:=K
 mg:=mg
 base:=base
 A:=A.deeper (envOfC qual scope s.heap.objs.size f cd)
 N:=N
 s₀:=s
 H₀:=H
 env:=envOfC qual scope s.heap.objs.size f cd
 outer:=outer
 stack:=envOfC qual scope s.heap.objs.size f cd::outer
 ex:=[]
 calm:=true
 fn:=λ_=>true
 pn:=[]
 xe:=λe s'=>wpAny (model P w) (A.deeper (envOfC qual scope s.heap.objs.size f cd)) (leaving (envOfC qual scope s.heap.objs.size f cd) e) (λ_ s''=>CX outer H s E e s'') (λe' s''=>CX outer H s E e' s'') s'
theorem zi1{sc:Scope}{n:Nat}{x:Str}(h:sc.names.lookup x=some .cell):∃c,(cellsFrom n sc.names []).lookup x=some c:=by
 have q:=PySem.W.cellsFrom_some sc.names n [] (.inl h);exact Option.isSome_iff_exists.mp q
theorem zkM{CX:CXT}{P:Program}{w:World}{K:Frag}{mg:Str->Option Value}{base:Heap}{N ps:List Str}{qual:Str}{scope:Scope}{f:Addr}{cd:Value}{A:Around}{outer:List Env}{s s1:Shared}{H:Hp}{E:XK}{us:List Value}{vs:List V}
  (S:zeY N ps scope) (hd:A.handled=none) (e0:Env0 P w K mg base A outer s H) (hl:vs.length=ps.length) (r:Vals vs us)
  (x:InCallC s s.heap.objs.size (bindL (envOfC qual scope s.heap.objs.size f cd).kindOf (ps.zip us) λ_=>none) (cellsFrom (s.heap.objs.size+1) scope.names []) (bindC (envOfC qual scope s.heap.objs.size f cd).kindOf (ps.zip us) λ_=>none) s1) :
  Inv (cxOf CX P w K mg base N qual scope f cd A outer s H E) [] (zeZ N vs) H s1:=by
 have hpl:ps.length<=N.length:=by have:=congrArg List.length S.pre;rw[QP] at this;omega
 obtain ⟨h1,tk,rfl,hk⟩:=x.done;have noA:∀b:Addr,b∉(cxOf CX P w K mg base N qual scope f cd A outer s H E).ex:=λb z=>absurd (show b∈([]:List Addr) from z) (by simp)
 refine ⟨⟨e0.mod,S.kind,rfl,rfl,Qs _,λy z c h1 h2=>?_,λy hy=>?_,λy c _ h=>?_,λ_=>hd,Around.frames_deeper e0.frames,.inr ⟨rfl,rfl⟩,λb z=>absurd z (noA b),e0.bs,e0.bsz,λb _ _=>noA b,λb z=>absurd z (noA b),e0.funs,e0.frf⟩,
  rfl,e0.bare,Un.kept hk,⟨_,x.toInCall.ns,λi y v h1 h2 h3=>?_⟩,λy c h=>⟨_,x.cell y c h⟩,e0.hok.fresh (Nat.le_refl _),λy c h=>?_,λp hp=>absurd (show p∈([]:List (Addr×Obj)) from hp) (by simp),e0.hok.kept hk,?_⟩
 ·exact name_of_addr x.apart (JQ h1) (JQ h2)
 ·have hy:scope.names.lookup y=some .cell∨scope.names.lookup y=some .free:=hy
  rcases hy with hy|hy
  ·exact zi1 hy
  ·exact absurd rfl (S.nofree _ (JQ hy))
 ·exact Nat.le_of_lt (x.above y c (JQ h))
 ·have hi:i<vs.length:=by
   unfold zeZ at h2
   by_cases hi:i<vs.length
   ·exact hi
   ·rw[List.getElem?_append_right (by simpa using hi)] at h2
    rw[Qy] at h2
    split at h2 <;> cases h2
  have ha:vs[i]?=some v:=by
   unfold zeZ at h2;rw[List.getElem?_append_left (by simpa using hi),List.getElem?_map] at h2
   cases e:vs[i]? with
   |none=>rw[e] at h2;cases h2
   |some a=>rw[e] at h2;cases h2;rfl
  obtain ⟨u,hu,rv⟩:=r.get ha
  have hp:ps[i]?=some y:=by
   rw[←S.pre,List.getElem?_take_of_lt (by omega)];exact h1
  have ndP:ps.Nodup:=by rw[←S.pre];exact S.nd.sublist (List.take_sublist _ _)
  refine ⟨u,rv,?_⟩;rcases S.par y (Qp hp) with k|k
  ·exact .inl ⟨k,zgY ndP hp hu k⟩
  ·obtain ⟨c,e⟩:=zi1 (n:=s.heap.objs.size+1) k
   refine .inr ⟨.inl k,c,e,?_⟩;have q:=x.cell y c e;rw[zgZ ndP hp hu (by show scope.names.lookup y≠_;rw[k];decide)] at q
   exact q
 ·exact e0.hok.fresh (Nat.le_of_lt (x.above y c (JQ h)))
 ·unfold zeZ
  show _=N.length;rw[Ql,Qb,QI];omega
theorem zrU{CX:CXT}{P:Program}{w:World}{K:Frag}{mg:Str->Option Value}{base:Heap}{k:Nat}{f:Addr}{name qual:Str}{params:Arguments}{body:List Stmt}{scope:Scope}{dV kV doc pm cdv ct oc:Value}{an od:Option Addr}
  {osl:Array (Option Value)} {N ps:List Str} {sp:Sp} (lk:K.lookup f=some ⟨oc,od,.func (PySem.W.fnOf name qual params body scope dV kV doc pm an cdv ct),osl⟩) (hcd:PySem.W.codeIn K cdv qual=true) (S:zeY N ps scope)
  (len:∀vs H Q E,sp vs H Q E->vs.length=ps.length)
  (hbody:∀(A:Around)(outer:List Env)(s:Shared)(H:Hp)(vs:List V)(Q:VK)(E:XK),Room k (A.deeper (envOfC qual scope s.heap.objs.size f cdv))->sp vs H Q E ->
   ∃t,PSs (cxOf CX P w K mg base N qual scope f cdv A outer s H E) body t/\t { nx:=λ_ H'=>Q .non H',rt:=Q } (zeZ N vs) H) :
  FnOk P w K mg base CX (k+1) f (PySem.W.fnOf name qual params body scope dV kV doc pm an cdv ct) ps sp:=by
 refine ⟨len,λA outer s H args us vs Q E hr e0 hb r hsp=>?_⟩;have hl:=len _ _ _ _ hsp;have KX:K.In s.heap:=e0.mod.kin.keeps λb o e=>(e0.bs b o e).1;have lim:s.heap.NoLimit:=e0.mod.nolimit.keeps λb o e=>(e0.bs b o e).1
 have hkind:∀y∈ps.zip us,scope.names.lookup y.1=some .local∨(scope.names.lookup y.1=some .cell/\((cellsFrom (s.heap.objs.size+1) scope.names []).lookup y.1).isSome=true):=λ⟨n,v⟩ hy=>by
  rcases S.par n (List.of_mem_zip hy).1 with q|q
  ·exact .inl q
  ·exact .inr ⟨q,PySem.W.cellsFrom_some _ _ _ (.inl q)⟩
 refine codeAny_call_function hr.depth (KX _ _ lk) rfl S.co S.gen rfl (PySem.W.codeRec_of KX hcd) (hb _ _ _ _ ?_);refine wpAny_newFunctionEnv_cells S.kind hkind λenv he s1 x=>?_;subst he;refine ⟨lim.keeps x.toInCall.keep,codeAny_func ?_⟩;obtain ⟨t,ht,hq⟩:=hbody A outer s H vs Q E (hr.deeper _) hsp;have I:Inv (cxOf CX P w K mg base N qual scope f cdv A outer s H E) [] (zeZ N vs) H s1:=zkM S hr.hd e0 hl r x;refine QG (ht [] s1 (zeZ N vs) H _ I hq) (λfl s' hs=>?_) λe s' hs=>hs
 have fin:∀{σ':St}{H':Hp}{v:V}{u:Value},Inv (cxOf CX P w K mg base N qual scope f cdv A outer s H E) [] σ' H' s'->RelV v u->Q v H'->CE outer P w H s Q u s' :=
  λ{σ' H' v u} J rv q=>⟨v,H',J.os,J.bare,J.base,J.hok,rv,q⟩
 cases fl with
 |ret u=>
  obtain ⟨v,σ',H',J,rv,q⟩:=hs;exact fin J rv q
 |next=>
  obtain ⟨σ',H',J,q⟩:=hs;exact fin (v:=V.non) (u:=Value.none) J rfl q
 |brk=>
  obtain ⟨_,_,_,q⟩:=hs;exact False.elim q
 |cont=>
  obtain ⟨_,_,_,q⟩:=hs;exact False.elim q
section
variable{X:Cx}{x:Str}{p pos:Pos}{e:Expr}{es:List Expr}{t:TA}{id T:String}{r:List V->Hp->VK->Prop}
def tCB(r:List V->Hp->VK->Prop)(t:TA):TE:=λσ H Q=>t σ H λvs H1=>r vs H1 Q
theorem zeR(hc:zc1 X (.builtin id) r)(hg:Gl X x)(hm:X.mg x=none)(hv:bootBuiltins x=some (.builtin id))(ha:PA X (e::es) t)(hn:x ≠ "__name__" := by decide)(hdb:(x==("__debug__" : Str))=false:=by decide)
  (he:starEach (e::es) X.env=(false,eval e X.env)::starEach es X.env:=by rfl) (hpl:(backTo pos (starEach es X.env)).any (·.1)=false:=by rfl):PE X (.Call (.Name x p) (e::es) [] pos) (tCB r t):=by
 intro pins s σ H Q I h;refine wpAny_Call_Name_kw (zeB I hg hm hv ?_ hn hdb);exact PyProof.Rows.callWith_builtin1 (thn (ha pos pins s σ H _ I h) λus s1 ⟨vs,H1,I1,r1,q1⟩=>hc pins s1 σ H1 vs us Q I1 r1 q1) he hpl
theorem zdP(hc:zc1 X (.type T) r)(hg:Gl X x)(hm:X.mg x=none)(hv:bootBuiltins x=some (.type T))(ha:PA X (e::es) t)(hn:x ≠ "__name__" := by decide)(hdb:(x==("__debug__" : Str))=false:=by decide)
  (he:starEach (e::es) X.env=(false,eval e X.env)::starEach es X.env:=by rfl) (hpl:(backTo pos (starEach es X.env)).any (·.1)=false:=by rfl):PE X (.Call (.Name x p) (e::es) [] pos) (tCB r t):=by
 intro pins s σ H Q I h;refine wpAny_Call_Name_kw (zeB I hg hm hv ?_ hn hdb);exact JA (thn (ha pos pins s σ H _ I h) λus s1 ⟨vs,H1,I1,r1,q1⟩=>hc pins s1 σ H1 vs us Q I1 r1 q1) he hpl
end
end L2
namespace HT
open PySem PyProof.Rows
section
open PySem.SeqAt
open PySem.AutoSeq1 (wpAny_loadPart')
open PySem.MeetsSeq PySem.MeetsSeq2 PySem.MeetsSeq3
end
section
variable{prog:Program}{w:World}{A:Around}{E:Value->Shared->Prop}{s:Shared}
def sIx(n d:Nat):Option Int->Nat
 |none=>d
 |some v=>if v<0 then (v+(n:Int)).toNat else min v.toNat n
end
end HT
namespace L2
open PySem PySem.Spec PyProof.Rows
abbrev TO:=St->Hp->(Option Int->Hp->Prop)->Prop
def PO(X:Cx)(e:Option Expr)(t:TO):Prop :=
 ∀(pins:List (Addr×Obj))(s:Shared)(σ:St)(H:Hp)(Q:Option Int->Hp->Prop),Inv X pins σ H s->t σ H Q ->
  wpAny (model X.prog X.w) X.A (evalPart e X.env) (λu s'=>∃o H',Inv X pins σ H' s'/\IsPart u o/\Q o H') X.xe s
def zo9:TO:=λ_ H Q=>Q none H
def zrV(t:TE):TO:=λσ H Q=>t σ H λx H1=>∃i,x=.int i/\Q (some i) H1
section
variable{X:Cx}{e:Expr}{te:TE}{lo hi:Option Expr}{tl th:TO}{pos p2:Pos}
theorem zpa:PO X none zo9:=by
 intro pins s σ H Q I h;rw[evalPart_none];exact Qh ⟨none,H,I,.none,h⟩
theorem zpb(h:PE X e te):PO X (some e) (zrV te):=by
 intro pins s σ H Q I hw;rw[evalPart_some];refine thn (h pins s σ H _ I hw) λu s1 ⟨x,H1,I1,r1,q1⟩=>?_;obtain ⟨i,rfl,q⟩:=q1;obtain ⟨t,rfl⟩:=r1;exact ⟨some i,H1,I1,.int i t,q⟩
def SlR(X:Cx)(r:V->Option Int->Option Int->Hp->VK->Prop):Prop :=
 ∀(pins:List (Addr×Obj))(s:Shared)(σ:St)(H:Hp)(x:V)(v vl vu:Value)(lo hi:Option Int)(sl:Addr)(Q:VK),Inv X pins σ H s->RelV x v->s.heap.IsSliceOf sl vl vu .none->IsPart vl lo->IsPart vu hi->r x lo hi H Q ->
  ∃T id,typeLookup (.type T) "__getitem__" = pure (some (.builtin id))/\s.TypeIs v T/\wpAny (model X.prog X.w) X.A (getItem v (.ref sl)) (EP X pins σ Q) X.xe s
theorem SlR.or{r r':V->Option Int->Option Int->Hp->VK->Prop}(h:SlR X r)(h':SlR X r'):SlR X (λx lo hi H Q=>r x lo hi H Q∨r' x lo hi H Q):=by
 intro pins s σ H x v vl vu lo hi sl Q I rx hs pl pu q;rcases q with q|q
 ·exact h pins s σ H x v vl vu lo hi sl Q I rx hs pl pu q
 ·exact h' pins s σ H x v vl vu lo hi sl Q I rx hs pl pu q
def tSl(r:V->Option Int->Option Int->Hp->VK->Prop)(te:TE)(tl th:TO):TE:=λσ H Q=>te σ H λx H1=>tl σ H1 λl H2=>th σ H2 λu H3=>r x l u H3 Q
theorem znl{r:V->Option Int->Option Int->Hp->VK->Prop}(hr:SlR X r)(he:PE X e te)(hl:PO X lo tl)(hu:PO X hi th):PE X (.Subscript e (.Slice lo hi none p2) pos) (tSl r te tl th):=by
 intro pins s σ H Q I h;refine Subscript_ (thn (he pins s σ H _ I h) λv s1 ⟨x,H1,I1,r1,q1⟩=>?_);refine wpAny_Slice (thn (hl pins s1 σ H1 _ I1 q1) λvl s2 ⟨l,H2,I2,pl,q2⟩=>thn (hu pins s2 σ H2 _ I2 q2) λvu s3 ⟨u,H3,I3,pu,q3⟩=>?_);rw[evalPart_none];refine Qh ?_
 have I4:Inv X pins σ H3 { s3 with heap:=s3.heap.push { cls:=.type "slice", data:=.fields #[vl,vu,.none] } }:=I3.kept (t':=s3.toks) λb ob q=>Qj _ q
 obtain ⟨T,id,hT,ht,hg⟩:=hr pins { s3 with heap:=s3.heap.push { cls:=.type "slice", data:=.fields #[vl,vu,.none] } } σ H3 x v vl vu l u s3.heap.objs.size Q I4 r1 (Heap.IsSliceOf.new ..) pl pu q3
 show wpAny (model X.prog X.w) X.A (subscriptTail e (.Slice lo hi none p2) v (.ref s3.heap.objs.size)) (EP X pins σ Q) X.xe { s3 with heap:=s3.heap.push { cls:=.type "slice", data:=.fields #[vl,vu,.none] } }
 exact tail_any (ops:=[.ref s3.heap.objs.size,v]) ht hT hg (by with_unfolding_all rfl)
def cutV(xs:List V)(lo hi:Option Int):List V:=(xs.drop (HT.sIx xs.length 0 lo)).take (HT.sIx xs.length xs.length hi-HT.sIx xs.length 0 lo)
theorem zib(xs:List V)(lo hi:Option Int):(cutV xs lo hi).length<=xs.length:=by
 unfold cutV;rw[QP,Ji];omega
end
def ixN(n:Nat)(i:Int):Option Nat:=if 0<=i then (if i<n then some i.toNat else none) else if -(n:Int)<=i then some (i+n).toNat else none
def atI{α:Type}(xs:List α)(i:Int):Option α:=(ixN xs.length i).bind λj=>xs[j]?
theorem zpc{n:Nat}{i:Int}{j:Nat}(h:ixN n i=some j):seqIndex? i n=some j/\j<n /\ -(n:Int)<=i/\i<n:=by
 unfold ixN at h
 by_cases h0:0<=i
 ·rw[Qn h0] at h
  by_cases h1:i<n
  ·rw[Qn h1] at h
   have e:i.toNat=j:=QY h;exact ⟨by rw[seqIndex_of h0 h1,e],by omega,by omega,h1⟩
  ·rw[QA h1] at h;cases h
 ·rw[QA h0] at h
  by_cases h1 : -(n:Int)<=i
  ·rw[Qn h1] at h
   have e:(i+n).toNat=j:=QY h;exact ⟨by rw[seqIndex_neg (by omega) h1,e],by omega,h1,by omega⟩
  ·rw[QA h1] at h;cases h
theorem zic{α:Type}{xs:List α}{i:Int}{v:α}(h:atI xs i=some v):∃j,seqIndex? i xs.length=some j/\xs[j]?=some v/\j<xs.length /\ -(xs.length:Int)<=i/\i<xs.length:=by
 unfold atI at h
 cases e:ixN xs.length i with
 |none=>rw[e] at h;cases h
 |some j=>
  rw[e] at h;obtain ⟨h1,h2,h3,h4⟩:=zpc e;exact ⟨j,h1,h,h2,h3,h4⟩
theorem za0{α:Type}{xs:List α}{j:Nat}{v:α}(h:xs[j]?=some v):atI xs (j:Int)=some v:=by
 have hj:j<xs.length:=(Qg.mp h).1
 have e:ixN xs.length (j:Int)=some j:=by
  unfold ixN;rw[if_pos (by omega),if_pos (by omega)];simp
 unfold atI;rw[e];exact h
def zid(b:Expr):Prop:=∀o i,subscripted b false o i=operate [o,i] (getItem o i)
def IxR(X:Cx)(r:R2):Prop :=
 ∀(value slice:Expr)(pins:List (Addr×Obj))(s:Shared)(σ:St)(H:Hp)(x y:V)(v u:Value)(Q:VK),Inv X pins σ H s->RelV x v->RelV y u->r x y H Q ->
  subscripted slice false v u=operate [v,u] (getItem v u)->wpAny (model X.prog X.w) X.A (subscriptTail value slice v u) (EP X pins σ Q) X.xe s
def MtR(X:Cx)(id:String)(r:V->List V->Hp->VK->Prop):Prop :=
 ∀(pins:List (Addr×Obj))(s:Shared)(σ:St)(H:Hp)(x:V)(xs:List V)(v:Value)(us:List Value)(Q:VK),Inv X pins σ H s->RelV x v->Vals xs us->r x xs H Q ->
  wpAny (model X.prog X.w) X.A (call (.builtin id) (v::us)) (EP X pins σ Q) X.xe s
section
variable{X:Cx}{a b:Expr}{ta tb:TE}{pos:Pos}
theorem IxR.or{r r':R2}(h:IxR X r)(h':IxR X r'):IxR X (λx y H Q=>r x y H Q∨r' x y H Q):=by
 intro value slice pins s σ H x y v u Q I rx ry q hs;rcases q with q|q
 ·exact h value slice pins s σ H x y v u Q I rx ry q hs
 ·exact h' value slice pins s σ H x y v u Q I rx ry q hs
theorem zqy{r:R2}(hr:IxR X r)(ha:PE X a ta)(hb:PE X b tb)(hs:zid b):PE X (.Subscript a b pos) (tOp r ta tb):=by
 intro pins s σ H Q I h;exact Subscript_ (binT ha hb I h λv u s2 x y H2 I2 rx ry q=>hr a b pins s2 σ H2 x y v u Q I2 rx ry q (hs _ _))
def rIxL(K:Frag):R2:=λx y H Q=>∃p xs i v,x=.ref p/\y=.int i/\SqL K H p xs/\atI xs i=some v/\Q v H
def rIxT(K:Frag):R2:=λx y H Q=>∃p xs i v,x=.ref p/\y=.int i/\SqT K H p xs/\atI xs i=some v/\Q v H
def rIxS:R2:=λx y H Q=>∃z i c,x=.str z/\y=.int i/\z.length<=sizeLine/\atI z.cps.toList i=some c/\Q (.str ⟨#[c]⟩) H
theorem zpd:IxR X (rIxL X.K):=by
 intro value slice pins s σ H x y v u Q I rx ry h hs;obtain ⟨p,xs,i,z,rfl,rfl,hq,he,q⟩:=h;cases rx;obtain ⟨t,rfl⟩:=ry;obtain ⟨its,r,pl,hz⟩:=I.list hq;obtain ⟨j,h1,h2,h3,h4,h5⟩:=zic he;obtain ⟨w,ew,rw'⟩:=r.get h2;have hl:=r.length;have hn:=zgU;have fin:EP X pins σ Q w s:=⟨z,H,I,rw',q⟩
 by_cases h0:0<=i
 ·have hj:i.toNat=j:=by
   rw[seqIndex_of h0 h5] at h1;exact QY h1
  exact item_listR pl.isList h0 (by omega) (by rw[hj];simpa using ew) fin hs
 ·have hj:(i+(its.toArray.size:Int)).toNat=j:=by
   rw[seqIndex_neg (by omega) h4] at h1
   rw[QM,←hl];exact QY h1
  exact subscriptTail_builtinR (x:=w) pl.isList.typeIs slot_list_getitem.lookup
   (wpAny_getItem_list_neg (Q:=λr s'=>r=w/\EP X pins σ Q r s') pl.isList (by omega) (by rw[List.size_toArray] <;> omega) (by omega) (by rw[hj];simpa using ew) ⟨rfl,fin⟩) hs
theorem zqz:IxR X (rIxT X.K):=by
 intro value slice pins s σ H x y v u Q I rx ry h hs;obtain ⟨p,xs,i,z,rfl,rfl,hq,he,q⟩:=h;cases rx;obtain ⟨t,rfl⟩:=ry;obtain ⟨its,r,pl,hz⟩:=I.tuple hq;obtain ⟨j,h1,h2,h3,h4,h5⟩:=zic he;obtain ⟨w,ew,rw'⟩:=r.get h2;have hl:=r.length;have hn:=zgU;have fin:EP X pins σ Q w s:=⟨z,H,I,rw',q⟩
 exact subscriptTail_builtinR (x:=w) pl.typeIs slot_tuple_getitem.lookup
  (getItem_tuple (j:=j) (Q:=λr s'=>r=w/\EP X pins σ Q r s') pl (by omega) (by omega) (by rw[List.size_toArray,←hl];exact h1) (by simpa using ew) ⟨rfl,fin⟩) hs
theorem zqA:IxR X rIxS:=by
 intro value slice pins s σ H x y v u Q I rx ry h hs;obtain ⟨z,i,c,rfl,rfl,hz,he,q⟩:=h;obtain ⟨t,rfl⟩:=rx;obtain ⟨t',rfl⟩:=ry;obtain ⟨j,h1,h2,h3,h4,h5⟩:=zic he;have hl:z.cps.toList.length=z.length:=by simp[Str.length]
 rw[hl] at h1 h4 h5;have hn:=zgU
 exact tail_any (typeIs_str s z t) slot_str_getitem.lookup (getItem_str (c:=c) (by
  have e1:decide (i < -(2 ^ 63:Int))=false:=QQ (by omega)
  have e2:decide (i ≥ 2 ^ 63)=false:=QQ (by omega)
  rw[e1,e2,Bool.or_false]) (by rw[h1];simpa using h2) ⟨.str ⟨#[c]⟩,H,I.tok _,⟨_,rfl⟩,q⟩) hs
def rIx(K:Frag):R2:=λx y H Q=>rIxL K x y H Q∨rIxT K x y H Q∨rIxS x y H Q
theorem zoD:IxR X (rIx X.K):=zpd.or (zqz.or zqA)
theorem zg0(lo hi:Option Int)(n:Nat):(sliceBounds lo hi none n).1=((HT.sIx n 0 lo:Nat):Int)/\(sliceBounds lo hi none n).2.1=((HT.sIx n n hi:Nat):Int)/\(sliceBounds lo hi none n).2.2=1:=by
 refine ⟨?_,?_,rfl⟩
 ·cases lo with
  |none=>simp[sliceBounds,HT.sIx]
  |some i=>
   simp only[sliceBounds,HT.sIx,Option.getD_none,show (1:Int) > 0 by decide,if_true]
   by_cases h:i<0
   ·simp only[h,if_true] <;> omega
   ·simp only[h,J9] <;> omega
 ·cases hi with
  |none=>simp[sliceBounds,HT.sIx]
  |some i=>
   simp only[sliceBounds,HT.sIx,Option.getD_none,show (1:Int) > 0 by decide,if_true]
   by_cases h:i<0
   ·simp only[h,if_true] <;> omega
   ·simp only[h,J9] <;> omega
theorem zgg(its:List Value)(lo hi:Option Int):slicePick its.toArray lo hi none=((its.drop (HT.sIx its.length 0 lo)).take (HT.sIx its.length its.length hi-HT.sIx its.length 0 lo)).toArray:=by
 obtain ⟨h1,h2,h3⟩:=zg0 lo hi its.toArray.size;unfold slicePick;rw[h1,h2,h3];simp only[sliceRange_one,pick_run,QM] <;> rfl
def rSlL(K:Frag):V->Option Int->Option Int->Hp->VK->Prop:=λx lo hi H Q=>∃a xs,x=.ref a/\SqL K H a xs/\∀p,H p=none->Q (.ref p) (upd H p (.lst (cutV xs lo hi)))
theorem zpe:SlR X (rSlL X.K):=by
 intro pins s σ H x v vl vu lo hi sl Q I rx hs pl pu h;obtain ⟨a,xs,rfl,hx,q⟩:=h;cases rx;obtain ⟨its,r,ht,hz⟩:=I.list hx;have hlen:=r.length
 refine ⟨"list", _,slot_list_getitem.lookup,ht.isList.typeIs,?_⟩
 refine wpAny_getItem_list_slice ht.isList hs pl pu .none (by simp) ?_ (by rw[List.size_toArray] <;> omega)
 rw[zgg,←hlen];refine ⟨.ref s.heap.objs.size,_,I.laid (t':=s.toks) (o:=.lst (cutV xs lo hi)) (λb ob q=>Qj _ q) (Qs _) ?_,rfl,q _ (I.hok.fresh (Qs _))⟩;exact ⟨QH (zib xs lo hi) hz,_,0,(r.drop (HT.sIx xs.length 0 lo)).take (HT.sIx xs.length xs.length hi-HT.sIx xs.length 0 lo),Qx _ rfl⟩
theorem zeD:zc1 X (.type "list") (λxs H Q=>∃p ys,xs=[.ref p]/\(SqL X.K H p ys∨SqT X.K H p ys)/\∀l,H l=none->Q (.ref l) (upd H l (.lst ys))):=by
 intro pins s σ H xs us Q I r h;obtain ⟨p,ys,rfl,hq,q⟩:=h;obtain ⟨u,rfl,rx⟩:=znk r;cases rx
 have fin:∀(its:List Value),Vals ys its->ys.length<=sizeLine->∀(h':Heap)(c':Nat),(∀b o',s.heap.get? b=some o'->h'.get? b=some o') ->
   h'.get? s.heap.objs.size=some { cls:=.type "list", dict:=none,data:=.seq its.toArray c',slots:=#[] }->EP X pins σ Q (.ref s.heap.objs.size) { s with heap:=h' }:=λits r' hz h' c' kp e=>
  ⟨.ref s.heap.objs.size,_,I.laid (t':=s.toks) kp (Qs _) (show zb6 X.prog X.w _ h' _ (.lst ys) from ⟨hz,its,c',r',e⟩),rfl,q _ (I.hok.fresh (Qs _))⟩
 rcases hq with hq|hq
 ·obtain ⟨its,r',pl,hz⟩:=I.list hq
  have hlen:=r'.length;obtain ⟨o,ho,hc,n,hd⟩:=pl.isList;exact call_list_seq p (.inl rfl) ho hc hd (λh' c' kp e=>fin its r' hz h' c' kp e) (by simp only[QM] <;> omega)
 ·obtain ⟨its,r',pl,hz⟩:=I.tuple hq
  have hlen:=r'.length;obtain ⟨o,ho,hc,n,hd⟩:=pl;exact call_list_seq p (.inr rfl) ho hc hd (λh' c' kp e=>fin its r' hz h' c' kp e) (by simp only[QM] <;> omega)
def tyV(K:Frag)(T:String)(x:V)(H:Hp):Prop:=match x with
 |.str _=>T = "str"
 |.int _=>T = "int"
 |.ref p=>(T = "list" /\ ∃xs,SqL K H p xs)∨(T = "tuple" /\ ∃o,K.lookup p=some o/\o.cls=.type "tuple" /\ o.dict=none) ∨
   (T = "dict" /\ ((∃kvs,H p=some (.dK kvs)) ∨ ∃kvs,H p=some (.dT kvs)))∨(T = "set" /\ ∃S n,H p=some (.set S n))
 |_=>False
theorem zqB{pins:List (Addr×Obj)}{σ:St}{H:Hp}{s:Shared}{T:String}{x:V}{v:Value}(I:Inv X pins σ H s)(r:RelV x v)(ty:tyV X.K T x H) :
  s.TypeIs v T/\∀a,v=.ref a->∃ob,s.heap.get? a=some ob/\ob.dict=none:=by
 cases x with
 |str z=>
  obtain ⟨t,rfl⟩:=r
  cases (show T = "str" from ty)
  exact ⟨typeIs_str s z t,λ_ e=>nomatch e⟩
 |int i=>
  obtain ⟨t,rfl⟩:=r
  cases (show T = "int" from ty)
  exact ⟨typeIs_int s i t,λ_ e=>nomatch e⟩
 |ref p=>
  cases r;rcases ty with ⟨rfl,xs,hq⟩|⟨rfl,o,hk,hc,hd⟩|⟨rfl,hk⟩|⟨rfl,S,n,hk⟩
  ·obtain ⟨its,_,pl,_⟩:=I.list hq
   refine ⟨pl.isList.typeIs,λa e=>?_⟩;cases e;obtain ⟨o,n,e,c,hd,_⟩:=pl;exact ⟨o,e,hd⟩
  ·refine ⟨⟨o,I.kIn p o hk,hc⟩,λa e=>?_⟩
   cases e;exact ⟨o,I.kIn _ o hk,hd⟩
  ·have z:∃o,s.heap.get? p=some o/\o.ExactDict:=by
    rcases hk with ⟨kvs,hk⟩|⟨kvs,hk⟩
    ·obtain ⟨_,_,_,_,o,_,_,e,ex,_⟩:=I.hok p _ hk
     exact ⟨o,e,ex⟩
    ·obtain ⟨_,_,_,_,o,_,_,e,ex,_⟩:=I.hok p _ hk
     exact ⟨o,e,ex⟩
   obtain ⟨o,e,ex⟩:=z;refine ⟨⟨o,e,ex.1⟩,λa e2=>?_⟩;cases e2;exact ⟨o,e,ex.2.1⟩
  ·obtain ⟨o,_,_,_,e,ex,_⟩:=I.hok p _ hk
   refine ⟨⟨o,e,ex.1⟩,λa e2=>?_⟩;cases e2;exact ⟨o,e,ex.2.1⟩
 |_=>exact False.elim ty
def tBM(K:Frag)(T:String)(r:V->List V->Hp->VK->Prop)(to:TE)(t:TA):TE:=λσ H Q=>to σ H λx H1=>tyV K T x H1/\t σ H1 λxs H2=>r x xs H2 Q
variable{o e:Expr}{es:List Expr}{to:TE}{t:TA}{name:Str}{apos cpos:Pos}{T id:String}{r:V->List V->Hp->VK->Prop}
theorem znm(pa:PlainAttrs T)(slot:Slot T name id)(hty:typeOf (.builtin id)=pure (.type "method_descriptor"))(hm:MtR X id r)(ho:PE X o to)(ha:PA X (e::es) t)
  (hbase:attributeBase o name X.env (eval o X.env)=eval o X.env:=by rfl)
  (hfew:((backTo cpos (starEach (e::es) X.env)).all (λx=>!x.1)&&(backToKw cpos (keywordEach [] X.env)).all (λx=>x.1.isSome)
   && decide ((e::es).length+([]:List Keyword).length+(if ([]:List Keyword).isEmpty then 0 else 1)<30))=true:=by rfl)
  (hline:(apos.endLine==cpos.line)=true:=by rfl) (hs:starEach (e::es) X.env=(false,eval e X.env)::starEach es X.env:=by rfl) (hplain:(backTo cpos (starEach es X.env)).any (·.1)=false:=by rfl) :
  PE X (.Call (.Attribute o name apos) (e::es) [] cpos) (tBM X.K T r to t):=by
 intro pins s σ H Q I h;refine wpAny_Call_method_late hbase hfew hline rfl (thn (ho pins s σ H _ I h) λv s1 ⟨x,H1,I1,r1,ty,q1⟩=>?_);obtain ⟨h1,h2⟩:=zqB I1 r1 ty;refine ⟨T,id,pa,slot,hty,h1,h2,?_⟩;have hA:=ha cpos pins s1 σ H1 _ I1 q1;rw[hs] at hA ⊢;refine Calls.callWith_builtin (by show (false || (backTo cpos (starEach es X.env)).any (·.1))=false;rw[hplain] <;> rfl) (Calls.evalArgs_plain ?_)
 exact thn hA λus s2 ⟨vs,H2,I2,r2,q2⟩=>hm pins s2 σ H2 x vs v us Q I2 r1 r2 q2
end
def MtM(X:Cx)(id:String)(r:V->List V->Hp->VK->Prop):Prop :=
 ∀(pins:List (Addr×Obj))(s:Shared)(σ:St)(H:Hp)(x:V)(xs:List V)(v:Value)(us:List Value)(Q:VK),Inv X pins σ H s->RelV x v->Vals xs us->r x xs H Q ->
  wpAny (model X.prog X.w) X.A (call (.builtin id) (v::us)) (EP X pins σ Q) X.xe s
theorem Vals.one:∀{x:V}{us:List Value},Vals [x] us->∃u,us=[u]/\RelV x u
 |_,_,.cons r .nil=>⟨_,rfl,r⟩
theorem Vals.two:∀{x y:V}{us:List Value},Vals [x,y] us->∃u v,us=[u,v]/\RelV x u/\RelV y v
 |_,_,_,.cons r (.cons q .nil)=>⟨_,_,rfl,r,q⟩
theorem Vals.reverse{xs:List V}{us:List Value}(h:Vals xs us):Vals xs.reverse us.reverse:=by
 induction h with
 |nil=>exact .nil
 |cons r t ih=>rw[List.reverse_cons,List.reverse_cons];exact Vals.append ih (.cons r .nil)
theorem Vals.rep{xs:List V}{us:List Value}(h:Vals xs us):∀k:Nat,Vals (replicate k xs).flatten (replicate k us).flatten
 |0=>.nil
 |k+1=>by
  rw[Q2,Q2,QO,QO];exact Vals.append h (Vals.rep h k)
theorem zg1(its:List Value):∀(k:Nat)(acc:List Value),
  List.foldl (λx1 x2=>x1++x2) acc.toArray (replicate k its.toArray)=(acc++(replicate k its).flatten).toArray
 |0,acc=>by simp
 |k+1,acc=>by
  have e:acc.toArray++its.toArray=(acc++its).toArray:=by simp
  have e2:(acc++its)++(replicate k its).flatten=acc++(replicate (k+1) its).flatten:=by
   rw[Q2,QO,Q8]
  rw[←e2,←zg1 its k (acc++its),←e,Q2,JJ]
section
variable{X:Cx}{pins:List (Addr×Obj)}{σ:St}{H:Hp}{s:Shared}{l b:Addr}{xs ys zs:List V}
theorem Inv.lset{its its':List Value}{n:Nat}{f:Array Value->Array Value}{t':Nat}(I:Inv X pins σ H s)(hH:H l=some (.lst xs))
  (e:s.heap.get? l=some { cls:=.type "list", data:=.seq its.toArray n }) (hf:f its.toArray=its'.toArray) (hv:Vals ys its') (hz:ys.length<=sizeLine) :
  Inv X pins σ (upd H l (.lst ys)) { s with heap:=s.heap.update l (Obj.mapSeq f),toks:=t' }:=by
 have q:=PySem.IsL.update e f;rw[hf] at q;refine I.write (x:=l) (e:=l) (by rw[hH];exact trivial) (.inl rfl) (λb' u hb hu=>(Heap.get?_update_other s.heap (Obj.mapSeq f) (Ne.symm hb)).trans hu) ⟨_,q⟩ ?_
 exact ⟨hz,its',_,hv,q⟩
theorem Inv.lnew{its:List Value}{t':Nat}(I:Inv X pins σ H s)(hv:Vals ys its)(hz:ys.length<=sizeLine) :
  Inv X pins σ (upd H s.heap.objs.size (.lst ys)) { s with heap:=s.heap.push { cls:=.type "list", data:=.seq its.toArray },toks:=t' } :=
 I.laid (λ_ _ q=>Qj _ q) (Qs _) ⟨hz,its,0,hv,Qx _ rfl⟩
theorem Inv.fresh(I:Inv X pins σ H s):H s.heap.objs.size=none:=I.hok.fresh (Qs _)
theorem Inv.lstM(I:Inv X pins σ H s)(hH:H l=some (.lst xs)):xs.length<=sizeLine/\∃(its:List Value)(n:Nat),Vals xs its/\xs.length=its.length/\s.heap.get? l=some { cls:=.type "list", data:=.seq its.toArray n }:=by
 obtain ⟨z,its,n,r,e⟩:=I.hok l _ hH;exact ⟨z,its,n,r,r.length,e⟩
theorem zi2{n:Nat}(h:n<=sizeLine):Builtin.List.listTooLong n=false:=by
 unfold Builtin.List.listTooLong;exact QQ (by omega)
end
section
variable{X:Cx}
def zpf:V->List V->Hp->VK->Prop:=λx vs H Q=>∃l xs y,x=.ref l/\vs=[y]/\H l=some (.lst xs)/\xs.length<sizeLine/\Q .non (upd H l (.lst (xs++[y])))
theorem zg2:MtM X "list.append" zpf:=by
 intro pins s σ H x vs v us Q I rx rv h;obtain ⟨l,xs,y,rfl,rfl,hH,hz,q⟩:=h;cases rx;obtain ⟨u,rfl,ru⟩:=rv.one;obtain ⟨z,its,n,r,hl,e⟩:=I.lstM hH;refine call_meets F.slot_list_append ⟨_,e,rfl⟩ F.entry_list_append (F.args_list_append_2 _ _) (PySem.list_append l its.toArray n u (by rw[QM];omega)) ⟨e,?_⟩
 refine ⟨.non,_,I.lset (its':=its++[u]) hH e (by simp) (r.append (.cons ru .nil)) ?_,rfl,q⟩
 rw[Ql,Ja];omega
def zpg:V->List V->Hp->VK->Prop:=λx vs H Q=>∃l b xs zs,x=.ref l/\vs=[.ref b]/\H l=some (.lst xs)/\H b=some (.lst zs)/\xs.length+zs.length<=sizeLine/\Q .non (upd H l (.lst (xs++zs)))
theorem zkN:MtM X "list.extend" zpg:=by
 intro pins s σ H x vs v us Q I rx rv h;obtain ⟨l,b,xs,zs,rfl,rfl,hH,hB,hz,q⟩:=h;cases rx;obtain ⟨u,rfl,ru⟩:=rv.one;cases ru;obtain ⟨z,its,n,r,hl,e⟩:=I.lstM hH;obtain ⟨z2,its2,n2,r2,hl2,e2⟩:=I.lstM hB;have hsz:its.toArray.size+its2.toArray.size<=sizeLine:=by rw[QM,QM];omega
 have hlong:¬(!its.toArray.isEmpty&&Builtin.List.listTooLong (its.toArray.size+its2.toArray.size))=true:=by
  rw[zi2 hsz,Bool.and_false];exact Jk
 refine call_meets F.slot_list_extend ⟨_,e,rfl⟩ F.entry_list_extend (F.args_list_extend_2 _ _)
  (AutoSeq1.list_extend_list_list_0 l its.toArray n b its2.toArray n2 hlong (by rw[QM];omega) (by omega)) ⟨e,e2,?_⟩
 refine ⟨.non,_,I.lset (its':=its++its2) hH e (by simp) (r.append r2) ?_,rfl,q⟩
 rw[Ql];omega
theorem zph{α:Type}(xs:List α)(k:Nat):(replicate k xs).flatten.length=k*xs.length:=by
 induction k with
 |zero=>simp
 |succ k ih=>rw[Q2,QO,Ql,ih,Nat.succ_mul,Nat.add_comm]
end
section
variable{prog:Program}{w:World}{A:Around}{E:Value->Shared->Prop}{s:Shared}
set_option maxRecDepth 100000 in
end
section
variable{X:Cx}
end
end L2
namespace Att
open PySem PySem.W PySem.Calls PyProof.Rows
theorem ze0{P:Params}{h:Heap}:∀(ns:List Int)(vs:List Value),WellAll P h vs (ns.map WData.int)->IntsAre vs ns:=by
 intro ns
 induction ns with
 |nil=>
  intro vs w;rw[Uc] at w;cases w;exact .nil
 |cons n ns ih=>
  intro vs w;rw[QB] at w
  cases w with
  |cons a b=>
   cases a;exact .cons _ _ (ih _ b)
theorem zkO{l:OpenLaw}{n:Nat}(hn:l.most=some n){P:Params}{h:Heap}{args:List WData}{vals:List Value}
  (hpre:l.row.toRowW.claim.pre args=true) (hwl:WellAll P h vals args) :
  ∃a vs ns,vals=[Value.ref a]/\args=[WData.list (ns.map WData.int)]/\h.get? a=some { cls:=.type "list", data:=.seq vs.toArray }/\IntsAre vs ns/\ns.length<=n:=by
 have hsh:WShape.hasAll [] args [.list .int]=true:=(pre_splitW hpre).1;have hc:l.pre.holds [] { args:=args }=true:=(pre_splitW hpre).2;obtain ⟨d,r,rfl,h1,h2⟩:=hasAllW_cons hsh;obtain rfl:=hasAllW_nil h2;obtain ⟨xs,rfl,h3⟩:=hasW_list h1;obtain ⟨ns,rfl⟩:=items_int h3
 have hlen:ns.length<=n:=by
  unfold OpenLaw.pre at hc
  have h4:(WTm.not (.lt (.lit (.int (n:Int))) (.len (.arg 0)))).holds [] { args:=[.list (ns.map .int)] }=true:=by
   have h4:=(holds_andW hc).1;rw[hn] at h4;exact h4
  have h5:=condW_of h4 (w_not (w_lt w_lit (w_len_list (w_arg rfl))));rw[Qb] at h5;refine Jc λq=>?_;have q':(n:Int)<((ns.length:Nat):Int):=by omega
  first
   |(rw[Q9 q'] at h5;exact absurd h5 (by decide))
   |(simp at h5;omega)
 cases hwl with
 |cons w1 w2=>
  cases w2
  cases w1 with
  |list ho hall=>exact ⟨_,_,ns,rfl,rfl,ho,ze0 ns _ hall,hlen⟩
theorem zkP(l:OpenLaw)(args:List WData):l.row.toRowW.claim.post args (.bool true) args=true :=
 postW_of (r:=l.row.toRowW) (X:=(true==true))
  (show WShape.has [] (.bool true) .bool=true by first|rfl|decide|simp[WShape.has,WShape.arms,WShape.armsAll])
  (show (WTm.eq .res (.lit (.bool true))).value [] { args:=args,res:=some (.bool true),after:=args }=some (.bool (true==true)) from w_eq_bool (w_res rfl) w_lit) rfl
theorem attach_call{l:OpenLaw}{n:Nat}{q:Program}{loose:List Str}{XP:(Str->Option Value)->Heap->Prop}{YP:World->Heap->Prop}{d:DefRec}
  (hn:l.most=some n) (hdf:d.params.defaults=[])
  (call:∀(w:World)(s₀ s₁:Shared)(mg mb:Str->Option Value)(fa:Addr)(o:Obj)(pm cd doc:Value)(a:Addr)(vs:List Value)(ns:List Int),
   Ground q loose [] XP w s₀ mg mb s₁.heap->YP w s₁.heap ->
   s₁.heap.get? fa=some o->o.data=.func (docDef d.name d.params d.body d.scope pm cd doc)->s₁.heap.CodeRec cd d.name->mg d.name=some (.ref fa) ->
   s₁.heap.get? a=some { cls:=.type "list", data:=.seq vs.toArray }->IntsAre vs ns->ns.length<=n->s₁.gens=#[] ->
   codeAny (model l.prog w) callerA (.call (.ref fa) ⟨[.ref a],[]⟩) (λr s'=>r=.ok (.ret (.bool true))/\OldK s₁.heap s'.heap/\s'.os=s₁.os/\AllBare s'.gens) s₁) :
  WalkO q loose XP YP l.row.toRowW d [] (λf vs=>PySem.call f vs):=by
 intro w s₀ s₁ mg mb G Y fa o pm cd doc dV kV ho hd hcd hD hmg hg args vals as hpre hlay hrd hwl hlo;obtain rfl:dV=.none:=Dflts.none hD hdf;obtain rfl:kV=.none:=Dflts.noKw hD;obtain ⟨a,vs,ns,rfl,rfl,hobj,hints,hlen⟩:=zkO hn hpre hwl;refine enter_call (codeAny_mono (call w s₀ s₁ mg mb fa o pm cd doc a vs ns G Y ho (fd_plain hd) hcd hmg hobj hints hlen hg) λr s' hq=>?_);obtain ⟨rfl,h2,h3,h4⟩:=hq;exact ⟨.inl ⟨.bool true,.bool true,[],rfl,λ_=>rfl,.bool true,zkP l _,λ_=>⟨List.Pairwise.nil,λ_ hm=>(nomatch hm)⟩⟩,h2,h3,h4⟩
section
variable{prog:Program}{w:World}{A:Around}{E:Value->Shared->Prop}{s:Shared}{K:Frag}
end
end Att
namespace L2
open PySem PySem.Spec PyProof.Rows
theorem zb0:∀{vs:List Value}{ns:List Int},IntsAre vs ns->Vals (ns.map V.int) vs
 |_,_,.nil=>.nil
 |_,_,.cons n t h=>.cons ⟨t,rfl⟩ (zb0 h)
def Only(H:Hp):Prop:=∀b,H b=none ∨ ∃o xs,H b=some (.frz o (.lst xs))
theorem znn{P:Program}{w:World}{K:Frag}{mg mb:Str->Option Value}{CX:CXT}{k:Nat}{fa a:Addr}{fd:FuncData}{x:Str}{sp:Sp}{s₁:Shared}{vs:List Value}{ns:List Int}
  (KX:K.In s₁.heap) (hns:s₁.heap.Ns mainGlobals mg) (hb:s₁.heap.Ns builtinsNs mb) (hbb:∀x:Str,x ≠ "__name__" -> mb x=bootBuiltins x) (hlim:s₁.heap.NoLimit) (hg:s₁.gens=#[])
  (ha:s₁.heap.get? a=some { cls:=.type "list", data:=.seq vs.toArray }) (hi:IntsAre vs ns) (hl:ns.length<=sizeLine) (hr:Room k callerA)
  (F:∀base:Heap,K.In base->base.Ns mainGlobals mg->FnOk P w K mg base CX k fa fd [x] sp) (hbind:∀(s:Shared)(u:Value),BindsTo s fd ⟨[u],[]⟩ [(x,u)])
  (hsp:∀H:Hp,Only H->SqL K H a (ns.map V.int)->sp [.ref a] H (λv _=>v=.bl true) λ_ _ _=>False)
  (hCX:∀H e s',CX [] H s₁ (λ_ _ _=>False) e s'->False) :
  codeAny (model P w) callerA (.call (.ref fa) ⟨[.ref a],[]⟩) (λr s'=>r=.ok (.ret (.bool true))/\OldK s₁.heap s'.heap/\s'.os=s₁.os/\AllBare s'.gens) s₁:=by
 have rv:=zb0 hi;have lenV:=hi.length
 have core:∀H:Hp,Only H->SqL K H a (ns.map V.int)->HOk P w H s₁.heap->(∀b,H b≠none->b=a)->(H a≠none->K.lookup a=none) ->
   codeAny (model P w) callerA (.call (.ref fa) ⟨[.ref a],[]⟩) (λr s'=>r=.ok (.ret (.bool true))/\OldK s₁.heap s'.heap/\s'.os=s₁.os/\AllBare s'.gens) s₁:=by
  intro H hO hS hok hA hK;have base_of:∀{b:Addr}{o:Obj},s₁.heap.get? b=some o->H b=none->(hidT s₁.heap H).get? b=some o:=λe n=>zne e n
  have noA:∀{b:Addr}{o:Obj}{es:Array DictEntry}{ep:Nat},s₁.heap.get? b=some o->o.data=.dict es ep->H b=none:=λ{b o es ep} e d=>by
   cases q:H b with
   |none=>rfl
   |some u=>
    have e':b=a:=hA b (by rw[q];simp)
    subst e';rw[ha] at e;cases e;have d':Data.seq vs.toArray _=Data.dict es ep:=d;cases d'
  have nsK:∀{b:Addr}{m:Str->Option Value},s₁.heap.Ns b m->(hidT s₁.heap H).Ns b m:=λ{b m} ⟨o,es,ep,e,d,r⟩=>⟨o,es,ep,base_of e (noA e d),d,r⟩
  have hKb:K.In (hidT s₁.heap H):=λb o e=>base_of (KX b o e) (by
   cases q:H b with
   |none=>rfl
   |some u=>
    have e':b=a:=hA b (by rw[q];simp)
    subst e';rw[hK (by rw[q];simp)] at e;cases e)
  have hM:Mod K mg (hidT s₁.heap H):=⟨hKb,nsK hns,⟨mb,nsK hb,hbb⟩,let ⟨mc,h1,h2⟩:=hlim;⟨mc,nsK h1,h2⟩⟩
  have e0:Env0 P w K mg (hidT s₁.heap H) callerA [] s₁ H:=⟨rfl,hM,λb o e=>zo0 e,Nat.le_of_eq (zkx _ _),trivial,λb hb=>absurd (show b∈([]:List Addr) from hb) (by simp),hok,.of_eq hg⟩
  refine codeAny_mono ((F _ hKb (nsK hns)).run callerA [] s₁ H ⟨[.ref a],[]⟩ [.ref a] [.ref a] _ _ hr e0 (hbind s₁ (.ref a)) (.cons rfl .nil) (hsp H hO hS)) λr s' h=>?_
  cases r with
  |error e=>exact (hCX H e s' h).elim
  |ok fl=>
   cases fl with
   |next=>exact False.elim h
   |brk=>exact False.elim h
   |cont=>exact False.elim h
   |ret u=>
    obtain ⟨v,H',os,bare,un,hok',r',q⟩:=h;have q':v=.bl true:=q;subst q';obtain rfl:u=Value.bool true:=r';refine ⟨rfl,OldK.of_keep λb o e=>?_,os,bare⟩
    cases q:H b with
    |none=>exact un.keep b o e q (by intro z;exact absurd (show b∈([]:List Addr) from z) (by simp)) (by simp)
    |some u=>
     rcases hO b with z|⟨ob,xs,z⟩
     ·rw[q] at z;cases z
     ·have z2:=un.frzs b ob _ z
      obtain ⟨e1,_⟩:=hok b _ z;obtain ⟨e2,_⟩:=hok' b _ z2;rw[e] at e1;cases e1;exact e2
 cases hk:K.lookup a with
 |some o=>
  have e:=KX a o hk;rw[ha] at e;cases e;refine core (λ_=>none) (λ_=>.inl rfl) (.inr ⟨_,vs.toArray,_,hk,rfl,rfl,rfl,by rw[List.size_toArray,lenV];exact hl,by simpa using rv⟩) (λb u z=>by have z':(none:Option HO)=some u:=z;cases z') (λb z=>absurd rfl z) λz=>absurd rfl z
 |none=>
  refine core (λb=>if b=a then some (.frz { cls:=.type "list", data:=.seq vs.toArray } (.lst (ns.map V.int))) else none) (λb=>?_) (.inl (.inr ⟨{ cls:=.type "list", data:=.seq vs.toArray },Qn rfl⟩)) (λb u z=>?_) (λb z=>?_) λ_=>hk
  ·by_cases hb:b=a
   ·exact .inr ⟨_,_,Qn hb⟩
   ·exact .inl (QA hb)
  ·by_cases hb:b=a
   ·have z':=(Qn hb).symm.trans z
    cases z';subst hb
    exact ⟨ha,by rw[Qb];exact hl,vs,_,rv,ha⟩
   ·have z':=(QA hb).symm.trans z
    cases z'
  ·by_cases hb:b=a
   ·exact hb
   ·exact absurd (QA hb) z
def zek(s:Stmt):Arguments:=match s with
 |.FunctionDef _ a _ _ _ _ _ _ _ _=>a
 |_=>{ posonlyargs:=[],args:=[],vararg:=none,kwonlyargs:=[],kw_defaults:=[],kwarg:=none,defaults:=[] }
def zdh(s:Stmt):List Stmt:=match s with
 |.FunctionDef _ _ b _ _ _ _ _ _ _=>b
 |_=>[]
def zak(s:Stmt):Scope:=match s with
 |.FunctionDef _ _ _ _ _ _ sc _ _ _=>sc
 |_=>{ kind:=.function,names:=[],isGenerator:=false,isCoroutine:=false }
abbrev CX0:CXT:=λ_ _ _ _ _ _=>False
abbrev E0:XK:=λ_ _ _=>False
theorem zrW{X:Cx}:zkL CX0 X E0:=λ_ _ _ _ _ _ _ h=>h.elim
structure Fun(K:Frag)(x qual:Str)(st:Stmt)(f:Addr)(fd:FuncData):Prop where
 ex:∃(oc:Value)(od:Option Addr)(kV doc pm:Value)(an:Option Addr)(cdv ct:Value)(osl:Array (Option Value)),
  fd=PySem.W.fnOf x qual (zek st) (zdh st) (zak st) .none kV doc pm an cdv ct/\K.lookup f=some ⟨oc,od,.func fd,osl⟩/\PySem.W.codeIn K cdv qual=true
 kp:PySem.W.keepIn K (.ref f)=true
section
variable{P:Program}{w:World}{K:Frag}{mg:Str->Option Value}{base:Heap}
theorem Fun.ok{x qual:Str}{st:Stmt}{f:Addr}{fd:FuncData}{N ps:List Str}{k:Nat}{sp:Sp}(F:Fun K x qual st f fd)(S:zeY N ps (zak st))(len:∀vs H Q E,sp vs H Q E->vs.length=ps.length)
  (hbody:∀(cdv:Value)(A:Around)(outer:List Env)(s:Shared)(H:Hp)(vs:List V)(Q:VK)(E:XK),Room k (A.deeper (envOfC qual (zak st) s.heap.objs.size f cdv))->sp vs H Q E ->
   ∃t,PSs (cxOf CX0 P w K mg base N qual (zak st) f cdv A outer s H E).nox (zdh st) t/\t { nx:=λ_ H'=>Q .non H',rt:=Q } (zeZ N vs) H):FnOk P w K mg base CX0 (k+1) f fd ps sp:=by
 obtain ⟨oc,od,kV,doc,pm,an,cdv,ct,osl,rfl,lk,hcd⟩:=F.ex;refine zrU lk hcd S len λA outer s H vs Q E hr hsp=>?_;obtain ⟨t,h,q⟩:=hbody cdv A outer s H vs Q E hr hsp;exact ⟨t,h.nox,q⟩
theorem Fun.binds{x qual:Str}{st:Stmt}{f:Addr}{fd:FuncData}{ps:List Str}(F:Fun K x qual st f fd)
  (h:∀(kV doc pm:Value)(an:Option Addr)(cdv ct:Value)(us:List Value),us.length=ps.length->bindArgs (PySem.W.fnOf x qual (zek st) (zdh st) (zak st) .none kV doc pm an cdv ct) ⟨us,[]⟩=pure (ps.zip us)):zgV K fd ps []:=by
 obtain ⟨oc,od,kV,doc,pm,an,cdv,ct,osl,rfl,lk,hcd⟩:=F.ex;exact .all (h kV doc pm an cdv ct)
end
section
variable{X:Cx}
end
def Same(H H':Hp):Prop:=∀b o,H b=some o->H' b=some o
theorem Same.refl(H:Hp):Same H H:=λ_ _ h=>h
theorem Same.trans{H H1 H2:Hp}(a:Same H H1)(b:Same H1 H2):Same H H2:=λc o h=>b c o (a c o h)
theorem Same.free{H H':Hp}(e:Same H H'){l:Addr}(h:H' l=Option.none):H l=Option.none:=by
 cases q:H l with
 |none=>rfl
 |some o=>
  rw[e l o q] at h;cases h
theorem Same.seq{K:Frag}{H H':Hp}{a:Addr}{xs:List V}(e:Same H H')(h:SqL K H a xs):SqL K H' a xs:=by
 rcases h with (h|⟨o,h⟩)|h
 ·exact .inl (.inl (e _ _ h))
 ·exact .inl (.inr ⟨o,e _ _ h⟩)
 ·exact .inr h
section
variable{X:Cx}{pins:List (Addr×Obj)}{σ:St}{H:Hp}{s:Shared}{h':Heap}
theorem Inv.turnedNew{t':Nat}{fp:List Addr}{p:Addr}{o:HO}(I:Inv X pins σ H s)(hf:∀b∈fp,FpOk X pins H b)
  (k:∀b o,b∉fp->s.heap.get? b=some o->h'.get? b=some o) (hp:s.heap.objs.size<=p) (new:zb6 X.prog X.w (upd H p o) h' p o) :
  Inv X pins σ (upd H p o) { s with heap:=h',toks:=t' }:=by
 have hn:H p=none:=I.hok.fresh hp;have trk:∀b u,H b=some u->b∉fp:=λb u e z=>by rw[(hf b z).1] at e;cases e
 refine I.step (g':=s.gens) (d':=s.drawn) (ch:=fp) (λb hb=>?_) (λb o _ _ hc e _=>k b o hc e) (λb o _ _ hc e _=>⟨o.slots,k b o hc e⟩)
  (λb o _ e n=>by rw[zaI (QN (QD (Qi e) hp))];exact n) (λb o hc e=>⟨o,k b o hc e⟩)
  (λb xs e=>by rw[zaI (zaT e hn)];exact e) (λb ob u e=>by rw[zaI (zaT e hn)];exact e) (λb ps e=>⟨#[],by rw[zaI (zaT e hn),e];simp⟩)
  (λm hm=>?_) (λb u e=>?_) I.bare
 ·obtain ⟨_,f1,_,f3,f4,f5⟩:=hf b hb
  exact ⟨f3,f1,f4,f5⟩
 ·obtain ⟨ob,es,ep,ho,r⟩:=hm
  exact ⟨ob,es,ep,k _ ob (λz=>(hf _ z).2.1 rfl) ho,r⟩
 ·by_cases hb:b=p
  ·subst hb;rw[zaE] at e;cases e;exact new
  ·rw[zaI hb] at e
   refine (I.hok b u e).stay (λc v hc q=>k c v ?_ q) (λc q=>by rw[zaI (zaT q hn)];exact q) λc xs q=>by rw[zaI (zaT q hn)];exact q
   rcases hc with z|z
   ·rw[z];exact trk b u e
   ·exact trk c _ z
theorem Inv.turnedL{t':Nat}{fp:List Addr}(I:Inv X pins σ H s)(hf:∀b∈fp,FpOk X pins H b)
  (k:∀b o,b∉fp->s.heap.get? b=some o->h'.get? b=some o):Inv X pins σ H { s with heap:=h',toks:=t' }:=by
 have trk:∀b u,H b=some u->b∉fp:=λb u e z=>by rw[(hf b z).1] at e;cases e
 refine I.step (g':=s.gens) (d':=s.drawn) (ch:=fp) (λb hb=>?_) (λb o _ _ hc e _=>k b o hc e) (λb o _ _ hc e _=>⟨o.slots,k b o hc e⟩)
  (λ_ _ _ _ n=>n) (λb o hc e=>⟨o,k b o hc e⟩) (λ_ _ e=>e) (λ_ _ _ e=>e) (λb ps e=>⟨#[],by rw[e];simp⟩) (λm hm=>?_) (λb u e=>?_) I.bare
 ·obtain ⟨_,f1,_,f3,f4,f5⟩:=hf b hb
  exact ⟨f3,f1,f4,f5⟩
 ·obtain ⟨ob,es,ep,ho,r⟩:=hm
  exact ⟨ob,es,ep,k _ ob (λz=>(hf _ z).2.1 rfl) ho,r⟩
 ·refine (I.hok b u e).stay (λc v hc q=>k c v ?_ q) (λc q=>q) λc xs q=>q
  rcases hc with z|z
  ·rw[z];exact trk b u e
  ·exact trk c _ z
end
def Ite(K:Frag)(a:Addr):It :=
 ⟨λi H=>∃xs x,SqL K H a xs/\xs[i]?=some x,
  λi H v H'=>∃p x,H p=none/\v=.ref p/\(∀xs,SqL K H a xs->xs[i]?=some x)/\H'=upd H p (.tup [.int i,x]),
  λi H=>∃xs,SqL K H a xs/\xs.length<=i⟩
theorem zkQ{P:Program}{w:World}{K:Frag}{elts:List Expr}{x1}{tp:Pos}(a e it:Addr)(hne:e≠it) :
  Turn P w K (.Tuple elts x1 tp) (Ite K a) [e,it] e (λi h=>(∃old,IsEnum h e it i old)/\h.IsListIter it a i) where
 mem:=by simp
 obj:=λi h st b hb=>by
  obtain ⟨⟨old,he⟩,o,ho,c,d⟩:=st;have hb':b=e∨b=it:=by simpa using hb
  rcases hb' with rfl|rfl
  ·exact ⟨_,he,λv z=>by
    have z':Data.fields _=Data.cell v:=z;cases z'⟩
  ·exact ⟨o,ho,λv z=>by rw[d] at z;cases z⟩
 keep:=λi h h' st k=>by
  obtain ⟨⟨old,he⟩,hi⟩:=st;exact ⟨⟨old,k e (by simp) _ he⟩,hi.at λo q=>k it (by simp) o q⟩
 item:=by
  intro X hP hw hK hc i pins s σ H E I hf st hg;subst hP hw hK;obtain ⟨⟨old,he⟩,hi⟩:=st;obtain ⟨xs,x,hq,hx⟩:=hg;obtain ⟨its,rv,p,hz⟩:=I.list hq;obtain ⟨u,hu,ru⟩:=rv.get hx;refine wpAny_pyNext_enum_item he hi p.isList (x:=u) (by simpa using hu) hne λh1 out hi1 ht hsz kk=>?_
  refine ⟨_,rfl,wpAny_letOwnedTupleGo_enum out λh2 he2 hs2=>?_⟩;have hel:e<s.heap.objs.size:=Qi he;have hs2':Heap.SameBut e h1 h2:=hs2
  have ht2:h2.get? s.heap.objs.size=some { cls:=.type "tuple", data:=.seq #[.int i s.toks,u] }:=(hs2'.2 _ (JN hel)).trans ht
  have kk2:∀b o,b∉[e,it]->s.heap.get? b=some o->h2.get? b=some o:=λb o hb q=>by
   have hbe:b≠e:=λz=>hb (by simp[z])
   have hbi:b≠it:=λz=>hb (by simp[z])
   exact (hs2'.2 b hbe).trans (kk b o hbe hbi q)
  have hn:H s.heap.objs.size=none:=I.hok.fresh (Qs _)
  have I2:Inv X pins σ (upd H s.heap.objs.size (.tup [.int i,x])) { s with heap:=h2,toks:=s.toks+1 } :=
   I.turnedNew (fp:=[e,it]) hf kk2 (Qs _) ⟨by show 2<=sizeLine;decide,[.int i s.toks,u],.cons ⟨_,rfl⟩ (.cons ru .nil),⟨_,ht2,rfl,_,rfl⟩⟩
  refine ⟨.ref s.heap.objs.size,_,I2,rfl,⟨_,x,hn,rfl,λys hy=>by rw[I.list_inj hy hq];exact hx,rfl⟩,⟨⟨u,?_⟩,?_⟩,λb hb=>?_⟩
  ·have:=he2
   simpa using this
  ·have hi2:h2.IsListIter it a (i+1):=hi1.at λo q=>(hs2'.2 it (Ne.symm hne)).trans q
   exact hi2
  ·have fr:=(hf b hb)
   have hlt:b<s.heap.objs.size:=by
    have hb':b=e∨b=it:=by simpa using hb
    rcases hb' with rfl|rfl
    ·exact hel
    ·obtain ⟨o,ho,_⟩:=hi;exact Qi ho
   rw[zaI (QN hlt)];exact fr.1
 done:=by
  intro X hP hw hK hc i pins s σ H E I hf st hg;subst hP hw hK;obtain ⟨⟨old,he⟩,hi⟩:=st;obtain ⟨xs,hq,hx⟩:=hg;obtain ⟨its,rv,p,hz⟩:=I.list hq;have hl:=rv.length;exact wpAny_pyNext_enum_end (I.ok.hd hc) he hi p.isList (by simp;omega) λh' eb=>⟨rfl,I.turnedL (t':=s.toks) hf λb o hb q=>eb b o (λz=>hb (by simp[z])) q⟩
 self:=λ_ _ _ _ _ st h=>by
  obtain ⟨⟨old,he⟩,_⟩:=st;exact wpAny_pyIter_enum he h
section
variable{X:Cx}
def zrX(K:Frag)(ta:TA):TI:=λσ H R=>ta σ H λvs H1=>∃a xs,vs=[.ref a]/\SqL K H1 a xs/\R (Ite K a) H1
theorem zpi{a:Expr}{ta:TA}{p pos:Pos}{elts:List Expr}{x1}{tp:Pos}(hg:Gl X "enumerate")(hm:X.mg "enumerate" = none)(ha:PA X [a] ta)
  (hs:starEach [a] X.env=[(false,eval a X.env)]:=by rfl):PI X (.Tuple elts x1 tp) (.Call (.Name "enumerate" p) [a] [] pos) (zrX X.K ta):=by
 intro pins s σ H R I h;refine Call_ (zeB I hg hm boot_enumerate (JA (thn (ha pos pins s σ H _ I h) λus s1 ⟨vs,H1,I1,r1,q1⟩=>?_) hs rfl));obtain ⟨l,xs,e,hq,q⟩:=q1;subst e
 cases r1 with
 |cons r rr=>
  cases rr
  cases (show _=Value.ref l from r)
  obtain ⟨its,rv,pl,hz⟩:=I1.list hq;refine call_enumerate_list pl.isList λh' he hi hsz kk=>?_;have I2:Inv X pins σ H1 { s1 with heap:=h' }:=I1.kept (t':=s1.toks) kk;refine wpAny_pyIter_enum he ?_;refine ⟨s1.heap.objs.size+1,[s1.heap.objs.size+1,s1.heap.objs.size],_,_,H1,rfl,I2,zkQ l _ _ (Nat.succ_ne_self _),⟨⟨_,he⟩,hi⟩,λb hb=>?_,q⟩;have hb':b=s1.heap.objs.size+1∨b=s1.heap.objs.size:=by simpa using hb
  rcases hb' with rfl|rfl
  ·exact I1.fpOk (JU _) (I1.hok.fresh (JU _))
  ·exact I1.fpOk (Qs _) (I1.hok.fresh (Qs _))
end
section
variable{κ:Type}[DecidableEq κ]
def valV(kvs:List (κ×V))(k:κ):Option V:=(kvs.find? λkv=>decide (kv.1=k)).map (·.2)
def putK(kvs:List (κ×V))(k:κ)(v:V):List (κ×V) :=
 if (kvs.any λkv=>decide (kv.1=k))=true then kvs.map (λkv=>if kv.1=k then (kv.1,v) else kv) else kvs++[(k,v)]
theorem zgh{p:κ×V}{r:List (κ×V)}{k:κ}(e:p.1=k):valV (p::r) k=some p.2:=by simp[valV,List.find?_cons,e]
theorem zeS{p:κ×V}{r:List (κ×V)}{k:κ}(e:¬p.1=k):valV (p::r) k=valV r k:=by simp[valV,List.find?_cons,e]
theorem zgi(k:κ):∀kvs:List (κ×V),(kvs.any λkv=>decide (kv.1=k))=(valV kvs k).isSome
 |[]=>rfl
 |p::r=>by
  rw[List.any_cons]
  by_cases e:p.1=k
  ·simp only[zgh e,Q9 e,Bool.true_or,Option.isSome_some]
  ·rw[zeS e,QQ e,Bool.false_or];exact zgi k r
theorem ze1(kvs:List (κ×V))(k:κ)(v:V):(putK kvs k v).length<=kvs.length+1:=by
 unfold putK;split
 ·rw[Qb];omega
 ·rw[Ql,QK,QE];omega
theorem zno{kvs:List (κ×V)}{k:κ}(v:V)(h:valV kvs k=none):putK kvs k v=kvs++[(k,v)]:=by
 unfold putK;rw[zgi,h];exact QA (by decide)
theorem RelO.isSome_eq{o:Option V}{u:Option Value}(r:RelO o u):o.isSome=u.isSome:=by
 cases o with
 |none=>cases u with
  |none=>rfl
  |some _=>exact (show False from r).elim
 |some _=>cases u with
  |none=>exact (show False from r).elim
  |some _=>rfl
theorem KV.any{kvs:List (κ×V)}{vs:List (κ×Value)}(r:KV kvs vs)(k:κ):(kvs.any λkv=>decide (kv.1=k))=vs.any λkv=>decide (kv.1=k):=by
 unfold KV at r
 induction r with
 |nil=>rfl
 |cons h t ih=>rw[List.any_cons,List.any_cons,ih,h.1]
theorem KV.repl{kvs:List (κ×V)}{vs:List (κ×Value)}(r:KV kvs vs)(k:κ){y:V}{u:Value}(ry:RelV y u) :
  KV (kvs.map λkv=>if kv.1=k then (kv.1,y) else kv) (vs.map λkv=>if kv.1=k then (kv.1,u) else kv):=by
 unfold KV at r ⊢
 induction r with
 |nil=>exact .nil
 |@cons p q ps qs h t ih=>
  rw[QB,QB];refine .cons ?_ ih;obtain ⟨h1,h2⟩:=h
  by_cases e:p.1=k
  ·rw[Qn e,Qn (h1.symm.trans e)];exact ⟨h1,ry⟩
  ·rw[QA e,QA (λz=>e (h1.trans z))];exact ⟨h1,h2⟩
theorem KV.put{kvs:List (κ×V)}{vs:List (κ×Value)}(r:KV kvs vs)(k:κ){y:V}{u:Value}(ry:RelV y u):KV (putK kvs k y) (stored vs k u):=by
 unfold putK stored;rw[r.any k]
 by_cases e:(vs.any λkv=>decide (kv.1=k))=true
 ·rw[Qn e,Qn e];exact r.repl k ry
 ·rw[QA e,QA e];exact Paired.snoc r ⟨rfl,ry⟩
theorem KV.length{kvs:List (κ×V)}{vs:List (κ×Value)}(r:KV kvs vs):kvs.length=vs.length:=Paired.length r
end
theorem zqC{P:Program}{w:World}{k:Key}{u:Value}(r:RelV (kV k) u):(zb5 P w).is k u=true:=by
 cases k with
 |inl i=>obtain ⟨t,e⟩:=(show ∃t,u=Value.int i t from r);subst e;exact zh6 P w i t
 |inr x=>obtain ⟨t,e⟩:=(show ∃t,u=Value.str x t from r);subst e;exact zh7 P w x t
theorem ze2{P:Program}{w:World}:∀{ks:List Key}{us:List Value},Vals (ks.map kV) us->ItemsAre (zb5 P w) ks us
 |[],_,r=>by rw[Uc] at r;cases r;exact .nil
 |k::ks,_,r=>by
  rw[QB] at r
  cases r with
  |cons h t=>exact .cons (zqC h) (ze2 t)
abbrev KT(H:Hp):List (List Key×V)->List (List Key×Addr×Value)->Prop:=Paired λp q=>p.1=q.1/\H q.2.1=some (.tup (p.1.map kV))/\RelV p.2 q.2.2
theorem KT.val{H:Hp}{kvs:List (List Key×V)}{xs:List (List Key×Addr×Value)}(r:KT H kvs xs)(k:List Key):RelO (valV kvs k) ((atKey xs k).map (·.2)):=by
 induction r with
 |nil=>exact True.intro
 |@cons p q ps qs h t ih=>
  obtain ⟨h1,_,h2⟩:=h
  by_cases e:p.1=k
  ·have e':q.1=k:=h1.symm.trans e
   have b:atKey (q::qs) k=some q.2:=by simp[atKey,List.find?_cons,e']
   rw[zgh e,b];exact h2
  ·have e':¬q.1=k:=λz=>e (h1.trans z)
   have b:atKey (q::qs) k=atKey qs k:=by simp[atKey,List.find?_cons,e']
   rw[zeS e,b];exact ih
theorem KT.repl{H:Hp}{kvs:List (List Key×V)}{xs:List (List Key×Addr×Value)}(r:KT H kvs xs)(k:List Key){y:V}{u:Value}(ry:RelV y u) :
  KT H (kvs.map λkv=>if kv.1=k then (kv.1,y) else kv) (xs.map (putAt k u)):=by
 induction r with
 |nil=>exact .nil
 |@cons p q ps qs h t ih=>
  rw[QB,QB];refine .cons ?_ ih;obtain ⟨h1,h2,h3⟩:=h;unfold putAt
  by_cases e:p.1=k
  ·rw[Qn e,Qn (h1.symm.trans e)];exact ⟨h1,h2,ry⟩
  ·rw[QA e,QA (λz=>e (h1.trans z))];exact ⟨h1,h2,h3⟩
theorem KT.put{H:Hp}{kvs:List (List Key×V)}{xs:List (List Key×Addr×Value)}(r:KT H kvs xs)(k:List Key){b:Addr}{y:V}{u:Value}(hb:H b=some (.tup (k.map kV)))(ry:RelV y u) :
  KT H (putK kvs k y) (storedH xs k b u):=by
 have e:(kvs.any λkv=>decide (kv.1=k))=(atKey xs k).isSome:=by
  rw[zgi,(r.val k).isSome_eq,Option.isSome_map]
 unfold putK storedH;rw[e]
 by_cases q:(atKey xs k).isSome=true
 ·rw[Qn q,Qn q];exact r.repl k ry
 ·rw[QA q,QA q];exact Paired.snoc r ⟨rfl,hb,ry⟩
theorem KT.keeps{H H':Hp}{kvs:List (List Key×V)}{xs:List (List Key×Addr×Value)}(r:KT H kvs xs)(ht:∀b ys,H b=some (.tup ys)->H' b=some (.tup ys)):KT H' kvs xs :=
 Paired.mapP r λ_ _ z=>⟨z.1,ht _ _ z.2.1,z.2.2⟩
section
variable{P:Program}{w:World}{H:Hp}{h:Heap}{a:Addr}
theorem zqD{u:HO}(ok:HOk P w H h)(e:Rd H a u):zb6 P w H h a u:=e.ok ok
theorem zrY{kvs:List (Key×V)}(ok:HOk P w H h)(e:Rd H a (.dK kvs)):kvs.length<=sizeLine/\(a==sysModules)=false/\∃vs,KV kvs vs/\h.DictOf (zb5 P w) a vs :=
 show zb6 P w H h a (.dK kvs) from zqD ok e
theorem zrZ{kvs:List (Key×V)}(ok:HOk P w H h)(e:H a=some (.dK kvs)):kvs.length<=sizeLine/\(a==sysModules)=false/\∃vs,KV kvs vs/\h.DictOf (zb5 P w) a vs:=zrY ok (.inl e)
theorem zoE{ks:List Key}(ok:HOk P w H h)(e:H a=some (.tup (ks.map kV))):(tupleKind (zb5 P w)).is h ks a:=by
 obtain ⟨_,its,r,o,h1,h2,n,h3⟩:=(show zb6 P w H h a (.tup (ks.map kV)) from ok a _ e)
 exact ⟨o,its.toArray,n,h1,h2,h3,by simpa using ze2 r⟩
theorem zqE{kvs:List (List Key×V)}(ok:HOk P w H h)(e:Rd H a (.dT kvs)):kvs.length<=sizeLine/\(a==sysModules)=false /\
  ∃xs,KT H kvs xs/\h.DictOfH (tupleKind (zb5 P w)) a xs:=by
 obtain ⟨z,y,xs,r,o,es,ep,h1,h2,h3,h4,h5⟩:=(show zb6 P w H h a (.dT kvs) from zqD ok e)
 refine ⟨z,y,xs,r,o,es,ep,h1,h2,h3,h4,λx hx=>?_,h5⟩
 have all:∀{l:List (List Key×V)}{m:List (List Key×Addr×Value)},KT H l m->∀x∈m,(tupleKind (zb5 P w)).is h x.1 x.2.1:=by
  intro l m q
  induction q with
  |nil=>intro x hx;exact nomatch hx
  |@cons p q ps qs hq t ih=>
   intro x hx;rcases QR.mp hx with e|hx
   ·subst e
    exact zoE ok (by rw[←hq.1];exact hq.2.1)
   ·exact ih x hx
 exact all r x hx
theorem zr0{kvs:List (List Key×V)}(ok:HOk P w H h)(e:H a=some (.dT kvs)):kvs.length<=sizeLine/\(a==sysModules)=false /\
  ∃xs,KT H kvs xs/\h.DictOfH (tupleKind (zb5 P w)) a xs:=zqE ok (.inl e)
end
def DPut(H:Hp)(a:Addr)(y v:V)(H':Hp):Prop :=
 (∃kvs k,H a=some (.dK kvs)/\y=kV k/\kvs.length<sizeLine/\H'=upd H a (.dK (putK kvs k v))) ∨
 ∃kvs k b,H a=some (.dT kvs)/\y=.ref b/\H b=some (.tup (k.map kV))/\kvs.length<sizeLine/\H'=upd H a (.dT (putK kvs k v))
theorem DPut.t{H:Hp}{a b:Addr}{kvs:List (List Key×V)}{k:List Key}{v:V}(e:H a=some (.dT kvs))(eb:H b=some (.tup (k.map kV)))(hl:kvs.length<sizeLine) :
  DPut H a (.ref b) v (upd H a (.dT (putK kvs k v))):=.inr ⟨kvs,k,b,e,rfl,eb,hl,rfl⟩
section
variable{X:Cx}{pins:List (Addr×Obj)}{σ:St}{H:Hp}{s:Shared}{a:Addr}{y v:V}{u r:Value}{o:Option V}{A:Around}{E:Value->Shared->Prop}
theorem Inv.big(I:Inv X pins σ H s):sysModules<s.heap.objs.size:=by
 have h:mainGlobals<s.heap.objs.size:=(I.mod.glob.keeps I.bk).lt;exact Nat.lt_trans (by decide) h
theorem zie{h':Heap}{t':Nat}{ob:HO}(I:Inv X pins σ H s)(mu:Mut (H a))(hs:Heap.SameBut a s.heap h')(he:∃q,h'.get? a=some q)(new:zb6 X.prog X.w (upd H a ob) h' a ob) :
  Inv X pins σ (upd H a ob) { s with heap:=h',toks:=t' } :=
 I.write (x:=a) (e:=a) mu (.inl rfl) (λb q hb z=>(hs.2 b hb).trans z) he new
theorem zqF{P:Program}{w:World}{H':Hp}{h':Heap}{kvs:List (Key×V)}{vs:List (Key×Value)}(z:kvs.length<=sizeLine)(hd:(a==sysModules)=false)(rel:KV kvs vs)(dd:h'.DictOf (zb5 P w) a vs) :
  zb6 P w H' h' a (.dK kvs):=⟨z,hd,vs,rel,dd⟩
theorem zkR{H':Hp}{Q:Unit->Shared->Prop}(hu:A.units+1<cLine)(I:Inv X pins σ H s)(g:DPut H a y v H')(ry:RelV y u)(rv:RelV v r)(h:∀s',Inv X pins σ H' s'->Q () s') :
  wpAny (model X.prog X.w) A (setItem (.ref a) u r) Q E s:=by
 rcases g with ⟨kvs,k,e,ey,l,eH⟩|⟨kvs,k,b,e,ey,eb,l,eH⟩
 ·subst ey eH
  obtain ⟨z,hd,vs,rel,dd⟩:=zrZ I.hok e;have hz:vs.length<=sizeLine:=by rw[←rel.length];exact z
  have hl:(putK kvs k v).length<=sizeLine:=by have:=ze1 kvs k v;omega
  refine wpAny_setItem_pairs (hsz:=hz) (zqC ry) dd λh' dd' hs=>h _ ?_;have he:∃q,h'.get? a=some q:=let ⟨q,_,_,hq,_⟩:=dd';⟨q,hq⟩
  exact zie I (by rw[e];exact True.intro) hs he (zqF hl hd (rel.put k rv) dd')
 ·subst ey eH
  cases (show u=Value.ref b from ry)
  obtain ⟨z,hd,xs,rel,dd⟩:=zr0 I.hok e;have hz:xs.length<=sizeLine:=by rw[←Paired.length rel];exact z
  have hl:(putK kvs k v).length<=sizeLine:=by have:=ze1 kvs k v;omega
  refine wpAny_setItem_heap (hsz:=hz) (tupleKind_room_in1 hu) (zoE I.hok eb) dd λh' dd' hs=>h _ ?_;obtain ⟨q,es,ep,hq,h2,h3,h4,_,h5⟩:=dd';refine zie I (by rw[e];exact True.intro) hs ⟨q,hq⟩ ⟨hl,hd,_,(rel.put k eb rv).keeps λc ys ec=>?_,q,es,ep,hq,h2,h3,h4,h5⟩
  rw[zaI (zp9 ec e (λz=>nomatch z))];exact ec
end
section
variable{X:Cx}{pins:List (Addr×Obj)}{σ:St}{H:Hp}{s:Shared}{a:Addr}{kvs:List (Key×V)}{k:Key}{u:Value}{A:Around}{E:Value->Shared->Prop}
end
def NoSl(i:Expr):Prop:=∀ov iv,subscripted i false ov iv=operate [ov,iv] (getItem ov iv)
theorem zpj{prog:Program}{w:World}{A:Around}{E:Value->Shared->Prop}{s:Shared}{env:Env}{value slice:Expr}{pos:Pos}{T id:String}{Q:Value->Shared->Prop}
  (hl:typeLookup (.type T) "__getitem__" = pure (some (.builtin id))) (hs:NoSl slice)
  (h:wpAny (model prog w) A (eval value env) (λo s₁=>wpAny (model prog w) A (eval slice env) (λi s₂=>s₂.TypeIs o T/\wpAny (model prog w) A (getItem o i) Q E s₂) E s₁) E s) :
  wpAny (model prog w) A (eval (.Subscript value slice pos) env) Q E s:=by
 refine Subscript_ (QG h (λo s₁ h₁=>QG h₁ (λi s₂ h₂=>?_) λ_ _ x=>x) λ_ _ x=>x);obtain ⟨hT,h₂⟩:=h₂;unfold subscriptTail;refine Qd ?_;rw[getitemInPython_of_ne hT.not_modules];refine Qd (wpAny_specialOf hT hl ?_)
 have fin:wpAny (model prog w) A (subscripted slice false o i) (λr s₃=>wpAny (model prog w) A (letTemporaryGo value o r >>= λ_=>pure r) Q E s₃) E s₂:=by
  rw[hs o i];exact wpAny_operating (QG h₂ (λr s₃ h₃=>Qd (wpAny_letTemporaryGo (Qh h₃))) λ_ _ x=>x)
 first
  |exact Qh (Qd fin)
  |exact Qd (Qh (Qd fin))
  |exact Qd fin
def zr1(td ty tv:TE):TS:=λD σ H=>tv σ H λv H1=>td σ H1 λx H2=>ty σ H2 λy H3=>∃a H4,x=.ref a/\DPut H3 a y v H4/\D.nx σ H4
section
variable{X:Cx}{o i e value:Expr}{pos pos' tpos:Pos}{td ty tv:TE}
theorem zpk(hu:X.A.units+1<cLine)(ho:PE X o td)(hi:PE X i ty)(hv:PE X value tv)(hs:swapsWith value (some (.Subscript o i pos')) pos.line X.env=pure false) :
  PS X (.Assign [.Subscript o i pos'] value pos) (zr1 td ty tv):=by
 intro pins s σ H D I h;refine wpAny_Assign_Subscript (thn (hv pins s σ H _ I h) λr s1 ⟨v,H1,I1,rv,q1⟩=>thn (ho pins s1 σ H1 _ I1 q1) λu s2 ⟨x,H2,I2,rx,q2⟩=>thn (hi pins s2 σ H2 _ I2 q2) λiv s3 ⟨y,H3,I3,ry,a,H4,ex,g,q3⟩=>?_) hs;subst ex;obtain rfl:u=Value.ref a:=rx;exact zkR hu I3 g ry rv λs4 I4=>⟨σ,H4,I4,q3⟩
end
theorem znp{P:Program}{w:World}{H:Hp}(h:Heap)(hb:sysModules<h.objs.size):zb6 P w H (h.push { cls:=.type "dict", data:=.dict #[] }) h.objs.size (.dT []) :=
 ⟨JG _,beq_eq_false_iff_ne.mpr (Ne.symm (QN hb)),[],.nil,_,#[],0,Qx _ rfl,⟨rfl,rfl,rfl⟩,rfl,rfl,List.nodup_nil⟩
def zqG:TE:=λ_ H Q=>∀p,H p=none->Q (.ref p) (upd H p (.dT []))
section
variable{X:Cx}{pos:Pos}
theorem znq:PE X (.Dict [] [] pos) zqG:=λpins s σ H Q I h=>
 wpAny_Dict_empty ⟨.ref s.heap.objs.size,_,I.laid (a:=s.heap.objs.size) (o:=.dT []) (t':=s.toks) (λ_ _ q=>Qj _ q) (Qs _) (znp s.heap I.big),rfl,h _ (I.hok.fresh (Qs _))⟩
end
end L2
namespace L2
open PySem PySem.Spec
def Tail(bmB bm:List Value):Prop:=∀(X:String)(b:Bool),bmB.contains (.type X)=b->bm.contains (.type X)=b
section
variable{prog:Program}{w:World}{A:Around}{E:Value->Shared->Prop}{h:Heap}{g:Array GenState}{d:Drawn}{t:Nat}{os:OsState}{R:Result->Shared->Prop}
variable{nm q:Str}{C N:Addr}{bs bm bmB:List Value}{hdct:Bool}{sn:List Str}{sub:List Value}{ab:Bool}{col:Option Bool}{dd:Option Addr}{k0 k1 k2 k3 k5:Option Value}{B newId initId:String}
end
def zcN(M:Model)(C:Addr)(name:Str)(r:Option Value)(h:Heap):Prop:=∀(A:Around)(E:Value->Shared->Prop)(Q:Option Value->Shared->Prop)(h':Heap)(g:Array GenState)(d:Drawn)(t:Nat)(os:OsState),
 (∀b o,h.get? b=some o->h'.get? b=some o)->Q r ⟨h',g,d,t,os⟩->wpAny M A (typeLookup (.ref C) name) Q E ⟨h',g,d,t,os⟩
theorem zcN.keeps{M:Model}{C:Addr}{name:Str}{r:Option Value}{h h':Heap}(x:zcN M C name r h)(k:∀b o,h.get? b=some o->h'.get? b=some o):zcN M C name r h' :=
 λA E Q h2 g d t os k2 q=>x A E Q h2 g d t os (λb o e=>k2 b o (k b o e)) q
theorem zcN.at{M:Model}{A:Around}{E:Value->Shared->Prop}{Q:Option Value->Shared->Prop}{C:Addr}{name:Str}{r:Option Value}{h:Heap}{g:Array GenState}{d:Drawn}{t:Nat}{os:OsState}(x:zcN M C name r h)(q:Q r ⟨h,g,d,t,os⟩):wpAny M A (typeLookup (.ref C) name) Q E ⟨h,g,d,t,os⟩ :=
 x A E Q h g d t os (λ_ _ e=>e) q
section
variable{prog:Program}{w:World}{A:Around}{E:Value->Shared->Prop}{h:Heap}{g:Array GenState}{d:Drawn}{t:Nat}{os:OsState}{R:Result->Shared->Prop}
variable{nm q:Str}{C N x:Addr}{bs bm bmB:List Value}{hdct:Bool}{sn:List Str}{sub:List Value}{ab:Bool}{col:Option Bool}{dd:Option Addr}{k0 k1 k2 k3 k5:Option Value}{B newId sa owner:String}{mN mA:Str->Option Value}{name:Str}{v:Value}
theorem zkS{M:Model}{o:Obj}{nameV:Value}{Q:Unit->Shared->Prop}(T:Tail bmB bm)(hb:bmB.contains (.type "BaseException")=true)(hC:h.get? C=some (excClassObj nm q C N bs bm hdct sn sub ab col dd k0 k1 k2 k3 k5 newId))
  (hx:h.get? x=some o) (hc:o.cls=.ref C) (hq:Q () ⟨h,g,d,t,os⟩):wpAny M A (checkBuiltinCall "BaseException.__getattribute__" ⟨[.ref x,nameV],[]⟩) Q E ⟨h,g,d,t,os⟩:=by
 have hk:builtinKind "BaseException.__getattribute__" = some .slot:=by decide +kernel
 have hsplit:splitId "BaseException.__getattribute__" = some ("BaseException", "__getattribute__"):=by decide +kernel
 have hcB:(Value.ref C::bm).contains (.type "BaseException")=true:=by rw[List.contains_cons,T _ _ hb];rfl
 have ha:=PySem.F.args_bexc_ga (.ref x) nameV;simp only[checkBuiltinCall,hk,hsplit];refine Qd ?_
 ·unfold isInstance
  repeat (first|(with_reducible refine QL hx ?_;rw[hc])|(with_reducible refine Jq hC ?_;rw[hcB])|wp_step)
  exact hq
end
section
variable{M:Model}{A:Around}{E:Value->Shared->Prop}{s:Shared}{base:Heap}{env:Env}{outer:List Env}{L e:Addr}
end
end L2
namespace L2
open PySem PySem.Spec PyProof.Rows PySem.Calls PyProof.V
def XO(fr:Bool)(e C:Addr)(dd:Option Addr):Heap->Prop:=λh=>∃vs sl,h.get? e=some { cls:=.ref C,dict:=dd,data:=.fields vs,slots:=sl }/\(fr=true->vs[1]?=some .none/\∃t0,vs[0]?=some (.ref t0))
section
variable{X:Cx}{pins:List (Addr×Obj)}{σ:St}{H:Hp}{s:Shared}{e C:Addr}{dd:Option Addr}{h':Heap}
end
abbrev VB:List Value:=[.type "ValueError", .type "Exception", .type "BaseException", .type "object"]
structure XCls(M:Model)(base:Heap)(C:Addr)(bm:List Value)(fI:Addr):Prop where
 obj:∃nm q N bs sn sub ab col dd k0 k1 k2 k3 k5,base.get? C=some (excClassObj nm q C N bs bm true sn sub ab col dd k0 k1 k2 k3 k5 "ValueError.__new__")
 tail:Tail VB bm
 init:zcN M C "__init__" (some (.ref fI)) base
 fn:∃o,base.get? fI=some o/\o.cls=.type "function"
 sa:zcN M C "__setattr__" (some (.builtin "object.__setattr__")) base
 ga:zcN M C "__getattribute__" (some (.builtin "BaseException.__getattribute__")) base
 gh:zcN M C "__getattr__" none base
 cl:zcN M C "__class__" (some (.builtin "object.__class__")) base
 pass:∀v,refuseLoop v "__setattr__" bm=pure ()
section
variable{X:Cx}{k:Nat}{f C:Addr}{fd:FuncData}{ps:List Str}{sp:Sp}{x:Str}{p pos cpos:Pos}{e:Expr}{es:List Expr}{t:TA}{bm:List Value}
end
section
variable{M:Model}{A:Around}{E:Value->Shared->Prop}{h:Heap}{g:Array GenState}{d:Drawn}{t:Nat}{os:OsState}
variable{nm q nm' q':Str}{C N D N' a:Addr}{bs bm bs' bm':List Value}{hdct hdct':Bool}{sn sn':List Str}{sub sub':List Value}{ab ab':Bool}{col col':Option Bool}{dd dd':Option Addr}{k0 k1 k2 k3 k5 j0 j1 j2 j3 j5:Option Value}{newId newId':String}
end
section
variable{X:Cx}{k:Nat}{f:Addr}{fd:FuncData}{ps:List Str}{sp:Sp}{x n:Str}{p pos np hpos:Pos}{e:Expr}{es:List Expr}{t:TA}{KX:V->St->Hp->Prop}
end
section
variable{prog:Program}{w:World}{A:Around}{E:Value->Shared->Prop}{h:Heap}{g:Array GenState}{d:Drawn}{t:Nat}{os:OsState}
variable{nm q:Str}{C N a:Addr}{bs bm bmB:List Value}{hdct:Bool}{sn:List Str}{sub:List Value}{ab:Bool}{col:Option Bool}{dd:Option Addr}{k0 k1 k2 k3 k5:Option Value}{B newId initId nid:String}
end
section
variable{X:Cx}{k:Nat}{f D:Addr}{fd:FuncData}{ps:List Str}{sp:Sp}{x:Str}{p pos apos:Pos}{e:Expr}{es:List Expr}{t:TA}
end
section
variable{X:Cx}{k:Nat}{f D:Addr}{fd:FuncData}{ps:List Str}{sp:Sp}{x m:Str}{p pos apos:Pos}{e:Expr}{es:List Expr}{t:TA}
end
def XD(dx:Addr)(fs:List (Str×V)):Heap->Prop:=λh=>∃mA,h.Ns1 dx mA/\h.ExactDictFk dx/\(∀f,RelO (fs.lookup f) (mA f))/\PySem.Within mA (fs.map (·.1))
section
variable{X:Cx}{pins:List (Addr×Obj)}{σ:St}{H:Hp}{s:Shared}{a C dx:Addr}{h':Heap}{t':Nat}
end
section
variable{X:Cx}{o value:Expr}{f:Str}{pos pos':Pos}{ta tv:TE}{KC:Addr->List Value->Prop}
end
section
variable{X:Cx}{value:Expr}{te:TE}{pos:Pos}
end
section
variable{X:Cx}{e:Expr}{f:Str}{pos:Pos}{ta:TE}{KC:Addr->List Value->Prop}
end
end L2
namespace L2
open PySem PySem.Spec
section
variable{prog:Program}{w:World}{A:Around}{E:Value->Shared->Prop}{h:Heap}{g:Array GenState}{d:Drawn}{t:Nat}{os:OsState}{R:Result->Shared->Prop}
variable{nm q:Str}{C N a:Addr}{bs bm bmB:List Value}{hdct:Bool}{sn:List Str}{sub:List Value}{ab:Bool}{col:Option Bool}{dd:Option Addr}{k0 k1 k2 k3 k5:Option Value}{newId:String}{o:Obj}
theorem zjL(T:Tail bmB bm)(ho:bmB.contains (.type "object")=true)(hC:h.get? C=some (excClassObj nm q C N bs bm hdct sn sub ab col dd k0 k1 k2 k3 k5 newId))(hx:h.get? a=some o)(hc:o.cls=.ref C)(hq:R (.ok (.ret (.ref C))) ⟨h,g,d,t,os⟩) :
  codeAny (model prog w) A (.call (.builtin "getset_descriptor.__get__") ⟨[.builtin "object.__class__", .ref a,.ref C],[]⟩) R ⟨h,g,d,t,os⟩:=by
 have hT5:(⟨h,g,d,t,os⟩:Shared).TypeIs (.builtin "object.__class__") "getset_descriptor" := PySem.F.typeOf_object_class
 have hcB:(Value.ref C::bm).contains (.type (".".intercalate ("object.__class__".cutAt '.').dropLast))=true:=by
  rw[PySem.F.owner_object_class,List.contains_cons,T _ _ ho];rfl
 refine codeAny_call_builtin PySem.F.slot_gs_get.plain PySem.F.entry_gs_get (PySem.F.slot_gs_get.check _ _ _ _ _ _ _ _ hT5 (PySem.F.args_gs_get _ _ _) ?_)
 repeat (any_goals (first|assumption|(with_reducible refine QL hx ?_;rw[hc])|(with_reducible refine Jq hC ?_;rw[hcB])|wp_step))
 refine ⟨Code.quiet_builtin _ (by decide +kernel),codeAny_builtin PySem.F.entry_object_class ?_⟩
 unfold Builtin.«object.__class__»
 repeat (any_goals (first|assumption|(with_reducible refine QL hx ?_;rw[hc])|wp_step))
theorem zg3{tk:Tok}{Q:PySem.Fin->Shared->Prop}(T:Tail bmB bm)(ho:bmB.contains (.type "object")=true)(hC:h.get? C=some (excClassObj nm q C N bs bm hdct sn sub ab col dd k0 k1 k2 k3 k5 newId))(fc:zcN (model prog w) C "__class__" (some (.builtin "object.__class__")) h)(hx:h.get? a=some o)(hc:o.cls=.ref C)(hq:Q (.done (.ret (.ref C))) ⟨h,g,d,t,os⟩) :
  wpAny (model prog w) A (Builtin.«object.__getattribute__» ⟨[.ref a,.str "__class__" tk],[]⟩) Q E ⟨h,g,d,t,os⟩:=by
 have hT5:(⟨h,g,d,t,os⟩:Shared).TypeIs (.builtin "object.__class__") "getset_descriptor" := PySem.F.typeOf_object_class
 have f5:=PySem.F.typeOf_object_class;have f6:=PySem.F.slot_gs_get.lookup;have f7:=PySem.F.slot_gs_set.lookup
 repeat (any_goals (first|assumption|(with_reducible refine QL hx ?_;rw[hc])|with_reducible refine fc.at ?_|wp_step))
 refine zjL T ho hC hx hc ?_
 repeat (any_goals (first|assumption|wp_step))
theorem ze3{Q:Option Value->Shared->Prop}(FB:ExcAttrFacts "ValueError")(T:Tail VB bm)(hC:h.get? C=some (excClassObj nm q C N bs bm hdct sn sub ab col dd k0 k1 k2 k3 k5 newId))(fc:zcN (model prog w) C "__class__" (some (.builtin "object.__class__")) h)
  (fg:zcN (model prog w) C "__getattribute__" (some (.builtin "BaseException.__getattribute__")) h) (fa:zcN (model prog w) C "__getattr__" none h) (hx:h.get? a=some o) (hc:o.cls=.ref C) (hq:Q (some (.ref C)) ⟨h,g,d,t+1,os⟩) :
  wpAny (model prog w) A (getAttr? (.ref a) "__class__") Q E ⟨h,g,d,t,os⟩:=by
 have f3:=FB.ga.bind (.ref a)
 have hx0:(false&&onTheHeap (Value.builtin "BaseException.__getattribute__"))=false:=rfl
 have hx2:(Value.builtin "BaseException.__getattribute__" == Value.builtin "object.__getattribute__")=false:=by decide +kernel
 have hx1:(onTheHeap (Value.ref C)&&Value.builtin "BaseException.__getattribute__" == Value.builtin "object.__getattribute__")=false:=by rw[hx2];rfl
 unfold getAttr? getAttrBy?;refine Qd (wpAny_mkText (Qd (wpAny_attempt ?_)))
 repeat (any_goals (first|assumption|(with_reducible refine QL hx ?_;rw[hc])|with_reducible refine fg.at ?_|with_reducible refine fa.at ?_|wp_step))
 refine codeAny_call_builtin FB.ga.plain PySem.F.entry_bexc_ga (zkS T rfl hC hx hc (zg3 T rfl hC fc hx hc ?_))
 repeat (any_goals (first|assumption|wp_step))
end
end L2
namespace L2
open PySem PySem.Spec PyProof.Rows
section
variable{prog:Program}{w:World}{A:Around}{E:Value->Shared->Prop}{h:Heap}{g:Array GenState}{d:Drawn}{t:Nat}{os:OsState}
variable{nm q nm' q':Str}{C N D N' a:Addr}{bs bm bs' bm':List Value}{hdct hdct':Bool}{sn sn':List Str}{sub sub':List Value}{ab ab':Bool}{col col':Option Bool}{dd dd':Option Addr}{k0 k1 k2 k3 k5 j0 j1 j2 j3 j5:Option Value}{newId newId':String}{o:Obj}{b:Bool}
theorem zpl{Q:Value->Shared->Prop}(T:Tail VB bm)(hC:h.get? C=some (excClassObj nm q C N bs bm hdct sn sub ab col dd k0 k1 k2 k3 k5 newId))(hD:h.get? D=some (excClassObj nm' q' D N' bs' bm' hdct' sn' sub' ab' col' dd' j0 j1 j2 j3 j5 newId'))
  (fc:zcN (model prog w) C "__class__" (some (.builtin "object.__class__")) h) (fg:zcN (model prog w) C "__getattribute__" (some (.builtin "BaseException.__getattribute__")) h) (fa:zcN (model prog w) C "__getattr__" none h)
  (hx:h.get? a=some o) (hc:o.cls=.ref C) (hb:(Value.ref C::bm).contains (.ref D)=b) (hq:∀tk,Q (.bool b) ⟨h,g,d,tk,os⟩):wpAny (model prog w) A (call (.builtin "isinstance") [.ref a,.ref D]) Q E ⟨h,g,d,t,os⟩:=by
 have hT:(⟨h,g,d,t,os⟩:Shared).TypeIs (.ref D) "type" := ⟨_,hD,rfl⟩
 have f2:=tc_sub;refine call_isinstance_of ?_ (λz=>nomatch z);unfold Builtin.«isinstance.nested»;refine Qd ?_;unfold typeOf;refine Qd (QL hx (Qh ?_));rw[hc]
 by_cases e:C=D
 ·subst e
  have hb1:b=true:=by rw[←hb];simp
  subst hb1;rw[if_pos (by simp)]
  exact Qd (wpAny_rule (Qh (hq t)))
 ·rw[if_neg (by simp[e])]
  refine Qd (Qd (QL hD (Qh ?_)))
  rw[Qn (show (Value.type "type" == Value.type "type")=true by decide)]
  k_delta "plainIsInstance"
  unfold isType isInstance
  repeat (first|(with_reducible refine QL hx ?_;rw[hc])|with_reducible refine QL hD ?_|with_reducible refine QL hC ?_|(with_reducible refine Jq hC ?_;rw[hb])|wp_step)
  cases b with
  |true=>wp_walk;exact hq t
  |false=>
   rw[QA (by decide)]
   refine Qd (ze3 PySem.F.excAttr_ValueError T hC fc fg fa hx hc ?_)
   repeat (first|with_reducible refine QL hC ?_|(with_reducible refine Jq hC ?_;rw[hb])|wp_step)
   exact hq _
theorem zqH{Q:Value->Shared->Prop}{X:String}(T:Tail VB bm)(hC:h.get? C=some (excClassObj nm q C N bs bm hdct sn sub ab col dd k0 k1 k2 k3 k5 newId))(hX:typeOf (.type X)=pure (.type "type"))
  (fc:zcN (model prog w) C "__class__" (some (.builtin "object.__class__")) h) (fg:zcN (model prog w) C "__getattribute__" (some (.builtin "BaseException.__getattribute__")) h) (fa:zcN (model prog w) C "__getattr__" none h)
  (hx:h.get? a=some o) (hc:o.cls=.ref C) (hb:(Value.ref C::bm).contains (.type X)=b) (hq:∀tk,Q (.bool b) ⟨h,g,d,tk,os⟩):wpAny (model prog w) A (call (.builtin "isinstance") [.ref a,.type X]) Q E ⟨h,g,d,t,os⟩:=by
 refine call_isinstance_of ?_ (λz=>nomatch z);unfold Builtin.«isinstance.nested»;refine Qd ?_
 have ty:∀{M:Model}{A:Around}{Q:Value->Shared->Prop}{E:Value->Shared->Prop},Q (.ref C) ⟨h,g,d,t,os⟩->wpAny M A (typeOf (.ref a)) Q E ⟨h,g,d,t,os⟩:=λq=>by
  unfold typeOf;refine Qd (QL hx (Qh ?_));rw[hc];exact q
 refine ty ?_;rw[if_neg (by simp)]
 refine Qd (wpAny_of_eq hX ?_)
 rw[Qn (show (Value.type "type" == Value.type "type")=true by decide)]
 k_delta "plainIsInstance"
 unfold isType isInstance
 repeat (first|(with_reducible refine QL hx ?_;rw[hc])|with_reducible refine QL hC ?_|(with_reducible refine Jq hC ?_;rw[hb])|wp_step)
 cases b with
 |true=>wp_walk;exact hq t
 |false=>
  rw[QA (by decide)]
  refine Qd (ze3 PySem.F.excAttr_ValueError T hC fc fg fa hx hc ?_)
  repeat (first|with_reducible refine QL hC ?_|(with_reducible refine Jq hC ?_;rw[hb])|wp_step)
  exact hq _
end
def rIsX(KC:Addr->List Value->Prop):List V->Hp->VK->Prop:=λxs H Q=>∃a C dd bm fr c b,xs=[.ref a,c]/\KC C bm/\H a=some (.ext (XO fr a C dd)) /\
 ((∃D bm',c=.ref D/\KC D bm'/\(Value.ref C::bm).contains (.ref D)=b) ∨ ∃T,c=.ty T/\typeOf (.type T)=pure (.type "type")/\(Value.ref C::bm).contains (.type T)=b)/\Q (.bl b) H
theorem znr{X:Cx}{KC:Addr->List Value->Prop}(hcls:∀C bm,KC C bm->∃fI,XCls (model X.prog X.w) X.base C bm fI):zc1 X (.builtin "isinstance") (rIsX KC):=by
 rintro pins s σ H xs us Q I r ⟨a,C,dd,bm,fr,c,b,rfl,kc,hx,hD,q⟩
 cases r with
 |cons ra r=>
 cases r with
 |cons rc r=>
 cases r;have ra':_=Value.ref a:=ra
 subst ra';obtain ⟨fI,XC⟩:=hcls C bm kc;obtain ⟨nm,qn,N,bs,sn,sub,ab,col,dd1,k0,k1,k2,k3,k5,hC⟩:=XC.obj;obtain ⟨⟨vs,sl,ga,_⟩,_,_⟩:=I.hok a _ hx;obtain ⟨hp,g,d,tk,os⟩:=s;rcases hD with ⟨D,bm',rfl,kd,hb⟩|⟨T,rfl,hT,hb⟩
 ·have rc':_=Value.ref D:=rc
  subst rc';obtain ⟨fI',XD'⟩:=hcls D bm' kd;obtain ⟨nm',qn',N',bs',sn',sub',ab',col',dd2,j0,j1,j2,j3,j5,hD'⟩:=XD'.obj;exact zpl XC.tail (I.bk _ _ hC) (I.bk _ _ hD') (XC.cl.keeps I.bk) (XC.ga.keeps I.bk) (XC.gh.keeps I.bk) ga rfl hb λtk'=>⟨.bl b,H,I.tok tk',rfl,q⟩
 ·have rc':_=Value.type T:=rc
  subst rc';exact zqH XC.tail (I.bk _ _ hC) hT (XC.cl.keeps I.bk) (XC.ga.keeps I.bk) (XC.gh.keeps I.bk) ga rfl hb λtk'=>⟨.bl b,H,I.tok tk',rfl,q⟩
def zr2(nm:Str):List Str:=if nm = "NoWishes" then ["part", "number"] else if nm = "NoAim" then ["part"] else if nm = "NoText" then ["row"] else []
def zqI(K:Frag)(nm:Str):Option Addr:=match PySem.W.nsIn K mainGlobals nm with|some (some (.ref C))=>some C|_=>none
def NmAt(K:Frag)(nm:Str)(C:Addr):Prop:=∃o cd,K.lookup C=some o/\o.data=.cls cd/\cd.name=nm
structure ClsK(K:Frag)(nm:Str)(C:Addr)(bm:List Value):Prop where
 ad:zqI K nm=some C
 nmd:NmAt K nm C
 up:nm = "DealError" /\ bm=VB∨nm ≠ "DealError" /\ ∃D,zqI K "DealError" = some D/\bm=.ref D::VB/\NmAt K "DealError" D
 cls:∀(M:Model)(h:Heap),K.In h->∃fI,XCls M h C bm fI
 fld:∀(M:Model)(h:Heap),K.In h->∀f∈(["part", "number", "row"]:List Str),zcN M C f none h
def KC(K:Frag):Addr->List Value->Prop:=λC bm=>∃nm,ClsK K nm C bm
section
variable{K:Frag}{nm x:Str}{C D:Addr}{bm bm':List Value}
theorem ClsK.ty(c:ClsK K nm C bm)(T:String):(Value.ref C::bm).contains (.type T)=VB.contains (.type T):=by
 rcases c.up with ⟨_,rfl⟩|⟨_,D',g,rfl,n⟩
 ·rfl
 ·rfl
end
section
variable{X:Cx}{e:Expr}{st:Stmt}{sts:List Stmt}{t:TE}{ts:TS}
theorem zr3(k:X.K.In X.base):∀C bm,KC X.K C bm->∃fI,XCls (model X.prog X.w) X.base C bm fI:=λ_ _ ⟨_,c⟩=>c.cls _ _ k
end
end L2
namespace DL
open PySem PySem.Spec L2
open PyProof.Rows hiding St
abbrev D:=PyData
abbrev XW:=V->St->Hp->Prop
abbrev KX0:XW:=λ_ _ _=>False
def XFs(G:Hp)(dd:Option Addr)(fs:List Str)(vs:List V):Prop:=match dd with
 |none=>fs=[]/\vs=[]
 |some dx=>fs.length=vs.length/\G dx=some (.ext (XD dx (fs.zip vs)))
theorem XFs.mono{G G1:Hp}{dd:Option Addr}{fs:List Str}{vs:List V}(e:Same G G1)(h:XFs G dd fs vs):XFs G1 dd fs vs:=by
 cases dd with
 |none=>exact h
 |some dx=>exact ⟨h.1,e _ _ h.2⟩
def kD:Key->D
 |.inl i=>.int i
 |.inr x=>.str x
def tkD(k:List Key):D:=.tuple (k.map kD)
def pdD(ks:List (List Key))(ds:List D):List (D×D):=(.bool true,.none)::(ks.map tkD).zip ds
mutual
inductive Rep(K:Frag)(G:Hp):V->D->Prop where
 |non:Rep K G .non .none
 |bl (b:Bool):Rep K G (.bl b) (.bool b)
 |int (i:Int):Rep K G (.int i) (.int i)
 |str (x:Str):Rep K G (.str x) (.str x)
 |lst {a:Addr} {vs:List V} {ds:List D} (h:SqL K G a vs) (r:Reps K G vs ds):Rep K G (.ref a) (.list ds)
 |tup {a:Addr} {vs:List V} {ds:List D} (h:SqT K G a vs) (r:Reps K G vs ds):Rep K G (.ref a) (.tuple ds)
 |dic {a:Addr} (h:G a=some (.dK [])):Rep K G (.ref a) (.dict [])
 |exc {a C:Addr} {dd:Option Addr} {bm:List Value} {nm:Str} {vs:List V} {ds:List D} (c:ClsK K nm C bm) (h:G a=some (.ext (XO false a C dd))) (hd:XFs G dd (zr2 nm) vs) (r:Reps K G vs ds):Rep K G (.ref a) (.dict [(.none,.tuple [.str nm,.list ds])])
 |dct {a:Addr} {ks:List Key} {vs:List V} {ds:List D} {kvs:List (D×D)} (e:kvs=(ks.map kD).zip ds) (hne:ks≠[]) (hl:ks.length=ds.length) (h:G a=some (.dK (ks.zip vs))) (r:Reps K G vs ds):Rep K G (.ref a) (.dict kvs)
 |dtt {a:Addr} {o:Obj} {ks:List (List Key)} {vs:List V} {ds:List D} {kvs:List (D×D)} (e:kvs=pdD ks ds) (hl:ks.length=ds.length) (h:G a=some (.frz o (.dT (ks.zip vs)))) (r:Reps K G vs ds):Rep K G (.ref a) (.dict kvs)
inductive Reps(K:Frag)(G:Hp):List V->List D->Prop where
 |nil:Reps K G [] []
 |cons {v:V} {d:D} {vs:List V} {ds:List D} (h:Rep K G v d) (t:Reps K G vs ds):Reps K G (v::vs) (d::ds)
end
variable{K:Frag}{B G0 G G1 G2 H H1 H2:Hp}
theorem zdF{a:Addr}{xs:List V}(e:Same G G1)(h:SqT K G a xs):SqT K G1 a xs:=by
 rcases h with (h|⟨o,h⟩)|h
 ·exact .inl (.inl (e _ _ h))
 ·exact .inl (.inr ⟨o,e _ _ h⟩)
 ·exact .inr h
mutual
theorem Rep.mono(e:Same G G1):∀{v:V}{d:D},Rep K G v d->Rep K G1 v d
 |_,_,.non=>.non
 |_,_,.bl b=>.bl b
 |_,_,.int i=>.int i
 |_,_,.str x=>.str x
 |_,_,.lst h r=>.lst (e.seq h) (Reps.mono e r)
 |_,_,.tup h r=>.tup (zdF e h) (Reps.mono e r)
 |_,_,.dic h=>.dic (e _ _ h)
 |_,_,.exc c h hd r=>.exc c (e _ _ h) (hd.mono e) (Reps.mono e r)
 |_,_,.dct z n l h r=>.dct z n l (e _ _ h) (Reps.mono e r)
 |_,_,.dtt z l h r=>.dtt z l (e _ _ h) (Reps.mono e r)
theorem Reps.mono(e:Same G G1):∀{vs:List V}{ds:List D},Reps K G vs ds->Reps K G1 vs ds
 |_,_,.nil=>.nil
 |_,_,.cons h t=>.cons (Rep.mono e h) (Reps.mono e t)
end
section
variable{v:V}{vs ws:List V}{ds es:List D}
theorem Rep.bl_inv{b:Bool}(h:Rep K G v (.bool b)):v=.bl b:=by cases h;rfl
theorem Rep.int_inv{i:Int}(h:Rep K G v (.int i)):v=.int i:=by cases h;rfl
theorem Rep.str_inv{x:Str}(h:Rep K G v (.str x)):v=.str x:=by cases h;rfl
theorem Rep.lst_inv(h:Rep K G v (.list ds)):∃a vs,v=.ref a/\SqL K G a vs/\Reps K G vs ds:=by
 cases h with
 |lst h r=>exact ⟨_,_,rfl,h,r⟩
theorem Rep.tup_inv(h:Rep K G v (.tuple ds)):∃a vs,v=.ref a/\SqT K G a vs/\Reps K G vs ds:=by
 cases h with
 |tup h r=>exact ⟨_,_,rfl,h,r⟩
theorem Reps.length:∀{vs:List V}{ds:List D},Reps K G vs ds->vs.length=ds.length
 |_,_,.nil=>rfl
 |_,_,.cons _ t=>by rw[QK,QK,Reps.length t]
theorem Reps.get:∀{vs:List V}{ds:List D}{i:Nat}{d:D},Reps K G vs ds->ds[i]?=some d->∃v,vs[i]?=some v/\Rep K G v d
 |_,_,_,_,.nil,e=>by simp at e
 |_,_,0,_,.cons h _,e=>by simp at e;subst e;exact ⟨_,rfl,h⟩
 |_,_,i+1,d,.cons _ t,e=>by
  obtain ⟨u,h1,h2⟩:=Reps.get (i:=i) (d:=d) t (by simpa using e)
  exact ⟨u,by simpa using h1,h2⟩
theorem Reps.append:∀{vs ws:List V}{ds es:List D},Reps K G vs ds->Reps K G ws es->Reps K G (vs++ws) (ds++es)
 |_,_,_,_,.nil,s=>s
 |_,_,_,_,.cons r t,s=>.cons r (Reps.append t s)
theorem Reps.take:∀{vs:List V}{ds:List D}(n:Nat),Reps K G vs ds->Reps K G (vs.take n) (ds.take n)
 |_,_,0,_=>by rw[J4,J4];exact .nil
 |_,_,_+1,.nil=>.nil
 |_,_,n+1,.cons r t=>.cons r (Reps.take n t)
theorem Reps.drop:∀{vs:List V}{ds:List D}(n:Nat),Reps K G vs ds->Reps K G (vs.drop n) (ds.drop n)
 |_,_,0,r=>r
 |_,_,_+1,.nil=>.nil
 |_,_,n+1,.cons _ t=>Reps.drop n t
theorem Reps.reverse:∀{vs:List V}{ds:List D},Reps K G vs ds->Reps K G vs.reverse ds.reverse
 |_,_,.nil=>.nil
 |_,_,.cons r t=>by rw[List.reverse_cons,List.reverse_cons];exact Reps.append (Reps.reverse t) (.cons r .nil)
theorem Reps.set{v:V}{d:D}(r:Rep K G v d):∀{vs:List V}{ds:List D}(i:Nat),Reps K G vs ds->Reps K G (vs.set i v) (ds.set i d)
 |_,_,_,.nil=>.nil
 |_,_,0,.cons _ t=>.cons r t
 |_,_,i+1,.cons q t=>.cons q (Reps.set r i t)
theorem Reps.ints:∀(ns:List Int),Reps K G (ns.map V.int) (ns.map int)
 |[]=>.nil
 |n::ns=>.cons (.int n) (Reps.ints ns)
end
inductive MO where
 |l (vs:List V)|k (kvs:List (Key×V))|t (kvs:List (List Key×V))
def MO.ho:MO->HO
 |.l vs=>.lst vs
 |.k kvs=>.dK kvs
 |.t kvs=>.dT kvs
structure Ext(G H G' H':Hp):Prop where
 h:Same H H'
 g:Same G G'
 gh:Same G' H'
 np:∀a(u:MO),H a=some u.ho->G a=none->G' a=none
theorem Ext.refl(e:Same G H):Ext G H G H:=⟨.refl _,.refl _,e,λ_ _ _ q=>q⟩
theorem Ext.trans{G' H' G'' H'':Hp}(a:Ext G H G' H')(b:Ext G' H' G'' H''):Ext G H G'' H'' :=
 ⟨a.h.trans b.h,a.g.trans b.g,b.gh,λx o e q=>b.np x o (a.h x _ e) (a.np x o e q)⟩
theorem zaO{p:Addr}{o:HO}(h:H p=none):Same H (upd H p o):=λb u e=>by rw[zaI (zaT e h)];exact e
theorem Ext.new{p:Addr}{o:HO}(e:Same G H)(h:H p=none):Ext G H (upd G p o) (upd H p o):=by
 have hg:G p=none:=e.free h;refine ⟨zaO h,zaO hg,λb u q=>?_,λa u q n=>?_⟩
 ·by_cases z:b=p
  ·subst z;rw[zaE] at q ⊢;exact q
  ·rw[zaI z] at q ⊢;exact e b u q
 ·rw[zaI (zaT q h)];exact n
theorem Ext.hid{p:Addr}{o:HO}(e:Same G H)(h:H p=none):Ext G H G (upd H p o) :=
 ⟨zaO h,.refl _,e.trans (zaO h),λ_ _ _ n=>n⟩
inductive Pat where
 |leaf|lst (p:Pat)|tup (ps:List Pat)
mutual
inductive RepO(K:Frag)(G H:Hp):Pat->V->D->List Addr->Prop where
 |leaf {v:V} {d:D} (r:Rep K G v d):RepO K G H .leaf v d []
 |lst {p:Pat} {a:Addr} {vs:List V} {ds:List D} {fp:List Addr} (h:H a=some (.lst vs)) (r:RepOl K G H p vs ds fp):RepO K G H (.lst p) (.ref a) (.list ds) (a::fp)
 |tup {ps:List Pat} {a:Addr} {vs:List V} {ds:List D} {fp:List Addr} (h:H a=some (.tup vs)) (r:RepOs K G H ps vs ds fp):RepO K G H (.tup ps) (.ref a) (.tuple ds) fp
inductive RepOl(K:Frag)(G H:Hp):Pat->List V->List D->List Addr->Prop where
 |nil {p:Pat}:RepOl K G H p [] [] []
 |cons {p:Pat} {v:V} {d:D} {vs:List V} {ds:List D} {f1 f2:List Addr} (h:RepO K G H p v d f1) (t:RepOl K G H p vs ds f2):RepOl K G H p (v::vs) (d::ds) (f1++f2)
inductive RepOs(K:Frag)(G H:Hp):List Pat->List V->List D->List Addr->Prop where
 |nil:RepOs K G H [] [] [] []
 |cons {p:Pat} {ps:List Pat} {v:V} {d:D} {vs:List V} {ds:List D} {f1 f2:List Addr} (h:RepO K G H p v d f1) (t:RepOs K G H ps vs ds f2):RepOs K G H (p::ps) (v::vs) (d::ds) (f1++f2)
end
mutual
theorem RepO.mono(sg:Same G G1)(sh:Same H H1):∀{p:Pat}{v:V}{d:D}{fp:List Addr},RepO K G H p v d fp->RepO K G1 H1 p v d fp
 |_,_,_,_,.leaf r=>.leaf (r.mono sg)
 |_,_,_,_,.lst h r=>.lst (sh _ _ h) (RepOl.mono sg sh r)
 |_,_,_,_,.tup h r=>.tup (sh _ _ h) (RepOs.mono sg sh r)
theorem RepOl.mono(sg:Same G G1)(sh:Same H H1):∀{p:Pat}{v:List V}{d:List D}{fp:List Addr},RepOl K G H p v d fp->RepOl K G1 H1 p v d fp
 |_,_,_,_,.nil=>.nil
 |_,_,_,_,.cons h t=>.cons (RepO.mono sg sh h) (RepOl.mono sg sh t)
theorem RepOs.mono(sg:Same G G1)(sh:Same H H1):∀{p:List Pat}{v:List V}{d:List D}{fp:List Addr},RepOs K G H p v d fp->RepOs K G1 H1 p v d fp
 |_,_,_,_,.nil=>.nil
 |_,_,_,_,.cons h t=>.cons (RepO.mono sg sh h) (RepOs.mono sg sh t)
end
mutual
theorem RepO.upd{a:Addr}{o:HO}(nt:∀vs,H a≠some (.tup vs)):∀{p:Pat}{v:V}{d:D}{fp:List Addr},RepO K G H p v d fp->a∉fp->RepO K G (upd H a o) p v d fp
 |_,_,_,_,.leaf r,_=>.leaf r
 |_,_,_,_,.lst h r,n=>.lst (by rw[zaI (λz=>n (by rw[z];exact Qm))];exact h) (RepOl.upd nt r λz=>n (Qk _ z))
 |_,_,_,_,.tup h r,n=>.tup (by rw[zaI (λz=>by subst z;exact nt _ h)];exact h) (RepOs.upd nt r n)
theorem RepOl.upd{a:Addr}{o:HO}(nt:∀vs,H a≠some (.tup vs)):∀{p:Pat}{v:List V}{d:List D}{fp:List Addr},RepOl K G H p v d fp->a∉fp->RepOl K G (upd H a o) p v d fp
 |_,_,_,_,.nil,_=>.nil
 |_,_,_,_,.cons h t,n=>.cons (RepO.upd nt h λz=>n (Q7 _ z)) (RepOl.upd nt t λz=>n (QJ _ z))
theorem RepOs.upd{a:Addr}{o:HO}(nt:∀vs,H a≠some (.tup vs)):∀{p:List Pat}{v:List V}{d:List D}{fp:List Addr},RepOs K G H p v d fp->a∉fp->RepOs K G (upd H a o) p v d fp
 |_,_,_,_,.nil,_=>.nil
 |_,_,_,_,.cons h t,n=>.cons (RepO.upd nt h λz=>n (Q7 _ z)) (RepOs.upd nt t λz=>n (QJ _ z))
end
mutual
theorem RepO.rep(gh:Same G H):∀{p:Pat}{v:V}{d:D}{fp:List Addr},RepO K G H p v d fp->Rep K H v d
 |_,_,_,_,.leaf r=>r.mono gh
 |_,_,_,_,.lst h r=>.lst (SqL.of h) (RepOl.rep gh r)
 |_,_,_,_,.tup h r=>.tup (SqT.of h) (RepOs.rep gh r)
theorem RepOl.rep(gh:Same G H):∀{p:Pat}{v:List V}{d:List D}{fp:List Addr},RepOl K G H p v d fp->Reps K H v d
 |_,_,_,_,.nil=>.nil
 |_,_,_,_,.cons h t=>.cons (RepO.rep gh h) (RepOl.rep gh t)
theorem RepOs.rep(gh:Same G H):∀{p:List Pat}{v:List V}{d:List D}{fp:List Addr},RepOs K G H p v d fp->Reps K H v d
 |_,_,_,_,.nil=>.nil
 |_,_,_,_,.cons h t=>.cons (RepO.rep gh h) (RepOs.rep gh t)
end
mutual
theorem RepO.isl:∀{p:Pat}{v:V}{d:D}{fp:List Addr},RepO K G H p v d fp->∀a∈fp,∃vs,H a=some (.lst vs)
 |_,_,_,_,.leaf r,a,m=>by cases m
 |_,_,_,_,.lst h r,a,m=>by
  rcases QR.mp m with rfl|m
  ·exact ⟨_,h⟩
  ·exact RepOl.isl r a m
 |_,_,_,_,.tup h r,a,m=>RepOs.isl r a m
theorem RepOl.isl:∀{p:Pat}{v:List V}{d:List D}{fp:List Addr},RepOl K G H p v d fp->∀a∈fp,∃vs,H a=some (.lst vs)
 |_,_,_,_,.nil,a,m=>by cases m
 |_,_,_,_,.cons h t,a,m=>by
  rcases QS.mp m with m|m
  ·exact RepO.isl h a m
  ·exact RepOl.isl t a m
theorem RepOs.isl:∀{p:List Pat}{v:List V}{d:List D}{fp:List Addr},RepOs K G H p v d fp->∀a∈fp,∃vs,H a=some (.lst vs)
 |_,_,_,_,.nil,a,m=>by cases m
 |_,_,_,_,.cons h t,a,m=>by
  rcases QS.mp m with m|m
  ·exact RepO.isl h a m
  ·exact RepOs.isl t a m
end
mutual
theorem RepO.uniq(sh:Same H H1):∀{p:Pat}{v:V}{d d':D}{fp fp':List Addr},RepO K G H p v d fp->RepO K G1 H1 p v d' fp'->fp=fp'
 |_,_,_,_,_,_,.leaf _,.leaf _=>rfl
 |_,_,_,_,_,_,.lst h r,.lst h' r'=>by
  have e:=sh _ _ h;rw[h'] at e;cases e;rw[RepOl.uniq sh r r']
 |_,_,_,_,_,_,.tup h r,.tup h' r'=>by
  have e:=sh _ _ h;rw[h'] at e;cases e;exact RepOs.uniq sh r r'
theorem RepOl.uniq(sh:Same H H1):∀{p:Pat}{v:List V}{d d':List D}{fp fp':List Addr},RepOl K G H p v d fp->RepOl K G1 H1 p v d' fp'->fp=fp'
 |_,_,_,_,_,_,.nil,.nil=>rfl
 |_,_,_,_,_,_,.cons h t,.cons h' t'=>by rw[RepO.uniq sh h h',RepOl.uniq sh t t']
theorem RepOs.uniq(sh:Same H H1):∀{p:List Pat}{v:List V}{d d':List D}{fp fp':List Addr},RepOs K G H p v d fp->RepOs K G1 H1 p v d' fp'->fp=fp'
 |_,_,_,_,_,_,.nil,.nil=>rfl
 |_,_,_,_,_,_,.cons h t,.cons h' t'=>by rw[RepO.uniq sh h h',RepOs.uniq sh t t']
end
inductive Sl where
 |pub (d:D)|own (ds:List D)|deep (p:Pat) (d:D)
abbrev DEnv:=List (Option Sl)
def DpOk(K:Frag)(B G H:Hp)(σ:St)(Z:DEnv):Prop:=∃ω:Addr->Nat,
 (∀(i:Nat) p d,Z[i]?=some (some (.deep p d))->∃v fp,σ[i]?=some (some v)/\RepO K G H p v d fp/\fp.Nodup/\∀a∈fp,B a=none/\G a=none/\ω a=i) /\
 (∀(i:Nat) ds a,Z[i]?=some (some (.own ds))->σ[i]?=some (some (.ref a))->ω a=i)
theorem DpOk.of{σ:St}{Z:DEnv}(h1:∀(i:Nat) p d,Z[i]?=some (some (.deep p d))->False)(h2:∀(i:Nat) ds,Z[i]?=some (some (.own ds))->False):DpOk K B G H σ Z :=
 ⟨λ_=>0,λi p d q=>(h1 i p d q).elim,λi ds a q=>(h2 i ds q).elim⟩
theorem DpOk.map{B1:Hp}{σ σ1:St}{Z Z1:DEnv}(k:DpOk K B G H σ Z)
  (h1:∀(i:Nat) p d,Z1[i]?=some (some (.deep p d))->Z[i]?=some (some (.deep p d))/\σ1[i]?=σ[i]?)
  (h2:∀(i:Nat) ds,Z1[i]?=some (some (.own ds))->∃es,Z[i]?=some (some (.own es))/\σ1[i]?=σ[i]?)
  (h3:∀(i:Nat) p d v fp,Z[i]?=some (some (.deep p d))->σ[i]?=some (some v)->RepO K G H p v d fp->(∀a∈fp,B a=none/\G a=none)->(∀(j:Nat) ds a,Z[j]?=some (some (.own ds))->σ[j]?=some (some (.ref a))->a∉fp)->RepO K G1 H1 p v d fp/\∀a∈fp,B1 a=none/\G1 a=none):DpOk K B1 G1 H1 σ1 Z1:=by
 obtain ⟨ω,k1,k2⟩:=k;refine ⟨ω,λi p d q=>?_,λi ds a q s=>?_⟩
 ·obtain ⟨q1,e1⟩:=h1 i p d q
  obtain ⟨v,fp,s,r,n,w⟩:=k1 i p d q1
  obtain ⟨r1,w1⟩:=h3 i p d v fp q1 s r (λa m=>⟨(w a m).1,(w a m).2.1⟩) λj ds a qj sj m=>by
   have z1:=k2 j ds a qj sj;have z2:=(w a m).2.2;rw[z1] at z2;subst z2;rw[q1] at qj;cases qj
  exact ⟨v,fp,by rw[e1];exact s,r1,n,λa m=>⟨(w1 a m).1,(w1 a m).2,(w a m).2.2⟩⟩
 ·obtain ⟨es,q1,e1⟩:=h2 i ds q
  rw[e1] at s;exact k2 i es a q1 s
structure EOk(K:Frag)(B G0 G H:Hp)(σ:St)(Z:DEnv):Prop where
 bh:Same B H
 gh:Same G H
 g0:Same G0 G
 np:∀a(u:MO),B a=some u.ho->G0 a=none->G a=none
 len:Z.length=σ.length
 pub:∀(i:Nat) d,Z[i]?=some (some (.pub d))->∃v,σ[i]?=some (some v)/\Rep K G v d
 own:∀(i:Nat) ds,Z[i]?=some (some (.own ds))->∃a vs,σ[i]?=some (some (.ref a))/\B a=none/\G a=none/\H a=some (.lst vs)/\Reps K G vs ds
 sep:∀(i j:Nat) a ds es,Z[i]?=some (some (.own ds))->Z[j]?=some (some (.own es))->σ[i]?=some (some (.ref a))->σ[j]?=some (some (.ref a))->i=j
 dp:DpOk K B G H σ Z
theorem EOk.ext{G' H':Hp}{σ:St}{Z:DEnv}(k:EOk K B G0 G H σ Z)(e:Ext G H G' H'):EOk K B G0 G' H' σ Z where
 bh:=k.bh.trans e.h
 gh:=e.gh
 g0:=k.g0.trans e.g
 np:=λa o q n=>e.np a o (k.bh a _ q) (k.np a o q n)
 len:=k.len
 pub:=λi d q=>let ⟨v,h1,h2⟩:=k.pub i d q;⟨v,h1,h2.mono e.g⟩
 own:=λi ds q=>let ⟨a,vs,h1,h2,h3,h4,h5⟩:=k.own i ds q;⟨a,vs,h1,h2,e.np a (.l _) h4 h3,e.h a _ h4,h5.mono e.g⟩
 sep:=k.sep
 dp:=k.dp.map (λ_ _ _ q=>⟨q,rfl⟩) (λ_ ds q=>⟨ds,q,rfl⟩) λi p d v fp q s r w n=>⟨r.mono e.g e.h,λa m=>let ⟨_,hl⟩:=r.isl a m;⟨(w a m).1,e.np a (.l _) hl (w a m).2⟩⟩
theorem EOk.publish{σ:St}{Z:DEnv}{i:Nat}{ds:List D}(k:EOk K B G0 G H σ Z)(h:Z[i]?=some (some (.own ds))) :
  ∃a G',σ[i]?=some (some (.ref a))/\Same G G'/\Rep K G' (.ref a) (.list ds)/\EOk K B G0 G' H σ (Z.set i (some (.pub (.list ds)))):=by
 obtain ⟨a,vs,h1,h2,h3,h4,h5⟩:=k.own i ds h;have sg:Same G (upd G a (.lst vs)):=zaO h3;have hr:Rep K (upd G a (.lst vs)) (.ref a) (.list ds):=.lst (SqL.of zaE) (h5.mono sg);refine ⟨a,upd G a (.lst vs),h1,sg,hr,⟨k.bh,λb u q=>?_,k.g0.trans sg,λb o q n=>?_,by rw[Q3];exact k.len,λj d q=>?_,λj es q=>?_,λj l c es fs q1 q2 s1 s2=>?_,?_⟩⟩
 ·by_cases z:b=a
  ·subst z;rw[zaE] at q;cases q;exact h4
  ·rw[zaI z] at q;exact k.gh b u q
 ·have z:b≠a:=λz=>by subst z;rw[h2] at q;cases q
  rw[zaI z];exact k.np b o q n
 ·by_cases z:i=j
  ·subst z
   have hl:i<Z.length:=(Qg.mp h).1;rw[QC hl] at q;cases q;exact ⟨.ref a,h1,hr⟩
  ·rw[Qo z] at q
   obtain ⟨v,g1,g2⟩:=k.pub j d q;exact ⟨v,g1,g2.mono sg⟩
 ·by_cases z:i=j
  ·subst z
   have hl:i<Z.length:=(Qg.mp h).1;rw[QC hl] at q;cases q
  ·rw[Qo z] at q
   obtain ⟨b,ws,g1,g2,g3,g4,g5⟩:=k.own j es q;have zb:b≠a:=λe=>z (k.sep i j a ds es h q h1 (by rw[←e];exact g1))
   exact ⟨b,ws,g1,g2,by rw[zaI zb];exact g3,g4,g5.mono sg⟩
 ·have nz:∀{m:Nat}{ts:List D},(Z.set i (some (Sl.pub (.list ds))))[m]?=some (some (.own ts))->Z[m]?=some (some (.own ts)):=λ{m ts} q=>by
   by_cases z:i=m
   ·subst z
    have hl:i<Z.length:=(Qg.mp h).1;rw[QC hl] at q;cases q
   ·rw[Qo z] at q;exact q
  exact k.sep j l c es fs (nz q1) (nz q2) s1 s2
 ·have hl:i<Z.length:=(Qg.mp h).1
  have nz:∀{m:Nat}{s:Sl},(Z.set i (some (Sl.pub (.list ds))))[m]?=some (some s)->(∃d,s=.pub d)∨Z[m]?=some (some s):=λ{m s} q=>by
   by_cases z:i=m
   ·subst z
    rw[QC hl] at q;cases q;exact .inl ⟨_,rfl⟩
   ·rw[Qo z] at q;exact .inr q
  refine k.dp.map (λm p d q=>?_) (λm es q=>?_) λm p d v fp q s r w n=>⟨r.mono sg (.refl _),λb mb=>⟨(w b mb).1,?_⟩⟩
  ·rcases nz q with ⟨_,e⟩|q
   ·cases e
   ·exact ⟨q,rfl⟩
  ·rcases nz q with ⟨_,e⟩|q
   ·cases e
   ·exact ⟨es,q,rfl⟩
  ·rw[zaI (λz=>by subst z;exact n i ds b h h1 mb)];exact (w b mb).2
inductive Res(α:Type) where
 |ok (a:α) (Z:DEnv)|bad
abbrev M(α:Type):=DEnv->Res α
def zah{α:Type}(a:α):M α:=λZ=>.ok a Z
def mOpt{α:Type}(o:Option α):M α:=λZ=>match o with|some a=>.ok a Z|none=>.bad
def zax{α β:Type}(f:M α)(k:α->M β):M β:=λZ=>match f Z with | .ok a Z'=>k a Z' | .bad=>.bad
section
variable(K:Frag)(B G0:Hp)
def aft{α γ:Type}(R:Hp->γ->α->Prop)(r:Res α)(G:Hp)(σ:St)(Q:γ->Hp->Prop):Prop :=
 match r with
 |.ok d Z'=>∀v G' H',EOk K B G0 G' H' σ Z'->Same G G'->R G' v d->Q v H'
 |.bad=>False
def tM{α γ:Type}(R:Hp->γ->α->Prop)(f:M α):St->Hp->(γ->Hp->Prop)->Prop:=λσ H Q=>
 ∃G Z,EOk K B G0 G H σ Z/\aft K B G0 R (f Z) G σ Q
abbrev tD(f:M D):TE:=tM K B G0 (Rep K) f
abbrev tDs(f:M (List D)):TA:=tM K B G0 (Reps K) f
abbrev tBo(f:M Bool):TT:=tM K B G0 (λ_ b c=>b=c) f
abbrev tOi(f:M (Option Int)):TO:=tM K B G0 (λ_ b c=>b=c) f
end
section
variable{K:Frag}{B G0:Hp}{α β γ δ ε:Type}{R:Hp->γ->α->Prop}{S:Hp->δ->β->Prop}{T:Hp->ε->α->Prop}{σ:St}{H:Hp}
theorem aft.mono{r:Res α}{G G':Hp}{Q:γ->Hp->Prop}(e:Same G G')(h:aft K B G0 R r G σ Q):aft K B G0 R r G' σ Q:=by
 cases r with
 |ok d Z=>exact λv G2 H2 k s q=>h v G2 H2 k (e.trans s) q
 |bad=>exact h
theorem aft.done{d:α}{Z:DEnv}{G G' H H':Hp}{v:γ}{Q:γ->Hp->Prop}(h:aft K B G0 R (.ok d Z) G σ Q)(k:EOk K B G0 G H σ Z)(e:Ext G H G' H')(r:R G' v d):Q v H' :=
 h v G' H' (k.ext e) e.g r
theorem aft.now{d:α}{Z:DEnv}{G H:Hp}{v:γ}{Q:γ->Hp->Prop}(h:aft K B G0 R (.ok d Z) G σ Q)(k:EOk K B G0 G H σ Z)(r:R G v d):Q v H :=
 h v G H k (.refl _) r
theorem aft.opt{o:Option α}{Z:DEnv}{G:Hp}{Q:γ->Hp->Prop}(h:aft K B G0 R (mOpt o Z) G σ Q):∃d,o=some d/\aft K B G0 R (.ok d Z) G σ Q:=by
 cases o with
 |none=>exact h.elim
 |some d=>exact ⟨d,rfl,h⟩
theorem tM.bind{f:M α}{k:α->M β}{Q:δ->Hp->Prop}(h:tM K B G0 S (zax f k) σ H Q) :
  tM K B G0 R f σ H (λv H1=>∃G Z d,EOk K B G0 G H1 σ Z/\R G v d/\aft K B G0 S (k d Z) G σ Q):=by
 obtain ⟨G,Z,e,a⟩:=h;refine ⟨G,Z,e,?_⟩;unfold zax at a
 cases q:f Z with
 |bad=>rw[q] at a;exact a.elim
 |ok d Z1=>
  rw[q] at a;exact λv G' H' e' s r=>⟨G',Z1,d,e',r,aft.mono s a⟩
theorem tM.bind2{α' γ':Type}{R':Hp->γ'->α'->Prop}{f:M α}{g:α->M α'}{k:α->α'->M β}{Q:δ->Hp->Prop}(mo:∀G G' v d,Same G G'->R G v d->R G' v d)
  (h:tM K B G0 S (zax f λx=>zax (g x) λy=>k x y) σ H Q) :
  tM K B G0 R f σ H (λv H1=>∃x,tM K B G0 R' (g x) σ H1 λu H2=>∃G Z y,EOk K B G0 G H2 σ Z/\R G v x/\R' G u y/\aft K B G0 S (k x y Z) G σ Q):=by
 obtain ⟨G,Z,e,a⟩:=tM.bind (R:=R) h;refine ⟨G,Z,e,?_⟩
 cases q:f Z with
 |bad=>rw[q] at a;exact a.elim
 |ok d Z1=>
  rw[q] at a;intro v G' H' e' s r;obtain ⟨G2,Z2,d2,e2,r2,a2⟩:=a v G' H' e' s r;refine ⟨d2,G2,Z2,e2,?_⟩;unfold zax at a2
  cases q2:g d2 Z2 with
  |bad=>rw[q2] at a2;exact a2.elim
  |ok d3 Z3=>
   rw[q2] at a2;exact λu G3 H3 e3 s3 r3=>⟨G3,Z3,d3,e3,mo _ _ _ _ s3 r2,r3,aft.mono s3 a2⟩
end
theorem zkT{K:Frag}(G G':Hp)(v:V)(d:D)(e:Same G G')(r:Rep K G v d):Rep K G' v d:=r.mono e
theorem tM.two{K:Frag}{B G0:Hp}{β δ:Type}{S:Hp->δ->β->Prop}{σ:St}{H:Hp}{f g:M D}{k:D->D->M β}{Q:δ->Hp->Prop}{P:V->V->Hp->Prop}
  (h:tM K B G0 S (zax f λx=>zax g λy=>k x y) σ H Q)
  (i:∀v u H2 G Z x y,EOk K B G0 G H2 σ Z->Rep K G v x->Rep K G u y->aft K B G0 S (k x y Z) G σ Q->P v u H2) :
  tD K B G0 f σ H (λv H1=>tD K B G0 g σ H1 λu H2=>P v u H2):=by
 obtain ⟨G,Z,e,a⟩:=tM.bind2 (R:=Rep K) (R':=Rep K) zkT h;refine ⟨G,Z,e,?_⟩
 cases q:f Z with
 |bad=>rw[q] at a;exact a.elim
 |ok d Z1=>
  rw[q] at a;intro v G' H' e' s r;obtain ⟨x,G2,Z2,e2,a2⟩:=a v G' H' e' s r;refine ⟨G2,Z2,e2,?_⟩
  cases q2:g Z2 with
  |bad=>rw[q2] at a2;exact a2.elim
  |ok d3 Z3=>
   rw[q2] at a2;intro u G3 H3 e3 s3 r3;obtain ⟨G4,Z4,y,e4,r4,r5,a5⟩:=a2 u G3 H3 e3 s3 r3;exact i v u H3 G4 Z4 x y e4 r4 r5 a5
theorem tM.one{K:Frag}{B G0:Hp}{α β γ δ:Type}{R:Hp->γ->α->Prop}{S:Hp->δ->β->Prop}{σ:St}{H:Hp}{f:M α}{k:α->M β}{Q:δ->Hp->Prop}{P:γ->Hp->Prop}
  (h:tM K B G0 S (zax f k) σ H Q) (i:∀v H2 G Z x,EOk K B G0 G H2 σ Z->R G v x->aft K B G0 S (k x Z) G σ Q->P v H2):tM K B G0 R f σ H P:=by
 obtain ⟨G,Z,e,a⟩:=tM.bind (R:=R) h;refine ⟨G,Z,e,?_⟩
 cases q:f Z with
 |bad=>rw[q] at a;exact a.elim
 |ok d Z1=>
  rw[q] at a;intro v G' H' e' s r;obtain ⟨G2,Z2,d2,e2,r2,a2⟩:=a v G' H' e' s r;exact i v H' G2 Z2 d2 e2 r2 a2
section
variable{X:Cx}{B G0:Hp}{e a b:Expr}{pos:Pos}
theorem peof{t t':TE}(h:PE X e t)(i:∀σ H Q,t' σ H Q->t σ H Q):PE X e t':=λpins s σ H Q I q=>h pins s σ H Q I (i σ H Q q)
theorem ptof{t t':TT}(h:PT X e t)(i:∀σ H Q,t' σ H Q->t σ H Q):PT X e t':=λpins s σ H Q I q=>h pins s σ H Q I (i σ H Q q)
theorem paof{es:List Expr}{t t':TA}(h:PA X es t)(i:∀σ H Q,t' σ H Q->t σ H Q):PA X es t':=λps pins s σ H Q I q=>h ps pins s σ H Q I (i σ H Q q)
theorem poof{eo:Option Expr}{t t':TO}(h:PO X eo t)(i:∀σ H Q,t' σ H Q->t σ H Q):PO X eo t':=λpins s σ H Q I q=>h pins s σ H Q I (i σ H Q q)
theorem psof{st:Stmt}{t t':TS}(h:PS X st t)(i:∀D σ H,t' D σ H->t D σ H):PS X st t':=λpins s σ H D I q=>h pins s σ H D I (i D σ H q)
theorem zpm{st:List Stmt}{t t':TS}(h:PSs X st t)(i:∀D σ H,t' D σ H->t D σ H):PSs X st t':=λpins s σ H D I q=>h pins s σ H D I (i D σ H q)
def dVar(i:Nat):M D:=λZ=>match Z[i]? with
 |some (some (.pub d))=>.ok d Z
 |some (some (.own ds))=>.ok (.list ds) (Z.set i (some (.pub (.list ds))))
 |_=>.bad
theorem zac{i:Nat}(h:PE X e (tVar i)):PE X e (tD X.K B G0 (dVar i)):=peof h λσ H Q ⟨G,Z,k,a⟩=>by
 unfold dVar at a
 cases q:Z[i]? with
 |none=>rw[q] at a;exact a.elim
 |some o=>
  cases o with
  |none=>rw[q] at a;exact a.elim
  |some sl=>
   cases sl with
   |deep _ _=>rw[q] at a;exact a.elim
   |pub d=>
    rw[q] at a;obtain ⟨v,h1,h2⟩:=k.pub i d q;exact ⟨v,h1,a.now k h2⟩
   |own ds=>
    rw[q] at a;obtain ⟨ad,G',h1,h2,h3,h4⟩:=k.publish q;exact ⟨.ref ad,h1,a (.ref ad) G' H h4 h2 h3⟩
theorem zi3{v:V}{d:D}(h:PE X e (tC v))(r:∀G,Rep X.K G v d):PE X e (tD X.K B G0 (zah d)):=peof h λσ H Q ⟨G,Z,k,a⟩=>a.now k (r G)
theorem zal{i:Int}{j}:PE X (.Constant (.int i) j pos) (tD X.K B G0 (zah (.int i))):=zi3 zqa λ_=>.int i
theorem zbn{i:Bool}{j}:PE X (.Constant (.bool i) j pos) (tD X.K B G0 (zah (.bool i))):=zi3 zrB λ_=>.bl i
theorem zel{j}:PE X (.Constant .none j pos) (tD X.K B G0 (zah .none)):=zi3 zqb λ_=>.non
theorem ze4{x:Str}{j}:PE X (.Constant (.str x) j pos) (tD X.K B G0 (zah (.str x))):=zi3 zqc λ_=>.str x
def dBin{β:Type}(op:D->D->Option β)(f g:M D):M β:=zax f λx=>zax g λy=>mOpt (op x y)
def OpD(X:Cx)(f:Value->Value->Sem Value)(op:D->D->Option D):Prop :=
 ∃r:R2,OpR X f r/\∀v u G H x y d Q,Same G H->Rep X.K G v x->Rep X.K G u y->op x y=some d->(∀w G' H',Ext G H G' H'->Rep X.K G' w d->Q w H')->r v u H Q
theorem zaz{op:Operator}{p:D->D->Option D}{f g:M D}(o:OpD X (binaryOp op) p)(ha:PE X a (tD X.K B G0 f))(hb:PE X b (tD X.K B G0 g)):PE X (.BinOp a op b pos) (tD X.K B G0 (dBin p f g)):=by
 obtain ⟨r,h,i⟩:=o;refine peof (zqo h ha hb) λσ H Q q=>?_;refine tM.two q λv u H2 G Z x y k rx ry a=>?_;obtain ⟨d,e,a⟩:=a.opt;exact i v u G H2 x y d Q k.gh rx ry e λw G' H' ex rw=>a.done k ex rw
theorem OpD.or{f:Value->Value->Sem Value}{p q:D->D->Option D}(h:OpD X f p)(h':OpD X f q):OpD X f (λx y=>(p x y).orElse λ_=>q x y):=by
 obtain ⟨r,h1,i1⟩:=h;obtain ⟨r',h2,i2⟩:=h';refine ⟨_,h1.or h2,λv u G H x y d Q s rx ry e k=>?_⟩;dsimp only at e
 cases z:p x y with
 |some d'=>
  rw[z] at e;have e':d'=d:=QY e;subst e';exact .inl (i1 v u G H x y d' Q s rx ry z k)
 |none=>
  rw[z] at e;exact .inr (i2 v u G H x y d Q s rx ry e k)
def oII(g:Int->Int->Option D):D->D->Option D
 |.int i,.int j=>g i j
 |_,_=>none
theorem zkU{g:Int->Int->Option D}{x y d:D}(e:oII g x y=some d):∃i j,x=.int i/\y=.int j/\g i j=some d:=by
 unfold oII at e
 split at e
 ·exact ⟨_,_,rfl,rfl,e⟩
 ·cases e
theorem OpD.int{f:Value->Value->Sem Value}{C:Int->Int->Prop}{g:Int->Int->V}{p:Int->Int->Option D}(h:OpR X f (rI C g))(i:∀i j d,p i j=some d->C i j/\∀G,Rep X.K G (g i j) d):OpD X f (oII p):=by
 refine ⟨_,h,λv u G H x y d Q s rx ry e k=>?_⟩;obtain ⟨a,b,rfl,rfl,e⟩:=zkU e;obtain ⟨c,r⟩:=i a b d e;exact ⟨a,b,rx.int_inv,ry.int_inv,c,k _ G H (.refl s) (r G)⟩
theorem OpD.int0{f:Value->Value->Sem Value}{g:Int->Int->V}{p:Int->Int->D}(h:OpR X f (rI0 g))(i:∀i j G,Rep X.K G (g i j) (p i j)):OpD X f (oII λi j=>some (p i j)):=by
 refine ⟨_,h,λv u G H x y d Q s rx ry e k=>?_⟩;obtain ⟨a,b,rfl,rfl,e⟩:=zkU e;cases e;exact ⟨a,b,rx.int_inv,ry.int_inv,k _ G H (.refl s) (i a b G)⟩
end
section
variable{X:Cx}{B G0:Hp}{e a b c:Expr}{pos:Pos}
theorem zqJ:OpD X (binaryOp .Add) (oII λi j=>some (.int (i+j))):=.int0 zqp λ_ _ _=>.int _
theorem zqK:OpD X (binaryOp .Sub) (oII λi j=>some (.int (i-j))):=.int0 zqq λ_ _ _=>.int _
def gMul(i j:Int):Option D:=if (-(2 ^ 64)<i/\i<2 ^ 64)∨(-(2 ^ 64)<j/\j<2 ^ 64) then some (.int (i*j)) else none
theorem zpn:OpD X (binaryOp .Mult) (oII gMul):=.int zqr λi j d h=>by
 unfold gMul at h
 split at h
 ·rename_i c
  cases h;exact ⟨c,λ_=>.int _⟩
 ·cases h
def gMod(i j:Int):Option D:=if 0<j then some (.int (i % j)) else none
theorem zqL:OpD X (binaryOp .Mod) (oII gMod):=.int zqs λi j d h=>by
 unfold gMod at h
 split at h
 ·rename_i c
  cases h;exact ⟨c,λ_=>.int _⟩
 ·cases h
theorem zns:OpR X (binaryOp .FloorDiv) (rI (λi j=>0<j/\j<2 ^ 64) λi j=>.int (i / j)):=opI λi j _ _ _ _ _ hc q=>by
 have h1:(0:Int)<j:=hc.1;have h2:j<2 ^ 64:=hc.2;refine floordiv_int (by omega) (by rw[Int.fdiv_eq_ediv_of_nonneg i (by omega)];exact q) (.inl (PyProof.noPylong_of_log2 ?_))
 have h0:j.natAbs≠0:=by omega
 have:j.natAbs.log2<64:=(Nat.log2_lt h0).mpr (by omega)
 omega
def gDiv(i j:Int):Option D:=if 0<j/\j<2 ^ 64 then some (.int (i / j)) else none
theorem zqM:OpD X (binaryOp .FloorDiv) (oII gDiv):=.int zns λi j d h=>by
 unfold gDiv at h
 split at h
 ·rename_i c
  cases h;exact ⟨c,λ_=>.int _⟩
 ·cases h
def gPow(i j:Int):Option D:=if 0<=j/\j<=1000000/\i.natAbs<2 ^ 64 then some (.int (i ^ j.toNat)) else none
theorem zqN:OpD X (binaryOp .Pow) (oII gPow):=.int zqt λi j d h=>by
 unfold gPow at h
 split at h
 ·rename_i c
  cases h;exact ⟨c,λ_=>.int _⟩
 ·cases h
theorem lim:(1000000:Nat)<=sizeLine:=by decide
def znt:D->D->Option D
 |.str x,.str y=>if x.length+y.length<=1000000 then some (.str (x++y)) else none
 |_,_=>none
theorem zpo:OpD X (binaryOp .Add) znt:=by
 refine ⟨_,zjK,λv u G H x y d Q s rx ry e k=>?_⟩;unfold znt at e
 split at e
 ·split at e
  ·rename_i c
   cases e;exact ⟨_,_,rx.str_inv,ry.str_inv,QH c lim,k _ G H (.refl s) (.str _)⟩
  ·cases e
 ·cases e
def zr4(K:Frag):R2:=λx y H Q=>∃l b xs zs,x=.ref l/\y=.ref b/\SqL K H l xs/\SqL K H b zs/\xs.length+zs.length<=sizeLine/\∀p,H p=none->Q (.ref p) (upd H p (.lst (xs++zs)))
theorem zpp:OpR X (binaryOp .Add) (zr4 X.K):=by
 intro pins s σ H x y v u Q I rx ry h;obtain ⟨l,b,xs,zs,rfl,rfl,hH,hB,hz,q⟩:=h;cases rx;cases ry;obtain ⟨its,r,⟨⟨c1,d1,t1,s1⟩,n1,e1,ec1,ed1,et1⟩,z1⟩:=I.list hH;obtain ⟨its2,r2,⟨⟨c2,d2,t2,s2⟩,n2,e2,ec2,ed2,et2⟩,z2⟩:=I.list hB;simp only at ec1 ed1 et1 ec2 ed2 et2;subst ec1 ed1 et1 ec2 ed2 et2;have hl:=r.length;have hl2:=r2.length;refine concat_meets ⟨_,e1,rfl⟩ ⟨_,e2,rfl⟩ noFill_list_add seq_list_add PySem.F.slot_list_add PySem.F.entry_list_add (PySem.F.args_list_add_2 _ _) (list_addW l b its.toArray its2.toArray n1 n2 none none s1 s2 (by rw[QM,QM];omega)) ⟨e1,e2,?_⟩
 have ea:its.toArray++its2.toArray=(its++its2).toArray:=by simp
 rw[ea];exact ⟨.ref _,_,I.lnew (t':=s.toks) (r.append r2) (by rw[Ql];omega),rfl,q _ I.fresh⟩
theorem zr5(a:Int)(t:Tok)(l:Addr)(items:Array Value)(n:Nat)(sl:Array (Option Value)) :
  Meets (Builtin.«int.__rmul__» ⟨[.int a t,.ref l],[]⟩) (λ_ R s=>s.heap.get? l=some { cls:=.type "list", dict:=none,data:=.seq items n,slots:=sl }/\R (.ok (.ret Value.notImplemented)) s) :=
 .of_wp λprog w A R s h=>by obtain ⟨hp,g,d,tk,os⟩:=s;obtain ⟨hl,h⟩:=h;wp_walk;exact ⟨_,rfl,h⟩
theorem mulW(l:Addr)(items:Array Value)(n:Nat)(x:Int)(u:Tok)(sl:Array (Option Value))(hc0:¬(!Builtin.List.listFitsIndex x)=true)(hc1:¬items.size*x.toNat > (2 ^ 63-1) / 8)(hc2:¬Builtin.List.listTooLong (items.size*x.toNat)=true) :
  Meets (Builtin.«list.__mul__» ⟨[.ref l,.int x u],[]⟩) (λ_ R s=>s.heap.get? l=some { cls:=.type "list", dict:=none,data:=.seq items n,slots:=sl }/\R (.ok (.ret (Value.ref s.heap.objs.size))) { s with heap:=s.heap.push { cls:=Value.type "list", data:=Data.seq (List.foldl (λx1 x2=>x1++x2) #[] (replicate (if items.isEmpty=true then 0 else x.toNat) items)) },toks:=s.toks }) :=
 .of_wp λprog w A R s h=>by
  obtain ⟨hp,g,d,tk,os⟩:=s;obtain ⟨hl,h⟩:=h;have hsz:=AutoListH.joined_fits hc2
  wp_walk;refine wpAny_ite_false (QQ (Nat.not_lt.mpr hsz)) ?_;wp_walk;exact ⟨_,rfl,h⟩
def zr6(K:Frag):R2:=λx y H Q=>∃l k xs,x=.ref l/\y=.int k/\SqL K H l xs /\ -(2 ^ 63)<=k/\k<2 ^ 63/\xs.length*k.toNat<=sizeLine /\
 ∀p,H p=none->Q (.ref p) (upd H p (.lst (replicate k.toNat xs).flatten))
theorem zkV:OpR X (binaryOp .Mult) (zr6 X.K):=by
 intro pins s σ H x y v u Q I rx ry h;obtain ⟨l,k,xs,rfl,rfl,hH,h1,h2,hz,q⟩:=h;cases rx;obtain ⟨t,rfl⟩:=ry;obtain ⟨its,r,⟨⟨c1,d1,t1,sl⟩,n,e,ec1,ed1,et1⟩,z⟩:=I.list hH;simp only at ec1 ed1 et1;subst ec1 ed1 et1;have hl:=r.length;have hlen:its.toArray.size*k.toNat<=sizeLine:=by rw[QM,←hl];exact hz
 have hcap:¬its.toArray.size*k.toNat > (2 ^ 63-1) / 8:=by
  have:(sizeLine:Nat)<=(2 ^ 63-1) / 8:=by decide
  omega
 have hfit:¬(!Builtin.List.listFitsIndex k)=true:=by
  rw[fitsIndex_both h1 h2];exact Jk
 have hlong:¬Builtin.List.listTooLong (its.toArray.size*k.toNat)=true:=by
  rw[zi2 hlen];exact Jk
 have hnew:List.foldl (λx1 x2=>x1++x2) #[] (replicate (if its.toArray.isEmpty=true then 0 else k.toNat) its.toArray)=(replicate k.toNat its).flatten.toArray:=by
  have f0:∀m:Nat,List.foldl (λx1 x2=>x1++x2) #[] (replicate m its.toArray)=(replicate m its).flatten.toArray:=λm=>by
   have:=zg1 its m []
   rw[Jp] at this;exact this
  rw[f0]
  cases its with
  |nil=>simp
  |cons a r'=>rw[if_neg (by simp)]
 refine wpAny_binaryOp_repeat_ref (T := "list") (U := "int") (by decide) ⟨_,e,rfl⟩ (λs'=>typeIs_int s' k t) noFill_list_mul F.fills_int_mul F.slot_int_rmul repeat_list F.slot_int_index.lookup
  (call_meets F.slot_int_rmul (typeIs_int s k t) F.entry_int_rmul (F.args_int_rmul_2 _ _) (zr5 k t l its.toArray n sl)
   ⟨e,rfl,⟨_,e,rfl⟩,call_meets F.slot_list_mul ⟨_,e,rfl⟩ F.entry_list_mul (F.args_list_mul_2 _ _) (mulW l its.toArray n k t sl hfit hcap hlong) ⟨e,?_⟩⟩)
 rw[hnew];exact ⟨.ref _,_,I.lnew (t':=s.toks) (r.rep k.toNat) (by rw[zph,Nat.mul_comm];exact hz),rfl,q _ I.fresh⟩
def znu:D->D->Option D
 |.list x,.list y=>if x.length+y.length<=1000000 then some (.list (x++y)) else none
 |_,_=>none
theorem zpq:OpD X (binaryOp .Add) znu:=by
 refine ⟨_,zpp,λv u G H x y d Q s rx ry e k=>?_⟩;unfold znu at e
 split at e
 ·split at e
  ·rename_i c
   cases e;obtain ⟨l,vs,rfl,h1,r1⟩:=rx.lst_inv
   obtain ⟨b,ws,rfl,h2,r2⟩:=ry.lst_inv;refine ⟨l,b,vs,ws,rfl,rfl,s.seq h1,s.seq h2,by rw[r1.length,r2.length];exact QH c lim,λp hp=>k _ _ _ (Ext.new s hp) ?_⟩
   exact .lst (SqL.of zaE) ((r1.append r2).mono (zaO (s.free hp)))
  ·cases e
 ·cases e
theorem Reps.rep{K:Frag}{G:Hp}{vs:List V}{ds:List D}(r:Reps K G vs ds):∀n:Nat,Reps K G (replicate n vs).flatten (replicate n ds).flatten
 |0=>.nil
 |n+1=>by rw[Q2,Q2,QO,QO];exact r.append (r.rep n)
def znv:D->D->Option D
 |.list x,.int k=>if -1000000<=k/\k<=1000000/\x.length*k.toNat<=1000000 then some (.list (replicate k.toNat x).flatten) else none
 |_,_=>none
theorem zpr:OpD X (binaryOp .Mult) znv:=by
 refine ⟨_,zkV,λv u G H x y d Q s rx ry e k=>?_⟩;unfold znv at e
 split at e
 ·split at e
  ·rename_i c
   cases e;obtain ⟨l,vs,rfl,h1,r1⟩:=rx.lst_inv
   refine ⟨l,_,vs,rfl,ry.int_inv,s.seq h1,by omega,by omega,by rw[r1.length];exact QH c.2.2 lim,λp hp=>k _ _ _ (Ext.new s hp) ?_⟩
   exact .lst (SqL.of zaE) ((r1.rep _).mono (zaO (s.free hp)))
  ·cases e
 ·cases e
def oAdd:D->D->Option D
 |.int i,.int j=>some (.int (i+j))
 |.str x,.str y=>if x.length+y.length<=1000000 then some (.str (x++y)) else none
 |.list x,.list y=>if x.length+y.length<=1000000 then some (.list (x++y)) else none
 |_,_=>none
def oSub:D->D->Option D
 |.int i,.int j=>some (.int (i-j))
 |_,_=>none
def oMul:D->D->Option D
 |.int i,.int j=>gMul i j
 |.list x,.int k=>if -1000000<=k/\k<=1000000/\x.length*k.toNat<=1000000 then some (.list (replicate k.toNat x).flatten) else none
 |_,_=>none
def oMod:D->D->Option D
 |.int i,.int j=>gMod i j
 |_,_=>none
def oDiv:D->D->Option D
 |.int i,.int j=>gDiv i j
 |_,_=>none
def oPow:D->D->Option D
 |.int i,.int j=>gPow i j
 |_,_=>none
theorem OpD.congr{f:Value->Value->Sem Value}{p q:D->D->Option D}(h:OpD X f p)(e:∀x y,q x y=p x y):OpD X f q:=by
 have:q=p:=by funext x y;exact e x y
 rw[this];exact h
theorem zba:OpD X (binaryOp .Add) oAdd:=(zqJ.or (zpo.or zpq)).congr λx y=>by cases x <;> cases y <;> first|rfl|(simp only[oAdd,oII,znt,znu,Option.orElse];done)|(simp only[oAdd,oII,znt,znu,Option.orElse];split <;> rfl)
theorem zdG:OpD X (binaryOp .Sub) oSub:=zqK.congr λx y=>by cases x <;> cases y <;> rfl
theorem zcz:OpD X (binaryOp .Mult) oMul:=(zpn.or zpr).congr λx y=>by
 cases x <;> cases y <;> first|rfl|(simp only[oMul,oII,znv,Option.orElse];done)|(simp only[oMul,oII,znv,Option.orElse];split <;> first|rfl|assumption)
theorem zif:OpD X (binaryOp .Mod) oMod:=zqL.congr λx y=>by cases x <;> cases y <;> rfl
theorem zqO:OpD X (binaryOp .FloorDiv) oDiv:=zqM.congr λx y=>by cases x <;> cases y <;> rfl
theorem zqP:OpD X (binaryOp .Pow) oPow:=zqN.congr λx y=>by cases x <;> cases y <;> rfl
end
section
variable{X:Cx}{B G0:Hp}{e a b c:Expr}{pos:Pos}
def OpB(X:Cx)(f:Value->Value->Sem Value)(op:D->D->Option Bool):Prop :=
 ∃r:R2,OpR X f r/\∀v u G H x y d Q,Same G H->Rep X.K G v x->Rep X.K G u y->op x y=some d->Q (.bl d) H->r v u H Q
theorem OpB.or{f:Value->Value->Sem Value}{p q:D->D->Option Bool}(h:OpB X f p)(h':OpB X f q):OpB X f (λx y=>(p x y).orElse λ_=>q x y):=by
 obtain ⟨r,h1,i1⟩:=h;obtain ⟨r',h2,i2⟩:=h';refine ⟨_,h1.or h2,λv u G H x y d Q s rx ry e k=>?_⟩;dsimp only at e
 cases z:p x y with
 |some d'=>
  rw[z] at e;have e':d'=d:=QY e;subst e';exact .inl (i1 v u G H x y d' Q s rx ry z k)
 |none=>
  rw[z] at e;exact .inr (i2 v u G H x y d Q s rx ry e k)
theorem OpB.congr{f:Value->Value->Sem Value}{p q:D->D->Option Bool}(h:OpB X f p)(e:∀x y,q x y=p x y):OpB X f q:=by
 have:q=p:=by funext x y;exact e x y
 rw[this];exact h
theorem zbb{op:CmpOp}{p:D->D->Option Bool}{f g:M D}(o:OpB X (compareOp op) p)(ha:PE X a (tD X.K B G0 f))(hb:PE X b (tD X.K B G0 g))(hm:behindInMarks op b=false) :
  PT X (.Compare a [op] [b] pos) (tBo X.K B G0 (dBin p f g)):=by
 obtain ⟨r,h,i⟩:=o;refine ptof (zia h ha hb hm) λσ H Q q=>?_;refine tM.two q λv u H2 G Z x y k rx ry a=>?_;obtain ⟨d,e,a⟩:=a.opt;exact i v u G H2 x y d _ k.gh rx ry e ⟨d,rfl,a.now k rfl⟩
def mMap{α β:Type}(h:α->β)(f:M α):M β:=zax f λx=>zah (h x)
theorem tM.map{K:Frag}{α β γ δ:Type}{R:Hp->γ->α->Prop}{S:Hp->δ->β->Prop}{σ:St}{H:Hp}{h:α->β}{f:M α}{Q:δ->Hp->Prop}(j:γ->δ)(q:tM K B G0 S (mMap h f) σ H Q)
  (i:∀G v x,R G v x->S G (j v) (h x)):tM K B G0 R f σ H (λv H'=>Q (j v) H') :=
 tM.one (R:=R) (f:=f) q λv H2 G Z x k r a=>aft.now (show aft K B G0 S (.ok (h x) Z) G σ Q from a) k (i G v x r)
theorem tBo.val{K:Frag}{σ:St}{H:Hp}{f:M Bool}{Q:VK}(q:tD K B G0 (mMap PyData.bool f) σ H Q):tBo K B G0 f σ H (λb H'=>Q (.bl b) H') :=
 tM.map (R:=λ_ b c=>b=c) V.bl q λG v x e=>by rw[e];exact .bl x
theorem zig{op:CmpOp}{p:D->D->Option Bool}{f g:M D}(o:OpB X (compareOp op) p)(ha:PE X a (tD X.K B G0 f))(hb:PE X b (tD X.K B G0 g))(hm:behindInMarks op b=false) :
  PE X (.Compare a [op] [b] pos) (tD X.K B G0 (mMap PyData.bool (dBin p f g))):=by
 obtain ⟨r,h,i⟩:=o;refine peof (zkI h ha hb hm) λσ H Q q=>?_;refine tM.two (tBo.val q) λv u H2 G Z x y k rx ry a=>?_;obtain ⟨d,e,a⟩:=a.opt;exact i v u G H2 x y d _ k.gh rx ry e (a.now k rfl)
def ze5(p q:D->D->Option Bool)(f g h:M D):M Bool:=zax f λx=>zax g λy=>zax (mOpt (p x y)) λt=>if t=true then zax h λz=>mOpt (q y z) else zah false
theorem zg4{op op':CmpOp}{p q:D->D->Option Bool}{f g h:M D}(o:OpB X (compareOp op) p)(o':OpB X (compareOp op') q)(ha:PE X a (tD X.K B G0 f))(hb:PE X b (tD X.K B G0 g))(hc:PE X c (tD X.K B G0 h))
  (hm:lastMarks [op,op'] [b,c]=false:=by with_unfolding_all rfl):PT X (.Compare a [op,op'] [b,c] pos) (tBo X.K B G0 (ze5 p q f g h)):=by
 obtain ⟨r,h1,i⟩:=o;obtain ⟨r',h2,i'⟩:=o';refine ptof (zni h1 h2 ha hb hc hm) λσ H Q w=>?_;refine tM.two w λv u H2 G Z x y k rx ry a=>?_
 cases z:p x y with
 |none=>rw[z] at a;exact a.elim
 |some t=>
  rw[z] at a;refine i v u G H2 x y t _ k.gh rx ry z ⟨t,rfl,?_⟩
  cases t with
  |false=>
   rw[QA Jk];exact ⟨false,rfl,aft.now a k rfl⟩
  |true=>
   rw[Qn rfl];refine ⟨G,Z,k,?_⟩;have a4:aft X.K B G0 (λ_ (b:Bool) c=>b=c) ((zax h λz=>mOpt (q y z)) Z) G σ Q:=a;unfold zax at a4
   cases z2:h Z with
   |bad=>rw[z2] at a4;exact a4.elim
   |ok d Z1=>
    rw[z2] at a4;intro w G5 H5 k5 s5 r5;obtain ⟨t2,e2,a6⟩:=a4.opt;exact i' u w G5 H5 y d t2 _ k5.gh (ry.mono s5) r5 e2 ⟨t2,rfl,a6 t2 G5 H5 k5 s5 rfl⟩
theorem zkW{op op':CmpOp}{p q:D->D->Option Bool}{f g h:M D}(o:OpB X (compareOp op) p)(o':OpB X (compareOp op') q)(ha:PE X a (tD X.K B G0 f))(hb:PE X b (tD X.K B G0 g))(hc:PE X c (tD X.K B G0 h))
  (hm:lastMarks [op,op'] [b,c]=false:=by with_unfolding_all rfl):PE X (.Compare a [op,op'] [b,c] pos) (tD X.K B G0 (mMap PyData.bool (ze5 p q f g h))):=by
 obtain ⟨r,h1,i⟩:=o;obtain ⟨r',h2,i'⟩:=o';refine peof (znh h1 h2 ha hb hc hm) λσ H Q w=>?_;refine tM.two (tBo.val w) λv u H2 G Z x y k rx ry a=>?_
 cases z:p x y with
 |none=>rw[z] at a;exact a.elim
 |some t=>
  rw[z] at a;refine i v u G H2 x y t _ k.gh rx ry z ⟨t,rfl,?_⟩
  cases t with
  |false=>
   rw[QA Jk];exact aft.now (v:=false) a k rfl
  |true=>
   rw[Qn rfl];refine ⟨G,Z,k,?_⟩;have a4:aft X.K B G0 (λ_ (b:Bool) c=>b=c) ((zax h λz=>mOpt (q y z)) Z) G σ (λb H'=>Q (.bl b) H'):=a;unfold zax at a4
   cases z2:h Z with
   |bad=>rw[z2] at a4;exact a4.elim
   |ok d Z1=>
    rw[z2] at a4;intro w G5 H5 k5 s5 r5;obtain ⟨t2,e2,a6⟩:=a4.opt;exact i' u w G5 H5 y d t2 _ k5.gh (ry.mono s5) r5 e2 (a6 t2 G5 H5 k5 s5 rfl)
def oIB(g:Int->Int->Bool):D->D->Option Bool
 |.int i,.int j=>some (g i j)
 |_,_=>none
theorem OpB.int{f:Value->Value->Sem Value}{g:Int->Int->Bool}(h:OpR X f (rI0 λi j=>.bl (g i j))):OpB X f (oIB g):=by
 refine ⟨_,h,λv u G H x y d Q s rx ry e k=>?_⟩;unfold oIB at e
 split at e
 ·cases e
  exact ⟨_,_,rx.int_inv,ry.int_inv,k⟩
 ·cases e
theorem B_lt:OpB X (compareOp .Lt) (oIB λi j=>decide (i<j)):=.int zrO
theorem B_le:OpB X (compareOp .LtE) (oIB λi j=>decide (i<=j)):=.int zrP
theorem B_gt:OpB X (compareOp .Gt) (oIB λi j=>decide (j<i)):=.int zrQ
theorem B_ge:OpB X (compareOp .GtE) (oIB λi j=>decide (j<=i)):=.int zrR
mutual
theorem zbz{pins:List (Addr×Obj)}{s:Shared}{σ:St}{G H:Hp}(I:Inv X pins σ H s)(sg:Same G H):∀{v:V}{d:D}{u:Value},Rep X.K G v d->RelV v u->d.canLay0=true->∃as,Reads s.heap u d as
 |_,_,_,.non,r,_=>by cases r;exact ⟨_,.none⟩
 |_,_,_,.bl b,r,_=>by cases r;exact ⟨_,.bool b⟩
 |_,_,_,.int i,r,_=>by obtain ⟨t,rfl⟩:=r;exact ⟨_,.int i t⟩
 |_,_,_,.str x,r,_=>by obtain ⟨t,rfl⟩:=r;exact ⟨_,.str x t⟩
 |_,_,_,.lst h q,r,c=>by
  cases r;obtain ⟨its,rv,⟨o,n,e,hc,_,hd⟩,hz⟩:=I.list (sg.seq h)
  obtain ⟨as,ra⟩:=readsAll_of I sg q rv (show PyData.canLayAll0 _=true by simpa[PyData.canLay0] using c)
  exact ⟨_,.list e hc hd (by simpa using ra)⟩
 |_,_,_,.tup h q,r,c=>by
  cases r;obtain ⟨its,rv,p,hz⟩:=I.tuple (zdF sg h)
  obtain ⟨o,e,hc,n,hd⟩:=p;obtain ⟨as,ra⟩:=readsAll_of I sg q rv (show PyData.canLayAll0 _=true by simpa[PyData.canLay0] using c)
  exact ⟨_,.tuple e hc hd (by simpa using ra)⟩
 |_,_,_,.dic h,r,c=>by simp[PyData.canLay0] at c
 |_,_,_,.exc _ _ _ _,r,c=>by simp[PyData.canLay0] at c
 |_,_,_,.dct _ _ _ _ _,r,c=>by simp[PyData.canLay0] at c
 |_,_,_,.dtt _ _ _ _,r,c=>by simp[PyData.canLay0] at c
theorem readsAll_of{pins:List (Addr×Obj)}{s:Shared}{σ:St}{G H:Hp}(I:Inv X pins σ H s)(sg:Same G H):∀{vs:List V}{ds:List D}{us:List Value},Reps X.K G vs ds->Vals vs us->PyData.canLayAll0 ds=true->∃as,ReadsAll s.heap us ds as
 |_,_,_,.nil,r,_=>by cases r;exact ⟨_,.nil⟩
 |_,_,_,.cons h t,r,c=>by
  cases r with
  |cons r1 r2=>
   have c':=c;rw[PyData.canLayAll0,Jm] at c';obtain ⟨as,ra⟩:=zbz I sg h r1 c'.1;obtain ⟨bs,rb⟩:=readsAll_of I sg t r2 c'.2;exact ⟨_,.cons ra rb⟩
end
def oEq(x y:D):Option Bool:=if x.canLay0=true/\y.canLay0=true/\x.depth<=60 then some (PyData.eqv x y) else none
def oNe(x y:D):Option Bool:=if x.canLay0=true/\y.canLay0=true/\x.depth<=60 then some (!PyData.eqv x y) else none
theorem B_eq(hu:X.A.units+64<cLine):OpB X (compareOp .Eq) oEq:=by
 refine ⟨λv u H Q=>∃G x y d,Same G H/\Rep X.K G v x/\Rep X.K G u y/\oEq x y=some d/\Q (.bl d) H,?_,λv u G H x y d Q s rx ry e k=>⟨G,x,y,d,s,rx,ry,e,k⟩⟩;intro pins s σ H x y v u Q I rx ry ⟨G,dx,dy,d,sg,px,py,e,q⟩;unfold oEq at e
 split at e
 ·rename_i c
  cases e;obtain ⟨as,ra⟩:=zbz I sg px rx c.1
  obtain ⟨bs,rb⟩:=zbz I sg py ry c.2.1;exact SeqAt.compareEq_reads ra rb c.1 c.2.1 (by have:=c.2.2;omega) ⟨.bl _,H,I,rfl,q⟩
 ·cases e
theorem B_ne(hu:X.A.units+64<cLine):OpB X (compareOp .NotEq) oNe:=by
 refine ⟨λv u H Q=>∃G x y d,Same G H/\Rep X.K G v x/\Rep X.K G u y/\oNe x y=some d/\Q (.bl d) H,?_,λv u G H x y d Q s rx ry e k=>⟨G,x,y,d,s,rx,ry,e,k⟩⟩;intro pins s σ H x y v u Q I rx ry ⟨G,dx,dy,d,sg,px,py,e,q⟩;unfold oNe at e
 split at e
 ·rename_i c
  cases e;obtain ⟨as,ra⟩:=zbz I sg px rx c.1
  obtain ⟨bs,rb⟩:=zbz I sg py ry c.2.1;exact SeqAt.compareNe_reads ra rb c.1 c.2.1 (by have:=c.2.2;omega) ⟨.bl _,H,I,rfl,q⟩
 ·cases e
def isNon:D->Bool
 |.none=>true
 |_=>false
theorem Rep.isNon{K:Frag}{G:Hp}{v:V}{d:D}(r:Rep K G v d):DL.isNon d=decide (v=.non):=by
 cases r <;> simp[DL.isNon]
end
section
variable{X:Cx}{B G0:Hp}{e a b c:Expr}{pos:Pos}{es rest:List Expr}
theorem tM.nx{K:Frag}{α β γ δ:Type}{R:Hp->γ->α->Prop}{S:Hp->δ->β->Prop}{σ:St}{G H:Hp}{Z:DEnv}{f:M α}{g:α->M β}{Q:δ->Hp->Prop}{P:γ->Hp->Prop}
  (k:EOk K B G0 G H σ Z) (a:aft K B G0 S (zax f g Z) G σ Q) (i:∀v H' G' Z' x,EOk K B G0 G' H' σ Z'->Same G G'->R G' v x->aft K B G0 S (g x Z') G' σ Q->P v H'):tM K B G0 R f σ H P:=by
 refine ⟨G,Z,k,?_⟩;unfold zax at a
 cases q:f Z with
 |bad=>rw[q] at a;exact a.elim
 |ok d Z1=>
  rw[q] at a;exact λv G' H' e s r=>i v H' G' Z1 d e s r (aft.mono s a)
def mAnd(f g:M Bool):M Bool:=zax f λt=>if t=true then g else zah false
def mOr(f g:M Bool):M Bool:=zax f λt=>if t=true then zah true else g
def mNot(f:M Bool):M Bool:=mMap (λt=>!t) f
theorem zps{K:Frag}{f g:M Bool}{σ:St}{H:Hp}{Q:Bool->Hp->Prop}(q:tBo K B G0 (mAnd f g) σ H Q):tAnd (tBo K B G0 f) (tBo K B G0 g) σ H Q :=
 tM.one (R:=λ_ b c=>b=c) q λv H2 G Z x k r a=>by
  have r:v=x:=r;subst r
  cases v with
  |true=>exact ⟨G,Z,k,a⟩
  |false=>exact aft.now (v:=false) a k rfl
theorem zqQ{K:Frag}{f g:M Bool}{σ:St}{H:Hp}{Q:Bool->Hp->Prop}(q:tBo K B G0 (mOr f g) σ H Q):tOr (tBo K B G0 f) (tBo K B G0 g) σ H Q :=
 tM.one (R:=λ_ b c=>b=c) q λv H2 G Z x k r a=>by
  have r:v=x:=r;subst r
  cases v with
  |false=>exact ⟨G,Z,k,a⟩
  |true=>exact aft.now (v:=true) a k rfl
theorem pwof{t t':TT}(h:PW X e t)(i:∀σ H Q,t' σ H Q->t σ H Q):PW X e t':=λwh pins s σ H Q I q=>h wh pins s σ H Q I (i σ H Q q)
theorem zdQ{f:M Bool}(ha:PT X a (tBo X.K B G0 f)):PW X (.BoolOp .And [a] pos) (tBo X.K B G0 f):=zo3 ha
theorem zbP{f:M Bool}(ha:PT X a (tBo X.K B G0 f)):PW X (.BoolOp .Or [a] pos) (tBo X.K B G0 f):=zqf ha
theorem ze6{f g:M Bool}(ha:PT X a (tBo X.K B G0 f))(hb:PW X (.BoolOp .And (b::rest) pos) (tBo X.K B G0 g)):PW X (.BoolOp .And (a::b::rest) pos) (tBo X.K B G0 (mAnd f g)):=pwof (zqg ha hb) λ_ _ _ q=>zps q
theorem zcn{f g:M Bool}(ha:PT X a (tBo X.K B G0 f))(hb:PW X (.BoolOp .Or (b::rest) pos) (tBo X.K B G0 g)):PW X (.BoolOp .Or (a::b::rest) pos) (tBo X.K B G0 (mOr f g)):=pwof (zrD ha hb) λ_ _ _ q=>zqQ q
theorem za8{f:M Bool}(ha:PT X a (tBo X.K B G0 f)):PT X (.UnaryOp .Not a pos) (tBo X.K B G0 (mNot f)):=ptof (zqh ha) λσ H Q q=>tM.map (R:=λ_ b c=>b=c) (λt=>!t) q λ_ v x e=>by rw[e]
def zbq(f:M D):M Bool:=zax f λx=>match x with | .bool t=>zah t|_=>λ_=>.bad
theorem zbf{f:M D}(h:PE X e (tD X.K B G0 f))(he:∀whole,isTrue e X.env whole=(do let v ←whole;standAt e.pos;holding [v] (truthy v)):=by intro _;rfl):PT X e (tBo X.K B G0 (zbq f)) :=
 ptof (zqe h he) λσ H Q q=>tM.one (R:=Rep X.K) q λv H2 G Z x k r a=>by
  cases x with
  |bool t=>exact ⟨t,r.bl_inv,aft.now (v:=t) a k rfl⟩
  |_=>exact a.elim
def zih(f g:M D):M D:=zax f λx=>match x with | .bool true=>g | .bool false=>zah (.bool false)|_=>λ_=>.bad
def mOrV(f g:M D):M D:=zax f λx=>match x with | .bool true=>zah (.bool true) | .bool false=>g|_=>λ_=>.bad
def zkX(f:M D):M D:=zax f λx=>match x with | .bool t=>zah (.bool (!t))|_=>λ_=>.bad
theorem zgj{f g:M D}(ha:PE X a (tD X.K B G0 f))(hb:PE X (.BoolOp .And (b::rest) pos) (tD X.K B G0 g)):PE X (.BoolOp .And (a::b::rest) pos) (tD X.K B G0 (zih f g)) :=
 peof (zqj ha hb) λσ H Q q=>tM.one (R:=Rep X.K) q λv H2 G Z x k r a=>by
  cases x with
  |bool t=>
   refine ⟨t,r.bl_inv,?_⟩
   cases t with
   |true=>exact ⟨G,Z,k,a⟩
   |false=>exact aft.now a k (.bl false)
  |_=>exact a.elim
theorem zqR{f g:M D}(ha:PE X a (tD X.K B G0 f))(hb:PE X (.BoolOp .Or (b::rest) pos) (tD X.K B G0 g)):PE X (.BoolOp .Or (a::b::rest) pos) (tD X.K B G0 (mOrV f g)) :=
 peof (zrG ha hb) λσ H Q q=>tM.one (R:=Rep X.K) q λv H2 G Z x k r a=>by
  cases x with
  |bool t=>
   refine ⟨t,r.bl_inv,?_⟩
   cases t with
   |false=>exact ⟨G,Z,k,a⟩
   |true=>exact aft.now a k (.bl true)
  |_=>exact a.elim
theorem ze7{op}{f:M D}(h:PE X a (tD X.K B G0 f)):PE X (.BoolOp op [a] pos) (tD X.K B G0 f):=zqi h
theorem zkY{f:M D}(ha:PE X a (tD X.K B G0 f)):PE X (.UnaryOp .Not a pos) (tD X.K B G0 (zkX f)) :=
 peof (zqk ha) λσ H Q q=>tM.one (R:=Rep X.K) q λv H2 G Z x k r a=>by
  cases x with
  |bool t=>exact ⟨t,r.bl_inv,aft.now a k (.bl _)⟩
  |_=>exact a.elim
def mIf{α:Type}(f:M Bool)(g h:M α):M α:=zax f λt=>if t=true then g else h
theorem ze8{f:M Bool}{g h:M D}(hc:PT X c (tBo X.K B G0 f))(ha:PE X a (tD X.K B G0 g))(hb:PE X b (tD X.K B G0 h)):PE X (.IfExp c a b pos) (tD X.K B G0 (mIf f g h)) :=
 peof (znf hc ha hb) λσ H Q q=>tM.one (R:=λ_ b c=>b=c) q λv H2 G Z x k r a=>by
  have r:v=x:=r;subst r
  cases v with
  |true=>exact ⟨G,Z,k,a⟩
  |false=>exact ⟨G,Z,k,a⟩
theorem zkZ{f:M D}{j p2}(ha:PE X a (tD X.K B G0 f)):PT X (.Compare a [.Is] [.Constant .none j p2] pos) (tBo X.K B G0 (mMap isNon f)) :=
 ptof (zov (zou ha)) λσ H Q q=>tM.one (R:=Rep X.K) q λv H2 G Z x k r a=>⟨_,rfl,aft.now a k (by rw[r.isNon])⟩
theorem zc2{f:M D}{j p2}(ha:PE X a (tD X.K B G0 f)):PT X (.Compare a [.IsNot] [.Constant .none j p2] pos) (tBo X.K B G0 (mMap (λd=>!isNon d) f)) :=
 ptof (zov (zo2 ha)) λσ H Q q=>tM.one (R:=Rep X.K) q λv H2 G Z x k r a=>⟨_,rfl,aft.now a k (by dsimp only;rw[r.isNon])⟩
theorem zpt{f:M D}{j p2}(ha:PE X a (tD X.K B G0 f)):PE X (.Compare a [.Is] [.Constant .none j p2] pos) (tD X.K B G0 (mMap (λd=>.bool (isNon d)) f)) :=
 peof (zqd (zou ha)) λσ H Q q=>tM.one (R:=Rep X.K) q λv H2 G Z x k r a=>aft.now a k (by dsimp only;rw[r.isNon];exact .bl _)
def mNil:M (List D):=zah []
def zae(f:M D)(g:M (List D)):M (List D):=zax f λx=>zax g λxs=>zah (x::xs)
theorem zaf:PA X [] (tDs X.K B G0 mNil):=paof zeC λσ H Q ⟨G,Z,k,a⟩=>aft.now a k .nil
theorem tM.twoA{K:Frag}{σ:St}{H:Hp}{f:M D}{g:M (List D)}{β δ:Type}{S:Hp->δ->β->Prop}{k:D->List D->M β}{Q:δ->Hp->Prop}{P:V->List V->Hp->Prop}
  (h:tM K B G0 S (zax f λx=>zax g λy=>k x y) σ H Q)
  (i:∀v u H2 G Z x y,EOk K B G0 G H2 σ Z->Rep K G v x->Reps K G u y->aft K B G0 S (k x y Z) G σ Q->P v u H2) :
  tD K B G0 f σ H (λv H1=>tDs K B G0 g σ H1 λu H2=>P v u H2):=by
 obtain ⟨G,Z,e,a⟩:=tM.bind2 (R:=Rep K) (R':=Reps K) zkT h;refine ⟨G,Z,e,?_⟩
 cases q:f Z with
 |bad=>rw[q] at a;exact a.elim
 |ok d Z1=>
  rw[q] at a;intro v G' H' e' s r;obtain ⟨x,G2,Z2,e2,a2⟩:=a v G' H' e' s r;refine ⟨G2,Z2,e2,?_⟩
  cases q2:g Z2 with
  |bad=>rw[q2] at a2;exact a2.elim
  |ok d3 Z3=>
   rw[q2] at a2;intro u G3 H3 e3 s3 r3;obtain ⟨G4,Z4,y,e4,r4,r5,a5⟩:=a2 u G3 H3 e3 s3 r3;exact i v u H3 G4 Z4 x y e4 r4 r5 a5
theorem zaa{f:M D}{g:M (List D)}(ha:PE X e (tD X.K B G0 f))(hr:PA X es (tDs X.K B G0 g))(hs:starEach (e::es) X.env=(false,eval e X.env)::starEach es X.env:=by rfl) :
  PA X (e::es) (tDs X.K B G0 (zae f g)):=paof (zcM ha hr hs) λσ H Q q=>tM.twoA q λv u H2 G Z x y k r1 r2 a=>aft.now a k (.cons r1 r2)
def mTup(f:M (List D)):M D:=zax f λxs=>if xs.length<=1000000 then zah (.tuple xs) else λ_=>.bad
def mLst(f:M (List D)):M D:=zax f λxs=>if xs.length<=1000000 then zah (.list xs) else λ_=>.bad
theorem zbJ{x1}{f:M (List D)}(h:PA X es (tDs X.K B G0 f)):PE X (.Tuple es x1 pos) (tD X.K B G0 (mTup f)) :=
 peof (zoB h) λσ H Q q=>tM.one (R:=Reps X.K) q λv H2 G Z x k r a=>by
  split at a
  ·rename_i c
   refine ⟨by rw[r.length];exact QH c lim,λp hp=>?_⟩
   exact aft.done a k (Ext.new k.gh hp) (.tup (SqT.of zaE) (r.mono (zaO (k.gh.free hp))))
  ·exact a.elim
theorem zbs{f:M (List D)}(h:PA X es (tDs X.K B G0 f)):PE X (.List es pos) (tD X.K B G0 (mLst f)) :=
 peof (zoC h) λσ H Q q=>tM.one (R:=Reps X.K) q λv H2 G Z x k r a=>by
  split at a
  ·rename_i c
   refine ⟨by rw[r.length];exact QH c lim,λp hp=>?_⟩
   exact aft.done a k (Ext.new k.gh hp) (.lst (SqL.of zaE) (r.mono (zaO (k.gh.free hp))))
  ·exact a.elim
def oIx:D->D->Option D
 |.list xs,.int i=>atI xs i
 |.tuple xs,.int i=>atI xs i
 |.str z,.int i=>if z.length<=1000000 then (atI z.cps.toList i).map λc=>.str ⟨#[c]⟩ else none
 |_,_=>none
theorem Reps.atI{K:Frag}{G:Hp}{vs:List V}{ds:List D}{i:Int}{d:D}(r:Reps K G vs ds)(h:L2.atI ds i=some d):∃v,L2.atI vs i=some v/\Rep K G v d:=by
 unfold L2.atI at h ⊢;rw[r.length]
 cases z:ixN ds.length i with
 |none=>rw[z] at h;cases h
 |some j=>
  rw[z] at h;exact r.get (i:=j) h
theorem zoF{K:Frag}{v u:V}{G H:Hp}{x y d:D}{Q:VK}(s:Same G H)(rx:Rep K G v x)(ry:Rep K G u y)(e:oIx x y=some d)(k:∀w,Rep K G w d->Q w H):rIx K v u H Q:=by
 unfold oIx at e
 split at e
 ·obtain ⟨l,vs,rfl,h1,r1⟩:=rx.lst_inv
  obtain ⟨w,e1,r2⟩:=r1.atI e;exact .inl ⟨l,vs,_,w,rfl,ry.int_inv,s.seq h1,e1,k w r2⟩
 ·obtain ⟨l,vs,rfl,h1,r1⟩:=rx.tup_inv
  obtain ⟨w,e1,r2⟩:=r1.atI e;exact .inr (.inl ⟨l,vs,_,w,rfl,ry.int_inv,zdF s h1,e1,k w r2⟩)
 ·split at e
  ·rename_i z i hz
   cases q:L2.atI z.cps.toList i with
   |none=>rw[q] at e;cases e
   |some ch=>
    rw[q] at e;cases e;exact .inr (.inr ⟨z,i,ch,rx.str_inv,ry.int_inv,QH hz lim,q,k _ (.str _)⟩)
  ·cases e
 ·cases e
theorem zcP{f g:M D}(ha:PE X a (tD X.K B G0 f))(hb:PE X b (tD X.K B G0 g))(hs:zid b):PE X (.Subscript a b pos) (tD X.K B G0 (dBin oIx f g)) :=
 peof (zqy zoD ha hb hs) λσ H Q q=>tM.two q λv u H2 G Z x y k rx ry a=>by
  obtain ⟨d,e,a⟩:=a.opt;exact zoF k.gh rx ry e λw r=>a.now k r
def dIxN(i:Nat)(g:M D):M D:=λZ=>match Z[i]? with
 |some (some (.pub d))=>(zax g λy=>mOpt (oIx d y)) Z
 |some (some (.own _))=>(zax g λy=>λZ'=>match Z'[i]? with|some (some (.own ds))=>mOpt (oIx (.list ds) y) Z'|_=>.bad) Z
 |_=>.bad
theorem zas{i:Nat}{g:M D}(ha:PE X a (tVar i))(hb:PE X b (tD X.K B G0 g))(hs:zid b):PE X (.Subscript a b pos) (tD X.K B G0 (dIxN i g)) :=
 peof (zqy zoD ha hb hs) λσ H Q ⟨G,Z,k,a⟩=>by
  unfold dIxN at a
  cases q:Z[i]? with
  |none=>rw[q] at a;exact a.elim
  |some o=>
   cases o with
   |none=>rw[q] at a;exact a.elim
   |some sl=>
    cases sl with
    |deep _ _=>rw[q] at a;exact a.elim
    |pub d=>
     rw[q] at a;obtain ⟨v,h1,h2⟩:=k.pub i d q;refine ⟨v,h1,G,Z,k,?_⟩;dsimp only[zax] at a
     cases z:g Z with
     |bad=>rw[z] at a;exact a.elim
     |ok y Z1=>
      rw[z] at a;intro u G' H' k' s' r';obtain ⟨d',e',a'⟩:=aft.opt a;exact zoF k'.gh (h2.mono s') r' e' λw r=>a' w G' H' k' s' r
    |own ds=>
     rw[q] at a;obtain ⟨ad,vs,h1,h2,h3,h4,h5⟩:=k.own i ds q;refine ⟨.ref ad,h1,G,Z,k,?_⟩;dsimp only[zax] at a
     cases z:g Z with
     |bad=>rw[z] at a;exact a.elim
     |ok y Z1=>
      rw[z] at a;dsimp only at a;intro u G' H' k' s' r'
      cases z2:Z1[i]? with
      |none=>rw[z2] at a;exact a.elim
      |some o2=>
       cases o2 with
       |none=>rw[z2] at a;exact a.elim
       |some sl2=>
        cases sl2 with
        |deep _ _=>rw[z2] at a;exact a.elim
        |pub d2=>rw[z2] at a;exact a.elim
        |own es2=>
         rw[z2] at a;obtain ⟨d',e',a'⟩:=aft.opt a;obtain ⟨ad',vs',g1,g2,g3,g4,g5⟩:=k'.own i es2 z2;rw[h1] at g1;cases g1;unfold oIx at e'
         cases y with
         |int j=>
          obtain ⟨w,e1,r2⟩:=g5.atI e';exact .inl ⟨ad,vs',j,w,rfl,r'.int_inv,SqL.of g4,e1,a' w G' H' k' s' r2⟩
         |_=>cases e'
def cutD(xs:List D)(lo hi:Option Int):List D:=(xs.drop (HT.sIx xs.length 0 lo)).take (HT.sIx xs.length xs.length hi-HT.sIx xs.length 0 lo)
theorem Reps.cut{K:Frag}{G:Hp}{vs:List V}{ds:List D}(r:Reps K G vs ds)(lo hi:Option Int):Reps K G (cutV vs lo hi) (cutD ds lo hi):=by
 unfold cutV cutD;rw[r.length];exact (r.drop _).take _
def zde:D->Option (Option Int)
 |.int i=>some (some i)
 |_=>none
theorem zdR:PO X none (tOi X.K B G0 (zah none)):=poof zpa λσ H Q ⟨G,Z,k,a⟩=>aft.now a k rfl
theorem zbL{f:M D}(h:PE X e (tD X.K B G0 f)):PO X (some e) (tOi X.K B G0 (zax f λx=>mOpt (zde x))):=poof (zpb h) λσ H Q q=>tM.one (R:=Rep X.K) q λv H2 G Z x k r a=>by
 cases x with
 |int i=>exact ⟨i,r.int_inv,aft.now (v:=some i) a k rfl⟩
 |_=>exact a.elim
end
def excK:List (D×D)->Bool
 |(.none,_)::_=>true
 |_=>false
def tyOf:D->String
 |.none=> "NoneType"
 |.bool _=> "bool"
 |.int _=> "int"
 |.str _=> "str"
 |.list _=> "list"
 |.tuple _=> "tuple"
 |.dict kvs=>if excK kvs=true then "" else "dict"
def isTy(d:D)(c:String):Bool:=tyOf d==c || (tyOf d == "bool" && c == "int")
def zk0:D->Bool
 |.dict kvs=>excK kvs
 |_=>false
theorem zoG{ks:List Key}{ds:List D}:tyOf (.dict ((ks.map kD).zip ds)) = "dict" /\ zk0 (.dict ((ks.map kD).zip ds))=false:=by
 cases ks with
 |nil=>exact ⟨rfl,rfl⟩
 |cons k ks=>
  cases ds with
  |nil=>exact ⟨rfl,rfl⟩
  |cons d ds=>cases k <;> exact ⟨rfl,rfl⟩
theorem zpu(K:Frag)(d:D)(c:String)(nx:zk0 d=false)(hc:c = "int" ∨ c = "bool" ∨ c = "str" ∨ c = "list" ∨ c = "tuple" ∨ c = "dict"):PySem.W.kitOne K (.type (tyOf d)) (.type c)=some (isTy d c):=by
 cases d with
 |dict kvs=>
  have e:tyOf (.dict kvs) = "dict" := by
   have nx:excK kvs=false:=nx
   show (if excK kvs=true then "" else "dict")=_
   rw[nx];rfl
  unfold isTy;rw[e];rcases hc with rfl|rfl|rfl|rfl|rfl|rfl <;> rfl
 |_=>rcases hc with rfl|rfl|rfl|rfl|rfl|rfl <;> rfl
section
variable{X:Cx}{B G0:Hp}{e a b c:Expr}{pos:Pos}{es rest:List Expr}
def zdf(X:Cx)(f:Value)(p:List D->Option D):Prop :=
 ∃r,zc1 X f r/\∀vs G H ds d Q,Same G H->Reps X.K G vs ds->p ds=some d->(∀w G' H',Ext G H G' H'->Rep X.K G' w d->Q w H')->r vs H Q
def zbu(p:List D->Option D)(f:M (List D)):M D:=zax f λxs=>mOpt (p xs)
theorem zaA{x:Str}{p2:Pos}{id:String}{p:List D->Option D}{f:M (List D)}(hc:zdf X (.builtin id) p)(hg:Gl X x)(hm:X.mg x=none)(hv:bootBuiltins x=some (.builtin id))(ha:PA X (e::es) (tDs X.K B G0 f))(hn:x ≠ "__name__" := by decide)(hdb:(x==("__debug__" : Str))=false:=by decide)
  (he:starEach (e::es) X.env=(false,eval e X.env)::starEach es X.env:=by rfl) (hpl:(backTo pos (starEach es X.env)).any (·.1)=false:=by rfl):PE X (.Call (.Name x p2) (e::es) [] pos) (tD X.K B G0 (zbu p f)):=by
 obtain ⟨r,h,i⟩:=hc;refine peof (zeR h hg hm hv ha hn hdb he hpl) λσ H Q q=>tM.one (R:=Reps X.K) q λv H2 G Z x k rr a=>?_;obtain ⟨d,e,a⟩:=a.opt;exact i v G H2 x d Q k.gh rr e λw G' H' ex rw=>a.done k ex rw
theorem zjM{x:Str}{p2:Pos}{T:String}{p:List D->Option D}{f:M (List D)}(hc:zdf X (.type T) p)(hg:Gl X x)(hm:X.mg x=none)(hv:bootBuiltins x=some (.type T))(ha:PA X (e::es) (tDs X.K B G0 f))(hn:x ≠ "__name__" := by decide)(hdb:(x==("__debug__" : Str))=false:=by decide)
  (he:starEach (e::es) X.env=(false,eval e X.env)::starEach es X.env:=by rfl) (hpl:(backTo pos (starEach es X.env)).any (·.1)=false:=by rfl):PE X (.Call (.Name x p2) (e::es) [] pos) (tD X.K B G0 (zbu p f)):=by
 obtain ⟨r,h,i⟩:=hc;refine peof (zdP h hg hm hv ha hn hdb he hpl) λσ H Q q=>tM.one (R:=Reps X.K) q λv H2 G Z x k rr a=>?_;obtain ⟨d,e,a⟩:=a.opt;exact i v G H2 x d Q k.gh rr e λw G' H' ex rw=>a.done k ex rw
theorem Reps.nil_inv{K:Frag}{G:Hp}{vs:List V}(r:Reps K G vs []):vs=[]:=by cases r;rfl
theorem Reps.one_inv{K:Frag}{G:Hp}{vs:List V}{d:D}(r:Reps K G vs [d]):∃v,vs=[v]/\Rep K G v d:=by
 cases r with
 |cons h t=>cases t;exact ⟨_,rfl,h⟩
theorem Reps.two_inv{K:Frag}{G:Hp}{vs:List V}{d d':D}(r:Reps K G vs [d,d']):∃v v',vs=[v,v']/\Rep K G v d/\Rep K G v' d':=by
 cases r with
 |cons h t=>
  obtain ⟨v',rfl,r'⟩:=t.one_inv;exact ⟨_,v',rfl,h,r'⟩
def oLen:List D->Option D
 |[.list xs]=>some (.int xs.length)
 |[.tuple xs]=>some (.int xs.length)
 |[.str z]=>if z.length<=1000000 then some (.int z.length) else none
 |_=>none
theorem zdS:zdf X (.builtin "len") oLen:=by
 refine ⟨_,zi0,λvs G H ds d Q s r e k=>?_⟩;unfold oLen at e
 split at e
 ·cases e
  obtain ⟨v,rfl,q⟩:=r.one_inv;obtain ⟨l,ws,rfl,h1,r1⟩:=q.lst_inv;exact ⟨.ref l,ws.length,rfl,.inl ⟨ws,s.seq h1,rfl⟩,by rw[r1.length];exact k _ G H (.refl s) (.int _)⟩
 ·cases e
  obtain ⟨v,rfl,q⟩:=r.one_inv;obtain ⟨l,ws,rfl,h1,r1⟩:=q.tup_inv;exact ⟨.ref l,ws.length,rfl,.inr ⟨ws,zdF s h1,rfl⟩,by rw[r1.length];exact k _ G H (.refl s) (.int _)⟩
 ·split at e
  ·rename_i z hz
   cases e;obtain ⟨v,rfl,q⟩:=r.one_inv
   exact ⟨.str z,z.length,by rw[q.str_inv],⟨QH hz lim,rfl⟩,k _ G H (.refl s) (.int _)⟩
  ·cases e
 ·cases e
def zk1:List D->Option D
 |[.int i,.int j]=>some (.int (if j > i then j else i))
 |_=>none
theorem zoH(hc:X.calm=true):zdf X (.builtin "max") zk1:=by
 refine ⟨_,zkJ hc,λvs G H ds d Q s r e k=>?_⟩;unfold zk1 at e
 split at e
 ·cases e
  obtain ⟨v,v',rfl,r1,r2⟩:=r.two_inv;exact ⟨_,_,by rw[r1.int_inv,r2.int_inv],k _ G H (.refl s) (.int _)⟩
 ·cases e
def zbQ(i:Nat):M D:=λZ=>match Z[i]? with
 |some (some (.pub d))=>mOpt (oLen [d]) Z
 |some (some (.own ds))=>.ok (.int ds.length) Z
 |_=>.bad
theorem za1{i:Nat}{p2:Pos}(hg:Gl X "len")(hm:X.mg "len" = none)(ha:PE X e (tVar i))(he:starEach [e] X.env=[(false,eval e X.env)]:=by rfl):PE X (.Call (.Name "len" p2) [e] [] pos) (tD X.K B G0 (zbQ i)):=by
 refine peof (zeR zi0 hg hm PySem.boot_len (zcM ha zeC (by rw[he];rfl)) (by decide) (by decide) (by rw[he];rfl) rfl) λσ H Q ⟨G,Z,k,a⟩=>?_
 unfold zbQ at a
 cases q:Z[i]? with
 |none=>rw[q] at a;exact a.elim
 |some o=>
  cases o with
  |none=>rw[q] at a;exact a.elim
  |some sl=>
   cases sl with
   |deep _ _=>rw[q] at a;exact a.elim
   |pub d=>
    rw[q] at a;obtain ⟨v,h1,h2⟩:=k.pub i d q;refine ⟨v,h1,?_⟩;obtain ⟨d',e',a'⟩:=aft.opt a;obtain ⟨r,hr,ir⟩:=@zdS X;show ∃x n,[v]=[x]/\LenV X.K x H n/\Q (.int n) H;unfold oLen at e'
    split at e'
    ·rename_i xs he'
     injection he' with he1 he2;subst he1;cases e';obtain ⟨l,ws,rfl,g1,r1⟩:=h2.lst_inv;exact ⟨.ref l,ws.length,rfl,.inl ⟨ws,k.gh.seq g1,rfl⟩,by rw[r1.length];exact a'.now k (.int _)⟩
    ·rename_i xs he'
     injection he' with he1 he2;subst he1;cases e';obtain ⟨l,ws,rfl,g1,r1⟩:=h2.tup_inv;exact ⟨.ref l,ws.length,rfl,.inr ⟨ws,zdF k.gh g1,rfl⟩,by rw[r1.length];exact a'.now k (.int _)⟩
    ·rename_i z he'
     injection he' with he1 he2;subst he1
     split at e'
     ·rename_i hz
      cases e';exact ⟨.str z,z.length,by rw[h2.str_inv],⟨QH hz lim,rfl⟩,a'.now k (.int _)⟩
     ·cases e'
    ·cases e'
   |own ds=>
    rw[q] at a;obtain ⟨ad,vs,h1,g2,g3,h4,h5⟩:=k.own i ds q;exact ⟨.ref ad,h1,.ref ad,vs.length,rfl,.inl ⟨vs,SqL.of h4,rfl⟩,by rw[h5.length];exact aft.now a k (.int _)⟩
theorem zpv{pins:List (Addr×Obj)}{s:Shared}{σ:St}{G H:Hp}{v:V}{u:Value}{d:D}{cv:Value}{t:Bool}{A:Around}{E:Value->Shared->Prop}{Q:Value->Shared->Prop}(I:Inv X pins σ H s)(sg:Same G H)(r:Rep X.K G v d)(rv:RelV v u)(nx:zk0 d=false)
  (ek:PySem.W.kitOne X.K (.type (tyOf d)) cv=some t) (h:∀tk,Q (.bool t) { s with toks:=tk }):wpAny (model X.prog X.w) A (call (.builtin "isinstance") [u,cv]) Q E s:=by
 cases r with
 |non=>cases rv;exact JD PySem.W.kitx_none I.kIn True.intro ek (λz=>nomatch z) h
 |bl y=>cases rv;exact JD PySem.W.kitx_bool I.kIn True.intro ek (λz=>nomatch z) h
 |int i=>obtain ⟨t',rfl⟩:=rv;exact JD PySem.W.kitx_int I.kIn True.intro ek (λz=>nomatch z) h
 |str y=>obtain ⟨t',rfl⟩:=rv;exact JD PySem.W.kitx_str I.kIn True.intro ek (λz=>nomatch z) h
 |lst hl _=>
  cases rv;obtain ⟨its,r,⟨o,n,e,hc,_,hd⟩,hz⟩:=I.list (sg.seq hl)
  exact JD PySem.W.kitx_list I.kIn ⟨o,e,hc⟩ ek (λz=>nomatch z) h
 |tup hl _=>
  cases rv;obtain ⟨its,r,p,hz⟩:=I.tuple (zdF sg hl)
  obtain ⟨o,e,hc,_⟩:=p;exact JD PySem.W.kitx_tuple I.kIn ⟨o,e,hc⟩ ek (λz=>nomatch z) h
 |@dic ad hd=>
  cases rv;obtain ⟨_,_,vs,_,p⟩:=(show zb6 X.prog X.w H s.heap ad (.dK []) from I.hok ad _ (sg _ _ hd))
  obtain ⟨o,es,ep,h1,h2,_⟩:=p;exact JD PySem.W.kitx_dict I.kIn ⟨o,h1,h2.1⟩ ek (λz=>nomatch z) h
 |exc _ _ _ _=>cases nx
 |@dct ad ks vs ds kvs e0 _ _ hd _=>
  cases rv;subst e0
  rw[zoG.1] at ek;obtain ⟨_,_,vs,_,p⟩:=(show zb6 X.prog X.w H s.heap ad (.dK (ks.zip _)) from I.hok ad _ (sg _ _ hd))
  obtain ⟨o,es,ep,h1,h2,_⟩:=p;exact JD PySem.W.kitx_dict I.kIn ⟨o,h1,h2.1⟩ ek (λz=>nomatch z) h
 |@dtt ad ob ks vs ds kvs e0 _ hd _=>
  cases rv;subst e0
  obtain ⟨_,_,_,xs,_,o,es,ep,h1,h2,_⟩:=(show zb6 X.prog X.w H s.heap ad (.frz ob (.dT (ks.zip _))) from I.hok ad _ (sg _ _ hd))
  exact JD PySem.W.kitx_dict I.kIn ⟨o,h1,h2.1⟩ ek (λz=>nomatch z) h
theorem zpw(c:String)(hc:c = "int" ∨ c = "bool" ∨ c = "str" ∨ c = "list" ∨ c = "tuple" ∨ c = "dict"):typeOf (.type c)=pure (.type "type"):=by
 rcases hc with rfl|rfl|rfl|rfl|rfl|rfl <;> kernel_rfl
theorem znw:zc1 X (.builtin "isinstance") (λxs H Q=>∃v c G d,xs=[v,.ty c]/\Same G H/\Rep X.K G v d/\(c = "int" ∨ c = "bool" ∨ c = "str" ∨ c = "list" ∨ c = "tuple" ∨ c = "dict")/\Q (.bl (isTy d c)) H):=by
 intro pins s σ H xs us Q I r h;obtain ⟨v,c,G,d,rfl,sg,rp,hc,q⟩:=h;obtain ⟨u,w',rfl,r1,r2⟩:=zo7 r
 cases (show w'=Value.type c from r2)
 by_cases nx:zk0 d=true
 ·cases rp with
  |@exc a C dd bm nm vs ds ck hx hd rr=>
   refine znr (zr3 I.ok.mod.kin) pins s σ H [.ref a,.ty c] [u,.type c] Q I r ⟨a,C,dd,bm,false,.ty c,false,rfl,⟨nm,ck⟩,sg _ _ hx,.inr ⟨c,rfl,zpw c hc,?_⟩,?_⟩
   ·rw[ck.ty];rcases hc with rfl|rfl|rfl|rfl|rfl|rfl <;> rfl
   ·have e:isTy (.dict [(.none,.tuple [.str nm,.list ds])]) c=false:=by rcases hc with rfl|rfl|rfl|rfl|rfl|rfl <;> rfl
    rw[e] at q;exact q
  |dct e _ _ _ _=>subst e;rw[zoG.2] at nx;cases nx
  |dtt e _ _ _=>subst e;cases nx
  |_=>cases nx
 ·have nx:zk0 d=false:=by simpa using nx
  exact zpv I sg rp r1 nx (zpu X.K d c nx hc) λtk=>⟨.bl _,H,I.tok tk,rfl,q⟩
theorem zeO:bootBuiltins "isinstance" = some (.builtin "isinstance"):=by decide +kernel
theorem za5{f:M D}{p2 p3:Pos}{c:String}(hc:c = "int" ∨ c = "bool" ∨ c = "str" ∨ c = "list" ∨ c = "tuple" ∨ c = "dict")(hg:Gl X "isinstance")(hm:X.mg "isinstance" = none)(hg2:Gl X (Str.ofString c))(hm2:X.mg (Str.ofString c)=none)
  (hv2:bootBuiltins (Str.ofString c)=some (.type c)) (ha:PE X e (tD X.K B G0 f)) (hn2:(Str.ofString c) ≠ "__name__") (hd2:((Str.ofString c)==("__debug__" : Str))=false)
  (hs:starEach [e,.Name (Str.ofString c) p3] X.env=(false,eval e X.env)::starEach [.Name (Str.ofString c) p3] X.env:=by rfl)
  (hs2:starEach [.Name (Str.ofString c) p3] X.env=[(false,eval (.Name (Str.ofString c) p3) X.env)]:=by rfl) :
  PE X (.Call (.Name "isinstance" p2) [e,.Name (Str.ofString c) p3] [] pos) (tD X.K B G0 (mMap (λd=>.bool (isTy d c)) f)):=by
 refine peof (zeR znw hg hm zeO (zcM ha (zcM (zo1 (v:=.ty c) hg2 hm2 hv2 rfl hn2 hd2) zeC (by rw[hs2];rfl)) hs) (by decide) (by decide) hs (by rw[hs2];rfl)) λσ H Q q=>?_
 refine tM.one (R:=Rep X.K) q λv H2 G Z x k r a=>?_;exact ⟨v,c,G,x,rfl,k.gh,r,hc,aft.now a k (.bl _)⟩
end
def spD(K:Frag)(n:Nat)(F:List D->Option D):Sp:=λvs H Q _=>∃G ds d,vs.length=n/\Same G H/\Reps K G vs ds/\F ds=some d/\∀v G' H',Ext G H G' H'->Rep K G' v d->Q v H'
section
variable{K:Frag}{B G0 G H:Hp}{σ:St}{Z:DEnv}
theorem EOk.exit(k:EOk K B G0 G H σ Z):Ext G0 B G H:=⟨k.bh,k.g0,k.gh,k.np⟩
theorem zbA{α:Type}{l:List α}{i:Nat}{x y:α}(h:(l.set i x)[i]?=some y):y=x:=by
 by_cases hl:i<l.length
 ·rw[QC hl] at h;cases h;rfl
 ·rw[Jf (by rw[Q3];omega)] at h;cases h
theorem DpOk.setOther{i:Nat}{x:Option V}{y:Option Sl}(k:DpOk K B G H σ Z)(hy:∀s,y=some s->∃d,s=.pub d):DpOk K B G H (σ.set i x) (Z.set i y):=by
 have nz:∀{m:Nat}{s:Sl},(Z.set i y)[m]?=some (some s)->(∃d,s=.pub d)∨(Z[m]?=some (some s)/\(σ.set i x)[m]?=σ[m]?):=λ{m s} q=>by
  by_cases z:i=m
  ·subst z
   exact .inl (hy s (zbA q).symm)
  ·rw[Qo z] at q ⊢;exact .inr ⟨q,rfl⟩
 refine k.map (λm p d q=>?_) (λm es q=>?_) λm p d v fp q s r w n=>⟨r,w⟩
 ·rcases nz q with ⟨_,e⟩|q
  ·cases e
  ·exact q
 ·rcases nz q with ⟨_,e⟩|q
  ·cases e
  ·exact ⟨es,q⟩
theorem EOk.setPub{i:Nat}{v:V}{d:D}(k:EOk K B G0 G H σ Z)(r:Rep K G v d)(hi:i<Z.length):EOk K B G0 G H (σ.set i (some v)) (Z.set i (some (.pub d))) where
 bh:=k.bh
 gh:=k.gh
 g0:=k.g0
 np:=k.np
 len:=by rw[Q3,Q3];exact k.len
 pub:=λj d' q=>by
  by_cases z:i=j
  ·subst z
   have:=zbA q
   cases this;exact ⟨v,QC (by rw[←k.len];exact hi),r⟩
  ·rw[Qo z] at q ⊢
   exact k.pub j d' q
 own:=λj ds q=>by
  by_cases z:i=j
  ·subst z
   have:=zbA q
   cases this
  ·rw[Qo z] at q ⊢
   exact k.own j ds q
 sep:=λj l c es fs q1 q2 s1 s2=>by
  have z1:i≠j:=λz=>by subst z;have:=zbA q1;cases this
  have z2:i≠l:=λz=>by subst z;have:=zbA q2;cases this
  rw[Qo z1] at q1 s1;rw[Qo z2] at q2 s2;exact k.sep j l c es fs q1 q2 s1 s2
 dp:=k.dp.setOther (λs e=>by cases e;exact ⟨_,rfl⟩)
structure NewL(K:Frag)(B G H:Hp)(σ:St)(Z:DEnv)(a:Addr)(vs:List V)(ds:List D):Prop where
 b:B a=none
 g:G a=none
 h:H a=some (.lst vs)
 r:Reps K G vs ds
 f:∀(j:Nat) es,Z[j]?=some (some (.own es))->σ[j]?≠some (some (.ref a))
 dp:∀(j:Nat) p d v fp,Z[j]?=some (some (.deep p d))->σ[j]?=some (some v)->RepO K G H p v d fp->a∉fp
theorem EOk.freshD{H':Hp}{a:Addr}(k:EOk K B G0 G H σ Z)(e:Same H H')(ha:H a=none){G':Hp}{j:Nat}{p:Pat}{d:D}{v:V}{fp:List Addr}(q:Z[j]?=some (some (.deep p d)))(s:σ[j]?=some (some v))(r:RepO K G' H' p v d fp):a∉fp:=λm=>by
 obtain ⟨ω,k1,k2⟩:=k.dp;obtain ⟨v',fp',s',r',n,w⟩:=k1 j p d q;rw[s] at s';cases s';have u:=r'.uniq e r;subst u;obtain ⟨ws,hl⟩:=r'.isl a m;rw[ha] at hl;cases hl
theorem EOk.setOwn{i:Nat}{a:Addr}{vs:List V}{ds:List D}(k:EOk K B G0 G H σ Z)(n:NewL K B G H σ Z a vs ds)(hi:i<Z.length):EOk K B G0 G H (σ.set i (some (.ref a))) (Z.set i (some (.own ds))) where
 bh:=k.bh
 gh:=k.gh
 g0:=k.g0
 np:=k.np
 len:=by rw[Q3,Q3];exact k.len
 pub:=λj d' q=>by
  by_cases z:i=j
  ·subst z
   have:=zbA q
   cases this
  ·rw[Qo z] at q ⊢
   exact k.pub j d' q
 own:=λj es q=>by
  by_cases z:i=j
  ·subst z
   have:=zbA q
   cases this;exact ⟨a,vs,QC (by rw[←k.len];exact hi),n.b,n.g,n.h,n.r⟩
  ·rw[Qo z] at q ⊢
   exact k.own j es q
 sep:=λj l c es fs q1 q2 s1 s2=>by
  have hs:i<σ.length:=by rw[←k.len];exact hi
  by_cases z1:i=j
  ·subst z1
   rw[QC hs] at s1;cases s1
   by_cases z2:i=l
   ·exact z2
   ·rw[Qo z2] at q2 s2
    exact absurd s2 (n.f l fs q2)
  ·by_cases z2:i=l
   ·subst z2
    rw[QC hs] at s2;cases s2;rw[Qo z1] at q1 s1;exact absurd s1 (n.f j es q1)
   ·rw[Qo z1] at q1 s1
    rw[Qo z2] at q2 s2;exact k.sep j l c es fs q1 q2 s1 s2
 dp:=by
  obtain ⟨ω,k1,k2⟩:=k.dp;have hs:i<σ.length:=by rw[←k.len];exact hi
  refine ⟨λb=>if b=a then i else ω b,λj p d q=>?_,λj es b q s=>?_⟩
  ·by_cases z:i=j
   ·subst z;have:=zbA q;cases this
   ·rw[Qo z] at q ⊢
    obtain ⟨v,fp,s,r,nn,w⟩:=k1 j p d q;refine ⟨v,fp,s,r,nn,λb m=>⟨(w b m).1,(w b m).2.1,?_⟩⟩;dsimp only;rw[QA (λz=>n.dp j p d v fp q s r (by rw[←z];exact m))]
    exact (w b m).2.2
  ·by_cases z:i=j
   ·subst z
    rw[QC hs] at s;cases s;dsimp only;rw[Qn rfl]
   ·rw[Qo z] at q s
    dsimp only;rw[QA (λe=>n.f j es q (by rw[←e];exact s))]
    exact k2 j es b q s
theorem EOk.change{i:Nat}{a:Addr}{vs:List V}{ds es:List D}(k:EOk K B G0 G H σ Z)(q:Z[i]?=some (some (.own ds)))(ha:σ[i]?=some (some (.ref a)))(r:Reps K G vs es) :
  EOk K B G0 G (upd H a (.lst vs)) σ (Z.set i (some (.own es))):=by
 obtain ⟨a',ws,h1,h2,h3,h4,h5⟩:=k.own i ds q;rw[ha] at h1;cases h1;have hi:i<Z.length:=(Qg.mp q).1;refine ⟨λb o e=>?_,λb o e=>?_,k.g0,k.np,by rw[Q3];exact k.len,λj d' e=>?_,λj fs e=>?_,λj l c fs gs q1 q2 s1 s2=>?_,?_⟩
 ·rw[zaI (zaT e h2)];exact k.bh b o e
 ·rw[zaI (zaT e h3)];exact k.gh b o e
 ·by_cases z:i=j
  ·subst z
   have:=zbA e
   cases this
  ·rw[Qo z] at e
   exact k.pub j d' e
 ·by_cases z:i=j
  ·subst z
   have:=zbA e
   cases this;exact ⟨a,vs,ha,h2,h3,zaE,r⟩
  ·rw[Qo z] at e
   obtain ⟨c,us,g1,g2,g3,g4,g5⟩:=k.own j fs e;have zc:c≠a:=λw=>z (k.sep i j a ds fs q e ha (by rw[←w];exact g1))
   exact ⟨c,us,g1,g2,g3,by rw[zaI zc];exact g4,g5⟩
 ·have f:∀{m:Nat}{ts:List D},(Z.set i (some (Sl.own es)))[m]?=some (some (.own ts))->∃ts',Z[m]?=some (some (.own ts')):=λ{m ts} e=>by
   by_cases z:i=m
   ·subst z;exact ⟨ds,q⟩
   ·rw[Qo z] at e;exact ⟨ts,e⟩
  obtain ⟨f1,w1⟩:=f q1;obtain ⟨f2,w2⟩:=f q2;exact k.sep j l c f1 f2 w1 w2 s1 s2
 ·refine k.dp.map (λj p d e=>?_) (λj fs e=>?_) λj p d v fp qj s rj w n=>⟨rj.upd (λ_ z=>by rw[h4] at z;cases z) (n i ds a q ha),w⟩
  ·by_cases z:i=j
   ·subst z;have:=zbA e;cases this
   ·rw[Qo z] at e;exact ⟨e,rfl⟩
  ·by_cases z:i=j
   ·subst z;exact ⟨ds,q,rfl⟩
   ·rw[Qo z] at e;exact ⟨fs,e,rfl⟩
end
inductive Out where
 |nx (Z:DEnv)|rt (d:D)|bk (Z:DEnv)|ct (Z:DEnv)|ex (Z:DEnv) (d:D)|bad
abbrev SM:=DEnv->Out
section
variable(K:Frag)(B G0:Hp)(KX:XW)
def aftS(o:Out)(G1:Hp)(Dn:Ends):Prop :=
 match o with
 |.nx Z=>∀σ G H,EOk K B G0 G H σ Z->Same G1 G->Dn.nx σ H
 |.bk Z=>∀σ G H,EOk K B G0 G H σ Z->Same G1 G->Dn.bk σ H
 |.ct Z=>∀σ G H,EOk K B G0 G H σ Z->Same G1 G->Dn.ct σ H
 |.rt d=>∀v G H,Ext G0 B G H->Rep K G v d->Dn.rt v H
 |.ex Z d=>∀v σ G H,EOk K B G0 G H σ Z->Same G1 G->Rep K G v d->KX v σ H
 |.bad=>False
def tS(g:SM):TS:=λDn σ H=>∃G Z,EOk K B G0 G H σ Z/\aftS K B G0 KX (g Z) G Dn
def sB{α:Type}(f:M α)(g:α->SM):SM:=λZ=>match f Z with | .ok a Z'=>g a Z' | .bad=>.bad
end
section
variable{X:Cx}{B G0:Hp}{KX:XW}{e a b c:Expr}{pos:Pos}{es rest:List Expr}{st:Stmt}{sts sts2:List Stmt}
theorem aftS.mono{K:Frag}{o:Out}{G G':Hp}{Dn:Ends}(e:Same G G')(h:aftS K B G0 KX o G Dn):aftS K B G0 KX o G' Dn:=by
 cases o with
 |nx Z=>exact λσ G2 H2 k s=>h σ G2 H2 k (e.trans s)
 |bk Z=>exact λσ G2 H2 k s=>h σ G2 H2 k (e.trans s)
 |ct Z=>exact λσ G2 H2 k s=>h σ G2 H2 k (e.trans s)
 |rt d=>exact h
 |ex Z d=>exact λv σ G2 H2 k s r=>h v σ G2 H2 k (e.trans s) r
 |bad=>exact h
theorem tS.bnd{K:Frag}{α γ:Type}{R:Hp->γ->α->Prop}{f:M α}{g:α->SM}{Dn:Ends}{σ:St}{H:Hp}{P:γ->Hp->Prop}(q:tS K B G0 KX (sB f g) Dn σ H)
  (i:∀v H' G' Z' x,EOk K B G0 G' H' σ Z'->R G' v x->aftS K B G0 KX (g x Z') G' Dn->P v H'):tM K B G0 R f σ H P:=by
 obtain ⟨G,Z,k,a⟩:=q;refine ⟨G,Z,k,?_⟩;unfold sB at a
 cases z:f Z with
 |bad=>rw[z] at a;exact a.elim
 |ok d Z1=>
  rw[z] at a;exact λv G' H' e s r=>i v H' G' Z1 d e r (aftS.mono s a)
def sNx:SM:=λZ=>.nx Z
def sSeq(g h:SM):SM:=λZ=>match g Z with | .nx Z'=>h Z'|o=>o
theorem zaX:PSs X [] (tS X.K B G0 KX sNx):=zpm zo4 λD σ H ⟨G,Z,k,a⟩=>a σ G H k (.refl _)
theorem zaj{g h:SM}(h1:PS X st (tS X.K B G0 KX g))(h2:PSs X sts (tS X.K B G0 KX h)):PSs X (st::sts) (tS X.K B G0 KX (sSeq g h)):=zpm (zge h1 h2) λD σ H ⟨G,Z,k,a⟩=>by
 refine ⟨G,Z,k,?_⟩;unfold sSeq at a
 cases z:g Z with
 |nx Z1=>rw[z] at a;exact λσ' G' H' k' s'=>⟨G',Z1,k',aftS.mono s' a⟩
 |rt d=>rw[z] at a;exact a
 |bk Z1=>rw[z] at a;exact a
 |ct Z1=>rw[z] at a;exact a
 |ex Z1 d=>rw[z] at a;exact a
 |bad=>rw[z] at a;exact a.elim
theorem zao{g:SM}(h1:PS X st (tS X.K B G0 KX g)):PSs X [st] (tS X.K B G0 KX g):=zh8 h1
def zdK:SM:=λ_=>.bad
theorem zcs:PS X st (tS X.K B G0 KX zdK):=λ_ _ _ _ _ _ ⟨_,_,_,a⟩=>a.elim
def sRet(f:M D):SM:=sB f λd _=>.rt d
theorem zau{f:M D}(h:PE X e (tD X.K B G0 f)):PS X (.Return (some e) pos) (tS X.K B G0 KX (sRet f)):=psof (zow h) λD σ H q=>tS.bnd (R:=Rep X.K) q λv H' G' Z' x k r a=>a v G' H' k.exit r
def ze9(f:M D):SM:=sB f λ_ Z=>.nx Z
theorem zdi{f:M D}(h:PE X e (tD X.K B G0 f))(hs:swapsWith e none pos.line X.env=pure false:=by rfl):PS X (.Expr e pos) (tS X.K B G0 KX (ze9 f)):=psof (zh9 h hs) λD σ H q=>tS.bnd (R:=Rep X.K) q λv H' G' Z' x k r a=>a σ G' H' k (.refl _)
def sIf(f:M Bool)(g h:SM):SM:=sB f λt=>if t=true then g else h
theorem zbk{f:M Bool}{g h:SM}(hc:PT X c (tBo X.K B G0 f))(ha:PSs X sts (tS X.K B G0 KX g))(hb:PSs X sts2 (tS X.K B G0 KX h)):PS X (.If c sts sts2 pos) (tS X.K B G0 KX (sIf f g h)) :=
 psof (zrJ hc ha hb) λD σ H q=>tS.bnd (R:=λ_ b c=>b=c) q λv H' G' Z' x k r a=>by
  have r:v=x:=r;subst r
  cases v with
  |true=>exact ⟨G',Z',k,a⟩
  |false=>exact ⟨G',Z',k,a⟩
def tG(K:Frag)(B G0:Hp)(s:D->DEnv->Option DEnv):TG:=λv σ H Q=>∃G Z d Z',EOk K B G0 G H σ Z/\Rep K G v d/\s d Z=some Z'/\∀σ' G' H',EOk K B G0 G' H' σ' Z'->Same G G'->Q σ' H'
def tGs(K:Frag)(B G0:Hp)(s:List D->DEnv->Option DEnv):TGs:=λv σ H Q=>∃G Z d Z',EOk K B G0 G H σ Z/\Reps K G v d/\s d Z=some Z'/\∀σ' G' H',EOk K B G0 G' H' σ' Z'->Same G G'->Q σ' H'
theorem pgof{t t':TG}(h:PG X e t)(i:∀v σ H Q,t' v σ H Q->t v σ H Q):PG X e t':=λpins s σ H v u Q I r q=>h pins s σ H v u Q I r (i v σ H Q q)
theorem zqS{t t':TGs}(h:PGs X es t)(i:∀v σ H Q,t' v σ H Q->t v σ H Q):PGs X es t':=λpins s σ H v u Q I r q=>h pins s σ H v u Q I r (i v σ H Q q)
def gN(i:Nat):D->DEnv->Option DEnv:=λd Z=>if i<Z.length then some (Z.set i (some (.pub d))) else none
theorem zan{i:Nat}(h:PG X e (zo5 i)):PG X e (tG X.K B G0 (gN i)):=pgof h λv σ H Q ⟨G,Z,d,Z',k,r,e,q⟩=>by
 unfold gN at e
 split at e
 ·rename_i hi
  cases e;exact q _ G H (k.setPub r hi) (.refl _)
 ·cases e
def gN0:List D->DEnv->Option DEnv:=λd Z=>match d with | []=>some Z|_=>none
def gNC(s:D->DEnv->Option DEnv)(t:List D->DEnv->Option DEnv):List D->DEnv->Option DEnv:=λds Z=>match ds with|d::r=>(s d Z).bind (t r) | []=>none
theorem zbo:PGs X [] (tGs X.K B G0 gN0):=zqS zkA λv σ H Q ⟨G,Z,d,Z',k,r,e,q⟩=>by
 cases r with
 |nil=>cases e;exact ⟨rfl,q σ G H k (.refl _)⟩
 |cons _ _=>cases e
theorem zar{s:D->DEnv->Option DEnv}{t:List D->DEnv->Option DEnv}(h1:PG X e (tG X.K B G0 s))(h2:PGs X es (tGs X.K B G0 t))
  (hs:(assignEach (e::es) X.env).map (·.2)=assign e X.env::(assignEach es X.env).map (·.2):=by rfl):PGs X (e::es) (tGs X.K B G0 (gNC s t)):=zqS (zgf h1 h2 hs) λv σ H Q ⟨G,Z,d,Z',k,r,e,q⟩=>by
 cases r with
 |nil=>cases e
 |@cons w dw ws dws rw rt=>
  unfold gNC at e;dsimp only at e
  cases z:s dw Z with
  |none=>rw[z] at e;cases e
  |some Z1=>
   rw[z] at e;refine ⟨w,ws,rfl,G,Z,dw,Z1,k,rw,z,λσ' G' H' k' s'=>?_⟩;exact ⟨G',Z1,dws,Z',k',rt.mono s',e,λσ2 G2 H2 k2 s2=>q σ2 G2 H2 k2 (s'.trans s2)⟩
def gT(n:Nat)(t:List D->DEnv->Option DEnv):D->DEnv->Option DEnv:=λd Z=>match d with | .tuple ds=>if ds.length=n then t ds Z else none|_=>none
theorem zbp{k1:Nat}{t:List D->DEnv->Option DEnv}{n:Nat}(hc:X.calm=true)(h:PGs X es (tGs X.K B G0 t))
  (hn:(assignEach es X.env).length=n:=by rfl) (hst:(assignEach es X.env).findIdx? (·.1)=none:=by rfl):PG X (.Tuple es k1 pos) (tG X.K B G0 (gT n t)):=pgof (zox hc h hn hst) λv σ H Q ⟨G,Z,d,Z',k,r,e,q⟩=>by
 unfold gT at e
 split at e
 ·split at e
  ·rename_i hl
   obtain ⟨ad,vs,rfl,h1,r1⟩:=r.tup_inv;exact ⟨ad,vs,rfl,zdF k.gh h1,by rw[r1.length];exact hl,G,Z,_,Z',k,r1,e,q⟩
  ·cases e
 ·cases e
def sAsg(f:M D)(s:D->DEnv->Option DEnv):SM:=sB f λd Z=>match s d Z with|some Z'=>.nx Z'|none=>.bad
theorem zfa{tg:Expr}{f:M D}{s:D->DEnv->Option DEnv}(he:PE X e (tD X.K B G0 f))(hg:PG X tg (tG X.K B G0 s))(hs:swapsWithSole [tg] e pos.line X.env=pure false:=by rfl)(hw:swappedStores [tg] e X.env=pure none:=by rfl)
  (h1:(assignEach [tg] X.env).map (·.2)=[assign tg X.env]:=by rfl):PS X (.Assign [tg] e pos) (tS X.K B G0 KX (sAsg f s)) :=
 psof (zql he hg hs hw h1) λD σ H q=>tS.bnd (R:=Rep X.K) q λv H' G' Z' x k r a=>by
  cases z:s x Z' with
  |none=>rw[z] at a;exact a.elim
  |some Z2=>rw[z] at a;exact ⟨G',Z',x,Z2,k,r,z,λσ2 G2 H2 k2 s2=>a σ2 G2 H2 k2 s2⟩
def sSet(i:Nat)(f:M D):SM:=sAsg f (gN i)
theorem zaJ{i:Nat}{x:Str}{f:M D}{p2:Pos}(hN:X.N.Nodup)(hi:X.N[i]?=some x)(hx:Loc X.env.scope x)(he:PE X e (tD X.K B G0 f))(hs:swapsWith e (some (.Name x p2)) pos.line X.env=pure false:=by rfl)
  (hf:X.fn x=true∨X.env.scope.names.lookup x=some .local:=by first|exact .inl rfl|exact .inr rfl|assumption):PS X (.Assign [.Name x p2] e pos) (tS X.K B G0 KX (sSet i f)) :=
 psof (zkB hN hi hx he hs hf) λD σ H q=>tS.bnd (R:=Rep X.K) q λv H' G' Z' x k r a=>by
  unfold gN at a
  split at a
  ·rename_i Z2 hz
   split at hz
   ·rename_i hi2
    cases hz;exact a _ G' H' (k.setPub r hi2) (.refl _)
   ·cases hz
  ·exact a.elim
def tL(K:Frag)(B G0:Hp)(f:M (List D)):TE:=λσ H Q=>∃G Z,EOk K B G0 G H σ Z/\match f Z with
 |.ok ds Z'=>∀a vs G' H',EOk K B G0 G' H' σ Z'->Same G G'->NewL K B G' H' σ Z' a vs ds->Q (.ref a) H'
 |.bad=>False
def zbU(i:Nat)(f:M (List D)):SM:=sB f λds Z=>if i<Z.length then .nx (Z.set i (some (.own ds))) else .bad
theorem zch{i:Nat}{x:Str}{f:M (List D)}{p2:Pos}(hN:X.N.Nodup)(hi:X.N[i]?=some x)(hx:Loc X.env.scope x)(he:PE X e (tL X.K B G0 f))(hs:swapsWith e (some (.Name x p2)) pos.line X.env=pure false:=by rfl)
  (hf:X.fn x=true∨X.env.scope.names.lookup x=some .local:=by first|exact .inl rfl|exact .inr rfl|assumption):PS X (.Assign [.Name x p2] e pos) (tS X.K B G0 KX (zbU i f)) :=
 psof (zkB hN hi hx he hs hf) λD σ H ⟨G,Z,k,a⟩=>by
  refine ⟨G,Z,k,?_⟩;unfold zbU sB at a
  cases z:f Z with
  |bad=>rw[z] at a;exact a.elim
  |ok ds Z1=>
   rw[z] at a;intro ad vs G' H' k' s' n;dsimp only at a
   split at a
   ·rename_i hl
    exact a _ G' H' (k'.setOwn n hl) s'
   ·exact a.elim
theorem NewL.of{K:Frag}{G H:Hp}{σ:St}{Z:DEnv}{p:Addr}{vs:List V}{ds:List D}(k:EOk K B G0 G H σ Z)(hp:H p=none)(r:Reps K G vs ds):NewL K B G (upd H p (.lst vs)) σ Z p vs ds where
 b:=k.bh.free hp
 g:=k.gh.free hp
 h:=zaE
 r:=r
 f:=λj es q z=>by
  obtain ⟨a,ws,h1,h2,h3,h4,h5⟩:=k.own j es q;rw[z] at h1;cases h1;rw[hp] at h4;cases h4
 dp:=λj pt d v fp q s rr=>k.freshD (zaO hp) hp q s rr
theorem zc3{f:M (List D)}(h:PA X es (tDs X.K B G0 f)):PE X (.List es pos) (tL X.K B G0 (zax f λxs=>if xs.length<=1000000 then zah xs else λ_=>.bad)) :=
 peof (zoC h) λσ H Q ⟨G,Z,k,a⟩=>by
  refine ⟨G,Z,k,?_⟩;unfold zax at a
  cases z:f Z with
  |bad=>rw[z] at a;exact a.elim
  |ok ds Z1=>
   rw[z] at a;dsimp only at a;intro v G' H' k' s' r
   by_cases c:ds.length<=1000000
   ·rw[Qn c] at a
    refine ⟨by rw[r.length];exact QH c lim,λp hp=>?_⟩
    exact a p v G' _ (k'.ext (Ext.hid k'.gh hp)) s' (NewL.of k' hp r)
   ·rw[QA c] at a;exact a.elim
def sApp(i:Nat)(f:M D):SM:=λZ0=>match Z0[i]? with
 |some (some (.own _))=>sB f (λd Z=>match Z[i]? with
  |some (some (.own ds))=>if ds.length<1000000 then .nx (Z.set i (some (.own (ds++[d])))) else .bad
  |_=>.bad) Z0
 |_=>.bad
theorem zdL{i:Nat}{f:M D}{o:Expr}{apos cpos:Pos}(ho:PE X o (tVar i))(he:PE X e (tD X.K B G0 f))
  (hbase:attributeBase o "append" X.env (eval o X.env)=eval o X.env:=by rfl)
  (hfew:((backTo cpos (starEach [e] X.env)).all (λx=>!x.1)&&(backToKw cpos (keywordEach [] X.env)).all (λx=>x.1.isSome)
   && decide ([e].length+([]:List Keyword).length+(if ([]:List Keyword).isEmpty then 0 else 1)<30))=true:=by rfl)
  (hline:(apos.endLine==cpos.line)=true:=by rfl) (hs:starEach [e] X.env=[(false,eval e X.env)]:=by rfl)
  (hsw:swapsWith (.Call (.Attribute o "append" apos) [e] [] cpos) none pos.line X.env=pure false:=by rfl) :
  PS X (.Expr (.Call (.Attribute o "append" apos) [e] [] cpos) pos) (tS X.K B G0 KX (sApp i f)) :=
 psof (zh9 (znm PySem.F.plainAttrs_list PySem.F.slot_list_append PySem.F.type_list_append zg2 ho (zcM he zeC (by rw[hs];rfl)) hbase hfew hline (by rw[hs];rfl) rfl) hsw) λD σ H ⟨G,Z,k,a⟩=>by
  unfold sApp at a
  cases q0:Z[i]? with
  |none=>rw[q0] at a;exact a.elim
  |some o0=>
   cases o0 with
   |none=>rw[q0] at a;exact a.elim
   |some sl0=>
    cases sl0 with
    |deep _ _=>rw[q0] at a;exact a.elim
    |pub d=>rw[q0] at a;exact a.elim
    |own ds0=>
     rw[q0] at a;obtain ⟨ad,vs0,h1,h2,h3,h4,h5⟩:=k.own i ds0 q0;refine ⟨.ref ad,h1,.inl ⟨rfl,_,SqL.of h4⟩,G,Z,k,?_⟩;unfold sB at a
     cases z:f Z with
     |bad=>rw[z] at a;exact a.elim
     |ok d Z1=>
      rw[z] at a;dsimp only at a;intro v G' H' k' s' r'
      cases q:Z1[i]? with
      |none=>rw[q] at a;exact a.elim
      |some o=>
       cases o with
       |none=>rw[q] at a;exact a.elim
       |some sl=>
        cases sl with
        |deep _ _=>rw[q] at a;exact a.elim
        |pub d=>rw[q] at a;exact a.elim
        |own ds=>
         rw[q] at a;dsimp only at a
         split at a
         ·rename_i hl
          obtain ⟨ad',vs,g1,g2,g3,g4,g5⟩:=k'.own i ds q;rw[h1] at g1;cases g1;refine ⟨ad,vs,v,rfl,rfl,g4,by rw[g5.length];exact QD hl lim,?_⟩
          exact a σ G' _ (k'.change q h1 (g5.append (.cons r' .nil))) s'
         ·exact a.elim
end
structure zem(K:Frag)(J:It)(ds:List D)(G1:Hp):Prop where
 go:∀i G H,Same G1 G->Same G H->i<ds.length->J.go i H
 stop:∀i G H,Same G1 G->Same G H->ds.length<=i->J.stop i H
 yld:∀i G H x H' d,Same G1 G->Same G H->ds[i]?=some d->J.yld i H x H'->∃G',Ext G H G' H'/\Rep K G' x d
def iD(K:Frag)(B G0:Hp)(f:M (List D)):TI:=λσ H R=>∃G Z,EOk K B G0 G H σ Z/\match f Z with
 |.ok ds Z'=>∀J G' H',EOk K B G0 G' H' σ Z'->Same G G'->zem K J ds G'->R J H'
 |.bad=>False
section
variable{X:Cx}{B G0:Hp}{KX:XW}{e a b c tg:Expr}{pos:Pos}{es rest:List Expr}{st:Stmt}{sts sts2:List Stmt}
theorem piof{t t':TI}(h:PI X tg e t)(i:∀σ H R,t' σ H R->t σ H R):PI X tg e t':=λpins s σ H R I q=>h pins s σ H R I (i σ H R q)
theorem tM.toI{K:Frag}{α γ:Type}{R0:Hp->γ->α->Prop}{f:M α}{g:α->M (List D)}{σ:St}{H:Hp}{R:It->Hp->Prop}{P:γ->Hp->Prop}(q:iD K B G0 (zax f g) σ H R)
  (i:∀v H' G' Z' x,EOk K B G0 G' H' σ Z'->R0 G' v x->(match g x Z' with
   |.ok ds Z2=>∀J G2 H2,EOk K B G0 G2 H2 σ Z2->Same G' G2->zem K J ds G2->R J H2
   |.bad=>False)->P v H'):tM K B G0 R0 f σ H P:=by
 obtain ⟨G,Z,k,a⟩:=q;refine ⟨G,Z,k,?_⟩;unfold zax at a
 cases z:f Z with
 |bad=>rw[z] at a;exact a.elim
 |ok d Z1=>
  rw[z] at a;intro v G' H' e s r;refine i v H' G' Z1 d e r ?_;dsimp only at a
  cases z2:g d Z1 with
  |bad=>rw[z2] at a;exact a.elim
  |ok ds Z2=>
   rw[z2] at a;exact λJ G2 H2 k2 s2 it=>a J G2 H2 k2 (s.trans s2) it
theorem zjN{K:Frag}{G1:Hp}{ad:Addr}{vs:List V}{ds:List D}(h:SqL K G1 ad vs)(r:Reps K G1 vs ds):zem K (Itl K ad) ds G1 where
 go:=λi G H s1 s2 hi=>by
  have hi':i<vs.length:=by rw[r.length];exact hi
  exact ⟨vs,vs[i],(s1.trans s2).seq h,Qf hi'⟩
 stop:=λi G H s1 s2 hi=>⟨vs,(s1.trans s2).seq h,by rw[r.length];exact hi⟩
 yld:=λi G H x H' d s1 s2 e y=>by
  obtain ⟨rfl,y⟩:=y;obtain ⟨v,e1,r1⟩:=r.get e
  have:=y vs ((s1.trans s2).seq h)
  rw[e1] at this;cases this;exact ⟨G,.refl s2,r1.mono s1⟩
def zbW(lo hi:Int):List D:=(List.range (hi-lo).toNat).map λ(k:Nat)=>.int (lo+k)
theorem za7(lo hi:Int):(zbW lo hi).length=(hi-lo).toNat:=by unfold zbW;rw[Qb,Qu]
theorem zfb{K:Frag}{G1:Hp}(lo hi:Int):zem K (Itr lo (hi-lo).toNat) (zbW lo hi) G1 where
 go:=λi G H s1 s2 h=>by rw[za7] at h;exact h
 stop:=λi G H s1 s2 h=>by rw[za7] at h;exact h
 yld:=λi G H x H' d s1 s2 e y=>by
  obtain ⟨rfl,rfl⟩:=y;unfold zbW at e;rw[Qe] at e
  have hi:i<(List.range (hi-lo).toNat).length:=by
   refine Nat.lt_of_not_le λz=>?_;rw[Jf z] at e;cases e
  rw[Qf hi,List.getElem_range] at e;cases e;exact ⟨G,.refl s2,.int _⟩
def zjO:List D->Option (List D)
 |[.int j]=>if j<=1000000 /\ -1000000<=j then some (zbW 0 j) else none
 |_=>none
def zjP:List D->Option (List D)
 |[.int i,.int j]=>if j<=1000000 /\ -1000000<=j/\i<=1000000 /\ -1000000<=i then some (zbW i j) else none
 |_=>none
def zeP(f:M (List D)):M (List D):=zax f λx=>mOpt (zjO x)
def znx(f:M (List D)):M (List D):=zax f λx=>mOpt (zjP x)
theorem zcf{f:M (List D)}{p2:Pos}(hg:Gl X "range")(hm:X.mg "range" = none)(ha:PA X [a] (tDs X.K B G0 f))(hs:starEach [a] X.env=[(false,eval a X.env)]:=by rfl) :
  PI X tg (.Call (.Name "range" p2) [a] [] pos) (iD X.K B G0 (zeP f)):=piof (zkE hg hm ha hs) λσ H R q=>tM.toI (R0:=Reps X.K) q λv H' G' Z' x k r a=>by
 cases z:zjO x with
 |none=>rw[z] at a;exact a.elim
 |some ds=>
  rw[z] at a;unfold zjO at z
  split at z
  ·split at z
   ·rename_i j c
    cases z;obtain ⟨w,rfl,r'⟩:=r.one_inv
    refine ⟨j,by rw[r'.int_inv],by omega,by omega,?_⟩
    have it:=zfb (K:=X.K) (G1:=G') 0 j;rw[Int.sub_zero] at it;exact a _ G' H' k (.refl _) it
   ·cases z
  ·cases z
theorem zk2{f:M (List D)}{p2:Pos}(hg:Gl X "range")(hm:X.mg "range" = none)(ha:PA X [a,b] (tDs X.K B G0 f))(hs:starEach [a,b] X.env=[(false,eval a X.env),(false,eval b X.env)]:=by rfl)(hs2:starEach [b] X.env=[(false,eval b X.env)]:=by rfl) :
  PI X tg (.Call (.Name "range" p2) [a,b] [] pos) (iD X.K B G0 (znx f)):=piof (zkF hg hm ha hs hs2) λσ H R q=>tM.toI (R0:=Reps X.K) q λv H' G' Z' x k r a=>by
 cases z:zjP x with
 |none=>rw[z] at a;exact a.elim
 |some ds=>
  rw[z] at a;unfold zjP at z
  split at z
  ·split at z
   ·rename_i i j c
    cases z;obtain ⟨w,w',rfl,r1,r2⟩:=r.two_inv
    refine ⟨i,j,by rw[r1.int_inv,r2.int_inv],⟨by omega,by omega,by omega,by omega⟩,?_⟩
    exact a _ G' H' k (.refl _) (zfb i j)
   ·cases z
  ·cases z
def zcO(n:Nat):List D->List D
 |[]=>[]
 |d::r=>.tuple [.int n,d]::zcO (n+1) r
theorem zaF:∀(n:Nat)(ds:List D),(zcO n ds).length=ds.length
 |_,[]=>rfl
 |n,d::r=>by rw[zcO,QK,QK,zaF]
theorem zfc:∀(n:Nat)(ds:List D)(i:Nat),(zcO n ds)[i]?=ds[i]?.map λd=>.tuple [.int ((n+i:Nat):Int),d]
 |_,[],i=>by simp[zcO]
 |n,d::r,0=>by simp[zcO]
 |n,d::r,i+1=>by
  rw[zcO,JR,JR,zfc (n+1) r i]
  have:n+1+i=n+(i+1):=by omega
  rw[this]
theorem zjQ{K:Frag}{G1:Hp}{ad:Addr}{vs:List V}{ds:List D}(h:SqL K G1 ad vs)(r:Reps K G1 vs ds):zem K (Ite K ad) (zcO 0 ds) G1 where
 go:=λi G H s1 s2 hi=>by
  rw[zaF] at hi;have hi':i<vs.length:=by rw[r.length];exact hi
  exact ⟨vs,vs[i],(s1.trans s2).seq h,Qf hi'⟩
 stop:=λi G H s1 s2 hi=>by
  rw[zaF] at hi;exact ⟨vs,(s1.trans s2).seq h,by rw[r.length];exact hi⟩
 yld:=λi G H x H' d s1 s2 e y=>by
  obtain ⟨p,v,hp,rfl,y,rfl⟩:=y;rw[zfc] at e
  cases z:ds[i]? with
  |none=>rw[z] at e;cases e
  |some d0=>
   rw[z] at e;cases e;obtain ⟨w,e1,r1⟩:=r.get z
   have:=y vs ((s1.trans s2).seq h)
   rw[e1] at this;cases this;refine ⟨upd G p (.tup [.int i,v]),Ext.new s2 hp,.tup (SqT.of zaE) (.cons ?_ (.cons ((r1.mono s1).mono (zaO (s2.free hp))) .nil))⟩;rw[Q4];exact .int _
def zk3:List D->Option (List D)
 |[.list ds]=>some (zcO 0 ds)
 |_=>none
def zdH(f:M (List D)):M (List D):=zax f λx=>mOpt (zk3 x)
theorem zcr{f:M (List D)}{p2:Pos}{elts:List Expr}{x1}{tp:Pos}(hg:Gl X "enumerate")(hm:X.mg "enumerate" = none)(ha:PA X [a] (tDs X.K B G0 f))(hs:starEach [a] X.env=[(false,eval a X.env)]:=by rfl) :
  PI X (.Tuple elts x1 tp) (.Call (.Name "enumerate" p2) [a] [] pos) (iD X.K B G0 (zdH f)):=piof (zpi hg hm ha hs) λσ H R q=>tM.toI (R0:=Reps X.K) q λv H' G' Z' x k r a=>by
 cases z:zk3 x with
 |none=>rw[z] at a;exact a.elim
 |some ds=>
  rw[z] at a;unfold zk3 at z
  split at z
  ·cases z
   obtain ⟨w,rfl,r'⟩:=r.one_inv;obtain ⟨ad,vs,rfl,h1,r1⟩:=r'.lst_inv;exact ⟨ad,vs,rfl,k.gh.seq h1,a _ G' H' k (.refl _) (zjQ h1 r1)⟩
  ·cases z
def zg5(s:D->DEnv->Option DEnv)(g:SM):List D->SM
 |[],Z=>.nx Z
 |d::r,Z=>match s d Z with
  |none=>.bad
  |some Z1=>match g Z1 with
   |.nx Z2=>zg5 s g r Z2
   |.ct Z2=>zg5 s g r Z2
   |.bk Z2=>.nx Z2
   |.rt d=>.rt d
   |.ex Z2 d=>.ex Z2 d
   |.bad=>.bad
def sFor(f:M (List D))(s:D->DEnv->Option DEnv)(g:SM):SM:=sB f λds=>zg5 s g ds
theorem zbx{iter:Expr}{body:List Stmt}{f:M (List D)}{s:D->DEnv->Option DEnv}{g:SM}(hp:PassesOwn (model X.prog X.w) X.A X.env X.xe)(hc:X.calm=true)(hi:PI X tg iter (iD X.K B G0 f))(hg:PG X tg (tG X.K B G0 s))(hb:PSs X body (tS X.K B G0 KX g))
  (hs:∀x,foldedSetIterable iter X.env x=pure x:=by intro _;rfl):PS X (.For tg iter body [] pos) (tS X.K B G0 KX (sFor f s g)) :=
 psof (zoy hp hc hi hg hb hs) λDn σ H ⟨G,Z,k,a⟩=>by
  refine ⟨G,Z,k,?_⟩;unfold sFor sB at a
  cases z:f Z with
  |bad=>rw[z] at a;exact a.elim
  |ok ds Z1=>
   rw[z] at a;dsimp only at a ⊢;intro J G1 H1 k1 s1 it;refine ⟨λi m σ' H'=>m=ds.length-i/\∃G' Z',EOk X.K B G0 G' H' σ' Z'/\Same G1 G'/\aftS X.K B G0 KX (zg5 s g (ds.drop i) Z') G' Dn,⟨ds.length,by omega,G1,Z1,k1,.refl _,by rw[List.drop_zero];exact aftS.mono s1 a⟩,?_⟩
   rintro i m σ' H' ⟨rfl,G',Z',k',s',a'⟩
   by_cases hi:i<ds.length
   ·right
    refine ⟨it.go i G' H' s' k'.gh hi,λσ2 H2=>∃G2 Z2,EOk X.K B G0 G2 H2 σ2 Z2/\Same G1 G2/\aftS X.K B G0 KX (zg5 s g (ds.drop (i+1)) Z2) G2 Dn,λσ2 H2 h2=>⟨ds.length-(i+1),by omega,rfl,h2⟩,λx H2 y=>?_⟩
    obtain ⟨G2,ex,rx⟩:=it.yld i G' H' x H2 ds[i] s' k'.gh (Qf hi) y;rw[Jj hi,zg5] at a'
    cases z2:s ds[i] Z' with
    |none=>rw[z2] at a';exact a'.elim
    |some Z2=>
     rw[z2] at a';dsimp only at a';refine ⟨G2,Z',ds[i],Z2,k'.ext ex,rx,z2,λσ3 G3 H3 k3 s3=>⟨G3,Z2,k3,?_⟩⟩;have s13:Same G1 G3:=(s'.trans ex.g).trans s3
     cases z3:g Z2 with
     |nx Z3=>rw[z3] at a';exact λσ4 G4 H4 k4 s4=>⟨G4,Z3,k4,s13.trans s4,aftS.mono ((ex.g.trans s3).trans s4) a'⟩
     |ct Z3=>rw[z3] at a';exact λσ4 G4 H4 k4 s4=>⟨G4,Z3,k4,s13.trans s4,aftS.mono ((ex.g.trans s3).trans s4) a'⟩
     |bk Z3=>rw[z3] at a';exact λσ4 G4 H4 k4 s4=>a' σ4 G4 H4 k4 ((ex.g.trans s3).trans s4)
     |rt d=>rw[z3] at a';exact a'
     |ex Z3 d=>rw[z3] at a';exact λv σ4 G4 H4 k4 s4 r4=>a' v σ4 G4 H4 k4 ((ex.g.trans s3).trans s4) r4
     |bad=>rw[z3] at a';exact a'.elim
   ·left
    rw[List.drop_eq_nil_of_le (by omega)] at a'
    exact ⟨it.stop i G' H' s' k'.gh (by omega),a' σ' G' H' k' (.refl _)⟩
theorem zny{k:Nat}{f:Addr}{fd:FuncData}{ps:List Str}{F:List D->Option D}{g:M (List D)}{x:Str}{p2:Pos}{n:Nat}(FK:FnOk X.prog X.w X.K X.mg X.base CX0 k f fd ps (spD X.K n F))(hr:Room k X.A)(hg:Gl X x)(hm:X.mg x=some (.ref f))(hk:PySem.W.keepIn X.K (.ref f)=true)
  (hb:zgV X.K fd ps []) (ha:PA X (e::es) (tDs X.K B G0 g)) (hn:(e::es).length=n) (hdb:(x==("__debug__" : Str))=false:=by decide) (he:starEach (e::es) X.env=(false,eval e X.env)::starEach es X.env:=by rfl) (hpl:(backTo pos (starEach es X.env)).any (·.1)=false:=by rfl) :
  PE X (.Call (.Name x p2) (e::es) [] pos) (tD X.K B G0 (zax g λxs=>if xs.length=n then mOpt (F xs) else λ_=>.bad)) :=
 peof (zo8 FK hr hg hm hk hb .nil zrW ha hdb he hpl) λσ H Q q=>tM.one (R:=Reps X.K) q λv H2 G Z ds k r a=>by
  split at a
  ·rename_i hl
   obtain ⟨d,e,a⟩:=a.opt;exact ⟨G,ds,d,by rw[Jb,r.length];exact hl,k.gh,by rw[Jb];exact r,e,λw G' H' ex rw=>a.done k ex rw⟩
  ·exact a.elim
end
def zcQ(N:List Str)(ds:List D):DEnv:=(ds.map λd=>some (Sl.pub d))++replicate (N.length-ds.length) none
theorem znz{K:Frag}{N:List Str}{G H:Hp}{vs:List V}{ds:List D}(s:Same G H)(r:Reps K G vs ds):EOk K H G G H (L2.zeZ N vs) (zcQ N ds) where
 bh:=.refl _
 gh:=s
 g0:=.refl _
 np:=λ_ _ _ n=>n
 len:=by unfold L2.zeZ zcQ;rw[Ql,Ql,Qb,Qb,QI,QI,r.length]
 pub:=λi d q=>by
  unfold zcQ at q;unfold L2.zeZ
  by_cases hi:i<ds.length
  ·rw[Qv (by rw[Qb];exact hi),Qe] at q
   cases z:ds[i]? with
   |none=>rw[z] at q;cases q
   |some d'=>
    rw[z] at q;cases q;obtain ⟨v,e1,r1⟩:=r.get z;refine ⟨v,?_,r1⟩;rw[Qv (by rw[Qb,r.length];exact hi),Qe,e1]
    rfl
  ·rw[Qw (by rw[Qb];omega),Qy] at q
   split at q <;> cases q
 own:=λi es q=>by
  unfold zcQ at q
  by_cases hi:i<ds.length
  ·rw[Qv (by rw[Qb];exact hi),Qe] at q
   cases z:ds[i]? with
   |none=>rw[z] at q;cases q
   |some d'=>rw[z] at q;cases q
  ·rw[Qw (by rw[Qb];omega),Qy] at q
   split at q <;> cases q
 sep:=λi j a es fs q _ _ _=>by
  unfold zcQ at q
  by_cases hi:i<ds.length
  ·rw[Qv (by rw[Qb];exact hi),Qe] at q
   cases z:ds[i]? with
   |none=>rw[z] at q;cases q
   |some d'=>rw[z] at q;cases q
  ·rw[Qw (by rw[Qb];omega),Qy] at q
   split at q <;> cases q
 dp:=by
  have key:∀{i:Nat}{s:Sl},(zcQ N ds)[i]?=some (some s)->∃d,s=.pub d:=λ{i s} q=>by
   unfold zcQ at q
   by_cases hi:i<ds.length
   ·rw[Qv (by rw[Qb];exact hi),Qe] at q
    cases z:ds[i]? with
    |none=>rw[z] at q;cases q
    |some d'=>rw[z] at q;cases q;exact ⟨_,rfl⟩
   ·rw[Qw (by rw[Qb];omega),Qy] at q
    split at q <;> cases q
  exact .of (λi p d q=>by obtain ⟨_,e⟩:=key q;cases e) λi ds q=>by obtain ⟨_,e⟩:=key q;cases e
def runD(N:List Str)(g:SM)(ds:List D):Option D:=match g (zcQ N ds) with
 |.rt d=>some d
 |.nx _=>some .none
 |_=>none
theorem okD{P:Program}{w:World}{K:Frag}{mg:Str->Option Value}{base:Heap}{x qual:Str}{st:Stmt}{f:Addr}{fd:FuncData}{N ps:List Str}{k n:Nat}{g:SM}(F:Fun K x qual st f fd)(S:zeY N ps (zak st))(hn:ps.length=n)
  (der:∀(cdv:Value)(A:Around)(outer:List Env)(s:Shared)(H:Hp)(E:XK)(B G0:Hp),Room k (A.deeper (envOfC qual (zak st) s.heap.objs.size f cdv)) ->
   PSs (cxOf CX0 P w K mg base N qual (zak st) f cdv A outer s H E).nox (zdh st) (tS K B G0 KX0 g)):FnOk P w K mg base CX0 (k+1) f fd ps (spD K n (runD N g)):=by
 refine F.ok S (λvs H Q E h=>?_) (λcdv A outer s H vs Q E hr h=>?_)
 ·obtain ⟨_,_,_,hl,_⟩:=h
  rw[hl,hn]
 ·obtain ⟨G,ds,d,hl,sg,r,hF,q⟩:=h
  refine ⟨_,der cdv A outer s H E H G hr,G,zcQ N ds,znz sg r,?_⟩;unfold runD at hF
  cases z:g (zcQ N ds) with
  |rt d'=>
   rw[z] at hF;cases hF;exact λv G' H' ex rr=>q v G' H' ex rr
  |nx Z=>
   rw[z] at hF;cases hF;exact λσ' G' H' k' _=>q .non G' H' k'.exit .non
  |bk Z=>rw[z] at hF;cases hF
  |ct Z=>rw[z] at hF;cases hF
  |ex Z d=>rw[z] at hF;cases hF
  |bad=>rw[z] at hF;cases hF
section
variable{X:Cx}{B G0:Hp}{e a b c tg:Expr}{pos:Pos}{es rest:List Expr}
def oNeg:D->Option D
 |.int i=>some (.int (-i))
 |_=>none
def dNeg(f:M D):M D:=zax f λx=>mOpt (oNeg x)
theorem zfd{f:M D}(h:PE X a (tD X.K B G0 f)):PE X (.UnaryOp .USub a pos) (tD X.K B G0 (dNeg f)) :=
 peof (zrN zqu h) λσ H Q q=>tM.one (R:=Rep X.K) q λv H2 G Z x k r a=>by
  cases x with
  |int i=>exact ⟨i,r.int_inv,aft.now a k (.int _)⟩
  |_=>exact a.elim
end
def Def(P:Program)(w:World)(K:Frag)(mg:Str->Option Value)(base:Heap)(x:Str)(k n:Nat)(F:List D->Option D):Prop :=
 ∃(f:Addr)(fd:FuncData)(ps:List Str),mg x=some (.ref f)/\PySem.W.keepIn K (.ref f)=true/\zgV K fd ps []/\FnOk P w K mg base CX0 k f fd ps (spD K n F)
def dFun(n:Nat)(F:List D->Option D)(g:M (List D)):M D:=zax g λxs=>if xs.length=n then mOpt (F xs) else λ_=>.bad
section
variable{X:Cx}{B G0:Hp}{e:Expr}{pos:Pos}{es:List Expr}
theorem zpx{k n:Nat}{F:List D->Option D}{g:M (List D)}{x:Str}{p2:Pos}(d:Def X.prog X.w X.K X.mg X.base x k n F)(hr:Room k X.A)(hg:Gl X x)(ha:PA X (e::es) (tDs X.K B G0 g))(hn:(e::es).length=n:=by rfl)
  (hdb:(x==("__debug__" : Str))=false:=by decide) (he:starEach (e::es) X.env=(false,eval e X.env)::starEach es X.env:=by rfl) (hpl:(backTo pos (starEach es X.env)).any (·.1)=false:=by rfl) :
  PE X (.Call (.Name x p2) (e::es) [] pos) (tD X.K B G0 (dFun n F g)):=by
 obtain ⟨f,fd,ps,h1,h2,h3,h4⟩:=d;exact zny h4 hr hg h1 h2 h3 ha hn hdb he hpl
end
theorem Def.mk{P:Program}{w:World}{K:Frag}{mg:Str->Option Value}{base:Heap}{x:Str}{k n:Nat}{F:List D->Option D}{st:Stmt}{f:Addr}{fd:FuncData}{ps:List Str}(hm:mg x=some (.ref f))(FU:Fun K x x st f fd)(hb:zgV K fd ps [])(ok:FnOk P w K mg base CX0 k f fd ps (spD K n F)) :
  Def P w K mg base x k n F:=⟨f,fd,ps,hm,FU.kp,hb,ok⟩
theorem zqT{K:Frag}{H:Hp}{a:Addr}{ns:List Int}{F:List D->Option D}{E:XK}(hS:SqL K H a (ns.map V.int))(h:F [.list (ns.map int)]=some (.bool true)):spD K 1 F [.ref a] H (λv _=>v=.bl true) E :=
 ⟨H,[.list (ns.map int)],.bool true,rfl,.refl _,.cons (.lst hS (Reps.ints ns)) .nil,h,λ_ _ _ _ r=>r.bl_inv⟩
end DL
namespace L2
open PySem PySem.Spec PyProof.Rows
theorem mem_of_lookup{x:Str}{k:NameKind}:∀{l:List (Str×NameKind)},l.lookup x=some k->(x,k)∈l
 |[],h=>by cases h
 |(y,j)::r,h=>by
  rw[QU] at h
  split at h
  ·rename_i e
   cases h
   have:x=y:=by simpa using e
   rw[this];exact Qm
  ·exact Qk _ (mem_of_lookup h)
theorem zen{env:Env}:∀(l:List (Str×NameKind))(acc:List (Str×Addr)),(∀y∈l,y.2=.free->∃c,env.cells.lookup y.1=some c) ->
  ∃cl,(forIn l acc (λx r=>if (x.2==NameKind.free)=true then (do let a ←cellOf env x.1;pure (ForInStep.yield ((x.1,a)::r))) else pure (ForInStep.yield r)):Sem (List (Str×Addr)))=pure cl /\
   (∀x c,cl.lookup x=some c->acc.lookup x=some c∨env.cells.lookup x=some c)/\(∀y∈l,y.2=.free->∃c,cl.lookup y.1=some c)/\(∀x c,acc.lookup x=some c->∃c',cl.lookup x=some c')
 |[],acc,_=>⟨acc,rfl,λ_ _ h=>.inl h,λ_ h=>absurd h (by simp),λx c h=>⟨c,h⟩⟩
 |(n,k)::r,acc,h=>by
  by_cases hk:k=.free
  ·subst hk
   obtain ⟨c,hc⟩:=h (n,.free) Qm rfl;obtain ⟨cl,e,p1,p2,p3⟩:=zen r ((n,c)::acc) λy hy=>h y (Qk _ hy);have hco:cellOf env n=pure c:=by unfold cellOf;rw[hc]
   have key:∀x c',((n,c)::acc).lookup x=some c'->acc.lookup x=some c'∨env.cells.lookup x=some c':=λx c' q=>by
    rw[QU] at q
    split at q
    ·rename_i e1
     cases q
     have:x=n:=by simpa using e1
     subst this;exact .inr hc
    ·exact .inl q
   have own:((n,c)::acc).lookup n=some c:=by rw[List.lookup_cons];simp
   refine ⟨cl,?_,λx c' q=>?_,λy hy hf=>?_,λx c' q=>?_⟩
   ·rw[List.forIn_cons]
    have:(if (((n,NameKind.free):Str×NameKind).2==NameKind.free)=true then (do let a ←cellOf env n;pure (ForInStep.yield ((n,a)::acc))) else pure (ForInStep.yield acc):Sem _)=pure (ForInStep.yield ((n,c)::acc)):=by
     rw[Qn (show ((n,NameKind.free).snd==NameKind.free)=true from rfl),hco];rfl
    refine Eq.trans ?_ e;dsimp only at this ⊢;rw[this]
    rfl
   ·rcases p1 x c' q with z|z
    ·exact key x c' z
    ·exact .inr z
   ·rcases QR.mp hy with z|z
    ·subst z
     exact p3 n c own
    ·exact p2 y z hf
   ·by_cases hx:x=n
    ·subst hx;exact p3 x c own
    ·refine p3 x c' ?_
     have hb:(x==n)=false:=by simpa using hx
     rw[QU,hb];exact q
  ·obtain ⟨cl,e,p1,p2,p3⟩:=zen r acc λy hy=>h y (Qk _ hy)
   refine ⟨cl,?_,p1,λy hy hf=>?_,p3⟩
   ·rw[List.forIn_cons]
    have hb:(k==NameKind.free)=false:=by cases k <;> first|rfl|exact absurd rfl hk
    refine Eq.trans ?_ e;dsimp only;rw[hb,QA (by decide)]
    rfl
   ·rcases QR.mp hy with z|z
    ·subst z;exact absurd hf hk
    ·exact p2 y z hf
theorem zjR{scope:Scope}{env:Env}(h:∀y∈scope.names,y.2=.free->∃c,env.cells.lookup y.1=some c) :
  ∃cl,closureFor scope env=pure cl/\(∀x c,cl.lookup x=some c->env.cells.lookup x=some c)/\∀y∈scope.names,y.2=.free->∃c,cl.lookup y.1=some c:=by
 obtain ⟨cl,e,p1,p2,_⟩:=zen scope.names [] h;refine ⟨cl,?_,λx c q=>(p1 x c q).elim (λz=>by cases z) id,p2⟩
 have e2:((forIn scope.names [] (λx r=>if (x.2==NameKind.free)=true then (do let a ←cellOf env x.1;pure (ForInStep.yield ((x.1,a)::r))) else pure (ForInStep.yield r)):Sem (List (Str×Addr))) >>= λs=>pure s)=pure cl:=by
  rw[e];rfl
 exact e2
theorem zfe{env:Env}{x:Str}{k:NameKind}:∀{names:List (Str×NameKind)},(names.map λ(n,k)=>if (k==NameKind.free&&env.scope.kind==.function&&env.kindOf n==some .cell) then (n,NameKind.cell) else (n,k)).lookup x=some k ->
  names.lookup x=some k∨(names.lookup x=some .free/\k=.cell)
 |[],h=>by cases h
 |(n,j)::r,h=>by
  have ih:=@zfe env x k r;have h:List.lookup x ((if (j==NameKind.free&&env.scope.kind==.function&&env.kindOf n==some .cell)=true then (n,NameKind.cell) else (n,j))::_)=some k:=h
  cases hx:x==n with
  |true=>
   by_cases hc:(j==NameKind.free&&env.scope.kind==.function&&env.kindOf n==some .cell)=true
   ·rw[Qn hc] at h
    simp only[QU,hx] at h ⊢;cases h;simp only[Jm] at hc
    have:j=.free:=by have:=hc.1.1;cases j <;> first|rfl|cases this
    subst this;exact .inr ⟨rfl,rfl⟩
   ·rw[QA hc] at h
    simp only[QU,hx] at h ⊢;exact .inl h
  |false=>
   by_cases hc:(j==NameKind.free&&env.scope.kind==.function&&env.kindOf n==some .cell)=true
   ·rw[Qn hc] at h
    simp only[QU,hx] at h ⊢;exact ih h
   ·rw[QA hc] at h
    simp only[QU,hx] at h ⊢;exact ih h
theorem zeE{env:Env}{x:Str}:∀{names:List (Str×NameKind)},names.lookup x=some .free ->
  (names.map λ(n,k)=>if (k==NameKind.free&&env.scope.kind==.function&&env.kindOf n==some .cell) then (n,NameKind.cell) else (n,k)).lookup x=some .free ∨
  (names.map λ(n,k)=>if (k==NameKind.free&&env.scope.kind==.function&&env.kindOf n==some .cell) then (n,NameKind.cell) else (n,k)).lookup x=some .cell
 |[],h=>by cases h
 |(n,j)::r,h=>by
  have ih:=@zeE env x r;show List.lookup x ((if (j==NameKind.free&&env.scope.kind==.function&&env.kindOf n==some .cell)=true then (n,NameKind.cell) else (n,j))::_)=_∨List.lookup x ((if (j==NameKind.free&&env.scope.kind==.function&&env.kindOf n==some .cell)=true then (n,NameKind.cell) else (n,j))::_)=_
  cases hx:x==n with
  |true=>
   simp only[QU,hx] at h;cases h
   by_cases hc:(NameKind.free==NameKind.free&&env.scope.kind==.function&&env.kindOf n==some .cell)=true
   ·rw[if_pos hc];simp[List.lookup_cons,hx]
   ·rw[if_neg hc];simp[List.lookup_cons,hx]
  |false=>
   simp only[QU,hx] at h
   by_cases hc:(j==NameKind.free&&env.scope.kind==.function&&env.kindOf n==some .cell)=true
   ·rw[Qn hc];simp only[QU,hx];exact ih h
   ·rw[QA hc];simp only[QU,hx];exact ih h
theorem zfP{env:Env}{x:Str}:∀{names:List (Str×NameKind)},names.lookup x=some .globalImplicit ->
  (names.map λ(n,k)=>if (k==NameKind.free&&env.scope.kind==.function&&env.kindOf n==some .cell) then (n,NameKind.cell) else (n,k)).lookup x=some .globalImplicit
 |[],h=>by cases h
 |(n,j)::r,h=>by
  have ih:=@zfP env x r;show List.lookup x ((if (j==NameKind.free&&env.scope.kind==.function&&env.kindOf n==some .cell)=true then (n,NameKind.cell) else (n,j))::_)=_
  cases hx:x==n with
  |true=>
   simp only[QU,hx] at h;cases h;rw[if_neg (by simp)]
   simp[List.lookup_cons,hx]
  |false=>
   simp only[QU,hx] at h
   by_cases hc:(j==NameKind.free&&env.scope.kind==.function&&env.kindOf n==some .cell)=true
   ·rw[Qn hc];simp only[QU,hx];exact ih h
   ·rw[QA hc];simp only[QU,hx];exact ih h
def Cx.blk(X:Cx)(N':List Str)(scope:Scope)(cl:List (Str×Addr))(C:Addr)(s₀:Shared)(H₀:Hp)(ex:List Addr):Cx :=
 { X with N:=N',s₀:=s₀,H₀:=H₀,env:=compEnvC scope cl C X.env,outer:=X.stack,ex:=ex,fn:=λ_=>false,xe:=λ_ _=>False }
section
variable{X:Cx}{N':List Str}{scope:Scope}{cl:List (Str×Addr)}{C:Addr}{s₀:Shared}{H₀:Hp}{ex:List Addr}{x:Str}
theorem zpy(h:scope.names.lookup x=some .local∨scope.names.lookup x=some .free):Vis (X.blk N' scope cl C s₀ H₀ ex).env.scope x:=by
 rcases h with h|h
 ·exact .inl (lookup_relabel_local h)
 ·rcases zeE (env:=X.env) h with z|z
  ·exact .inr (.inr z)
  ·exact .inr (.inl z)
theorem za2(h:scope.names.lookup x=some .local):Loc (X.blk N' scope cl C s₀ H₀ ex).env.scope x:=.inl (lookup_relabel_local h)
theorem zbi(h:scope.names.lookup x=some .local):(X.blk N' scope cl C s₀ H₀ ex).env.scope.names.lookup x=some .local:=lookup_relabel_local h
theorem zdM(h:scope.names.lookup x=some .globalImplicit):Gl (X.blk N' scope cl C s₀ H₀ ex) x:=zfP h
end
def zdT(names:List (Str×NameKind))(N N2:List Str)(k:Nat):Bool :=
 N2.length==N.length+k&&(List.range N2.length).all λi=>match N2[i]? with
  |none=>true
  |some x=>match names.lookup x with
   |some .free=>N[i]?==some x
   |some .local=>decide (N.length<=i)&&decide (i<N.length+k)
   |some .cell=>false
   |_=>true
theorem zg6{names:List (Str×NameKind)}{N N2:List Str}{k:Nat}(h:zdT names N N2 k=true) :
  N2.length=N.length+k/\∀(i:Nat) x,N2[i]?=some x->(names.lookup x=some .free->N[i]?=some x)/\(names.lookup x=some .local->N.length<=i/\i<N.length+k):=by
 unfold zdT at h;simp only[Jm,beq_iff_eq,QW,Q6] at h;refine ⟨h.1,λi x e=>?_⟩;have hi:=(Qg.mp e).1
 have:=h.2 i hi
 rw[e] at this;refine ⟨λq=>?_,λq=>?_⟩
 ·simp only[q] at this
  simpa using this
 ·simp only[q] at this
  simpa using this
theorem Inv.enter{X:Cx}{pins:List (Addr×Obj)}{σ:St}{H:Hp}{s3:Shared}(I:Inv X pins σ H s3){scope:Scope}{cl:List (Str×Addr)}{N2:List Str}{k:Nat}{h':Heap}{fp:List Addr}{t':Nat}{m0:Str->Option Value}
  (hb:zdT scope.names X.N N2 k=true) (hkind:scope.kind=.function) (hcell:∀y∈scope.names,y.2≠.cell)
  (hfree:∀y∈scope.names,y.2=.free->X.env.scope.names.lookup y.1=some .cell∨X.env.scope.names.lookup y.1=some .free)
  (cl1:∀x c,cl.lookup x=some c->X.env.cells.lookup x=some c) (cl2:∀y∈scope.names,y.2=.free->∃c,cl.lookup y.1=some c)
  (hn:h'.Ns s3.heap.objs.size m0) (hk:∀b o,s3.heap.get? b=some o->h'.get? b=some o) (hf:∀b∈fp,FpOk X pins H b) (hfo:∀b∈fp,∃o,s3.heap.get? b=some o) :
  Inv (X.blk N2 scope cl s3.heap.objs.size s3 H fp) pins (σ++replicate k none) H { s3 with heap:=h',toks:=t' }:=by
 obtain ⟨hl,hN⟩:=zg6 hb;have lt:∀b o,s3.heap.get? b=some o->b≠s3.heap.objs.size:=λb o e=>QN (Qi e);have ofl:∀x,scope.names.lookup x=some .free->(x,NameKind.free)∈scope.names:=λx h=>mem_of_lookup h;have kinv:∀x kk,(X.blk N2 scope cl s3.heap.objs.size s3 H fp).env.scope.names.lookup x=some kk->scope.names.lookup x=some kk∨(scope.names.lookup x=some .free/\kk=.cell):=λx kk h=>zfe (env:=X.env) h
 have isfree:∀x,(X.blk N2 scope cl s3.heap.objs.size s3 H fp).env.scope.names.lookup x=some .cell∨(X.blk N2 scope cl s3.heap.objs.size s3 H fp).env.scope.names.lookup x=some .free->scope.names.lookup x=some .free:=λx h=>by
  rcases h with h|h
  ·rcases kinv x _ h with z|z
   ·exact absurd rfl (hcell _ (mem_of_lookup z))
   ·exact z.1
  ·rcases kinv x _ h with z|z
   ·exact z
   ·exact z.1
 have ok:(X.blk N2 scope cl s3.heap.objs.size s3 H fp).Ok :=
  {
   mod:=I.ok.mod
   kind:=hkind
   glob:=I.ok.glob
   blt:=I.ok.blt
   above:=Qs _
   inj:=λx y c a b=>I.ok.inj x y c (cl1 x c a) (cl1 y c b)
   has:=λx h=>cl2 (x,.free) (ofl x (isfree x h)) rfl
   cab:=λx c h=>by cases h
   hd:=I.ok.hd
   frames:=I.ok.frames
   stk:=.inl rfl
   exf:=λb hb=>⟨let ⟨o,e⟩:=hfo b hb;lt b o e,λx c e=>(hf b hb).2.2.2.2.1 x c (cl1 x c e)⟩
   bs:=I.bs
   bsz:=QH I.ok.bsz I.sz
   noex:=λb o e hb=>by
    rcases (hf b hb).2.2.2.1 with z|z
    ·exact I.ok.noex b o e z
    ·exact absurd (QD (Qi e) (QH I.ok.bsz z)) (Jv _)
   exfs:=λb hb hx=>by
    rcases QR.mp (I.stkSub b hx) with z|z
    ·exact (hf b hb).2.1 z
    ·exact (hf b hb).2.2.1 z
   funs:=I.stack
   frf:=I.stkFree }
 refine ⟨ok,rfl,I.bare,Un.kept hk,⟨m0,hn,λi x v e1 e2 e3=>?_⟩,λx c e=>?_,I.hok.fresh (Qs _),λx c e=>I.freeC x c (cl1 x c e),λp hp=>?_,I.hok.kept hk,?_⟩
 ·have nl:scope.names.lookup x≠some .local:=λz=>by
   obtain ⟨g1,g2⟩:=(hN i x e1).2 z;rw[←I.len] at g1 g2;rw[Qw g1,Qy] at e2
   split at e2 <;> cases e2
  have fr:scope.names.lookup x=some .free:=by
   rcases e3 with z|z|z
   ·rcases kinv x _ z with q|q
    ·exact absurd q nl
    ·cases q.2
   ·exact isfree x (.inl z)
   ·exact isfree x (.inr z)
  have eN:=(hN i x e1).1 fr;have hi:i<σ.length:=by rw[I.len];exact (Qg.mp eN).1
  rw[Qv hi] at e2;obtain ⟨m,hm,hlk⟩:=I.loc;have hkd:=hfree _ (ofl x fr) rfl;obtain ⟨u,r,l⟩:=hlk i x v eN e2 (.inr hkd);refine ⟨u,r,.inr ⟨?_,?_⟩⟩
  ·rcases e3 with z|z|z
   ·rcases kinv x _ z with q|q
    ·exact absurd q nl
    ·cases q.2
   ·exact .inl z
   ·exact .inr z
  ·rcases l with l|⟨_,c,ec,z⟩
   ·have:X.env.scope.names.lookup x=some .local:=l.1
    rcases hkd with q|q <;> (dsimp only at q;rw[this] at q;cases q)
   ·obtain ⟨c',ec'⟩:=cl2 _ (ofl x fr) rfl
    have:=cl1 _ _ ec'
    dsimp only at this ec';rw[ec] at this;cases this;obtain ⟨o,ho,hd⟩:=z;exact ⟨c,ec',o,hk c o ho,hd⟩
 ·obtain ⟨v,o,ho,hd⟩:=I.cell x c (cl1 x c e)
  exact ⟨v,o,hk c o ho,hd⟩
 ·obtain ⟨e,n,ne,nf,d⟩:=I.pin p hp
  refine ⟨hk _ _ e,n,lt _ _ e,λz=>?_,d⟩;rcases QR.mp (I.stkSub _ z) with q|q
  ·exact ne q
  ·exact nf q
 ·rw[Ql,QI,I.len]
  exact hl.symm
section
variable{prog:Program}{w:World}{A:Around}{R:Result->Shared->Prop}{s:Shared}
end
abbrev nox:Value->Shared->Prop:=λ_ _=>False
def zdU(prog:Program)(w:World)(A:Around)(tg:Expr)(ifs:List Expr)(env:Env)(it:Value)(code:Code)(W:(Shared->Prop)->Shared->Prop):Prop :=
 ∀(R:Result->Shared->Prop)(I:Nat->Shared->Prop)(n:Nat)(s:Shared),I n s ->
  (∀n s,I n s->wpAny (model prog w) A (pyNext it) (λr s₁=>match r with
   |none=>R (.ok .next) s₁
   |some v=>wpAny (model prog w) A (letOwnedTupleGo tg it v) (λ_ s₁'=>wpAny (model prog w) A (assign tg env v) (λ_ s₂=>
     wpAny (model prog w) A (forIn ifs true λc r=>if r=true then do let ok ←isTrue c env (eval c env);pure (ForInStep.yield ok) else pure (ForInStep.yield r)) (λok s₃=>
      if ok=true then W (λs₅=>∃m,m<n/\I m s₅) s₃ else ∃m,m<n/\I m s₃) nox s₂) nox s₁') nox s₁) nox s)->codeAny (model prog w) A code R s
section
variable{prog:Program}{w:World}{A:Around}{elt tg i:Expr}{ifs:List Expr}{gens:List Comprehension}{scope:Scope}{pos:Pos}{it acc:Value}{env:Env}{j:Nat}
theorem zk4(hg:gens[j]?=some ⟨tg,i,ifs,0⟩)(hn:gens[j+1]?=none):zdU prog w A tg ifs env it (.compLoop (.ListComp elt gens scope pos) j it acc env)
  (λQ s=>wpAny (model prog w) A (eval elt env) (λx s₄=>wpAny (model prog w) A (call (.builtin "list.append") [acc,x]) (λ_ s₅=>Q s₅) nox s₄) nox s):=by
 intro R I n s h turn;refine codeAny_loop rfl I (λn s hI=>?_) n h;show wpAny _ A ((compTurn (.ListComp elt gens scope pos) j it acc env).onRaise (λx=>do noteFrame x env;theTreesLotGoes x)) _ _ s
 refine wpAny_noted ?_;unfold compTurn;dsimp only;simp only[hg,hn];refine Qd (Js (Qd (QG (turn n s hI) (λr s₁ h₁=>?_) λ_ _ h'=>h'.elim)))
 cases r with
 |none=>exact Qh h₁
 |some v=>
  refine Qd (QG h₁ (λ_ s₁' h₁'=>?_) λ_ _ h'=>h'.elim);refine Qd (QG h₁' (λ_ s₂ h₂=>Qd (QG h₂ (λok s₃ h₃=>?_) λ_ _ h'=>h'.elim)) λ_ _ h'=>h'.elim)
  cases ok with
  |false=>exact Qh ⟨rfl,h₃⟩
  |true=>exact Qd (Qd (QG h₃ (λx s₄ h₄=>Qd (QG h₄ (λ_ s₅ h₅=>Qh (Qh ⟨rfl,h₅⟩)) λ_ _ h'=>h'.elim)) λ_ _ h'=>h'.elim))
theorem zk5{tg1 i1:Expr}{ifs1:List Expr}(hg:gens[j]?=some ⟨tg,i,ifs,0⟩)(hn:gens[j+1]?=some ⟨tg1,i1,ifs1,0⟩)(hs:∀x,foldedSetIterable i1 env x=pure x):zdU prog w A tg ifs env it (.compLoop (.ListComp elt gens scope pos) j it acc env)
  (λQ s=>wpAny (model prog w) A (eval i1 env) (λx s₄=>wpAny (model prog w) A (pyIter x) (λit1 s₅=>codeAny (model prog w) A (.compStart (.ListComp elt gens scope pos) (j+1) it1 acc env)
   (λr s₆=>match r with | .ok _=>Q s₆ | .error _=>False) s₅) nox s₄) nox s):=by
 intro R I n s h turn;refine codeAny_loop rfl I (λn s hI=>?_) n h;show wpAny _ A ((compTurn (.ListComp elt gens scope pos) j it acc env).onRaise (λx=>do noteFrame x env;theTreesLotGoes x)) _ _ s
 refine wpAny_noted ?_;unfold compTurn;dsimp only;simp only[hg,hn];refine Qd (Js (Qd (QG (turn n s hI) (λr s₁ h₁=>?_) λ_ _ h'=>h'.elim)))
 cases r with
 |none=>exact Qh h₁
 |some v=>
  refine Qd (QG h₁ (λ_ s₁' h₁'=>?_) λ_ _ h'=>h'.elim);refine Qd (QG h₁' (λ_ s₂ h₂=>Qd (QG h₂ (λok s₃ h₃=>?_) λ_ _ h'=>h'.elim)) λ_ _ h'=>h'.elim)
  cases ok with
  |false=>exact Qh ⟨rfl,h₃⟩
  |true=>
   refine Qd (QG h₃ (λx s₄ h₄=>Qd (Js (Qd (wpAny_of_eq (hs x) (Qd (JC (QG h₄ (λit1 s₅ h₅=>?_) λ_ _ h'=>h'.elim))))))) λ_ _ h'=>h'.elim);refine Qd (wpAny_runOwn (codeAny_mono h₅ λr s₆ h₆=>?_))
   cases r with
   |ok f=>exact Qh ⟨rfl,h₆⟩
   |error x=>exact h₆.elim
theorem zg7{R:Result->Shared->Prop}{s:Shared}(hg:gens[j]?=some ⟨tg,i,ifs,0⟩)
  (h0:codeAny (model prog w) A (.compLoop (.ListComp elt gens scope pos) j it acc env) R s)
  (h:wpAny (model prog w) A (pyIter it) (λit' s'=>codeAny (model prog w) A (.compLoop (.ListComp elt gens scope pos) j it' acc env) R s') nox s) :
  codeAny (model prog w) A (.compStart (.ListComp elt gens scope pos) j it acc env) R s:=by
 refine codeAny_of_tree ?_;show wpAny _ _ ((compStart (.ListComp elt gens scope pos) j it acc env).onRaise (λx=>do noteFrame x env;standAt theWindowsPlace)) _ _ s
 refine wpAny_notedAt ?_;unfold compStart;have hc:(clausesOf (.ListComp elt gens scope pos))[j]?=some ⟨tg,i,ifs,0⟩:=hg;simp only[hc];show wpAny _ _ (ask >>= _) _ _ s;refine Qd (wpAny_askSetting (wpAny_ite ?_));split
 ·first
   |exact Qd (Qh (Qh (And.intro rfl h0)))
   |exact Qh (And.intro rfl h0)
 ·first
   |exact Qd (wpAny_rule (Qd (Js (Qd (QG h (λit' s' h'=>Qh (And.intro rfl h')) λ_ _ x=>x.elim)))))
   |(refine Qd (wpAny_rule ?_);show wpAny _ _ (standAt _ >>= _) _ _ s;exact Qd (Js (Qd (QG h (λit' s' h'=>Qh (And.intro rfl h')) λ_ _ x=>x.elim))))
end
end L2
namespace DL
open PySem PySem.Spec L2
open PyProof.Rows hiding St
def zff:Option Sl->Option Sl
 |some (.own _)=>none
 |some (.deep _ _)=>none
 |x=>x
def zaP(Z:DEnv):DEnv:=Z.map zff
theorem zk6{Z:DEnv}{i:Nat}{d:D}(h:(zaP Z)[i]?=some (some (.pub d))):Z[i]?=some (some (.pub d)):=by
 unfold zaP at h;rw[Qe] at h
 cases e:Z[i]? with
 |none=>rw[e] at h;cases h
 |some o=>
  rw[e] at h
  cases o with
  |none=>cases h
  |some sl=>cases sl with
   |pub d'=>cases h;rfl
   |own ds=>cases h
   |deep p d'=>cases h
theorem zcg{Z:DEnv}{i:Nat}{ds:List D}(h:(zaP Z)[i]?=some (some (.own ds))):False:=by
 unfold zaP at h;rw[Qe] at h
 cases e:Z[i]? with
 |none=>rw[e] at h;cases h
 |some o=>
  rw[e] at h
  cases o with
  |none=>cases h
  |some sl=>cases sl with
   |pub d'=>cases h
   |own ds=>cases h
   |deep p d'=>cases h
theorem zeo{Z:DEnv}{i:Nat}{p:Pat}{d:D}(h:(zaP Z)[i]?=some (some (.deep p d))):False:=by
 unfold zaP at h;rw[Qe] at h
 cases e:Z[i]? with
 |none=>rw[e] at h;cases h
 |some o=>
  rw[e] at h
  cases o with
  |none=>cases h
  |some sl=>cases sl <;> cases h
def zbG(s:D->DEnv->Option DEnv)(t:M Bool)(g:M D):List D->DEnv->List D->Option (List D)
 |[],_,es=>some es
 |d::r,Z,es=>match s d Z with
  |none=>none
  |some Z1=>match t Z1 with
   |.bad=>none
   |.ok b Z2=>if b=true then (match g Z2 with
     |.bad=>none
     |.ok e Z3=>if es.length<1000000 then zbG s t g r (zaP Z3) (es++[e]) else none)
    else zbG s t g r (zaP Z2) es
def zci(f:M (List D))(k:Nat)(s:D->DEnv->Option DEnv)(t:M Bool)(g:M D):M (List D):=λZ=>match f Z with
 |.bad=>.bad
 |.ok ds Z1=>match zbG s t g ds (zaP Z1++replicate k none) [] with
  |none=>.bad
  |some es=>.ok es Z1
def PIfs(X:Cx)(ifs:List Expr)(t:TT):Prop :=
 ∀(pins:List (Addr×Obj))(s:Shared)(σ:St)(H:Hp)(Q:Bool->Hp->Prop),Inv X pins σ H s->t σ H Q ->
  wpAny (model X.prog X.w) X.A (forIn ifs true λc r=>if r=true then do let ok ←isTrue c X.env (eval c X.env);pure (ForInStep.yield ok) else pure (ForInStep.yield r)) (TP X pins σ Q) X.xe s
section
variable{X:Cx}{B G0:Hp}
theorem zbt:PIfs X [] (tBo X.K B G0 (zah true)):=λpins s σ H Q I ⟨G,Z,k,a⟩=>wpAny_tests_nil ⟨H,I,a true G H k (.refl _) rfl⟩
theorem zgk{c:Expr}{t:M Bool}(h:PT X c (tBo X.K B G0 t)):PIfs X [c] (tBo X.K B G0 t):=λpins s σ H Q I q=>wpAny_tests_one (h pins s σ H Q I q)
theorem EOk.rebase{K:Frag}{G H:Hp}{σ:St}{Z:DEnv}(k:EOk K B G0 G H σ Z):EOk K H G G H σ (zaP Z) where
 bh:=.refl _
 gh:=k.gh
 g0:=.refl _
 np:=λ_ _ _ n=>n
 len:=by unfold zaP;rw[Qb];exact k.len
 pub:=λi d q=>k.pub i d (zk6 q)
 own:=λi ds q=>(zcg q).elim
 sep:=λi j a ds es q=>(zcg q).elim
 dp:=.of (λ_ _ _ q=>zeo q) λ_ _ q=>zcg q
theorem EOk.more{K:Frag}{G H:Hp}{σ:St}{Z:DEnv}(k:EOk K H G G H σ (zaP Z))(n:Nat):EOk K H G G H (σ++replicate n none) (zaP Z++replicate n none) where
 bh:=.refl _
 gh:=k.gh
 g0:=.refl _
 np:=λ_ _ _ n=>n
 len:=by rw[Ql,Ql,k.len,QI,QI]
 pub:=λi d q=>by
  by_cases hi:i<(zaP Z).length
  ·rw[Qv hi] at q
   rw[Qv (by rw[←k.len];exact hi)]
   exact k.pub i d q
  ·rw[Qw (Jc hi),Qy] at q
   split at q <;> cases q
 own:=λi ds q=>by
  by_cases hi:i<(zaP Z).length
  ·rw[Qv hi] at q
   exact (zcg q).elim
  ·rw[Qw (Jc hi),Qy] at q
   split at q <;> cases q
 sep:=λi j a ds es q=>by
  by_cases hi:i<(zaP Z).length
  ·rw[Qv hi] at q
   exact (zcg q).elim
  ·rw[Qw (Jc hi),Qy] at q
   split at q <;> cases q
 dp:=by
  refine .of (λi p d q=>?_) λi ds q=>?_
  ·by_cases hi:i<(zaP Z).length
   ·rw[Qv hi] at q;exact zeo q
   ·rw[Qw (Jc hi),Qy] at q;split at q <;> cases q
  ·by_cases hi:i<(zaP Z).length
   ·rw[Qv hi] at q;exact zcg q
   ·rw[Qw (Jc hi),Qy] at q;split at q <;> cases q
theorem EOk.beside{K:Frag}{G H:Hp}{σ:St}{Z:DEnv}{a:Addr}{o:HO}(k:EOk K B G0 G H σ Z)(hg:G a=none):EOk K (upd H a o) G G (upd H a o) σ (zaP Z) where
 bh:=.refl _
 gh:=λb u e=>by rw[zaI (λz=>by subst z;rw[hg] at e;cases e)];exact k.gh b u e
 g0:=.refl _
 np:=λ_ _ _ n=>n
 len:=k.rebase.len
 pub:=k.rebase.pub
 own:=λi ds q=>(zcg q).elim
 sep:=λi j a ds es q=>(zcg q).elim
 dp:=.of (λ_ _ _ q=>zeo q) λ_ _ q=>zcg q
theorem lim1:1000000<=sizeLine:=lim
def zr7:Option Sl->Option Sl
 |some (.own ds)=>some (.pub (.list ds))
 |some (.deep _ d)=>some (.pub d)
 |x=>x
def zcA(Z:DEnv):DEnv:=Z.map zr7
theorem zg8{Z:DEnv}{i:Nat}{d:D}(h:(zcA Z)[i]?=some (some (.pub d))):Z[i]?=some (some (.pub d))∨(∃ds,d=.list ds/\Z[i]?=some (some (.own ds))) ∨ ∃p,Z[i]?=some (some (.deep p d)):=by
 unfold zcA at h;rw[Qe] at h
 cases e:Z[i]? with
 |none=>rw[e] at h;cases h
 |some o=>
  rw[e] at h
  cases o with
  |none=>cases h
  |some sl=>cases sl with
   |pub d'=>cases h;exact .inl rfl
   |own ds=>cases h;exact .inr (.inl ⟨ds,rfl,rfl⟩)
   |deep p d'=>cases h;exact .inr (.inr ⟨p,rfl⟩)
theorem zcR{Z:DEnv}{i:Nat}{ds:List D}(h:(zcA Z)[i]?=some (some (.own ds))):False:=by
 unfold zcA at h;rw[Qe] at h
 cases e:Z[i]? with
 |none=>rw[e] at h;cases h
 |some o=>
  rw[e] at h
  cases o with
  |none=>cases h
  |some sl=>cases sl with
   |pub d'=>cases h
   |own ds=>cases h
   |deep p d'=>cases h
theorem zfQ{Z:DEnv}{i:Nat}{p:Pat}{d:D}(h:(zcA Z)[i]?=some (some (.deep p d))):False:=by
 unfold zcA at h;rw[Qe] at h
 cases e:Z[i]? with
 |none=>rw[e] at h;cases h
 |some o=>
  rw[e] at h
  cases o with
  |none=>cases h
  |some sl=>cases sl <;> cases h
def flat:D->Bool
 |.none=>true | .bool _=>true | .int _=>true | .str _=>true|_=>false
theorem Rep.flat{K:Frag}{G G':Hp}{v:V}{d:D}(r:Rep K G v d)(h:DL.flat d=true):Rep K G' v d:=by
 cases r with
 |non=>exact .non
 |bl b=>exact .bl b
 |int i=>exact .int i
 |str x=>exact .str x
 |lst _ _=>cases h
 |tup _ _=>cases h
 |dic _=>cases h
 |exc _ _ _ _=>cases h
 |dct _ _ _ _ _=>cases h
 |dtt _ _ _ _=>cases h
theorem Reps.flat{K:Frag}{G G':Hp}:∀{vs:List V}{ds:List D},Reps K G vs ds->ds.all DL.flat=true->Reps K G' vs ds
 |_,_,.nil,_=>.nil
 |_,_,.cons r t,h=>by
  rw[List.all_cons,Jm] at h;exact .cons (r.flat h.1) (Reps.flat t h.2)
theorem EOk.lend{K:Frag}{B G0 G H:Hp}{σ:St}{Z:DEnv}{D:Addr}{o:HO}(k:EOk K B G0 G H σ Z)(hD:H D=none)(n:Nat):EOk K (upd H D o) H H (upd H D o) (σ++replicate n none) (zcA Z++replicate n none) where
 bh:=.refl _
 gh:=zaO hD
 g0:=.refl _
 np:=λ_ _ _ n=>n
 len:=by unfold zcA;rw[Ql,Ql,Qb,k.len,QI,QI]
 pub:=λi d q=>by
  have hl:(zcA Z).length=Z.length:=by unfold zcA;rw[Qb]
  by_cases hi:i<(zcA Z).length
  ·rw[Qv hi] at q
   rw[Qv (by rw[←k.len,←hl];exact hi)]
   rcases zg8 q with e|⟨ds,rfl,e⟩|⟨p,e⟩
   ·obtain ⟨v,h1,h2⟩:=k.pub i d e
    exact ⟨v,h1,h2.mono k.gh⟩
   ·obtain ⟨a,vs,h1,h2,h3,h4,h5⟩:=k.own i ds e
    exact ⟨.ref a,h1,.lst (SqL.of h4) (h5.mono k.gh)⟩
   ·obtain ⟨ω,k1,k2⟩:=k.dp
    obtain ⟨v,fp,s,r,_⟩:=k1 i p d e;exact ⟨v,s,r.rep k.gh⟩
  ·rw[Qw (Jc hi),Qy] at q
   split at q <;> cases q
 own:=λi ds q=>by
  by_cases hi:i<(zcA Z).length
  ·rw[Qv hi] at q
   exact (zcR q).elim
  ·rw[Qw (Jc hi),Qy] at q
   split at q <;> cases q
 sep:=λi j a ds es q=>by
  by_cases hi:i<(zcA Z).length
  ·rw[Qv hi] at q
   exact (zcR q).elim
  ·rw[Qw (Jc hi),Qy] at q
   split at q <;> cases q
 dp:=by
  refine .of (λi p d q=>?_) λi ds q=>?_
  ·by_cases hi:i<(zcA Z).length
   ·rw[Qv hi] at q;exact zfQ q
   ·rw[Qw (Jc hi),Qy] at q;split at q <;> cases q
  ·by_cases hi:i<(zcA Z).length
   ·rw[Qv hi] at q;exact zcR q
   ·rw[Qw (Jc hi),Qy] at q;split at q <;> cases q
end
def zco(s:D->DEnv->Option DEnv)(t:M Bool)(g:M D):List D->DEnv->List D->Option (List D×DEnv)
 |[],Z,es=>some (es,Z)
 |d::r,Z,es=>match s d Z with
  |none=>none
  |some Z1=>match t Z1 with
   |.bad=>none
   |.ok b Z2=>if b=true then (match g Z2 with
     |.bad=>none
     |.ok e Z3=>if es.length<1000000 then zco s t g r (zaP Z3) (es++[e]) else none)
    else zco s t g r (zaP Z2) es
def zdj(s0:D->DEnv->Option DEnv)(t0:M Bool)(f1:M (List D))(s1:D->DEnv->Option DEnv)(t1:M Bool)(g:M D):List D->DEnv->List D->Option (List D)
 |[],_,es=>some es
 |d::r,Z,es=>match s0 d Z with
  |none=>none
  |some Z1=>match t0 Z1 with
   |.bad=>none
   |.ok b Z2=>if b=true then (match f1 Z2 with
     |.bad=>none
     |.ok ds Z3=>match zco s1 t1 g ds (zaP Z3) es with
      |none=>none
      |some (es',Z4)=>zdj s0 t0 f1 s1 t1 g r Z4 es')
    else zdj s0 t0 f1 s1 t1 g r (zaP Z2) es
def zg9(f:M (List D))(k:Nat)(s:D->DEnv->Option DEnv)(t:M Bool)(f1:M (List D))(s1':D->DEnv->Option DEnv)(t1':M Bool)(g:M D):M (List D):=λZ=>match f Z with
 |.bad=>.bad
 |.ok ds Z1=>match zdj s t f1 s1' t1' g ds (zaP Z1++replicate k none) [] with
  |none=>.bad
  |some es=>.ok es Z1
def zcH(s0:D->DEnv->Option DEnv)(t0:M Bool)(f1:M (List D))(Rd:List D->DEnv->List D->Option (List D×DEnv)):List D->DEnv->List D->Option (List D×DEnv)
 |[],Z,es=>some (es,Z)
 |d::r,Z,es=>match s0 d Z with
  |none=>none
  |some Z1=>match t0 Z1 with
   |.bad=>none
   |.ok b Z2=>if b=true then (match f1 Z2 with
     |.bad=>none
     |.ok ds Z3=>match Rd ds (zaP Z3) es with
      |none=>none
      |some (es',Z4)=>zcH s0 t0 f1 Rd r Z4 es')
    else zcH s0 t0 f1 Rd r (zaP Z2) es
def lead(Rd:List D->DEnv->List D->Option (List D×DEnv))(ds:List D)(Z:DEnv)(es:List D):Option (List D):=(Rd ds Z es).map (·.1)
def zha(f:M (List D))(k:Nat)(s:D->DEnv->Option DEnv)(t:M Bool)(f1:M (List D))(s1':D->DEnv->Option DEnv)(t1':M Bool)(fx2:M (List D))(s2':D->DEnv->Option DEnv)(t2':M Bool)(g:M D):M (List D):=λZ=>match f Z with
 |.bad=>.bad
 |.ok ds Z1=>match lead (zcH s t f1 (zcH s1' t1' fx2 (zco s2' t2' g))) ds (zaP Z1++replicate k none) [] with
  |none=>.bad
  |some es=>.ok es Z1
abbrev RdB:=DEnv->List D->Option (List D×DEnv)
def rL(g:M D):RdB:=λZ es=>match g Z with
 |.bad=>none
 |.ok e Z3=>if es.length<1000000 then some (es++[e],zaP Z3) else none
def cT(s:D->DEnv->Option DEnv)(t:M Bool)(rd:RdB):List D->DEnv->List D->Option (List D×DEnv)
 |[],Z,es=>some (es,Z)
 |d::r,Z,es=>match s d Z with
  |none=>none
  |some Z1=>match t Z1 with
   |.bad=>none
   |.ok b Z2=>if b=true then (match rd Z2 es with
     |none=>none
     |some (es',Z')=>cT s t rd r Z' es')
    else cT s t rd r (zaP Z2) es
def rN(f:M (List D))(s:D->DEnv->Option DEnv)(t:M Bool)(rd:RdB):RdB:=λZ es=>match f Z with
 |.bad=>none
 |.ok ds Z3=>cT s t rd ds (zaP Z3) es
structure Left(Y:Cx)(D':Addr)(pins:List (Addr×Obj))(H G:Hp)(es':List D)(Z':DEnv)(σ':St)(H' G':Hp)(vs':List V)(s':Shared):Prop where
 inv:Inv Y pins σ' H' s'
 eok:EOk Y.K H' G' G' H' σ' Z'
 hh:∀a o,a≠D'->H a=some o->H' a=some o
 gg:Same G G'
 np:∀a(u:MO),a≠D'->H a=some u.ho->G a=none->G' a=none
 hd:H' D'=some (.lst vs')
 gd:G' D'=none
 rp:Reps Y.K G' vs' es'
def zk7(Y:Cx)(D':Addr)(W:(Shared->Prop)->Shared->Prop)(rd:RdB):Prop :=
 ∀(pins:List (Addr×Obj))(sh:Shared)(σ:St)(B1 G1 H G:Hp)(Z Z':DEnv)(vs:List V)(es es':List D)(Q:Shared->Prop),
  Inv Y pins σ H sh->EOk Y.K B1 G1 G H σ Z->B1 D'=some (.lst vs)->G1 D'=none->Reps Y.K G1 vs es->rd Z es=some (es',Z') ->
  (∀σ' H' G' vs' s',Left Y D' pins B1 G1 es' Z' σ' H' G' vs' s'->Q s')->W Q sh
section
variable{Y:Cx}{D':Addr}
theorem zk8{elt:Expr}{g:M D}(hx:Y.xe=nox)(he:∀B1 G1,PE Y elt (tD Y.K B1 G1 g)) :
  zk7 Y D' (λQ s=>wpAny (model Y.prog Y.w) Y.A (eval elt Y.env) (λx s₄=>wpAny (model Y.prog Y.w) Y.A (call (.builtin "list.append") [.ref D',x]) (λ_ s₅=>Q s₅) nox s₄) nox s) (rL g):=by
 intro pins sh σ B1 G1 H G Z Z' vs es es' Q I k hD gD r z fin;unfold rL at z
 cases zg:g Z with
 |bad=>rw[zg] at z;cases z
 |ok e Z4=>
 rw[zg] at z;dsimp only at z
 split at z
 ·rename_i hle
  cases z;have h:=he B1 G1 pins sh σ H (λv H8=>∃G8,EOk Y.K B1 G1 G8 H8 σ Z4/\Rep Y.K G8 v e) I ⟨G,Z,k,by unfold aft;rw[zg];exact λv G8 H8 k8 _ q=>⟨G8,k8,q⟩⟩
  rw[hx] at h;refine thn h λev s8 ⟨v,H8,I8,rv,G8,k8,r8⟩=>?_;have h2:=zg2 pins s8 σ H8 (.ref D') [v] (.ref D') [ev] (λ_ H9=>H9=upd H8 D' (.lst (vs++[v]))) I8 rfl (.cons rv .nil) ⟨D',vs,v,rfl,rfl,k8.bh _ _ hD,by have:=lim1;rw[r.length];omega,rfl⟩
  rw[hx] at h2;refine thn h2 λ_ s9 ⟨_,H9,I9,_,e9⟩=>?_;subst e9;have g8:=k8.np _ (.l _) hD gD;exact fin σ _ G8 _ s9 ⟨I9,k8.beside g8,λa o z q=>by rw[zaI z];exact k8.bh a o q,k8.g0,λa o _ q w=>k8.np a o q w,zaE,g8,(r.mono k8.g0).append (.cons r8 .nil)⟩
 ·cases z
theorem zi4{tg:Expr}{ifs:List Expr}{code:Code}{W:(Shared->Prop)->Shared->Prop}{s:D->DEnv->Option DEnv}{t:M Bool}{rd:RdB}{it:Addr}(hx:Y.xe=nox)(hc:Y.calm=true)(rule:zdU Y.prog Y.w Y.A tg ifs Y.env (.ref it) code W)
  (hg:∀B1 G1,PG Y tg (tG Y.K B1 G1 s)) (ht:∀B1 G1,PIfs Y ifs (tBo Y.K B1 G1 t)) (hb:zk7 Y D' W rd)
  {pins:List (Addr×Obj)} {sh:Shared} {σ:St} {H G:Hp} {Z ZF:DEnv} {fp:List Addr} {tn:Nat->Heap->Prop} {J:It} {ds es esF:List D} {vs:List V} {R:Result->Shared->Prop}
  (I:Inv Y pins σ H sh) (T:Turn Y.prog Y.w Y.K tg J fp it tn) (st:tn 0 sh.heap) (hf:∀b∈fp,FpOk Y pins H b)
  (k:EOk Y.K H G G H σ Z) (its:zem Y.K J ds G) (hD:H D'=some (.lst vs)) (gD:G D'=none) (r:Reps Y.K G vs es) (zl:cT s t rd ds Z es=some (esF,ZF))
  (hfin:∀σ' H' G' vs' s',Left Y D' pins H G esF ZF σ' H' G' vs' s'->R (.ok .next) s'):codeAny (model Y.prog Y.w) Y.A code R sh:=by
 have stat:∀{H':Hp},(∀b∈fp,H' b=none)->∀b∈fp,FpOk Y pins H' b:=λhn b hb=>⟨hn b hb,(hf b hb).2⟩
 refine rule R (λn s'=>∃i σ' H' G' Z' vs' es',n=ds.length-i/\tn i s'.heap/\(∀b∈fp,H' b=none)/\Left Y D' pins H G es' Z' σ' H' G' vs' s'/\cT s t rd (ds.drop i) Z' es'=some (esF,ZF)) ds.length sh
  ⟨0,σ,H,G,Z,vs,es,rfl,st,λb hb=>(hf b hb).1,⟨I,k,λ_ _ _ q=>q,.refl _,λ_ _ _ _ n=>n,hD,gD,r⟩,by rw[List.drop_zero];exact zl⟩ ?_
 rintro n s' ⟨i,σ',H',G',Z',vs',es',rfl,tn',fr',⟨I',k',sh',sg',np',hD',gD',r'⟩,zc⟩
 by_cases hlt:i<ds.length
 ·rw[Jj hlt,cT] at zc
  cases zs:s ds[i] Z' with
  |none=>rw[zs] at zc;cases zc
  |some Z2=>
  rw[zs] at zc;dsimp only at zc
  cases zt:t Z2 with
  |bad=>rw[zt] at zc;cases zc
  |ok b Z3=>
  rw[zt] at zc;dsimp only at zc;refine thn (T.item Y rfl rfl rfl hc i pins s' σ' H' nox I' (stat fr') tn' (its.go i G' H' sg' k'.gh hlt)) λrr s4 ⟨u,hr,h4⟩=>?_;subst hr;refine thn h4 λ_ s5 ⟨x,H5,I5,r5,y5,st5,fr5⟩=>?_;obtain ⟨G5,e5,rx⟩:=its.yld i G' H' x H5 ds[i] sg' k'.gh (Qf hlt) y5;have h6:=hg H' G' _ s5 σ' H5 x u (λσ6 H6=>∃G6,EOk Y.K H' G' G6 H6 σ6 Z2) (I5.pinned (stat fr5) (T.obj _ _ st5)) r5 ⟨G5,Z',ds[i],Z2,k'.ext e5,rx,zs,λσ6 G6 H6 k6 _=>⟨G6,k6⟩⟩;rw[hx] at h6;refine thn h6 λ_ s6 ⟨σ6,H6,I6,G6,k6⟩=>?_;have h7:=ht H' G' _ s6 σ6 H6 (λc H7=>c=b/\∃G7,EOk Y.K H' G' G7 H7 σ6 Z3) I6 ⟨G6,Z2,k6,by unfold aft;rw[zt];exact λc G7 H7 k7 _ q=>⟨q,G7,k7⟩⟩
  rw[hx] at h7;refine thn h7 λok s7 ⟨H7,I7,hb7,G7,k7⟩=>?_;subst hb7
  have again:∀{H9:Hp}{σ9:St}{s9:Shared},Inv Y (pins++zgS fp s5.heap) σ9 H9 s9->Inv Y pins σ9 H9 s9/\tn (i+1) s9.heap/\∀b∈fp,H9 b=none:=λ{H9 σ9 s9} I9=>by
   refine ⟨I9.unpinned,T.keep _ _ _ st5 λb hb o e=>(I9.pin (b,o) (QJ _ (QJ _ (zdu hb e)))).1,λb hb=>?_⟩;obtain ⟨o,e,d⟩:=T.obj _ _ st5 b hb;exact (I9.pin (b,o) (QJ _ (QJ _ (zdu hb e)))).2.1
  have lt:ds.length-(i+1)<ds.length-i:=Nat.sub_lt_sub_left hlt (J6 i)
  cases ok with
  |false=>
   rw[QA (by decide)] at zc ⊢
   obtain ⟨J1,J2,J3⟩:=again I7;exact ⟨_,lt,i+1,σ6,H7,G7,zaP Z3,vs',es',rfl,J2,J3,⟨J1,k7.rebase,λa o z q=>k7.bh a o (sh' a o z q),sg'.trans k7.g0,λa o z q w=>k7.np a o (sh' a _ z q) (np' a o z q w),k7.bh _ _ hD',k7.np _ (.l _) hD' gD',r'.mono k7.g0⟩,zc⟩
  |true=>
   rw[Qn rfl] at zc ⊢
   cases ze:rd Z3 es' with
   |none=>rw[ze] at zc;cases zc
   |some pr=>
   obtain ⟨es1,Z5⟩:=pr;rw[ze] at zc;refine hb _ s7 σ6 H' G' H7 G7 Z3 Z5 vs' es' es1 _ I7 k7 hD' gD' r' ze λσ9 H9 G9 vs9 s9 L=>?_;obtain ⟨J1,J2,J3⟩:=again L.inv;exact ⟨_,lt,i+1,σ9,H9,G9,Z5,vs9,es1,rfl,J2,J3,⟨J1,L.eok,λa o z q=>L.hh a o z (sh' a o z q),sg'.trans L.gg,λa o z q w=>L.np a o z (sh' a _ z q) (np' a o z q w),L.hd,L.gd,L.rp⟩,zc⟩
 ·rw[List.drop_eq_nil_of_le (Jc hlt),cT] at zc
  cases zc;refine thn (T.done Y rfl rfl rfl hc i pins s' σ' H' nox I' (stat fr') tn' (its.stop i G' H' sg' k'.gh (Jc hlt))) λrr s4 ⟨hr,I6⟩=>?_
  subst hr;exact hfin σ' H' G' vs' s4 ⟨I6,k',sh',sg',np',hD',gD',r'⟩
theorem zk9{elt tg1 i1:Expr}{ifs1:List Expr}{gens:List Comprehension}{scope:Scope}{pos:Pos}{j:Nat}{W:Value->(Shared->Prop)->Shared->Prop}{f:M (List D)}{s:D->DEnv->Option DEnv}{t:M Bool}{rd:RdB}(hx:Y.xe=nox)(hc:Y.calm=true)
  (hn:gens[j+1]?=some ⟨tg1,i1,ifs1,0⟩) (rule:∀it1,zdU Y.prog Y.w Y.A tg1 ifs1 Y.env it1 (.compLoop (.ListComp elt gens scope pos) (j+1) it1 (.ref D') Y.env) (W it1))
  (hi:∀B1 G1,PI Y tg1 i1 (iD Y.K B1 G1 f)) (hg:∀B1 G1,PG Y tg1 (tG Y.K B1 G1 s)) (ht:∀B1 G1,PIfs Y ifs1 (tBo Y.K B1 G1 t)) (hb:∀it1,zk7 Y D' (W it1) rd) :
  zk7 Y D' (λQ s=>wpAny (model Y.prog Y.w) Y.A (eval i1 Y.env) (λx s₄=>wpAny (model Y.prog Y.w) Y.A (pyIter x) (λit1 s₅=>codeAny (model Y.prog Y.w) Y.A (.compStart (.ListComp elt gens scope pos) (j+1) it1 (.ref D') Y.env)
   (λr s₆=>match r with | .ok _=>Q s₆ | .error _=>False) s₅) nox s₄) nox s) (rN f s t rd):=by
 intro pins sh σ B1 G1 H G Z Z' vs es es' Q I k hD gD r z fin;unfold rN at z
 cases zf:f Z with
 |bad=>rw[zf] at z;cases z
 |ok ds Z3=>
 rw[zf] at z;have h:=hi B1 G1 pins sh σ H (λJ1 H8=>∃G8,EOk Y.K B1 G1 G8 H8 σ Z3/\zem Y.K J1 ds G8) I ⟨G,Z,k,by rw[zf];exact λJ1 G8 H8 k8 _ q=>⟨G8,k8,q⟩⟩
 rw[hx] at h;refine thn h λxv s8 h8=>thn h8 λitv s9 h9=>?_;obtain ⟨it1,fp1,tn1,J1,H9,rfl,I9,T1,st9,f9,G9,k9,its9⟩:=h9
 have loop:codeAny (model Y.prog Y.w) Y.A (.compLoop (.ListComp elt gens scope pos) (j+1) (.ref it1) (.ref D') Y.env) (λr s₆=>match r with | .ok _=>Q s₆ | .error _=>False) s9 :=
  zi4 hx hc (rule (.ref it1)) hg ht (hb _) I9 T1 st9 f9 k9.rebase its9 (k9.bh _ _ hD) (k9.np _ (.l _) hD gD) (r.mono k9.g0) z λσ' H' G' vs' s' L=>
   fin σ' H' G' vs' s' ⟨L.inv,L.eok,λa o z q=>L.hh a o z (k9.bh a o q),k9.g0.trans L.gg,λa o z q w=>L.np a o z (k9.bh a _ q) (k9.np a o q w),L.hd,L.gd,L.rp⟩
 exact zg7 hn loop (T1.self Y.A 0 _ _ _ st9 loop)
end
def znA(Y:Cx)(e:Expr)(j:Nat)(tg:Expr)(ifs:List Expr)(rd:RdB):Prop :=
 ∀(D':Addr)(it:Value),∃W,zdU Y.prog Y.w Y.A tg ifs Y.env it (.compLoop e j it (.ref D') Y.env) W/\zk7 Y D' W rd
section
variable{Y:Cx}{elt tg i:Expr}{ifs:List Expr}{gens:List Comprehension}{scope:Scope}{pos:Pos}{j:Nat}
theorem zaZ{g:M D}(hx:Y.xe=nox)(hg:gens[j]?=some ⟨tg,i,ifs,0⟩)(hn:gens[j+1]?=none)(he:∀B1 G1,PE Y elt (tD Y.K B1 G1 g)):znA Y (.ListComp elt gens scope pos) j tg ifs (rL g) :=
 λ_ _=>⟨_,zk4 hg hn,zk8 hx he⟩
theorem zfg{tg1 i1:Expr}{ifs1:List Expr}{f:M (List D)}{s:D->DEnv->Option DEnv}{t:M Bool}{rd:RdB}(hx:Y.xe=nox)(hc:Y.calm=true)(hg:gens[j]?=some ⟨tg,i,ifs,0⟩)(hn:gens[j+1]?=some ⟨tg1,i1,ifs1,0⟩)(hs:∀x,foldedSetIterable i1 Y.env x=pure x)
  (hi:∀B1 G1,PI Y tg1 i1 (iD Y.K B1 G1 f)) (hgt:∀B1 G1,PG Y tg1 (tG Y.K B1 G1 s)) (ht:∀B1 G1,PIfs Y ifs1 (tBo Y.K B1 G1 t)) (hb:znA Y (.ListComp elt gens scope pos) (j+1) tg1 ifs1 rd):znA Y (.ListComp elt gens scope pos) j tg ifs (rN f s t rd) :=
 λD' _=>⟨_,zk5 hg hn hs,zk9 hx hc hn (λit1=>(Classical.choose_spec (hb D' it1)).1) hi hgt ht (λit1=>(Classical.choose_spec (hb D' it1)).2)⟩
end
def envB(l:Bool)(Z:DEnv):DEnv:=match l with|true=>zcA Z|false=>zaP Z
theorem zr8{K:Frag}{B G0 G1 H2:Hp}{σ:St}{Z1:DEnv}{D:Addr}(l:Bool)(k1:EOk K B G0 G1 H2 σ Z1)(hfr:H2 D=none)(n:Nat) :
  ∃Gb,EOk K (upd H2 D (.lst [])) Gb Gb (upd H2 D (.lst [])) (σ++replicate n none) (envB l Z1++replicate n none)/\Same G1 Gb/\Gb D=none /\
   ∀(G' H':Hp) vs es,(l=true->es.all flat=true)->Same Gb G'->Same H2 H'->Same G' H'->(∀a(u:MO),H2 a=some u.ho->Gb a=none->G' a=none)->G' D=none->Reps K G' vs es->∃Gf,Ext G1 H2 Gf H'/\Gf D=none/\Reps K Gf vs es:=by
 have gD:G1 D=none:=k1.gh.free hfr
 cases l with
 |false=>exact ⟨G1,(k1.beside gD).more n,.refl _,gD,λG' H' vs es _ g h gh np d r=>⟨G',⟨h,g,gh,np⟩,d,r⟩⟩
 |true=>exact ⟨H2,k1.lend hfr n,k1.gh,hfr,λG' H' vs es fl _ h _ _ _ r=>⟨G1,⟨h,.refl _,k1.gh.trans h,λ_ _ _ n=>n⟩,gD,r.flat (fl rfl)⟩⟩
def dCG(l:Bool)(f:M (List D))(k:Nat)(s:D->DEnv->Option DEnv)(t:M Bool)(rd:RdB):M (List D):=λZ=>match f Z with
 |.bad=>.bad
 |.ok ds Z1=>match cT s t rd ds (envB l Z1++replicate k none) [] with
  |none=>.bad
  |some (es,_)=>if l=true->es.all flat=true then .ok es Z1 else .bad
theorem zii{l:Bool}{f:M (List D)}{k:Nat}{s:D->DEnv->Option DEnv}{t:M Bool}{rd:RdB}{Z Z':DEnv}{es:List D}(h:dCG l f k s t rd Z=.ok es Z'):∃ds ZF,f Z=.ok ds Z'/\cT s t rd ds (envB l Z'++replicate k none) []=some (es,ZF)/\(l=true->es.all flat=true):=by
 unfold dCG at h
 cases zf:f Z with
 |bad=>rw[zf] at h;cases h
 |ok ds Z1=>
 rw[zf] at h;dsimp only at h
 cases zl:cT s t rd ds (envB l Z1++replicate k none) [] with
 |none=>rw[zl] at h;cases h
 |some pr=>
 obtain ⟨esF,ZF⟩:=pr;rw[zl] at h;dsimp only at h
 split at h
 ·rename_i hf
  cases h;exact ⟨ds,ZF,rfl,zl,hf⟩
 ·cases h
section
variable{X:Cx}{B G0:Hp}{KX:XW}
def PBlk(X:Cx)(N2:List Str)(scope:Scope)(e tg:Expr)(ifs:List Expr)(s:D->DEnv->Option DEnv)(t:M Bool)(rd:RdB):Prop :=
 ∀(cl:List (Str×Addr))(C:Addr)(s₀:Shared)(H₀:Hp)(ex:List Addr),(∀B' G',PG (X.blk N2 scope cl C s₀ H₀ ex) tg (tG X.K B' G' s))/\(∀B' G',PIfs (X.blk N2 scope cl C s₀ H₀ ex) ifs (tBo X.K B' G' t))/\znA (X.blk N2 scope cl C s₀ H₀ ex) e 0 tg ifs rd
structure zjS(SC scope:Scope)(N1 N2:List Str)(k:Nat):Prop where
 b:zdT scope.names N1 N2 k=true
 kind:scope.kind=.function
 cell:∀y∈scope.names,y.2≠.cell
 names:∀y∈scope.names,y.2=.local->scope.names.lookup y.1=some .local
 free:∀y∈scope.names,y.2=.free->SC.names.lookup y.1=some .cell∨SC.names.lookup y.1=some .free
theorem zgl{l:Bool}{tg elt iter:Expr}{ifs:List Expr}{gs:List Comprehension}{scope:Scope}{pos pos':Pos}{N2:List Str}{k:Nat}{f:M (List D)}{s:D->DEnv->Option DEnv}{t:M Bool}{rd:RdB}{use:Option (Value->Sem Unit)}{Qc:Value->Shared->Prop}(hc:X.calm=true)
  (hi:PI X tg iter (iD X.K B G0 f)) (hblk:PBlk X N2 scope (.ListComp elt (⟨tg,iter,ifs,0⟩::gs) scope pos) tg ifs s t rd) (hb:zjS X.env.scope scope X.N N2 k) (hs:∀x,foldedSetIterable iter X.env x=pure x)
  {pins:List (Addr×Obj)} {s0:Shared} {σ:St} {G H:Hp} {Z Z1 ZF:DEnv} {ds esF:List D} (I:Inv X pins σ H s0) (k0:EOk X.K B G0 G H σ Z) (zf:f Z=.ok ds Z1) (zl:cT s t rd ds (envB l Z1++replicate k none) []=some (esF,ZF)) (hfl:l=true->esF.all flat=true)
  (hfin:∀(C D:Addr)(vs:List V)(G' H':Hp)(s4:Shared)(m:Str->Option Value),Inv X pins σ H' s4->s4.heap.Ns C m->H' C=none->C≠X.env.locals->X.s₀.heap.objs.size<=C->(∀x c,X.env.cells.lookup x=some c->c≠C)->(∀p∈X.pn++pins,p.1≠C) ->
   EOk X.K B G0 G' H' σ Z1->Same G G'->NewL X.K B G' H' σ Z1 D vs esF->compPost (model X.prog X.w) X.A X.xe use Qc (.ref D) C (.ok .next) s4) :
  wpAny (model X.prog X.w) X.A (comprehension (.ListComp elt (⟨tg,iter,ifs,0⟩::gs) scope pos) scope X.env pos' (newList []) false (eval iter X.env) use) Qc X.xe s0:=by
 obtain ⟨cl,hcl,cl1,cl2⟩:=zjR (scope:=scope) (env:=X.env) λy hy hf=>I.ok.has y.1 (hb.free y hy hf);refine wpAny_comprehension_free (use:=use) rfl hs hcl hb.kind hb.names (thn (hi pins s0 σ H (λJ H1=>∃G1,EOk X.K B G0 G1 H1 σ Z1/\Same G G1/\zem X.K J ds G1) I ⟨G,Z,k0,by rw[zf];exact λJ G1 H1 k1 s1 it=>⟨G1,k1,s1,it⟩⟩) λv s1 h1=>thn h1 λitv s2 h2=>?_)
 obtain ⟨it,fp,tn,J,H2,rfl,I2,T,st2,f2,G1,k1,sg1,its⟩:=h2;refine wpAny_newObj_type (wpAny_newFunctionEnv hb.cell (by intro y hy;simp at hy) (λh₁ hns₁ hsb₁=>?_) hb.kind)
 dsimp only at hns₁ hsb₁ ⊢;have hfr:H2 s2.heap.objs.size=none:=I2.hok.fresh (Qs _)
 have I3:Inv X pins σ (upd H2 s2.heap.objs.size (.lst [])) { s2 with heap:=s2.heap.push { cls:=.type "list", dict:=none,data:=.seq ([]:List Value).toArray } } :=
  I2.laid (t':=s2.toks) (λb u e=>Qj _ e) (Qs _) ⟨JG _,[],0,.nil,Qx _ rfl⟩
 generalize hP:s2.heap.push { cls:=.type "list", dict:=none,data:=.seq ([]:List Value).toArray }=P at I3 hns₁ hsb₁ ⊢
 have old:∀b o,s2.heap.get? b=some o->P.get? b=some o:=λb o e=>hP ▸ Qj _ e;have kept:∀b o,P.get? b=some o->h₁.get? b=some o:=λb o e=>hsb₁.extBut b o (QN (Qi e)) (Qj _ e);have fpo:∀b∈fp,∃o,s2.heap.get? b=some o:=λb hb=>let ⟨o,e,_⟩:=T.obj _ _ st2 b hb;⟨o,e⟩
 have fpD:∀b∈fp,b≠s2.heap.objs.size:=λb hb=>let ⟨o,e⟩:=fpo b hb;QN (Qi e)
 have f3:∀b∈fp,FpOk X pins (upd H2 s2.heap.objs.size (.lst [])) b:=λb hb=>⟨by rw[zaI (fpD b hb)];exact (f2 b hb).1,(f2 b hb).2⟩
 have I4:=I3.enter (scope:=scope) (cl:=cl) (N2:=N2) (k:=k) (fp:=fp) (t':=s2.toks+([]:List (Str×Value)).length) hb.b hb.kind hb.cell hb.free cl1 cl2 hns₁ kept f3 (λb hb=>let ⟨o,e⟩:=fpo b hb;⟨o,old b o e⟩)
 dsimp only at I4;obtain ⟨Gb,kb,sgb,gbD,ex⟩:=zr8 l k1 hfr k;have sH:Same H2 (upd H2 s2.heap.objs.size (.lst [])):=zaO hfr;have hD3:upd H2 s2.heap.objs.size (.lst []) s2.heap.objs.size=some (.lst []):=zaE;generalize upd H2 s2.heap.objs.size (.lst [])=H3 at I3 I4 f3 kb sH hD3;generalize s2.heap.objs.size=D at *;have tn0:tn 0 h₁:=T.keep 0 _ _ st2 λb hb o e=>kept b o (old b o e)
 have stat:∀b∈fp,FpOk (X.blk N2 scope cl P.objs.size { s2 with heap:=P } H3 fp) pins H3 b:=λb hb=>by
  obtain ⟨z0,z1,z2,z3,z4,z5⟩:=f3 b hb;obtain ⟨o,e⟩:=fpo b hb;refine ⟨z0,QN (Qi (old b o e)),λz=>?_,.inl hb,λx c q=>z4 x c (cl1 x c q),z5⟩;rcases QR.mp (I3.stkSub b z) with q|q
  ·exact z1 q
  ·exact z2 q
 have neD:∀a o,H2 a=some o->a≠D:=λa o q z=>by subst z;rw[hfr] at q;cases q
 obtain ⟨hg,ht,hcl'⟩:=hblk cl P.objs.size { s2 with heap:=P } H3 fp;obtain ⟨W,rule,body⟩:=hcl' D (.ref it)
 have loop:=zi4 (Y:=X.blk N2 scope cl P.objs.size { s2 with heap:=P } H3 fp) (D':=D) (R:=compPost (model X.prog X.w) X.A X.xe use Qc (.ref D) P.objs.size) rfl hc rule hg ht body I4 T tn0 stat kb
  ⟨λi G H s1 s2 hi=>its.go i G H (sgb.trans s1) s2 hi,λi G H s1 s2 hi=>its.stop i G H (sgb.trans s1) s2 hi,λi G H x H' d s1 s2 e y=>its.yld i G H x H' d (sgb.trans s1) s2 e y⟩ hD3 gbD .nil zl λσ' H' G' vs' s4 L=>by
   obtain ⟨m,hm,_⟩:=id L.inv.loc;have I7:Inv X pins σ H' s4:=I3.call' (ch:=fp) L.inv.os L.inv.base L.inv.hok L.inv.bare λb hb=>⟨(f3 b hb).2.2.2.1,(f3 b hb).2.1,(f3 b hb).2.2.2.2.1,(f3 b hb).2.2.2.2.2⟩;obtain ⟨Gf,eF,dF,rF⟩:=ex G' H' vs' esF hfl L.gg (λa o q=>L.hh a o (neD a o q) (sH a o q)) L.eok.gh (λa o q z=>L.np a o (neD a _ q) (sH a _ q) z) L.gd L.rp
   refine hfin P.objs.size D vs' Gf H' s4 m I7 hm L.inv.free (JN I3.lt) I3.sz (λx c e z=>by obtain ⟨_,q⟩:=I3.cell x c e;exact absurd q.lt (by rw[z];exact Jv _)) (λp hp z=>by have:=Qi (I3.pin p hp).1;exact absurd this (by rw[z];exact Jv _))
    (k1.ext eF) (sg1.trans eF.g) ⟨k1.bh.free hfr,dF,L.hd,rF,λj es' q z=>?_,λj pt d v fp q s r=>k1.freshD eF.h hfr q s r⟩
   obtain ⟨a',ws,h1',h2',h3',h4',h5'⟩:=k1.own j es' q;rw[z] at h1';cases h1';rw[hfr] at h4';cases h4'
 exact codeAny_compStart_list loop (T.self X.A 0 _ _ _ tn0 loop)
theorem zr9{l:Bool}{tg elt iter:Expr}{ifs:List Expr}{gs:List Comprehension}{scope:Scope}{pos:Pos}{N2:List Str}{k:Nat}{f:M (List D)}{s:D->DEnv->Option DEnv}{t:M Bool}{rd:RdB}(hc:X.calm=true)
  (hi:PI X tg iter (iD X.K B G0 f)) (hblk:PBlk X N2 scope (.ListComp elt (⟨tg,iter,ifs,0⟩::gs) scope pos) tg ifs s t rd) (hb:zjS X.env.scope scope X.N N2 k) (hs:∀x,foldedSetIterable iter X.env x=pure x:=by intro _;rfl) :
  PE X (.ListComp elt (⟨tg,iter,ifs,0⟩::gs) scope pos) (tL X.K B G0 (dCG l f k s t rd)):=by
 intro pins s0 σ H Q I ⟨G,Z,k0,a⟩
 cases z:dCG l f k s t rd Z with
 |bad=>rw[z] at a;exact a.elim
 |ok es Z1=>
 rw[z] at a;obtain ⟨ds,ZF,zf,zl,hfl⟩:=zii z;rw[eval_ListComp];refine zgl hc hi hblk hb hs I k0 zf zl hfl λC D vs G' H' s4 m I7 hm hC hL hz hcl hp k' s' n=>?_;exact ⟨m,hm,λh' sb=>⟨.ref D,H',I7.turned (t':=s4.toks) (it:=C) (λb o hb e=>(sb.2 b hb).trans e) hC hL (.inr hz) hcl hp,rfl,a D vs G' H' k' s' n⟩⟩
theorem sD_g{l:Bool}{y:Str}{j:Nat}{py:Pos}{spos:Pos}{tg elt iter:Expr}{ifs:List Expr}{gs:List Comprehension}{scope:Scope}{pos:Pos}{N2:List Str}{k:Nat}{f:M (List D)}{s:D->DEnv->Option DEnv}{t:M Bool}{rd:RdB}(hN:X.N.Nodup)(hj:X.N[j]?=some y)(hy:X.env.scope.names.lookup y=some .local)(hc:X.calm=true)
  (hi:PI X tg iter (iD X.K B G0 f)) (hblk:PBlk X N2 scope (.ListComp elt (⟨tg,iter,ifs,0⟩::gs) scope pos) tg ifs s t rd) (hb:zjS X.env.scope scope X.N N2 k) (hs:∀x,foldedSetIterable iter X.env x=pure x:=by intro _;rfl)
  (hsw:swapsWith (.ListComp elt (⟨tg,iter,ifs,0⟩::gs) scope pos) (some (.Name y py)) spos.line X.env=pure true:=by rfl) :
  PS X (.Assign [.Name y py] (.ListComp elt (⟨tg,iter,ifs,0⟩::gs) scope pos) spos) (tS X.K B G0 KX (zbU j (dCG l f k s t rd))):=by
 intro pins s0 σ H Dn I ⟨G,Z,k0,a⟩;unfold zbU sB at a
 cases z:dCG l f k s t rd Z with
 |bad=>rw[z] at a;exact a.elim
 |ok es Z1=>
 rw[z] at a;dsimp only at a
 by_cases hl:j<Z1.length
 ·rw[Qn hl] at a
  obtain ⟨ds,ZF,zf,zl,hfl⟩:=zii z;rw[exec_Assign_Name_used _ _ _ _ hsw];refine Qd (Js (Qd ?_));show wpAny _ X.A (do let _ ←comprehension (.ListComp elt (⟨tg,iter,ifs,0⟩::gs) scope pos) scope X.env _ (newList []) false (eval iter X.env) (some (assign (.Name y py) X.env))) _ _ s0
  refine Qd (QG (zgl (use:=some (assign (.Name y py) X.env)) (Qc:=λ_ s'=>SP X pins Dn .next s') hc hi hblk hb hs I k0 zf zl hfl λC D vs G' H' s4 m I7 hm hC hL hz hcl hp k' s' n=>?_) (λ_ s' hq=>Qh (Qh hq)) λ_ _ e=>e);show wpAny _ X.A (assign (.Name y py) X.env (.ref D)) _ _ s4;refine wpAny_assign_Name (zeX I7 hN hj (.inl hy) (v:=.ref D) rfl (λs5 I8 ⟨ad,sb,hx⟩=>?_) (.inr hy))
  have hCa:C≠ad:=by
   rcases hx with e|e
   ·rw[e];exact hL
   ·exact Ne.symm (hcl y ad e)
  refine ⟨m,hm.sameBut sb hCa,λh' sb'=>⟨_,H',I8.turned (t':=s5.toks) (it:=C) (λb o hb e=>(sb'.2 b hb).trans e) hC hL (.inr hz) hcl hp,?_⟩⟩;exact a _ G' H' (k'.setOwn n hl) s'
 ·rw[QA hl] at a;exact a.elim
theorem zsa{K:Frag}{f f':M (List D)}(h:∀Z es Z',f Z=.ok es Z'->f' Z=.ok es Z'){σ:St}{H:Hp}{Q:VK}(q:tL K B G0 f σ H Q):tL K B G0 f' σ H Q:=by
 obtain ⟨G,Z,k,a⟩:=q;refine ⟨G,Z,k,?_⟩
 cases z:f Z with
 |bad=>rw[z] at a;exact a.elim
 |ok es Z'=>rw[z] at a;rw[h Z es Z' z];exact a
theorem zoI{K:Frag}{f f':M (List D)}{j:Nat}(h:∀Z es Z',f Z=.ok es Z'->f' Z=.ok es Z'){Dn:_}{σ:St}{H:Hp}(q:tS K B G0 KX (zbU j f) Dn σ H):tS K B G0 KX (zbU j f') Dn σ H:=by
 obtain ⟨G,Z,k,a⟩:=q;refine ⟨G,Z,k,?_⟩;unfold zbU sB at a ⊢
 cases z:f Z with
 |bad=>rw[z] at a;exact a.elim
 |ok es Z'=>rw[z] at a;rw[h Z es Z' z];exact a
end
theorem zgm{s:D->DEnv->Option DEnv}{t:M Bool}{g:M D}:∀{ds:List D}{Z:DEnv}{es esF:List D},zbG s t g ds Z es=some esF->∃ZF,cT s t (rL g) ds Z es=some (esF,ZF)
 |[],Z,es,esF,h=>by rw[zbG] at h;cases h;exact ⟨Z,rfl⟩
 |d::r,Z,es,esF,h=>by
  rw[zbG] at h;rw[cT]
  cases zs:s d Z with
  |none=>rw[zs] at h;cases h
  |some Z1=>
  rw[zs] at h;dsimp only at h ⊢
  cases zt:t Z1 with
  |bad=>rw[zt] at h;cases h
  |ok b Z2=>
  rw[zt] at h;dsimp only at h ⊢
  cases b with
  |false=>exact zgm (ds:=r) h
  |true=>
   rw[Qn rfl] at h ⊢;unfold rL
   cases zg:g Z2 with
   |bad=>rw[zg] at h;cases h
   |ok e Z3=>
   rw[zg] at h;dsimp only at h ⊢
   split at h
   ·rename_i hl
    rw[Qn hl];exact zgm (ds:=r) h
   ·cases h
theorem zdV{s:D->DEnv->Option DEnv}{t:M Bool}{g:M D}:∀{ds:List D}{Z:DEnv}{es:List D},zco s t g ds Z es=cT s t (rL g) ds Z es
 |[],Z,es=>rfl
 |d::r,Z,es=>by
  rw[zco,cT]
  cases s d Z with
  |none=>rfl
  |some Z1=>
  dsimp only
  cases t Z1 with
  |bad=>rfl
  |ok b Z2=>
  dsimp only
  cases b with
  |false=>exact zdV (ds:=r)
  |true=>
   rw[Qn rfl,Qn rfl];unfold rL
   cases g Z2 with
   |bad=>rfl
   |ok e Z3=>
   dsimp only;split
   ·exact zdV (ds:=r)
   ·rfl
theorem zdW{s s1:D->DEnv->Option DEnv}{t t1:M Bool}{f:M (List D)}{Rd:List D->DEnv->List D->Option (List D×DEnv)}{rd:RdB}(hR:∀ds Z es,Rd ds Z es=cT s1 t1 rd ds Z es) :
  ∀{ds:List D}{Z:DEnv}{es:List D},zcH s t f Rd ds Z es=cT s t (rN f s1 t1 rd) ds Z es
 |[],Z,es=>rfl
 |d::r,Z,es=>by
  rw[zcH,cT]
  cases s d Z with
  |none=>rfl
  |some Z1=>
  dsimp only
  cases t Z1 with
  |bad=>rfl
  |ok b Z2=>
  dsimp only
  cases b with
  |false=>exact zdW hR (ds:=r)
  |true=>
   rw[Qn rfl,Qn rfl];unfold rN
   cases f Z2 with
   |bad=>rfl
   |ok ds Z3=>
   dsimp only;rw[hR]
   cases cT s1 t1 rd ds (zaP Z3) es with
   |none=>rfl
   |some pr=>exact zdW hR (ds:=r)
theorem zfh{s s1:D->DEnv->Option DEnv}{t t1:M Bool}{f:M (List D)}{g:M D}:∀{ds:List D}{Z:DEnv}{es esF:List D},zdj s t f s1 t1 g ds Z es=some esF->∃ZF,cT s t (rN f s1 t1 (rL g)) ds Z es=some (esF,ZF)
 |[],Z,es,esF,h=>by rw[zdj] at h;cases h;exact ⟨Z,rfl⟩
 |d::r,Z,es,esF,h=>by
  rw[zdj] at h;rw[cT]
  cases zs:s d Z with
  |none=>rw[zs] at h;cases h
  |some Z1=>
  rw[zs] at h;dsimp only at h ⊢
  cases zt:t Z1 with
  |bad=>rw[zt] at h;cases h
  |ok b Z2=>
  rw[zt] at h;dsimp only at h ⊢
  cases b with
  |false=>exact zfh (ds:=r) h
  |true=>
   rw[Qn rfl] at h ⊢;unfold rN
   cases zg:f Z2 with
   |bad=>rw[zg] at h;cases h
   |ok ds Z3=>
   rw[zg] at h;dsimp only at h ⊢;rw[←zdV]
   cases zl:zco s1 t1 g ds (zaP Z3) es with
   |none=>rw[zl] at h;cases h
   |some pr=>rw[zl] at h;exact zfh (ds:=r) h
theorem zbe{f:M (List D)}{k:Nat}{s:D->DEnv->Option DEnv}{t:M Bool}{g:M D}(Z:DEnv)(es:List D)(Z':DEnv)(h:zci f k s t g Z=.ok es Z'):dCG false f k s t (rL g) Z=.ok es Z':=by
 unfold zci at h;unfold dCG
 cases zf:f Z with
 |bad=>rw[zf] at h;cases h
 |ok ds Z1=>
 rw[zf] at h;dsimp only[envB] at h ⊢
 cases zl:zbG s t g ds (zaP Z1++replicate k none) [] with
 |none=>rw[zl] at h;cases h
 |some esF=>
 rw[zl] at h;cases h;obtain ⟨ZF,e⟩:=zgm zl;rw[e];exact Qn λz=>by cases z
theorem zla{f f1:M (List D)}{k:Nat}{s s1:D->DEnv->Option DEnv}{t t1:M Bool}{g:M D}(Z:DEnv)(es:List D)(Z':DEnv)(h:zg9 f k s t f1 s1 t1 g Z=.ok es Z'):dCG false f k s t (rN f1 s1 t1 (rL g)) Z=.ok es Z':=by
 unfold zg9 at h;unfold dCG
 cases zf:f Z with
 |bad=>rw[zf] at h;cases h
 |ok ds Z1=>
 rw[zf] at h;dsimp only[envB] at h ⊢
 cases zl:zdj s t f1 s1 t1 g ds (zaP Z1++replicate k none) [] with
 |none=>rw[zl] at h;cases h
 |some esF=>
 rw[zl] at h;cases h;obtain ⟨ZF,e⟩:=zfh zl;rw[e];exact Qn λz=>by cases z
theorem zlb{f f1 f2:M (List D)}{k:Nat}{s s1 s2:D->DEnv->Option DEnv}{t t1 t2:M Bool}{g:M D}(Z:DEnv)(es:List D)(Z':DEnv)(h:zha f k s t f1 s1 t1 f2 s2 t2 g Z=.ok es Z'):dCG false f k s t (rN f1 s1 t1 (rN f2 s2 t2 (rL g))) Z=.ok es Z':=by
 unfold zha at h;unfold dCG
 cases zf:f Z with
 |bad=>rw[zf] at h;cases h
 |ok ds Z1=>
 rw[zf] at h;dsimp only[envB,lead] at h ⊢;rw[zdW λ_ _ _=>zdW λ_ _ _=>zdV] at h
 cases zl:cT s t (rN f1 s1 t1 (rN f2 s2 t2 (rL g))) ds (zaP Z1++replicate k none) [] with
 |none=>rw[zl] at h;cases h
 |some pr=>
 rw[zl] at h;cases h;exact Qn λz=>by cases z
def zfR(q:Option NameKind->Bool)(SC scope:Scope)(N1 N2:List Str)(k:Nat):Bool :=
 zdT scope.names N1 N2 k&&decide (scope.kind=.function)&&scope.names.all λy=>match y.2 with
  |.cell=>false
  |.local=>decide (scope.names.lookup y.1=some .local)
  |.free=>q (SC.names.lookup y.1)
  |_=>true
def znB:Option NameKind->Bool
 |some .cell=>true|some .free=>true|_=>false
theorem zjT{q:Option NameKind->Bool}{SC SC' scope:Scope}{N1 N2:List Str}{k:Nat}(h:zfR q SC scope N1 N2 k=true)(f:∀x,q (SC.names.lookup x)=true->SC'.names.lookup x=some .cell∨SC'.names.lookup x=some .free):zjS SC' scope N1 N2 k:=by
 unfold zfR at h;rw[Jm,Jm,QW] at h;obtain ⟨⟨h1,h2⟩,h3⟩:=h;refine ⟨h1,Qa h2,λy hy e=>?_,λy hy e=>?_,λy hy e=>?_⟩
 ·have:=h3 y hy;rw[e] at this;cases this
 ·have:=h3 y hy;rw[e] at this;exact Qa this
 ·have:=h3 y hy;rw[e] at this;exact f _ this
theorem zij{SC scope:Scope}{N1 N2:List Str}{k:Nat}(h:zfR znB SC scope N1 N2 k=true):zjS SC scope N1 N2 k:=zjT h λx e=>by
 cases z:SC.names.lookup x with
 |none=>rw[z] at e;cases e
 |some y=>rw[z] at e;cases y <;> first|exact .inl rfl|exact .inr rfl|cases e
section
variable{X:Cx}{B G0:Hp}{KX:XW}
theorem zdI{l:Bool}{tg elt iter:Expr}{ifs:List Expr}{gs:List Comprehension}{scope:Scope}{pos:Pos}{f:M (List D)}{s:D->DEnv->Option DEnv}{t:M Bool}{rd:RdB}{F:M (List D)}(SC:Scope)(N1 N2:List Str)(k:Nat)(le:∀Z es Z',F Z=.ok es Z'->dCG l f k s t rd Z=.ok es Z')(hc:X.calm=true)
  (hi:PI X tg iter (iD X.K B G0 f)) (hblk:PBlk X N2 scope (.ListComp elt (⟨tg,iter,ifs,0⟩::gs) scope pos) tg ifs s t rd) (h1:X.env.scope=SC) (h2:X.N=N1) (hb:zfR znB SC scope N1 N2 k=true) (hs:∀x,foldedSetIterable iter X.env x=pure x:=by intro _;rfl) :
  PE X (.ListComp elt (⟨tg,iter,ifs,0⟩::gs) scope pos) (tL X.K B G0 F) :=
 peof (zr9 hc hi hblk (by rw[h1,h2];exact zij hb) hs) λ_ _ _ q=>zsa le q
theorem sD_1{l:Bool}{y:Str}{j:Nat}{py:Pos}{spos:Pos}{tg elt iter:Expr}{ifs:List Expr}{gs:List Comprehension}{scope:Scope}{pos:Pos}{f:M (List D)}{s:D->DEnv->Option DEnv}{t:M Bool}{rd:RdB}{F:M (List D)}(SC:Scope)(N1 N2:List Str)(k:Nat)(le:∀Z es Z',F Z=.ok es Z'->dCG l f k s t rd Z=.ok es Z')(hN:X.N.Nodup)(hj:X.N[j]?=some y)(hy:X.env.scope.names.lookup y=some .local)(hc:X.calm=true)
  (hi:PI X tg iter (iD X.K B G0 f)) (hblk:PBlk X N2 scope (.ListComp elt (⟨tg,iter,ifs,0⟩::gs) scope pos) tg ifs s t rd) (h1:X.env.scope=SC) (h2:X.N=N1) (hb:zfR znB SC scope N1 N2 k=true) (hs:∀x,foldedSetIterable iter X.env x=pure x:=by intro _;rfl)
  (hsw:swapsWith (.ListComp elt (⟨tg,iter,ifs,0⟩::gs) scope pos) (some (.Name y py)) spos.line X.env=pure true:=by rfl) :
  PS X (.Assign [.Name y py] (.ListComp elt (⟨tg,iter,ifs,0⟩::gs) scope pos) spos) (tS X.K B G0 KX (zbU j F)) :=
 psof (sD_g hN hj hy hc hi hblk (by rw[h1,h2];exact zij hb) hs hsw) λ_ _ _ q=>zoI le q
end
theorem znC{f:M (List D)}{k:Nat}{s s1' s2':D->DEnv->Option DEnv}{t t1' t2':M Bool}{f1 f2:M (List D)}{g:M D}{Z Z1 Z2:DEnv}{ds es:List D}(h1:f Z=.ok ds Z1)(h2:zcH s t f1 (zcH s1' t1' f2 (zco s2' t2' g)) ds (zaP Z1++replicate k none) []=some (es,Z2)) :
  zha f k s t f1 s1' t1' f2 s2' t2' g Z=.ok es Z1:=by
 unfold zha;rw[h1];dsimp only[lead];rw[h2];rfl
section
variable{X:Cx}{B G0:Hp}{e a b c tg:Expr}{pos:Pos}{es rest:List Expr}
theorem EOk.given{K:Frag}{G H:Hp}{σ:St}{Z:DEnv}{a:Addr}{vs:List V}{ds:List D}(k:EOk K B G0 G H σ Z)(n:NewL K B G H σ Z a vs ds):EOk K B G0 (upd G a (.lst vs)) H σ Z where
 bh:=k.bh
 gh:=λb u q=>by
  by_cases z:b=a
  ·subst z;rw[zaE] at q;cases q;exact n.h
  ·rw[zaI z] at q;exact k.gh b u q
 g0:=k.g0.trans (zaO n.g)
 np:=λb o q z=>by
  have zb:b≠a:=λz=>by subst z;rw[n.b] at q;cases q
  rw[zaI zb];exact k.np b o q z
 len:=k.len
 pub:=λi d q=>let ⟨v,h1,h2⟩:=k.pub i d q;⟨v,h1,h2.mono (zaO n.g)⟩
 own:=λi ds q=>by
  obtain ⟨b,ws,h1,h2,h3,h4,h5⟩:=k.own i ds q;have zb:b≠a:=λz=>by subst z;exact n.f i ds q h1
  exact ⟨b,ws,h1,h2,by rw[zaI zb];exact h3,h4,h5.mono (zaO n.g)⟩
 sep:=k.sep
 dp:=k.dp.map (λ_ _ _ q=>⟨q,rfl⟩) (λ_ ds q=>⟨ds,q,rfl⟩) λi p d v fp q s r w nn=>⟨r.mono (zaO n.g) (.refl _),λb m=>⟨(w b m).1,by rw[zaI (λz=>n.dp i p d v fp q s r (by rw[←z];exact m))];exact (w b m).2⟩⟩
theorem zbR{f:M (List D)}(h:PE X e (tL X.K B G0 f)):PE X e (tD X.K B G0 (mMap PyData.list f)) :=
 peof h λσ H Q ⟨G,Z,k,a⟩=>by
  refine ⟨G,Z,k,?_⟩;unfold mMap zax at a
  cases z:f Z with
  |bad=>rw[z] at a;exact a.elim
  |ok ds Z1=>
   rw[z] at a;intro ad vs G' H' k' s' n;exact a (.ref ad) _ H' (k'.given n) (s'.trans (zaO n.g)) (.lst (SqL.of zaE) (n.r.mono (zaO n.g)))
theorem znD(hc:X.calm=true):zc1 X (.builtin "all") (λxs H Q=>∃l,∃bs:List Bool,xs=[.ref l]/\SqL X.K H l (bs.map V.bl)/\Q (.bl (bs.all id)) H):=by
 intro pins s σ H xs us Q I rx h;obtain ⟨l,bs,rfl,hq,q⟩:=h;obtain ⟨u,rfl,ru⟩:=rx.one;cases ru;obtain ⟨its,rv,p,hz⟩:=I.list hq;have hl:=p.isList;have hlt:l<s.heap.objs.size:=by obtain ⟨_,e,_⟩:=id hl;exact Qi e
 have key:∀(i:Nat) v,its.toArray[i]?=some v->∃t,bs[i]?=some t/\v=.bool t:=λi v e=>by
  have e:its[i]?=some v:=by simpa using e
  have hi:i<bs.length:=by
   have:=(Qg.mp e).1
   have h2:=rv.length;rw[Qb] at h2;omega
  obtain ⟨u,e2,r2⟩:=rv.get (i:=i) (x:=.bl bs[i]) (by rw[Qe,Qf hi];rfl)
  rw[e] at e2;cases e2;exact ⟨bs[i],Qf hi,r2⟩
 refine call_all_walk (JF hl ?_)
 refine ⟨s.heap.objs.size,[s.heap.objs.size,l],[s.heap.objs.size],its.toArray.size,_,_,λi=>(bs[i]?).getD true,rfl,Walks.list (A:=X.A.in1) (I.ok.hd hc) _ l (QN hlt) its.toArray,
  ⟨⟨_,Qx _ rfl,rfl,rfl⟩,hl.push _⟩,λi v s' Q' E' hP hQ=>?_,λh' tk hk=>?_⟩
 ·obtain ⟨b,e,rfl⟩:=key i v hP
  simp only[e,JS] at hQ;exact QZ hQ
 ·have hn:its.toArray.size=bs.length:=by have:=rv.length;rw[List.length_map] at this;simp;omega
  have e:((List.range its.toArray.size).all λi=>(bs[i]?).getD true)=bs.all id:=by
   rw[hn,Bool.eq_iff_iff,QW,QW];constructor
   ·intro h b hb
    obtain ⟨i,hi,e⟩:=List.getElem_of_mem hb
    have:=h i (Q6.mpr hi)
    simp only[Qf hi,JS,e] at this;exact this
   ·intro h i hi
    have hi':=Q6.mp hi;simp only[Qf hi',JS];exact h _ (List.getElem_mem hi')
  rw[e];exact ⟨.bl (bs.all id),H,I.kept (t':=tk) λb x e=>hk b x (λhm=>by rw[Q0.mp hm] at e;exact Jv _ (Qi e)) (Qj _ e),rfl,q⟩
def zdk:List D->Option (List Bool)
 |[]=>some []
 |.bool b::r=>(zdk r).map (b :: ·)
 |_=>none
theorem zeF{K:Frag}{G:Hp}:∀{vs:List V}{ds:List D}{bs:List Bool},Reps K G vs ds->zdk ds=some bs->vs=bs.map V.bl
 |_,_,bs,.nil,e=>by cases e;rfl
 |_,_,bs,.cons (d:=d) r t,e=>by
  cases d with
  |bool b=>
   unfold zdk at e
   cases z:zdk _ with
   |none=>rw[z] at e;cases e
   |some cs=>
    rw[z] at e;cases e;rw[r.bl_inv,zeF t z];rfl
  |_=>cases e
def oAll:List D->Option D
 |[.list ds]=>(zdk ds).map λbs=>.bool (bs.all id)
 |_=>none
theorem zlc(hc:X.calm=true):zdf X (.builtin "all") oAll:=by
 refine ⟨_,znD hc,λvs G H ds d Q s r e k=>?_⟩;unfold oAll at e
 split at e
 ·rename_i ds
  cases z:zdk ds with
  |none=>rw[z] at e;cases e
  |some bs=>
   rw[z] at e;cases e;obtain ⟨v,rfl,q⟩:=r.one_inv;obtain ⟨l,ws,rfl,h1,r1⟩:=q.lst_inv;have hw:=zeF r1 z;subst hw;exact ⟨l,bs,rfl,s.seq h1,k _ G H (.refl s) (.bl _)⟩
 ·cases e
def Its(x:Str):It:=⟨λi _=>i<x.cps.size,λi H v H'=>H'=H/\∃c,x.cps[i]?=some c/\v=.str ⟨#[c]⟩,λi _=>x.cps.size<=i⟩
theorem znE{P:Program}{w:World}{K:Frag}{tg:Expr}(x:Str)(t:Tok)(it:Addr):Turn P w K tg (Its x) [it] it (λi h=>h.IsStrIter it (strIterType x) x t i) where
 mem:=by simp
 obj:=λi h st b hb=>by
  have e:b=it:=by simpa using hb
  subst e;obtain ⟨o,e,c,d⟩:=st;exact ⟨o,e,λv z=>by rw[d] at z;cases z⟩
 keep:=λi h h' st k=>by
  obtain ⟨o,e,c,d⟩:=st;exact ⟨o,k it (by simp) o e,c,d⟩
 item:=by
  intro X hP hw hK hc i pins s σ H E I hf st hg;subst hP hw hK;obtain ⟨f0,f1,f2,f3,f4,f5⟩:=hf it (by simp)
  have hx:x.cps[i]?=some x.cps[i]:=Jr hg
  have fin:∀h' tk(T:String),strIterType x=T->h'.IsStrIter it T x t (i+1)->Heap.SameBut it s.heap h'->["enumerate", "zip", "dict_itemiterator", "dict_reverseitemiterator", "odict_iterator", "itertools.zip_longest", "itertools.pairwise"].contains T=false ->
    ∃u,some (Value.str ⟨#[x.cps[i]]⟩ s.toks)=some u/\wpAny (model X.prog X.w) X.A (letOwnedTupleGo tg (.ref it) u) (λ_ s2=>∃v H',Inv X pins σ H' s2/\RelV v u/\(Its x).yld i H v H'/\s2.heap.IsStrIter it (strIterType x) x t (i+1)/\∀b∈[it],H' b=none) E { s with heap:=h',toks:=tk }:=by
   intro h' tk T eT st' sb hn;have I1:Inv X pins σ H { s with heap:=h',toks:=tk }:=I.turned (t':=tk) (λb o hb e=>(sb.2 b hb).trans e) f0 f1 f3 f4 f5;obtain ⟨o,e,c,d⟩:=id st';refine ⟨_,rfl,zkC (s:={ s with heap:=h',toks:=tk }) e c d hn ⟨.str ⟨#[x.cps[i]]⟩,H,I1,⟨_,rfl⟩,⟨rfl,_,hx,rfl⟩,by rw[eT];exact st',λb hb=>(hf b hb).1⟩⟩
  cases ha:x.cps.all (· < 128) with
  |true=>
   have eT:strIterType x = "str_ascii_iterator" := by simp[strIterType,ha]
   rw[eT] at st;exact wpAny_pyNext_ascii_item st hx λh' st' sb=>fin h' _ _ eT st' sb (by decide)
  |false=>
   have eT:strIterType x = "str_iterator" := by simp[strIterType,ha]
   rw[eT] at st;exact wpAny_pyNext_wide_item st hx λh' st' sb=>fin h' _ _ eT st' sb (by decide)
 done:=by
  intro X hP hw hK hc i pins s σ H E I hf st hg;subst hP hw hK;obtain ⟨f0,f1,f2,f3,f4,f5⟩:=hf it (by simp)
  have hx:x.cps[i]?=none:=Array.getElem?_eq_none hg
  cases ha:x.cps.all (· < 128) with
  |true=>
   have eT:strIterType x = "str_ascii_iterator" := by simp[strIterType,ha]
   rw[eT] at st;exact wpAny_pyNext_ascii_end (I.ok.hd hc) st hx λh' eb=>⟨rfl,I.turned (t':=s.toks) (λb o hb e=>eb b o hb e) f0 f1 f3 f4 f5⟩
  |false=>
   have eT:strIterType x = "str_iterator" := by simp[strIterType,ha]
   rw[eT] at st;exact wpAny_pyNext_wide_end (I.ok.hd hc) st hx λh' eb=>⟨rfl,I.turned (t':=s.toks) (λb o hb e=>eb b o hb e) f0 f1 f3 f4 f5⟩
 self:=λA i s Q E st h=>by
  cases ha:x.cps.all (· < 128) with
  |true=>
   have eT:strIterType x = "str_ascii_iterator" := by simp[strIterType,ha]
   rw[eT] at st;exact wpAny_pyIter_striter_ascii st h
  |false=>
   have eT:strIterType x = "str_iterator" := by simp[strIterType,ha]
   rw[eT] at st;exact wpAny_pyIter_striter_wide st h
def iAny(K:Frag)(tl:TE):TI:=λσ H R=>tl σ H λx H1=>(∃a,x=.ref a/\(∃xs,SqL K H1 a xs)/\R (Itl K a) H1)∨(∃a,x=.ref a/\(∃xs,SqT K H1 a xs)/\R (Itt K a) H1) ∨ ∃z,x=.str z/\R (Its z) H1
theorem zqU{l:Expr}{tl:TE}(hl:PE X l tl):PI X tg l (iAny X.K tl):=by
 intro pins s σ H R I h;refine thn (hl pins s σ H _ I h) λv s1 ⟨x,H1,I1,r1,q1⟩=>?_
 have fpOk:∀b∈[s1.heap.objs.size],FpOk X pins H1 b:=λb hb=>by
  have e:b=s1.heap.objs.size:=by simpa using hb
  subst e;exact I1.fpOk (Qs _) (I1.hok.fresh (Qs _))
 rcases q1 with ⟨a,e,⟨xs,hq⟩,q⟩|⟨a,e,⟨xs,hq⟩,q⟩|⟨z,e,q⟩
 ·subst e
  cases r1;obtain ⟨its,rv,p,hz⟩:=I1.list hq
  refine JF p.isList ?_;exact ⟨s1.heap.objs.size,[s1.heap.objs.size],_,_,H1,rfl,I1.kept (t':=s1.toks) λb o e=>Qj _ e,zkD a _,⟨_,Qx _ rfl,rfl,rfl⟩,fpOk,q⟩
 ·subst e
  cases r1;obtain ⟨its,rv,p,hz⟩:=I1.tuple hq
  refine wpAny_pyIter_tuple p ?_;exact ⟨s1.heap.objs.size,[s1.heap.objs.size],_,_,H1,rfl,I1.kept (t':=s1.toks) λb o e=>Qj _ e,zjH a _,⟨_,Qx _ rfl,rfl,rfl⟩,fpOk,q⟩
 ·subst e
  obtain ⟨t,rfl⟩:=r1;refine wpAny_pyIter_strU ?_;exact ⟨s1.heap.objs.size,[s1.heap.objs.size],_,_,H1,rfl,I1.kept (t':=s1.toks) λb o e=>Qj _ e,znE z t _,⟨_,Qx _ rfl,rfl,rfl⟩,fpOk,q⟩
def zhb(z:Str):List D:=z.cps.toList.map λc=>.str ⟨#[c]⟩
def zik:D->Option (List D)
 |.list ds=>some ds
 |.tuple ds=>some ds
 |.str z=>some (zhb z)
 |_=>none
theorem zil{K:Frag}{G1:Hp}{ad:Addr}{vs:List V}{ds:List D}(h:SqT K G1 ad vs)(r:Reps K G1 vs ds):zem K (Itt K ad) ds G1 where
 go:=λi G H s1 s2 hi=>by
  have hi':i<vs.length:=by rw[r.length];exact hi
  exact ⟨vs,vs[i],zdF (s1.trans s2) h,Qf hi'⟩
 stop:=λi G H s1 s2 hi=>⟨vs,zdF (s1.trans s2) h,by rw[r.length];exact hi⟩
 yld:=λi G H x H' d s1 s2 e y=>by
  obtain ⟨rfl,y⟩:=y;obtain ⟨v,e1,r1⟩:=r.get e
  have:=y vs (zdF (s1.trans s2) h)
  rw[e1] at this;cases this;exact ⟨G,.refl s2,r1.mono s1⟩
theorem zld{K:Frag}{G1:Hp}{z:Str}:zem K (Its z) (zhb z) G1 where
 go:=λi G H s1 s2 hi=>by unfold zhb at hi;simpa[Its] using hi
 stop:=λi G H s1 s2 hi=>by unfold zhb at hi;simpa[Its] using hi
 yld:=λi G H x H' d s1 s2 e y=>by
  obtain ⟨rfl,c,hc,rfl⟩:=y;unfold zhb at e;rw[Qe] at e
  have:z.cps.toList[i]?=some c:=by simpa using hc
  rw[this] at e;cases e;exact ⟨G,.refl s2,.str _⟩
def zaY(f:M D):M (List D):=zax f λx=>mOpt (zik x)
theorem zbr{f:M D}(h:PE X e (tD X.K B G0 f)):PI X tg e (iD X.K B G0 (zaY f)):=piof (zqU h) λσ H R q=>tM.toI (R0:=Rep X.K) q λv H' G' Z' x k r a=>by
 cases x with
 |list ds=>
  obtain ⟨ad,vs,rfl,h1,r1⟩:=r.lst_inv;exact .inl ⟨ad,rfl,⟨vs,k.gh.seq h1⟩,a _ G' H' k (.refl _) (zjN h1 r1)⟩
 |tuple ds=>
  obtain ⟨ad,vs,rfl,h1,r1⟩:=r.tup_inv;exact .inr (.inl ⟨ad,rfl,⟨vs,zdF k.gh h1⟩,a _ G' H' k (.refl _) (zil h1 r1)⟩)
 |str z=>
  have:=r.str_inv
  subst this;exact .inr (.inr ⟨z,rfl,a _ G' H' k (.refl _) zld⟩)
 |_=>exact a.elim
def inS(i j:Str):Bool:=!(Builtin.Str.occurrences j i 0 j.length 1).isEmpty
def oInS:D->D->Option Bool
 |.str i,.str j=>some (inS i j)
 |_,_=>none
def zqV:D->D->Option Bool
 |.str i,.str j=>some (!inS i j)
 |_,_=>none
theorem zsb:OpB X (compareOp .In) oInS:=⟨_,zkH,λv u G H x y d Q s rx ry e k=>by
 unfold oInS at e
 split at e
 ·cases e
  have:=rx.str_inv;subst this
  have:=ry.str_inv;subst this
  exact ⟨_,_,rfl,rfl,k⟩
 ·cases e⟩
theorem zqW:OpB X (compareOp .NotIn) zqV:=⟨_,zgT,λv u G H x y d Q s rx ry e k=>by
 unfold zqV at e
 split at e
 ·cases e
  have:=rx.str_inv;subst this
  have:=ry.str_inv;subst this
  exact ⟨_,_,rfl,rfl,k⟩
 ·cases e⟩
theorem znF{x:Str}{i:Int}(hg:Gl X x)(hm:∃t,X.mg x=some (.int i t))(hd:(x==("__debug__" : Str))=false:=by decide):PE X (.Name x pos) (tD X.K B G0 (zah (.int i))):=by
 obtain ⟨t,hm⟩:=hm;exact peof (zkz (v:=.int i) hg hm ⟨t,rfl⟩ hd) λσ H Q ⟨G,Z,k,a⟩=>aft.now a k (.int _)
end
section
variable{X:Cx}{B G0:Hp}{KX:XW}{e o a b c tg i:Expr}{pos p2:Pos}{es rest:List Expr}{te to ti:TE}
def zqX(te to ti:TE):TS:=λD σ H=>te σ H λv H1=>to σ H1 λx H2=>ti σ H2 λk H3=>∃l xs n,x=.ref l/\H3 l=some (.lst xs)/\k=.int n/\0<=n/\n<xs.length/\D.nx σ (upd H3 l (.lst (xs.set n.toNat v)))
theorem znG(he:PE X e te)(ho:PE X o to)(hi:PE X i ti)(hs:swapsWith e (some (.Subscript o i p2)) pos.line X.env=pure false:=by rfl):PS X (.Assign [.Subscript o i p2] e pos) (zqX te to ti):=by
 intro pins s σ H D I h;refine wpAny_Assign_Subscript (thn (he pins s σ H _ I h) λv s1 ⟨x,H1,I1,r1,q1⟩=>thn (ho pins s1 σ H1 _ I1 q1) λov s2 ⟨y,H2,I2,r2,q2⟩=>thn (hi pins s2 σ H2 _ I2 q2) λiv s3 ⟨k,H3,I3,r3,q3⟩=>?_) hs;obtain ⟨l,xs,n,rfl,hl,rfl,h0,h1,q⟩:=q3;cases r2;obtain ⟨t,rfl⟩:=r3;obtain ⟨z,its,m,r,hlen,ee⟩:=I3.lstM hl
 refine PySem.W.ki_setAt (items:=its.toArray) (n:=m) ee h0 (by
                                  have:sizeLine<2 ^ 63:=by decide
                                  omega) (by simp;omega) ?_
 refine ⟨σ,_,I3.lset (t':=s3.toks) (its:=its) (its':=its.set n.toNat v) (f:=(·.setIfInBounds n.toNat v)) hl ee (by simp) (r.set r1 n.toNat) (by rw[List.length_set];exact z),q⟩
def zim(j:Nat)(g f:M D):SM:=sB f λd Z1=>match Z1[j]? with
 |some (some (.own _))=>sB g (λy Z2=>match y with
  |.int k=>(match Z2[j]? with
   |some (some (.own ds))=>if 0<=k/\k<ds.length then .nx (Z2.set j (some (.own (ds.set k.toNat d)))) else .bad
   |_=>.bad)
  |_=>.bad) Z1
 |_=>.bad
theorem zgn{j:Nat}{f g:M D}(he:PE X e (tD X.K B G0 f))(ho:PE X o (tVar j))(hi:PE X i (tD X.K B G0 g))(hs:swapsWith e (some (.Subscript o i p2)) pos.line X.env=pure false:=by rfl) :
  PS X (.Assign [.Subscript o i p2] e pos) (tS X.K B G0 KX (zim j g f)) :=
 psof (znG he ho hi hs) λD σ H q=>tS.bnd (R:=Rep X.K) q λv H1 G1 Z1 d k r a=>by
  cases q0:Z1[j]? with
  |none=>rw[q0] at a;exact a.elim
  |some o0=>
   cases o0 with
   |none=>rw[q0] at a;exact a.elim
   |some sl0=>
    cases sl0 with
    |deep _ _=>rw[q0] at a;exact a.elim
    |pub d=>rw[q0] at a;exact a.elim
    |own ds0=>
     rw[q0] at a;obtain ⟨ad,vs0,h1,h2,h3,h4,h5⟩:=k.own j ds0 q0;refine ⟨.ref ad,h1,G1,Z1,k,?_⟩;dsimp only at a;unfold sB at a
     cases z:g Z1 with
     |bad=>rw[z] at a;exact a.elim
     |ok y Z2=>
      rw[z] at a;dsimp only at a;intro kv G' H' k' s' r'
      cases y with
      |int n=>
       dsimp only at a
       cases q:Z2[j]? with
       |none=>rw[q] at a;exact a.elim
       |some oo=>
        cases oo with
        |none=>rw[q] at a;exact a.elim
        |some sl=>
         cases sl with
         |deep _ _=>rw[q] at a;exact a.elim
         |pub d=>rw[q] at a;exact a.elim
         |own ds=>
          rw[q] at a;dsimp only at a
          split at a
          ·rename_i hn
           obtain ⟨ad',vs,g1,g2,g3,g4,g5⟩:=k'.own j ds q;rw[h1] at g1;cases g1;refine ⟨ad,vs,n,rfl,g4,r'.int_inv,hn.1,by rw[g5.length];exact hn.2,?_⟩
           exact a σ G' _ (k'.change q h1 (g5.set (r.mono s') n.toNat)) s'
          ·exact a.elim
      |_=>exact a.elim
def cutS(z:Str)(lo hi:Option Int):Str:=if (Builtin.Str.strSliceIndices lo hi 1 z.length).length=z.length then z else ⟨((Builtin.Str.strSliceIndices lo hi 1 z.length).filterMap (z.cps[·]?)).toArray⟩
theorem zqY:SlR X (λx lo hi H Q=>∃z,x=.str z/\(cutS z lo hi).length<=sizeLine/\Q (.str (cutS z lo hi)) H):=by
 intro pins s σ H x v vl vu lo hi sl Q I rx hs pl pu h;obtain ⟨z,rfl,hz,q⟩:=h;obtain ⟨t,rfl⟩:=rx
 refine ⟨"str", _,F.slot_str_getitem.lookup,typeIs_str s z t,?_⟩
 obtain ⟨l,el,e1⟩:∃l:Option (Int×Tok),vl=partValue l/\l.map (·.1)=lo:=by
  cases pl with
  |none=>exact ⟨none,rfl,rfl⟩
  |int k t'=>exact ⟨some (k,t'),rfl,rfl⟩
 obtain ⟨u,eu,e2⟩:∃u:Option (Int×Tok),vu=partValue u/\u.map (·.1)=hi:=by
  cases pu with
  |none=>exact ⟨none,rfl,rfl⟩
  |int k t'=>exact ⟨some (k,t'),rfl,rfl⟩
 subst el eu;refine wpAny_getItem_str_slice (l:=l) (u:=u) (st:=none) hs rfl ?_;unfold sliceMade slicePicked;rw[e1,e2];unfold cutS at hz q
 by_cases hw:(Builtin.Str.strSliceIndices lo hi 1 z.length).length=z.length
 ·rw[Qn hw] at hz q
  rw[if_pos (by simp[hw])]
  exact ⟨.str z,H,I,⟨t,rfl⟩,q⟩
 ·rw[QA hw] at hz q
  rw[if_neg (by simp[hw])]
  exact ⟨hz,.str _,H,I.tok _,⟨_,rfl⟩,q⟩
end
section
variable{X:Cx}{B G0:Hp}{KX:XW}{e o a b c tg i:Expr}{pos p2:Pos}{es rest:List Expr}{te to ti:TE}
theorem pvb(i:Nat){x:Str}{pos:Pos}{N':List Str}{scope:Scope}{cl:List (Str×Addr)}{C:Addr}{s₀:Shared}{H₀:Hp}{ex:List Addr}(hN:N'[i]?=some x:=by rfl)
  (h:scope.names.lookup x=some .local∨scope.names.lookup x=some .free:=by first|exact .inl rfl|exact .inr rfl) (hd:(x==("__debug__" : Str))=false:=by decide) (hcd:(x==("__classdict__" : Str))=false:=by decide) :
  PE (X.blk N' scope cl C s₀ H₀ ex) (.Name x pos) (tVar i):=zot hN (zpy h) hd hcd
def oSlA:D->Option Int->Option Int->Option D
 |.list xs,lo,hi=>some (.list (DL.cutD xs lo hi))
 |.str z,lo,hi=>if (cutS z lo hi).length<=1000000 then some (.str (cutS z lo hi)) else none
 |_,_,_=>none
def dSlA(f:M D)(lo hi:M (Option Int)):M D:=zax f λx=>zax lo λl=>zax hi λh=>mOpt (oSlA x l h)
theorem zcb{lo hi:Option Expr}{f:M D}{l h:M (Option Int)}(he:PE X e (tD X.K B G0 f))(hl:PO X lo (tOi X.K B G0 l))(hu:PO X hi (tOi X.K B G0 h)) :
  PE X (.Subscript e (.Slice lo hi none p2) pos) (tD X.K B G0 (dSlA f l h)) :=
 peof (znl (zpe.or zqY) he hl hu) λσ H Q q=>by
  refine tM.one (R:=Rep X.K) q λv H2 G Z x k r a=>?_;refine tM.nx (R:=λ_ b c=>b=c) k a λl' H3 G3 Z3 xl k3 s3 r3 a3=>?_;refine tM.nx (R:=λ_ b c=>b=c) k3 a3 λh' H4 G4 Z4 xh k4 s4 r4 a4=>?_;have r3:l'=xl:=r3;have r4:h'=xh:=r4;subst r3 r4;unfold mOpt oSlA at a4
  cases x with
  |list xs=>
   obtain ⟨ad,vs,rfl,h1,r1⟩:=((r.mono s3).mono s4).lst_inv;exact .inl ⟨ad,vs,rfl,k4.gh.seq h1,λp hp=>aft.done a4 k4 (Ext.new k4.gh hp) (.lst (SqL.of zaE) ((r1.cut l' h').mono (zaO (k4.gh.free hp))))⟩
  |str z=>
   dsimp only at a4
   have:=r.str_inv;subst this
   by_cases hc:(cutS z l' h').length<=1000000
   ·rw[Qn hc] at a4
    exact .inr ⟨z,rfl,QH hc lim,aft.now a4 k4 (.str _)⟩
   ·rw[QA hc] at a4;exact a4.elim
  |_=>exact a4.elim
end
section
variable{X:Cx}{B G0:Hp}{e o a b c tg:Expr}{pos p2:Pos}{es rest:List Expr}{te to ti:TE}
def zce{β:Type}(p:D->D->Option β)(i:Nat)(g:M D):M β:=λZ=>match Z[i]? with
 |some (some (.pub d))=>(zax g λy=>mOpt (p d y)) Z
 |some (some (.own _))=>(zax g λy=>λZ'=>match Z'[i]? with|some (some (.own ds))=>mOpt (p (.list ds) y) Z'|_=>.bad) Z
 |_=>.bad
theorem zqZ{K:Frag}{σ:St}{H:Hp}{p:D->D->Option Bool}{r:R2}{i:Nat}{g:M D}{Q:Bool->Hp->Prop}{QV:VK}(hq:∀t H3,Q t H3->QV (.bl t) H3)(hr:∀v u G H x y d Q,Same G H->Rep K G v x->Rep K G u y->p x y=some d->Q (.bl d) H->r v u H Q)
  (q:tBo K B G0 (zce p i g) σ H Q):tVar i σ H λx H1=>tD K B G0 g σ H1 λy H2=>r x y H2 QV:=by
 obtain ⟨G,Z,k,a⟩:=q;unfold zce at a
 cases q:Z[i]? with
 |none=>rw[q] at a;exact a.elim
 |some o=>
  cases o with
  |none=>rw[q] at a;exact a.elim
  |some sl=>
   cases sl with
   |deep _ _=>rw[q] at a;exact a.elim
   |pub d=>
    rw[q] at a;obtain ⟨v,h1,h2⟩:=k.pub i d q;refine ⟨v,h1,G,Z,k,?_⟩;dsimp only[zax] at a
    cases z:g Z with
    |bad=>rw[z] at a;exact a.elim
    |ok y Z1=>
     rw[z] at a;intro u G' H' k' s' r';obtain ⟨d',e',a'⟩:=aft.opt a;exact hr v u G' H' d y d' _ k'.gh (h2.mono s') r' e' (hq _ _ (a' d' G' H' k' s' rfl))
   |own ds=>
    rw[q] at a;obtain ⟨ad,vs,h1,h2,h3,h4,h5⟩:=k.own i ds q;refine ⟨.ref ad,h1,G,Z,k,?_⟩;dsimp only[zax] at a
    cases z:g Z with
    |bad=>rw[z] at a;exact a.elim
    |ok y Z1=>
     rw[z] at a;dsimp only at a;intro u G' H' k' s' r'
     cases q1:Z1[i]? with
     |none=>rw[q1] at a;exact a.elim
     |some oo=>
      cases oo with
      |none=>rw[q1] at a;exact a.elim
      |some sl1=>
       cases sl1 with
       |deep _ _=>rw[q1] at a;exact a.elim
       |pub d1=>rw[q1] at a;exact a.elim
       |own ds1=>
        rw[q1] at a;dsimp only at a;obtain ⟨ad',ws,g1,g2,g3,g4,g5⟩:=k'.own i ds1 q1;rw[h1] at g1;cases g1;obtain ⟨d',e',a'⟩:=aft.opt a;have sg:Same G' (upd G' ad (.lst ws)):=zaO g3
        have sh:Same (upd G' ad (.lst ws)) H':=λb o q=>by
         by_cases z:b=ad
         ·subst z;rw[zaE] at q;cases q;exact g4
         ·rw[zaI z] at q;exact k'.gh b o q
        exact hr (.ref ad) u _ H' (.list ds1) y d' _ sh (.lst (SqL.of zaE) (g5.mono sg)) (r'.mono sg) e' (hq _ _ (a' d' G' H' k' s' rfl))
theorem zb7{op:CmpOp}{p:D->D->Option Bool}{i:Nat}{g:M D}(o:OpB X (compareOp op) p)(ha:PE X a (tVar i))(hb:PE X b (tD X.K B G0 g))(hm:behindInMarks op b=false) :
  PT X (.Compare a [op] [b] pos) (tBo X.K B G0 (zce p i g)):=by
 obtain ⟨r,h,j⟩:=o;exact ptof (zia h ha hb hm) λσ H Q q=>zqZ (λt H3 z=>⟨t,rfl,z⟩) j q
theorem zin{op:CmpOp}{p:D->D->Option Bool}{i:Nat}{g:M D}(o:OpB X (compareOp op) p)(ha:PE X a (tVar i))(hb:PE X b (tD X.K B G0 g))(hm:behindInMarks op b=false) :
  PE X (.Compare a [op] [b] pos) (tD X.K B G0 (mMap PyData.bool (zce p i g))):=by
 obtain ⟨r,h,j⟩:=o;exact peof (zkI h ha hb hm) λσ H Q q=>zqZ (λt H3 z=>z) j (tBo.val q)
end
end DL
namespace L2
open PySem PySem.Spec PyProof.Rows
def Itz(K:Frag)(a b:Addr):It :=
 ⟨λi H=>∃xs x ys y,SqL K H a xs/\xs[i]?=some x/\SqL K H b ys/\ys[i]?=some y,
  λi H v H'=>∃p x y,H p=none/\v=.ref p/\(∀xs,SqL K H a xs->xs[i]?=some x)/\(∀ys,SqL K H b ys->ys[i]?=some y)/\H'=upd H p (.tup [x,y]),
  λi H=>∃xs ys,SqL K H a xs/\SqL K H b ys/\(xs.length<=i∨ys.length<=i)⟩
theorem znH{P:Program}{w:World}{K:Frag}{elts:List Expr}{x1}{tp:Pos}(a b z TI TO i1 i2:Addr)(Dz:ZipApart z TI TO i1 i2 a b) :
  Turn P w K (.Tuple elts x1 tp) (Itz K a b) [z,TI,TO,i1,i2] z (λi h=>IsZip h z TI TO .none/\IsPair h TI (.ref i1) (.ref i2)/\(∃c d,IsPair h TO c d)/\h.IsListIter i1 a i/\h.IsListIter i2 b i) where
 mem:=by simp
 obj:=λi h st c hc=>by
  obtain ⟨h1,h2,⟨c0,d0,h3⟩,⟨o4,h4,_,d4⟩,⟨o5,h5,_,d5⟩⟩:=st;have hc':c=z∨c=TI∨c=TO∨c=i1∨c=i2:=by simpa using hc
  rcases hc' with rfl|rfl|rfl|rfl|rfl
  ·exact ⟨_,h1,λv q=>by have q':Data.fields _=Data.cell v:=q;cases q'⟩
  ·exact ⟨_,h2,λv q=>by have q':Data.seq _ _=Data.cell v:=q;cases q'⟩
  ·exact ⟨_,h3,λv q=>by have q':Data.seq _ _=Data.cell v:=q;cases q'⟩
  ·exact ⟨o4,h4,λv q=>by rw[d4] at q;cases q⟩
  ·exact ⟨o5,h5,λv q=>by rw[d5] at q;cases q⟩
 keep:=λi h h' st k=>by
  obtain ⟨h1,h2,⟨c0,d0,h3⟩,h4,h5⟩:=st;exact ⟨k z (by simp) _ h1,k TI (by simp) _ h2,⟨c0,d0,k TO (by simp) _ h3⟩,h4.at λo q=>k i1 (by simp) o q,h5.at λo q=>k i2 (by simp) o q⟩
 item:=by
  intro X hP hw hK hc i pins s σ H E I hf st hg;subst hP hw hK;obtain ⟨h1,h2,⟨c0,d0,h3⟩,h4,h5⟩:=st;obtain ⟨xs,x,ys,y,hq,hx,hq',hy⟩:=hg;obtain ⟨its,rv,p,hz⟩:=I.list hq;obtain ⟨its',rv',p',hz'⟩:=I.list hq';obtain ⟨u,hu,ru⟩:=rv.get hx;obtain ⟨u',hu',ru'⟩:=rv'.get hy;refine wpAny_pyNext_zip_item Dz h1 h2 h3 h4 h5 p.isList p'.isList (x:=u) (y:=u') (by simpa using hu) (by simpa using hu') λh' g1 g3 g4 g5 gp gs gk=>?_
  refine ⟨_,rfl,wpAny_letOwnedTupleGo_zip g1 λh2' gz sb=>?_⟩;have hzl:z<s.heap.objs.size:=Qi h1;have sb':Heap.SameBut z h' h2':=sb
  have gp2:h2'.get? s.heap.objs.size=some { cls:=.type "tuple", data:=.seq #[u,u'] }:=(sb'.2 _ (JN hzl)).trans gp
  have kk:∀c o,c∉[z,TI,TO,i1,i2]->s.heap.get? c=some o->h2'.get? c=some o:=λc o hc q=>by
   have n1:c≠z:=λe=>hc (by simp[e])
   have n3:c≠TO:=λe=>hc (by simp[e])
   have n4:c≠i1:=λe=>hc (by simp[e])
   have n5:c≠i2:=λe=>hc (by simp[e])
   exact (sb'.2 c n1).trans (gk c o n1 n3 n4 n5 q)
  have hn:H s.heap.objs.size=none:=I.hok.fresh (Qs _)
  have I2:Inv X pins σ (upd H s.heap.objs.size (.tup [x,y])) { s with heap:=h2' } :=
   I.turnedNew (t':=s.toks) (fp:=[z,TI,TO,i1,i2]) hf kk (Qs _) ⟨by show 2<=sizeLine;decide,[u,u'],.cons ru (.cons ru' .nil),⟨_,gp2,rfl,_,rfl⟩⟩
  have gTI:IsPair h' TI (.ref i1) (.ref i2):=gk TI _ Dz.TIz Dz.TITO Dz.TIi1 Dz.TIi2 h2
  refine ⟨.ref s.heap.objs.size,_,I2,rfl,⟨_,x,y,hn,rfl,λws hw=>by rw[I.list_inj hw hq];exact hx,λws hw=>by rw[I.list_inj hw hq'];exact hy,rfl⟩,
   ⟨gz,(sb'.2 _ Dz.TIz).trans gTI,⟨u,u',(sb'.2 _ Dz.TOz).trans g3⟩,g4.at λo q=>(sb'.2 _ Dz.i1z).trans q,g5.at λo q=>(sb'.2 _ Dz.i2z).trans q⟩,λc hc=>?_⟩
  have hlt:c<s.heap.objs.size:=by
   have hc':c=z∨c=TI∨c=TO∨c=i1∨c=i2:=by simpa using hc
   rcases hc' with rfl|rfl|rfl|rfl|rfl
   ·exact hzl
   ·exact Qi h2
   ·exact Qi h3
   ·obtain ⟨o,ho,_⟩:=h4;exact Qi ho
   ·obtain ⟨o,ho,_⟩:=h5;exact Qi ho
  rw[zaI (QN hlt)];exact (hf c hc).1
 done:=by
  intro X hP hw hK hc i pins s σ H E I hf st hg;subst hP hw hK;obtain ⟨h1,h2,⟨c0,d0,h3⟩,h4,h5⟩:=st;obtain ⟨xs,ys,hq,hq',hx⟩:=hg;obtain ⟨its,rv,p,hz⟩:=I.list hq;obtain ⟨its',rv',p',hz'⟩:=I.list hq';have hl:=rv.length;have hl':=rv'.length;refine wpAny_pyNext_zip_end (I.ok.hd hc) Dz h1 h2 h3 h4 h5 p.isList p'.isList ?_ λh' eb=>⟨rfl,I.turnedL (t':=s.toks) hf λc o hb q=>eb c o (λe=>hb (by simp[e])) (λe=>hb (by simp[e])) (λe=>hb (by simp[e])) (λe=>hb (by simp[e])) q⟩
  rcases hx with hx|hx
  ·exact .inl (by simp;omega)
  ·exact .inr (by simp;omega)
 self:=λ_ _ _ _ _ st h=>wpAny_pyIter_zip st.1 h
section
variable{X:Cx}
def iZip(K:Frag)(ta:TA):TI:=λσ H R=>ta σ H λvs H1=>∃a b xs ys,vs=[.ref a,.ref b]/\SqL K H1 a xs/\SqL K H1 b ys/\R (Itz K a b) H1
theorem zq0{a b:Expr}{ta:TA}{p pos:Pos}{elts:List Expr}{x1}{tp:Pos}(hg:Gl X "zip")(hm:X.mg "zip" = none)(ha:PA X [a,b] ta)
  (hs:starEach [a,b] X.env=[(false,eval a X.env),(false,eval b X.env)]:=by rfl) (hs2:starEach [b] X.env=[(false,eval b X.env)]:=by rfl):PI X (.Tuple elts x1 tp) (.Call (.Name "zip" p) [a,b] [] pos) (iZip X.K ta):=by
 intro pins s σ H R I h;refine Call_ (zeB I hg hm boot_zip (JA (thn (ha pos pins s σ H _ I h) λus s1 ⟨vs,H1,I1,r1,q1⟩=>?_) (by rw[hs,hs2]) (by rw[hs2];rfl)))
 obtain ⟨l1,l2,xs,ys,e,hq,hq',q⟩:=q1;subst e
 cases r1 with
 |cons r rr=>
  cases rr with
  |cons r' rr=>
   cases rr
   cases (show _=Value.ref l1 from r)
   cases (show _=Value.ref l2 from r')
   obtain ⟨its,rv,pl,hz⟩:=I1.list hq;obtain ⟨its',rv',pl',hz'⟩:=I1.list hq';have n1:l1<s1.heap.objs.size:=by obtain ⟨_,e,_⟩:=id pl.isList;exact Qi e
   have n2:l2<s1.heap.objs.size:=by obtain ⟨_,e,_⟩:=id pl'.isList;exact Qi e
   have ne:∀i j:Nat,i≠j->s1.heap.objs.size+i≠s1.heap.objs.size+j:=λi j h e=>h (Nat.add_left_cancel e);have m1:∀m:Nat,l1≠s1.heap.objs.size+m:=λm=>QN (QD n1 (Nat.le_add_right _ _));have m2:∀m:Nat,l2≠s1.heap.objs.size+m:=λm=>QN (QD n2 (Nat.le_add_right _ _));refine call_zip_2 pl.isList pl'.isList λh' g1 g2 g3 g4 g5 gs kk=>?_;have I2:Inv X pins σ H1 { s1 with heap:=h' }:=I1.kept (t':=s1.toks) kk;refine wpAny_pyIter_zip g1 ?_
   refine ⟨s1.heap.objs.size+4,[s1.heap.objs.size+4,s1.heap.objs.size+2,s1.heap.objs.size+3,s1.heap.objs.size,s1.heap.objs.size+1],_,_,H1,rfl,I2,
    znH l1 l2 (s1.heap.objs.size+4) (s1.heap.objs.size+2) (s1.heap.objs.size+3) s1.heap.objs.size (s1.heap.objs.size+1) ⟨ne 2 4 (by decide),ne 3 4 (by decide),ne 0 4 (by decide),ne 1 4 (by decide),ne 2 3 (by decide),ne 2 0 (by decide),ne 2 1 (by decide),ne 3 0 (by decide),ne 3 1 (by decide),ne 0 1 (by decide),m1 4,m1 3,m1 0,m1 1,m2 4,m2 3,m2 0,m2 1⟩,⟨g1,g2,⟨_,_,g3⟩,g4,g5⟩,λc hc=>?_,q⟩
   have hc':s1.heap.objs.size<=c:=by
    have hc':c=s1.heap.objs.size+4∨c=s1.heap.objs.size+2∨c=s1.heap.objs.size+3∨c=s1.heap.objs.size∨c=s1.heap.objs.size+1:=by simpa using hc
    rcases hc' with rfl|rfl|rfl|rfl|rfl <;> first|exact Nat.le_add_right _ _|exact Qs _
   exact I1.fpOk hc' (I1.hok.fresh hc')
end
end L2
namespace DL
open PySem PySem.Spec L2
open PyProof.Rows hiding St
section
variable{X:Cx}{B G0:Hp}{e a b c tg:Expr}{pos:Pos}{es rest:List Expr}
def zipD(xs ys:List D):List D:=(xs.zip ys).map λp=>.tuple [p.1,p.2]
theorem zle{K:Frag}{G1:Hp}{a b:Addr}{vs ws:List V}{ds es:List D}(h:SqL K G1 a vs)(h':SqL K G1 b ws)(r:Reps K G1 vs ds)(r':Reps K G1 ws es):zem K (Itz K a b) (zipD ds es) G1 where
 go:=λi G H s1 s2 hi=>by
  unfold zipD at hi;rw[Qb,JK] at hi;have hi1:i<vs.length:=by rw[r.length];omega
  have hi2:i<ws.length:=by rw[r'.length];omega
  exact ⟨vs,vs[i],ws,ws[i],(s1.trans s2).seq h,Qf hi1,(s1.trans s2).seq h',Qf hi2⟩
 stop:=λi G H s1 s2 hi=>by
  unfold zipD at hi;rw[Qb,JK] at hi;refine ⟨vs,ws,(s1.trans s2).seq h,(s1.trans s2).seq h',?_⟩;rw[r.length,r'.length];omega
 yld:=λi G H x H' d s1 s2 e y=>by
  obtain ⟨p,u,v,hp,rfl,y1,y2,rfl⟩:=y;have z1:=y1 vs ((s1.trans s2).seq h);have z2:=y2 ws ((s1.trans s2).seq h');unfold zipD at e;rw[Qe] at e
  cases q:(ds.zip es)[i]? with
  |none=>rw[q] at e;cases e
  |some pr=>
   rw[q] at e;cases e;rw[List.getElem?_zip_eq_some] at q;obtain ⟨u',e1,r1⟩:=r.get q.1;obtain ⟨v',e2,r2⟩:=r'.get q.2;rw[z1] at e1;rw[z2] at e2;cases e1;cases e2;exact ⟨upd G p (.tup [u,v]),Ext.new s2 hp,.tup (SqT.of zaE) (.cons ((r1.mono s1).mono (zaO (s2.free hp))) (.cons ((r2.mono s1).mono (zaO (s2.free hp))) .nil))⟩
def oZip:List D->Option (List D)
 |[.list xs,.list ys]=>some (zipD xs ys)
 |_=>none
theorem znI{x l:List D}(h:oZip x=some l):∃xs ys,x=[.list xs,.list ys]/\l=zipD xs ys:=by
 unfold oZip at h
 split at h
 ·cases h;exact ⟨_,_,rfl,rfl⟩
 ·cases h
def dZip(f:M (List D)):M (List D):=zax f λx=>mOpt (oZip x)
theorem zq1{f:M (List D)}{p2:Pos}{elts:List Expr}{x1}{tp:Pos}(hg:Gl X "zip")(hm:X.mg "zip" = none)(ha:PA X [a,b] (tDs X.K B G0 f))(hs:starEach [a,b] X.env=[(false,eval a X.env),(false,eval b X.env)]:=by rfl)(hs2:starEach [b] X.env=[(false,eval b X.env)]:=by rfl) :
  PI X (.Tuple elts x1 tp) (.Call (.Name "zip" p2) [a,b] [] pos) (iD X.K B G0 (dZip f)):=piof (zq0 hg hm ha hs hs2) λσ H R q=>tM.toI (R0:=Reps X.K) q λv H' G' Z' x k r a=>by
 cases z:oZip x with
 |none=>rw[z] at a;exact a.elim
 |some l=>
  rw[z] at a;obtain ⟨xs,ys,rfl,rfl⟩:=znI z
  cases r with
  |cons r1 rr=>
   cases rr with
   |cons r2 rr=>
    cases rr;obtain ⟨l1,vs,rfl,h1,q1⟩:=r1.lst_inv
    obtain ⟨l2,ws,rfl,h2,q2⟩:=r2.lst_inv;exact ⟨l1,l2,vs,ws,rfl,k.gh.seq h1,k.gh.seq h2,a _ G' H' k (.refl _) (zle h1 h2 q1 q2)⟩
end
section
variable{X:Cx}{B G0:Hp}{e o a b c tg:Expr}{pos p2 p3:Pos}{es rest:List Expr}{te to ti:TE}
def oIn:D->D->Option Bool
 |.str i,.str j=>some (inS i j)
 |x,.list xs=>if x.canLay0=true/\PyData.canLayAll0 xs=true/\x.depth<=60 then some (xs.any λy=>PyData.eqv y x) else none
 |x,.tuple xs=>if x.canLay0=true/\PyData.canLayAll0 xs=true/\x.depth<=60 then some (xs.any λy=>PyData.eqv y x) else none
 |_,_=>none
def oNin(x y:D):Option Bool:=(oIn x y).map λt=>!t
def oInQ(x y:D):Option Bool:=match y with
 |.list xs=>if x.canLay0=true/\PyData.canLayAll0 xs=true/\x.depth<=60 then some (xs.any λy=>PyData.eqv y x) else none
 |.tuple xs=>if x.canLay0=true/\PyData.canLayAll0 xs=true/\x.depth<=60 then some (xs.any λy=>PyData.eqv y x) else none
 |_=>none
theorem zsc(hu:X.A.units+64<cLine):OpB X (compareOp .In) oInQ:=by
 refine ⟨λv u H Q=>∃G x y d,Same G H/\Rep X.K G v x/\Rep X.K G u y/\oInQ x y=some d/\Q (.bl d) H,?_,λv u G H x y d Q s rx ry e k=>⟨G,x,y,d,s,rx,ry,e,k⟩⟩;intro pins s σ H x y v u Q I rx ry ⟨G,dx,dy,d,sg,px,py,e,q⟩;unfold oInQ at e
 split at e
 ·split at e
  ·rename_i c
   cases e;obtain ⟨as,ra⟩:=zbz I sg px rx c.1
   obtain ⟨bs,rb⟩:=zbz I sg py ry (show PyData.canLayAll0 _=true from c.2.1)
   exact SeqAt.in_list_reads rb ra c.2.1 c.1 (by have:=c.2.2;omega) ⟨.bl _,H,I,rfl,q⟩
  ·cases e
 ·split at e
  ·rename_i c
   cases e;obtain ⟨as,ra⟩:=zbz I sg px rx c.1
   obtain ⟨bs,rb⟩:=zbz I sg py ry (show PyData.canLayAll0 _=true from c.2.1)
   exact SeqAt.in_tuple_reads rb ra c.2.1 c.1 (by have:=c.2.2;omega) ⟨.bl _,H,I,rfl,q⟩
  ·cases e
 ·cases e
theorem zq2(hu:X.A.units+64<cLine):OpB X (compareOp .NotIn) (λx y=>(oInQ x y).map λt=>!t):=by
 refine ⟨λv u H Q=>∃G x y d,Same G H/\Rep X.K G v x/\Rep X.K G u y/\(oInQ x y).map (λt=>!t)=some d/\Q (.bl d) H,?_,λv u G H x y d Q s rx ry e k=>⟨G,x,y,d,s,rx,ry,e,k⟩⟩;intro pins s σ H x y v u Q I rx ry ⟨G,dx,dy,d,sg,px,py,e,q⟩;unfold oInQ at e
 split at e
 ·split at e
  ·rename_i c
   cases e;obtain ⟨as,ra⟩:=zbz I sg px rx c.1
   obtain ⟨bs,rb⟩:=zbz I sg py ry (show PyData.canLayAll0 _=true from c.2.1)
   exact SeqAt.notIn_list_reads rb ra c.2.1 c.1 (by have:=c.2.2;omega) ⟨.bl _,H,I,rfl,q⟩
  ·cases e
 ·split at e
  ·rename_i c
   cases e;obtain ⟨as,ra⟩:=zbz I sg px rx c.1
   obtain ⟨bs,rb⟩:=zbz I sg py ry (show PyData.canLayAll0 _=true from c.2.1)
   exact SeqAt.notIn_tuple_reads rb ra c.2.1 c.1 (by have:=c.2.2;omega) ⟨.bl _,H,I,rfl,q⟩
  ·cases e
 ·cases e
theorem B_in(hu:X.A.units+64<cLine):OpB X (compareOp .In) oIn:=(zsb.or (zsc hu)).congr λx y=>by
 cases x <;> cases y <;> rfl
theorem zq3(hu:X.A.units+64<cLine):OpB X (compareOp .NotIn) oNin:=(zqW.or (zq2 hu)).congr λx y=>by
 cases x <;> cases y <;> rfl
theorem zlf{tl th ts:TO}{lo hi:Option Expr}{st:Expr}(he:PE X e te)(hl:PO X lo tl)(hu:PO X hi th)(hst:PO X (some st) ts):PE X (.Subscript e (.Slice lo hi (some st) p2) pos)
  (λσ H Q=>te σ H λx H1=>tl σ H1 λl H2=>th σ H2 λu H3=>ts σ H3 λt H4=>∃a xs,x=.ref a/\SqL X.K H4 a xs/\l=none/\u=none/\t=some (-1)/\∀p,H4 p=none->Q (.ref p) (upd H4 p (.lst xs.reverse))):=by
 intro pins s σ H Q I h;refine Subscript_ (thn (he pins s σ H _ I h) λv s1 ⟨x,H1,I1,r1,q1⟩=>?_);refine wpAny_Slice (thn (hl pins s1 σ H1 _ I1 q1) λvl s2 ⟨l,H2,I2,pl,q2⟩=>thn (hu pins s2 σ H2 _ I2 q2) λvu s3 ⟨u,H3,I3,pu,q3⟩=>thn (hst pins s3 σ H3 _ I3 q3) λvt s4 ⟨t,H4,I4,pt,q4⟩=>?_);obtain ⟨a,xs,rfl,hx,rfl,rfl,rfl,q⟩:=q4;cases r1
 have I5:Inv X pins σ H4 { s4 with heap:=s4.heap.push { cls:=.type "slice", data:=.fields #[vl,vu,vt] } }:=I4.kept (t':=s4.toks) λb ob q=>Qj _ q
 obtain ⟨its,r,ht,hz⟩:=I5.list hx;have hlen:=r.length
 have hg:wpAny (model X.prog X.w) X.A (getItem (.ref a) (.ref s4.heap.objs.size)) (EP X pins σ Q) X.xe { s4 with heap:=s4.heap.push { cls:=.type "slice", data:=.fields #[vl,vu,vt] } }:=by
  refine wpAny_getItem_list_slice ht.isList (Heap.IsSliceOf.new ..) pl pu pt (by simp) ?_ (by rw[List.size_toArray] <;> omega)
  rw[PySem.W.krv_pick];refine ⟨.ref _,_,I5.laid (t':=s4.toks) (o:=.lst xs.reverse) (λb ob q=>Qj _ q) (Qs _) ?_,rfl,q _ (I5.hok.fresh (Qs _))⟩;exact ⟨by rw[List.length_reverse];exact hz,its.reverse,0,r.reverse,Qx _ rfl⟩
 show wpAny (model X.prog X.w) X.A (subscriptTail e (.Slice lo hi (some st) p2) (.ref a) (.ref s4.heap.objs.size)) (EP X pins σ Q) X.xe { s4 with heap:=s4.heap.push { cls:=.type "slice", data:=.fields #[vl,vu,vt] } }
 exact tail_any (ops:=[.ref a,.ref s4.heap.objs.size]) ht.isList.typeIs slot_list_getitem.lookup hg (by with_unfolding_all rfl)
def oRev:D->Option Int->Option Int->Option Int->Option D
 |.list xs,none,none,some i=>if i = -1 then some (.list xs.reverse) else none
 |_,_,_,_=>none
def dRev(f:M D)(lo hi st:M (Option Int)):M D:=zax f λx=>zax lo λl=>zax hi λh=>zax st λt=>mOpt (oRev x l h t)
theorem zpz{lo hi:Option Expr}{st:Expr}{f:M D}{l h t:M (Option Int)}(he:PE X e (tD X.K B G0 f))(hl:PO X lo (tOi X.K B G0 l))(hu:PO X hi (tOi X.K B G0 h))(hst:PO X (some st) (tOi X.K B G0 t)) :
  PE X (.Subscript e (.Slice lo hi (some st) p2) pos) (tD X.K B G0 (dRev f l h t)) :=
 peof (zlf he hl hu hst) λσ H Q q=>by
  refine tM.one (R:=Rep X.K) q λv H2 G Z x k r a=>?_;refine tM.nx (R:=λ_ b c=>b=c) k a λl' H3 G3 Z3 xl k3 s3 r3 a3=>?_;refine tM.nx (R:=λ_ b c=>b=c) k3 a3 λh' H4 G4 Z4 xh k4 s4 r4 a4=>?_;refine tM.nx (R:=λ_ b c=>b=c) k4 a4 λt' H5 G5 Z5 xt k5 s5 r5 a5=>?_;have r3:l'=xl:=r3;have r4:h'=xh:=r4;have r5:t'=xt:=r5;subst r3 r4 r5
  cases x with
  |list xs=>
   cases l' with
   |some _=>exact a5.elim
   |none=>
   cases h' with
   |some _=>exact a5.elim
   |none=>
   cases t' with
   |none=>exact a5.elim
   |some i=>
   obtain ⟨ad,vs,rfl,h1,r1⟩:=(((r.mono s3).mono s4).mono s5).lst_inv
   by_cases hi:i = -1
   ·subst hi
    exact ⟨ad,vs,rfl,k5.gh.seq h1,rfl,rfl,rfl,λp hp=>aft.done a5 k5 (Ext.new k5.gh hp) (.lst (SqL.of zaE) (r1.reverse.mono (zaO (k5.gh.free hp))))⟩
   ·unfold mOpt oRev at a5
    dsimp only at a5;rw[QA hi] at a5;exact a5.elim
  |_=>
   unfold mOpt oRev at a5;exact a5.elim
def zeQ:List D->Option (List D)
 |[.list xs]=>some xs
 |[.tuple xs]=>some xs
 |_=>none
theorem zhc{x l:List D}(h:zeQ x=some l):x=[.list l]∨x=[.tuple l]:=by
 unfold zeQ at h
 split at h
 ·cases h;exact .inl rfl
 ·cases h;exact .inr rfl
 ·cases h
theorem zfS:bootBuiltins "list" = some (.type "list"):=by decide +kernel
theorem znJ{f:M (List D)}(hg:Gl X "list")(hm:X.mg "list" = none)(ha:PA X [a] (tDs X.K B G0 f))(he:starEach [a] X.env=(false,eval a X.env)::starEach [] X.env:=by rfl) :
  PE X (.Call (.Name "list" p2) [a] [] pos) (tL X.K B G0 (zax f λxs=>mOpt (zeQ xs))) :=
 peof (zdP zeD hg hm zfS ha (by decide) (by decide) he rfl) λσ H Q ⟨G,Z,k,q⟩=>by
  refine ⟨G,Z,k,?_⟩;unfold zax at q
  cases z:f Z with
  |bad=>rw[z] at q;exact q.elim
  |ok xs Z1=>
   rw[z] at q;dsimp only[mOpt] at q;intro vs G' H' k' s' r
   cases z2:zeQ xs with
   |none=>rw[z2] at q;exact q.elim
   |some l=>
    rw[z2] at q;rcases zhc z2 with rfl|rfl
    ·obtain ⟨v,rfl,q1⟩:=r.one_inv
     obtain ⟨p,ws,rfl,h1,r1⟩:=q1.lst_inv;exact ⟨p,ws,rfl,.inl (k'.gh.seq h1),λad hp=>q ad ws G' _ (k'.ext (Ext.hid k'.gh hp)) s' (NewL.of k' hp r1)⟩
    ·obtain ⟨v,rfl,q1⟩:=r.one_inv
     obtain ⟨p,ws,rfl,h1,r1⟩:=q1.tup_inv;exact ⟨p,ws,rfl,.inr (zdF k'.gh h1),λad hp=>q ad ws G' _ (k'.ext (Ext.hid k'.gh hp)) s' (NewL.of k' hp r1)⟩
def zeG(i:Nat):M (List D):=λZ=>match Z[i]? with
 |some (some (.pub d))=>mOpt (zeQ [d]) Z
 |some (some (.own ds))=>.ok ds Z
 |_=>.bad
theorem zfi{i:Nat}(hg:Gl X "list")(hm:X.mg "list" = none)(ho:PE X a (tVar i))(he:starEach [a] X.env=(false,eval a X.env)::starEach [] X.env:=by rfl) :
  PE X (.Call (.Name "list" p2) [a] [] pos) (tL X.K B G0 (zeG i)) :=
 peof (zdP zeD hg hm zfS (zcM ho zeC he) (by decide) (by decide) he rfl) λσ H Q ⟨G,Z,k,q⟩=>by
  unfold zeG at q
  cases z:Z[i]? with
  |none=>rw[z] at q;exact q.elim
  |some oo=>
   cases oo with
   |none=>rw[z] at q;exact q.elim
   |some sl=>
    cases sl with
    |deep _ _=>rw[z] at q;exact q.elim
    |own ds=>
     rw[z] at q;dsimp only at q;obtain ⟨ad,vs,h1,h2,h3,h4,h5⟩:=k.own i ds z;exact ⟨.ref ad,h1,ad,vs,rfl,.inl (SqL.of h4),λl hp=>q l vs G _ (k.ext (Ext.hid k.gh hp)) (.refl _) (NewL.of k hp h5)⟩
    |pub d=>
     rw[z] at q;dsimp only[mOpt] at q;obtain ⟨v,h1,h2⟩:=k.pub i d z
     cases z2:zeQ [d] with
     |none=>rw[z2] at q;exact q.elim
     |some l=>
      rw[z2] at q;dsimp only at q;rcases zhc z2 with e|e
      ·cases e
       obtain ⟨p,ws,rfl,g1,r1⟩:=h2.lst_inv;exact ⟨_,h1,p,ws,rfl,.inl (k.gh.seq g1),λad hp=>q ad ws G _ (k.ext (Ext.hid k.gh hp)) (.refl _) (NewL.of k hp r1)⟩
      ·cases e
       obtain ⟨p,ws,rfl,g1,r1⟩:=h2.tup_inv;exact ⟨_,h1,p,ws,rfl,.inr (zdF k.gh g1),λad hp=>q ad ws G _ (k.ext (Ext.hid k.gh hp)) (.refl _) (NewL.of k hp r1)⟩
def zlg:List D->Option D
 |[.int i]=>some (.int i)
 |[.bool b]=>some (.int (if b then 1 else 0))
 |_=>none
theorem zq4:zdf X (.type "int") zlg:=by
 refine ⟨_,zkK,λvs G H ds d Q s r e k=>?_⟩;unfold zlg at e
 split at e
 ·cases e
  obtain ⟨v,rfl,q⟩:=r.one_inv;rw[q.int_inv];exact .inl ⟨_,rfl,k _ G H (.refl s) (.int _)⟩
 ·cases e
  obtain ⟨v,rfl,q⟩:=r.one_inv;rw[q.bl_inv];exact .inr ⟨_,rfl,k _ G H (.refl s) (.int _)⟩
 ·cases e
theorem zsd{x:Str}{zs:List Str}(hg:Gl X x)(hm:∃ad o its n,X.mg x=some (.ref ad)/\X.K.lookup ad=some o/\o.cls=.type "tuple" /\ o.data=.seq its n/\its.size<=sizeLine/\Vals (zs.map V.str) its.toList)(hd:(x==("__debug__" : Str))=false:=by decide) :
  PE X (.Name x pos) (tD X.K B G0 (zah (.tuple (zs.map PyData.str)))):=by
 obtain ⟨ad,o,its,n,hm,h1,h2,h3,h4,h5⟩:=hm;refine peof (zkz (v:=.ref ad) hg hm rfl hd) λσ H Q ⟨G,Z,k,a⟩=>aft.now a k (.tup (.inr ⟨o,its,n,h1,h2,h3,h4,h5⟩) ?_)
 have:∀zs:List Str,Reps X.K G (zs.map V.str) (zs.map PyData.str):=λzs=>by
  induction zs with
  |nil=>exact .nil
  |cons z r ih=>exact .cons (.str _) ih
 exact this zs
end
section
variable{X:Cx}{B G0:Hp}{e o a b c tg:Expr}{pos p2 p3 p4:Pos}{es rest:List Expr}{te to ti:TE}
theorem zb0:∀{ns:List Int}{us:List Value},Vals (ns.map V.int) us->PyProof.Rows.IntsAre us ns
 |[],_,.nil=>.nil
 |n::ns,_,.cons h t=>by
  obtain ⟨tk,rfl⟩:=h;exact .cons n tk (zb0 t)
def zfj(ns:List Int):Nat:=(PyProof.Rows.firstMet (λi=>ns.getD i 0) ns.length).length
theorem zlh(hc:X.calm=true):zc1 X (.type "set") (λxs H Q=>∃l,∃ns:List Int,xs=[.ref l]/\SqL X.K H l (ns.map V.int)/\ns.length+1<4096/\∀S p,H p=none->Q (.ref p) (upd H p (.set S (zfj ns)))):=by
 intro pins s σ H xs us Q I rx h;obtain ⟨l,ns,rfl,hq,hb,q⟩:=h;obtain ⟨u,rfl,ru⟩:=rx.one;cases ru;obtain ⟨its,rv,p,hz⟩:=I.list hq;have hi:=zb0 rv;have hn:its.toArray.size=ns.length:=by have:=rv.length;rw[List.length_map] at this;simp;omega
 refine call_set_list (I.ok.hd hc) p.isList (ns:=ns) (by simpa using hi) (by rw[hn];exact hb) λh' tk hS hk=>?_
 rw[hn] at hS;refine ⟨.ref s.heap.objs.size,_,I.laid (t':=tk) (λb o e=>hk b o (Qi e) e) (Qs _) (show zb6 X.prog X.w _ h' _ (.set _ (zfj ns)) from hS),rfl,q _ _ (I.hok.fresh (Qs _))⟩
theorem zli:zc1 X (.builtin "len") (λxs H Q=>∃p S n,xs=[.ref p]/\H p=some (.set S n)/\Q (.int n) H):=by
 intro pins s σ H xs us Q I rx h;obtain ⟨p,S,n,rfl,hp,q⟩:=h;obtain ⟨u,rfl,ru⟩:=rx.one;cases ru;obtain ⟨o,es,ep,t,h1,h2,h3,h4,h5,h6,h7,h8⟩:=(show s.heap.SetOf (intKind X.prog X.w) p S n from I.hok p _ hp)
 have hsb:scanBound=4096:=rfl;refine call_len_set h1 h2 h3 h7 (by omega) ?_
 rw[h8];exact ⟨.int n,H,I.tok _,⟨_,rfl⟩,q⟩
def zbM:List D->Option (List Int)
 |[]=>some []
 |.int i::r=>(zbM r).map (i :: ·)
 |_=>none
theorem zb8{K:Frag}{G:Hp}:∀{vs:List V}{ds:List D}{ns:List Int},Reps K G vs ds->zbM ds=some ns->vs=ns.map V.int
 |_,_,ns,.nil,e=>by cases e;rfl
 |_,_,ns,.cons (d:=d) r t,e=>by
  cases d with
  |int b=>
   unfold zbM at e
   cases z:zbM _ with
   |none=>rw[z] at e;cases e
   |some cs=>
    rw[z] at e;cases e;rw[r.int_inv,zb8 t z];rfl
  |_=>cases e
theorem zcj(ns:List Int):zbM (ns.map int)=some ns:=by
 induction ns with
 |nil=>rfl
 |cons b r ih=>rw[QB,zbM,ih];rfl
def zc4:List D->Option D
 |[.list ds]=>(match zbM ds with
  |some ns=>if ns.length+1<4096 then some (.int (zfj ns)) else none
  |none=>none)
 |_=>none
theorem zio{xs:List D}{d:D}(h:zc4 xs=some d):∃ds ns,xs=[.list ds]/\zbM ds=some ns/\ns.length+1<4096/\d=.int (zfj ns):=by
 unfold zc4 at h
 split at h
 ·rename_i ds
  cases z:zbM ds with
  |none=>rw[z] at h;cases h
  |some ns=>
   rw[z] at h;dsimp only at h
   split at h
   ·rename_i c
    cases h;exact ⟨ds,ns,rfl,z,c,rfl⟩
   ·cases h
 ·cases h
theorem zlj:bootBuiltins "set" = some (.type "set"):=by decide +kernel
theorem zfT{f:M (List D)}(hc:X.calm=true)(hg:Gl X "len")(hm:X.mg "len" = none)(hg2:Gl X "set")(hm2:X.mg "set" = none)(ha:PA X [a] (tDs X.K B G0 f))(he:starEach [a] X.env=(false,eval a X.env)::starEach [] X.env:=by rfl)
  (he2:starEach [.Call (.Name "set" p2) [a] [] p3] X.env=(false,eval (.Call (.Name "set" p2) [a] [] p3) X.env)::starEach [] X.env:=by rfl) :
  PE X (.Call (.Name "len" p4) [.Call (.Name "set" p2) [a] [] p3] [] pos) (tD X.K B G0 (zbu zc4 f)) :=
 peof (zeR zli hg hm Jh (zcM (zdP (zlh hc) hg2 hm2 zlj ha (by decide) (by decide) he rfl) zeC he2) (by decide) (by decide) he2 rfl) λσ H Q q=>tM.one (R:=Reps X.K) q λvs H2 G Z x k r a=>by
  obtain ⟨d,e,a⟩:=a.opt;obtain ⟨ds,ns,rfl,z,c,rfl⟩:=zio e;obtain ⟨v,rfl,q1⟩:=r.one_inv;obtain ⟨l,ws,rfl,h1,r1⟩:=q1.lst_inv
  have:=zb8 r1 z
  subst this;refine ⟨l,ns,rfl,k.gh.seq h1,c,λS p hp=>⟨p,S,zfj ns,rfl,zaE,?_⟩⟩;exact aft.done a k (Ext.hid k.gh hp) (.int _)
end
end DL
namespace L2
open PySem PySem.Spec PyProof.Rows
section
variable{X:Cx}{tg:Expr}
end
end L2
namespace DL
open PySem PySem.Spec L2
open PyProof.Rows hiding St
section
variable{X:Cx}{B G0:Hp}{e a b c tg:Expr}{pos:Pos}{es rest:List Expr}
end
end DL
namespace L2
open PySem PySem.Spec PyProof.Rows
section
variable{prog:Program}{w:World}{A:Around}{E:Value->Shared->Prop}{s:Shared}{M:Model}{env:Env}
theorem zpA{pos:Pos}{T:String}{args:List (Bool×Sem Value)}{kws:List (Option Str×Sem Value)}{Q:Value->Shared->Prop}(hp:args.any (·.1)=false)(hk:kws.any (·.1.isNone)=false)
  (h:wpAny M A (evalArgs (.type T) true args kws) (λa s1=>wpAny M A (call (.type T) a.pos a.kw) Q E s1) E s):wpAny M A (callWith pos (.type T) [] args kws) Q E s:=by
 unfold callWith;refine Qd (JC (QG h (λa s1 h1=>Qd (Js ?_)) λ_ _ z=>z));simp only[hp,hk,Bool.false_or];refine Qd (Qh ?_);exact Qd (QG h1 (λr s2 hr=>Qd (JC (wpAny_point (Qh hr)))) λ_ _ z=>z)
theorem znK(l:Addr)(t:Tok)(items:Array Value)(n:Nat)(dct:Option Addr)(sl:Array (Option Value)) :
  Meets (Builtin.«enumerate.__new__» ⟨[.type "enumerate", .ref l],[("start", .int 1 t)]⟩) (λ_ R s=>s.heap.get? l=some ⟨.type "list", dct,.seq items n,sl⟩ /\
   R (.ok (.ret (.ref (s.heap.push { cls:=.type "list_iterator", data:=.fields #[.ref l,.int 0 0] }).objs.size))) { s with heap:=(s.heap.push { cls:=.type "list_iterator", data:=.fields #[.ref l,.int 0 0] }).push { cls:=.type "enumerate", data:=.fields #[.none,.bool false,.ref s.heap.objs.size,rawInt 1,.none,.none] } }) :=
 .of_wp λprog w A R s h=>by
  obtain ⟨hp,g,d,tk,os⟩:=s;obtain ⟨hl,h⟩:=h;have hsub:=sub_enumerate;have hL:Heap.IsList (Shared.heap ⟨hp,g,d,tk,os⟩) l items:=⟨_,hl,rfl,n,rfl⟩
  wp_walk using AutoSeq1.wpAny_loadPart' hl
  refine wpAny_stack_any λst=>(Qh ?_);split
  ·rename_i c _ _ _ _ _
   cases (c==Value.type "enumerate") <;> (wp_walk using (AutoSeq1.wpAny_loadPart' hl),(JF hL)) <;> exact ⟨_,rfl,h⟩
  ·(wp_walk using (AutoSeq1.wpAny_loadPart' hl),(JF hL));exact ⟨_,rfl,h⟩
theorem zgo{T newId initId:String}{Bn Bi:Builtin}{args:List Value}{kw:List (Str×Value)}{S:PySem.Spec}{Q Q1:Value->Shared->Prop}(ft:TypeCalled T newId initId)
  (hct:checkTypeCall T ⟨args,kw⟩=pure ()) (hcn:checkBuiltinCall newId ⟨.type T::args,kw⟩=pure ()) (eN:entryFor table newId=some Bn) (eI:entryFor table initId=some Bi)
  (g:Meets (Bn ⟨.type T::args,kw⟩) S) (h:S A.in1 (wants Q1 E) s)
  (hnext:∀obj s1,Q1 obj s1->s1.TypeIs obj T/\argsOk initId ⟨obj::args,kw⟩/\∃Si,Meets (Bi ⟨obj::args,kw⟩) Si/\Si A.in1 (wants (λr s2=>r=.none/\Q obj s2) E) s1) :
  wpAny (model prog w) A (call (.type T) args kw) Q E s:=by
 obtain ⟨c,tl,hmro⟩:=ft.mro;have hmade:=ft.made;have hsub:=ft.sub;refine wpAny_call (codeAny_of_tree ?_);show wpAny _ _ (callAny (.type T) _) _ _ _;refine Qh ⟨Code.quiet_builtin _ (by decide +kernel),(codeAny_builtin F.entry_type_call ?_)⟩
 rw[Around.under_plain (weight_type_call_type T args kw) (units_type_call_type T args kw)];have h1:=ft.notType;have h2:=ft.canCreate
 repeat' (any_goals (first|wp_step|assumption))
 refine codeAny_mono (codeAny_call_builtin ft.plain eN (wpAny_of_eq hcn (g prog w A.in1 _ s h))) λr s1 hr=>?_
 match r,hr with
 |.error e,hr=>exact hr
 |.ok (.ret obj),hr=>
  obtain ⟨hT,hok,Si,gi,hsi⟩:=hnext _ _ hr;have hli:=ft.init.lookup;have hbi:=ft.init.bind obj
  repeat' (any_goals (first|wp_step|assumption))
  refine codeAny_mono (codeAny_call_builtin ft.init.plain eI (ft.init.check _ _ _ _ _ _ _ _ hT hok (gi prog w A.in1 _ s1 hsi))) λr2 s2 hr2=>?_
  match r2,hr2 with
  |.error e,hr2=>exact hr2
  |.ok (.ret r),hr2=>
   obtain ⟨rfl,hq⟩:=hr2
   repeat' (any_goals (first|wp_step|assumption))
  |.ok .next,hr2=>exact hr2.elim
  |.ok .brk,hr2=>exact hr2.elim
  |.ok .cont,hr2=>exact hr2.elim
 |.ok .next,hr=>exact hr.elim
 |.ok .brk,hr=>exact hr.elim
 |.ok .cont,hr=>exact hr.elim
theorem ziq{T newId:String}{self:Value}{rest:List Value}{kw:List (Str×Value)}(hl:typeLookup (.type T) "__init__" = pure (some (.builtin "object.__init__")))
  (hm:Bind.madeBy (.type T)=pure (some newId)) (hne:(some newId != some "object.__new__")=true) :
  Meets (Builtin.«object.__init__» ⟨self::rest,kw⟩) (λ_ R s=>s.TypeIs self T/\R (.ok (.ret .none)) s):=by
 refine .of_wp λprog w A R s hs=>?_;obtain ⟨hT,hq⟩:=hs
 cases rest with
 |nil=>
  cases kw with
  |nil=>exact Qh ⟨_,rfl,hq⟩
  |cons k kw=>(repeat' (any_goals (first|wp_step|assumption)));exact ⟨_,rfl,hq⟩
 |cons a rest=>(repeat' (any_goals (first|wp_step|assumption)));exact ⟨_,rfl,hq⟩
theorem zir(a:Value)(t:Tok):checkTypeCall "enumerate" ⟨[a],[("start", .int 1 t)]⟩=pure ():=by kernel_rfl
theorem zjU(a:Value)(t:Tok):checkBuiltinCall "enumerate.__new__" ⟨[.type "enumerate", a],[("start", .int 1 t)]⟩=pure ():=by kernel_rfl
theorem zis(o a:Value)(t:Tok):argsOk "object.__init__" ⟨[o,a],[("start", .int 1 t)]⟩:=by unfold argsOk;kernel_rfl
theorem zjV{l:Addr}{items:Array Value}{t:Tok}{Q:Value->Shared->Prop}(hL:s.heap.IsList l items)
  (h:∀h',IsEnum h' (s.heap.objs.size+1) s.heap.objs.size 1 .none->h'.IsListIter s.heap.objs.size l 0->(∀b o,s.heap.get? b=some o->h'.get? b=some o)->Q (.ref (s.heap.objs.size+1)) { s with heap:=h' }) :
  wpAny (model prog w) A (call (.type "enumerate") [.ref l] [("start", .int 1 t)]) Q E s:=by
 obtain ⟨⟨c,dct,dt,sl⟩,hl,hc,n,hd⟩:=hL
 replace hc:c=.type "list" := hc
 replace hd:dt=.seq items n:=hd
 subst hc hd
 have hz:(s.heap.push { cls:=.type "list_iterator", data:=.fields #[.ref l,.int 0 0] }).objs.size=s.heap.objs.size+1:=Heap.size_push ..
 have he:IsEnum ((s.heap.push { cls:=.type "list_iterator", data:=.fields #[.ref l,.int 0 0] }).push { cls:=.type "enumerate", data:=.fields #[.none,.bool false,.ref s.heap.objs.size,rawInt 1,.none,.none] }) (s.heap.objs.size+1) s.heap.objs.size 1 .none:=by
  rw[←hz];exact Qx _ rfl
 refine zgo F.called_enumerate (zir _ t) (zjU _ t) F.entry_enumerate_new F.entry_object_init (znK l t items n dct sl) (Q1:=λobj s1=>s1.TypeIs obj "enumerate" /\ Q obj s1) ⟨hl,?_⟩ λobj s1 hq=>
  ⟨hq.1,zis obj _ t,_,ziq F.called_enumerate.init.lookup F.called_enumerate.made (by decide),hq.1,rfl,hq.2⟩
 show _/\_;rw[hz];exact ⟨⟨_,he,rfl⟩,h _ he ⟨_,Qj _ (Qx _ rfl),rfl,rfl⟩ λb o x=>Qj _ (Qj _ x)⟩
end
section
variable{prog:Program}{w:World}{A:Around}{E:Value->Shared->Prop}{s:Shared}
theorem zlk{en it l:Addr}{i:Nat}{j:Int}{items:Array Value}{x old:Value}{Q:Option Value->Shared->Prop}(st:IsEnum s.heap en it j old)(li:s.heap.IsListIter it l i)(ls:s.heap.IsList l items)
  (at_:items[i]?=some x) (ne:en≠it)
  (k:∀h',IsEnumOut h' en it (j+1) x s.heap.objs.size->h'.IsListIter it l (i+1)->h'.get? s.heap.objs.size=some { cls:=.type "tuple", data:=.seq #[.int j s.toks,x] }->(∀b o,b≠en->b≠it->s.heap.get? b=some o->h'.get? b=some o) ->
   Q (some (.ref s.heap.objs.size)) { s with heap:=h',toks:=s.toks+1 }):wpAny (model prog w) A (pyNext (.ref en)) Q E s:=by
 have ty:s.TypeIs (.ref en) "enumerate" := ⟨_,st,rfl⟩
 have lt:en<s.heap.objs.size:=Qi st;unfold pyNext
 refine Qd (wpAny_attempt (wpAny_callSpecial?_slot (name:=Str.ofString "__next__") ty F.slot_enumerate_next (JB F.slot_enumerate_next ty F.entry_enumerate_next ?_ (F.args_enumerate_next_1 _))))
 show wpAny _ _ (field (.ref en) 2 >>= _) _ _ s;refine Qd (wpAny_field st rfl (x:=.ref it) rfl ?_);refine Qd (wpAny_nextOf_list_item li ls at_ λm1 li1 c1=>?_);have c1:Heap.SameBut it s.heap m1:=c1;have st1:IsEnum m1 en it j old:=(c1.2 en ne).trans st;show wpAny _ _ (field (.ref en) 3 >>= _) _ _ { s with heap:=m1 };refine Qd (wpAny_field st1 rfl (x:=rawInt j) rfl ?_);show wpAny _ _ (field (.ref en) 4 >>= _) _ _ { s with heap:=m1 };refine Qd (wpAny_field st1 rfl (x:=.none) rfl ?_);show wpAny _ _ (mkInt j >>= _) _ _ { s with heap:=m1 };refine Qd (wpAny_mkInt ?_);show wpAny _ _ (setField (.ref en) 3 (rawInt (j+1)) >>= _) _ _ { s with heap:=m1,toks:=s.toks+1 };refine wpAny_bind (wpAny_setField_rec st1 (by simp) λm2 st2 c2=>?_)
 have c2:Heap.SameBut en m1 m2:=c2;have st2:IsEnum m2 en it (j+1) old:=st2;show wpAny _ _ (setField (.ref en) 4 .none >>= _) _ _ { s with heap:=m2,toks:=s.toks+1 };refine wpAny_bind (wpAny_setField_rec st2 (by simp) λm3 st3 c3=>?_)
 have c3:Heap.SameBut en m2 m3:=c3;have st3:IsEnum m3 en it (j+1) old:=st3;show wpAny _ _ (newTuple [.int j s.toks,x] >>= _) _ _ { s with heap:=m3,toks:=s.toks+1 };refine Qd (wpAny_newTuple ?_);have z3:m3.objs.size=s.heap.objs.size:=c3.1.trans (c2.1.trans c1.1)
 have st4:IsEnum (m3.push { cls:=.type "tuple", data:=.seq #[.int j s.toks,x] }) en it (j+1) old:=Qj _ (show IsEnum m3 en it (j+1) old from st3)
 have tp4:(m3.push { cls:=.type "tuple", data:=.seq #[.int j s.toks,x] }).get? s.heap.objs.size=some { cls:=.type "tuple", data:=.seq #[.int j s.toks,x] }:=by rw[←z3];exact Qx _ rfl
 have kp4:∀b o,b≠en->b≠it->s.heap.get? b=some o->(m3.push { cls:=.type "tuple", data:=.seq #[.int j s.toks,x] }).get? b=some o:=λb o n1 n2 q=>Qj _ ((c3.2 b n1).trans ((c2.2 b n1).trans ((c1.2 b n2).trans q)))
 have li4:(m3.push { cls:=.type "tuple", data:=.seq #[.int j s.toks,x] }).IsListIter it l (i+1):=by
  obtain ⟨o,q,r⟩:=li1;exact ⟨o,Qj _ ((c3.2 it (Ne.symm ne)).trans ((c2.2 it (Ne.symm ne)).trans q)),r⟩
 generalize m3.push { cls:=.type "tuple", data:=.seq #[.int j s.toks,x] }=m4 at st4 tp4 kp4 li4
 show wpAny _ _ (Builtin.SmallTypes.ownedTupleIsFree (.ref en) >>= _) _ _ { s with heap:=m4,toks:=s.toks+1 };rw[z3];refine Qd ?_;unfold Builtin.SmallTypes.ownedTupleIsFree Builtin.SmallTypes.ownedTupleHandOut;refine Qd (wpAny_field st4 rfl (x:=.none) rfl (Qh ?_));simp only[if_true];refine wpAny_bind (wpAny_rule (wpAny_bind (wpAny_field st4 rfl (x:=old) rfl (wpAny_bind (wpAny_setField_rec st4 (by simp) λm5 st5 c5=>?_)))))
 have c5:Heap.SameBut en m4 m5:=c5;have st5:IsEnum m5 en it (j+1) x:=st5;refine wpAny_bind (wpAny_bind (wpAny_setField_rec st5 (by simp) λm6 st6 c6=>?_))
 have c6:Heap.SameBut en m5 m6:=c6;have st6:IsEnumOut m6 en it (j+1) x s.heap.objs.size:=st6;refine wpAny_setField_rec st6 (by simp) λm7 st7 c7=>?_
 have c7:Heap.SameBut en m6 m7:=c7;have st7:IsEnumOut m7 en it (j+1) x s.heap.objs.size:=st7;have up:∀b,b≠en->m7.get? b=m4.get? b:=λb n=>(c7.2 b n).trans ((c6.2 b n).trans (c5.2 b n));refine Qd (wpAny_letGo (Qh ⟨_,rfl,Qh (k m7 st7 ?_ ((up _ (JN lt)).trans tp4) λb o n1 n2 q=>(up b n1).trans (kp4 b o n1 n2 q))⟩));obtain ⟨o,q,r⟩:=li4;exact ⟨o,(up it (Ne.symm ne)).trans q,r⟩
theorem zll{en it l:Addr}{i:Nat}{j:Int}{items:Array Value}{old:Value}{Q:Option Value->Shared->Prop}(hh:A.handled=none)(st:IsEnum s.heap en it j old)(li:s.heap.IsListIter it l i)(ls:s.heap.IsList l items)
  (at_:items[i]?=none) (k:∀h',Heap.ExtBut it s.heap h'->Q none { s with heap:=h' }):wpAny (model prog w) A (pyNext (.ref en)) Q E s:=by
 have ty:s.TypeIs (.ref en) "enumerate" := ⟨_,st,rfl⟩
 unfold pyNext
 refine Qd (wpAny_attempt (wpAny_callSpecial?_slot (name:=Str.ofString "__next__") ty F.slot_enumerate_next (JB F.slot_enumerate_next ty F.entry_enumerate_next ?_ (F.args_enumerate_next_1 _))))
 show wpAny _ _ (field (.ref en) 2 >>= _) _ _ s;refine Qd (wpAny_field st rfl (x:=.ref it) rfl (Qd (m:=Builtin.SmallTypes.nextOf (.ref it)) (wpAny_nextOf_list_end hh li ls at_ λh' z c y=>?_)));obtain ⟨o,q,t⟩:=y
 exact Qd (wpAny_isInstance (T := "StopIteration") (b:=true) ⟨o,q,t⟩ isSubtype_stop (Qh (k _ c)))
end
def Ite1(K:Frag)(a:Addr):It :=
 ⟨λi H=>∃xs x,SqL K H a xs/\xs[i]?=some x,
  λi H v H'=>∃p x,H p=none/\v=.ref p/\(∀xs,SqL K H a xs->xs[i]?=some x)/\H'=upd H p (.tup [.int (1+(i:Int)),x]),
  λi H=>∃xs,SqL K H a xs/\xs.length<=i⟩
theorem zjW{P:Program}{w:World}{K:Frag}{elts:List Expr}{x1}{tp:Pos}(a e it:Addr)(hne:e≠it) :
  Turn P w K (.Tuple elts x1 tp) (Ite1 K a) [e,it] e (λi h=>(∃old,IsEnum h e it (1+(i:Int)) old)/\h.IsListIter it a i) where
 mem:=by simp
 obj:=λi h st b hb=>by
  obtain ⟨⟨old,he⟩,o,ho,c,d⟩:=st;have hb':b=e∨b=it:=by simpa using hb
  rcases hb' with rfl|rfl
  ·exact ⟨_,he,λv z=>by
    have z':Data.fields _=Data.cell v:=z;cases z'⟩
  ·exact ⟨o,ho,λv z=>by rw[d] at z;cases z⟩
 keep:=λi h h' st k=>by
  obtain ⟨⟨old,he⟩,hi⟩:=st;exact ⟨⟨old,k e (by simp) _ he⟩,hi.at λo q=>k it (by simp) o q⟩
 item:=by
  intro X hP hw hK hc i pins s σ H E I hf st hg;subst hP hw hK;obtain ⟨⟨old,he⟩,hi⟩:=st;obtain ⟨xs,x,hq,hx⟩:=hg;obtain ⟨its,rv,p,hz⟩:=I.list hq;obtain ⟨u,hu,ru⟩:=rv.get hx;refine zlk he hi p.isList (x:=u) (by simpa using hu) hne λh1 out hi1 ht kk=>?_
  refine ⟨_,rfl,wpAny_letOwnedTupleGo_enum out λh2 he2 hs2=>?_⟩;have hel:e<s.heap.objs.size:=Qi he;have hs2':Heap.SameBut e h1 h2:=hs2
  have ht2:h2.get? s.heap.objs.size=some { cls:=.type "tuple", data:=.seq #[.int (1+(i:Int)) s.toks,u] }:=(hs2'.2 _ (JN hel)).trans ht
  have kk2:∀b o,b∉[e,it]->s.heap.get? b=some o->h2.get? b=some o:=λb o hb q=>by
   have hbe:b≠e:=λz=>hb (by simp[z])
   have hbi:b≠it:=λz=>hb (by simp[z])
   exact (hs2'.2 b hbe).trans (kk b o hbe hbi q)
  have hn:H s.heap.objs.size=none:=I.hok.fresh (Qs _)
  have I2:Inv X pins σ (upd H s.heap.objs.size (.tup [.int (1+(i:Int)),x])) { s with heap:=h2,toks:=s.toks+1 } :=
   I.turnedNew (fp:=[e,it]) hf kk2 (Qs _) ⟨by show 2<=sizeLine;decide,[.int (1+(i:Int)) s.toks,u],.cons ⟨_,rfl⟩ (.cons ru .nil),⟨_,ht2,rfl,_,rfl⟩⟩
  refine ⟨.ref s.heap.objs.size,_,I2,rfl,⟨_,x,hn,rfl,λys hy=>by rw[I.list_inj hy hq];exact hx,rfl⟩,⟨⟨u,?_⟩,?_⟩,λb hb=>?_⟩
  ·have e2:(1+((i+1:Nat):Int))=1+(i:Int)+1:=by omega
   rw[e2];exact he2
  ·exact hi1.at λo q=>(hs2'.2 it (Ne.symm hne)).trans q
  ·have hlt:b<s.heap.objs.size:=by
    have hb':b=e∨b=it:=by simpa using hb
    rcases hb' with rfl|rfl
    ·exact hel
    ·obtain ⟨o,ho,_⟩:=hi;exact Qi ho
   rw[zaI (QN hlt)];exact (hf b hb).1
 done:=by
  intro X hP hw hK hc i pins s σ H E I hf st hg;subst hP hw hK;obtain ⟨⟨old,he⟩,hi⟩:=st;obtain ⟨xs,hq,hx⟩:=hg;obtain ⟨its,rv,p,hz⟩:=I.list hq;have hl:=rv.length;exact zll (I.ok.hd hc) he hi p.isList (by simp;omega) λh' eb=>⟨rfl,I.turnedL (t':=s.toks) hf λb o hb q=>eb b o (λz=>hb (by simp[z])) q⟩
 self:=λ_ _ _ _ _ st h=>by
  obtain ⟨⟨old,he⟩,_⟩:=st;exact wpAny_pyIter_enum he h
section
variable{X:Cx}
theorem znL{a:Expr}{ta:TA}{p pos k1 k2:Pos}{j}{elts:List Expr}{x1}{tp:Pos}(hg:Gl X "enumerate")(hm:X.mg "enumerate" = none)(ha:PA X [a] ta)
  (hs:backTo pos (starEach [a] X.env)=(false,eval a X.env)::backTo pos (starEach [] X.env):=by rfl) (hpl:(backTo pos (starEach [a] X.env)).any (·.1)=false:=by rfl) :
  PI X (.Tuple elts x1 tp) (.Call (.Name "enumerate" p) [a] [⟨some "start", .Constant (.int 1) j k1,k2⟩] pos) (λσ H R=>ta σ H λvs H1=>∃a xs,vs=[.ref a]/\SqL X.K H1 a xs/\R (Ite1 X.K a) H1):=by
 intro pins s σ H R I h;refine wpAny_Call_Name_kw (zeB I hg hm boot_enumerate (zpA hpl rfl ?_));rw[hs];refine evalArgs_kwB rfl ?_;rw[←hs];refine thn (ha pos pins s σ H _ I h) λus s1 ⟨vs,H1,I1,r1,q1⟩=>?_;refine kws_cons (wpAny_Constant_int (kws_nil ?_));obtain ⟨l,xs,e,hq,q⟩:=q1;subst e
 cases r1 with
 |cons r rr=>
  cases rr
  cases (show _=Value.ref l from r)
  have I1':=I1.tok (s1.toks+1);obtain ⟨its,rv,pl,hz⟩:=I1'.list hq;refine zjV pl.isList λh' he hi kk=>?_;have I2:Inv X pins σ H1 { s1 with heap:=h',toks:=s1.toks+1 }:=I1'.kept (t':=s1.toks+1) kk;refine wpAny_pyIter_enum he ?_;refine ⟨s1.heap.objs.size+1,[s1.heap.objs.size+1,s1.heap.objs.size],_,_,H1,rfl,I2,zjW l _ _ (Nat.succ_ne_self _),⟨⟨_,he⟩,hi⟩,λb hb=>?_,q⟩;have hb':b=s1.heap.objs.size+1∨b=s1.heap.objs.size:=by simpa using hb
  rcases hb' with rfl|rfl
  ·exact I1.fpOk (JU _) (I1.hok.fresh (JU _))
  ·exact I1.fpOk (Qs _) (I1.hok.fresh (Qs _))
end
end L2
namespace DL
open PySem PySem.Spec L2
open PyProof.Rows hiding St
section
variable{X:Cx}{B G0:Hp}{e a b c tg:Expr}{pos:Pos}{es rest:List Expr}
theorem zit{K:Frag}{G1:Hp}{ad:Addr}{vs:List V}{ds:List D}(h:SqL K G1 ad vs)(r:Reps K G1 vs ds):zem K (Ite1 K ad) (zcO 1 ds) G1 where
 go:=λi G H s1 s2 hi=>by
  rw[zaF] at hi;have hi':i<vs.length:=by rw[r.length];exact hi
  exact ⟨vs,vs[i],(s1.trans s2).seq h,Qf hi'⟩
 stop:=λi G H s1 s2 hi=>by
  rw[zaF] at hi;exact ⟨vs,(s1.trans s2).seq h,by rw[r.length];exact hi⟩
 yld:=λi G H x H' d s1 s2 e y=>by
  obtain ⟨p,v,hp,rfl,y1,rfl⟩:=y;have z1:=y1 vs ((s1.trans s2).seq h);rw[zfc] at e
  cases q:ds[i]? with
  |none=>rw[q] at e;cases e
  |some dd=>
   rw[q] at e;cases e;obtain ⟨v',e1,r1⟩:=r.get q;rw[z1] at e1;cases e1;refine ⟨upd G p (.tup [.int (1+(i:Int)),v]),Ext.new s2 hp,.tup (SqT.of zaE) (.cons ?_ (.cons ((r1.mono s1).mono (zaO (s2.free hp))) .nil))⟩
   have:((1+i:Nat):Int)=1+(i:Int):=by omega
   rw[this];exact .int _
def zfU:List D->Option (List D)
 |[.list ds]=>some (zcO 1 ds)
 |_=>none
def zi5(f:M (List D)):M (List D):=zax f λx=>mOpt (zfU x)
theorem zjX{x l:List D}(h:zfU x=some l):∃ds,x=[.list ds]/\l=zcO 1 ds:=by
 unfold zfU at h
 split at h
 ·cases h;exact ⟨_,rfl,rfl⟩
 ·cases h
theorem znM{f:M (List D)}{p2 k1 k2:Pos}{j}{elts:List Expr}{x1}{tp:Pos}(hg:Gl X "enumerate")(hm:X.mg "enumerate" = none)(ha:PA X [a] (tDs X.K B G0 f))
  (hs:backTo pos (starEach [a] X.env)=(false,eval a X.env)::backTo pos (starEach [] X.env):=by rfl) (hpl:(backTo pos (starEach [a] X.env)).any (·.1)=false:=by rfl) :
  PI X (.Tuple elts x1 tp) (.Call (.Name "enumerate" p2) [a] [⟨some "start", .Constant (.int 1) j k1,k2⟩] pos) (iD X.K B G0 (zi5 f)):=piof (znL hg hm ha hs hpl) λσ H R q=>tM.toI (R0:=Reps X.K) q λv H' G' Z' x k r a=>by
 cases z:zfU x with
 |none=>rw[z] at a;exact a.elim
 |some l=>
  rw[z] at a;obtain ⟨ds,rfl,rfl⟩:=zjX z;obtain ⟨v,rfl,q⟩:=r.one_inv;obtain ⟨l,ws,rfl,h1,r1⟩:=q.lst_inv;exact ⟨l,ws,rfl,k.gh.seq h1,a _ G' H' k (.refl _) (zit h1 r1)⟩
end
section
variable{X:Cx}
def most:List Int->Int
 |[]=>0
 |[n]=>n
 |n::r=>if most r > n then most r else n
theorem zdX:∀{ns:List Int},0<ns.length->most ns∈ns
 |[n],_=>Q0.2 rfl
 |n::m::r,_=>by
  have ih:=zdX (ns:=m::r) (Ud _);unfold most;split
  ·exact Qk _ ih
  ·exact Qm ..
theorem ziu:∀{ns:List Int}{a:Int},a∈ns->a<=most ns
 |[n],a,h=>by rw[Q0.1 h];exact QT _
 |n::m::r,a,h=>by
  have ih:∀b,b∈m::r->b<=most (m::r):=λb hb=>ziu hb;unfold most;rcases QR.1 h with e|h
  ·subst e;split <;> omega
  ·have:=ih a h;split <;> omega
theorem zpB{ns:List Int}{M:Int}(h1:M∈ns)(h2:∀a,a∈ns->a<=M):most ns=M :=
 JL (h2 _ (zdX (JV h1))) (ziu h1)
theorem zlm(hc:X.calm=true):zc1 X (.builtin "max") (λxs H Q=>∃l,∃ns:List Int,xs=[.ref l]/\SqL X.K H l (ns.map V.int)/\0<ns.length/\Q (.int (most ns)) H):=by
 intro pins s σ H xs us Q I rx h;obtain ⟨l,ns,rfl,hq,hb,q⟩:=h;obtain ⟨u,rfl,ru⟩:=rx.one;cases ru;obtain ⟨its,rv,p,hz⟩:=I.list hq;have hi:=zb0 rv;obtain ⟨ys,e⟩:=hi.allInts.items
 have hns:ns=ys.toList.map (·.1):=by
  rw[←hi.numsOf,←nums_intItems,←e]
 have hsz:0<ys.size:=by
  rw[hns,Qb,Jg] at hb;exact hb
 have hl:=p.isList;rw[e] at hl;refine max_intList (I.ok.hd hc) hl hsz λv h' tk hv hk=>?_;obtain ⟨t,rfl⟩:=intItems_at hv;obtain ⟨h1,h2⟩:=argBest_gt (numAt ys) (ys.size-1);refine ⟨.int (most ns),H,I.kept hk,⟨t,?_⟩,q⟩;rw[zpB (M:=_) ?_ ?_]
 ·rw[hns,numAt_eq];exact getD_mem (by rw[Qb,Jg];omega)
 ·intro a ha
  rw[hns] at ha;obtain ⟨j,hj,rfl⟩:=mem_getD ha;rw[Qb,Jg] at hj;rw[←numAt_eq];exact h2 j (by omega)
def zhd:List D->Option D
 |[.list ds]=>(match zbM ds with
  |some ns=>if 0<ns.length then some (.int (most ns)) else none
  |none=>none)
 |_=>none
theorem zln{xs:List D}{d:D}(h:zhd xs=some d):∃ds ns,xs=[.list ds]/\zbM ds=some ns/\0<ns.length/\d=.int (most ns):=by
 unfold zhd at h
 split at h
 ·rename_i ds
  cases z:zbM ds with
  |none=>rw[z] at h;cases h
  |some ns=>
   rw[z] at h;dsimp only at h
   split at h
   ·rename_i c
    cases h;exact ⟨ds,ns,rfl,z,c,rfl⟩
   ·cases h
 ·cases h
theorem zlo(hc:X.calm=true):zdf X (.builtin "max") zhd:=by
 refine ⟨_,zlm hc,λvs G H ds d Q s r e k=>?_⟩;obtain ⟨ds,ns,rfl,z,c,rfl⟩:=zln e;obtain ⟨v,rfl,q1⟩:=r.one_inv;obtain ⟨l,ws,rfl,h1,r1⟩:=q1.lst_inv
 have:=zb8 r1 z
 subst this;exact ⟨l,ns,rfl,s.seq h1,c,k _ G H (.refl s) (.int _)⟩
theorem zgp{ns:List Int}(h:0<ns.length):zhd [.list (ns.map .int)]=some (.int (most ns)):=by
 unfold zhd;simp only[zcj,Qn h]
end
section
variable{X:Cx}{B G0:Hp}{e o:Expr}{es:List Expr}
theorem ziv{h:Heap}{vs:List Value}{xs:List D}{as:List Addr}{d:D}(rs:ReadsAll h vs xs as)(hxs:PyData.canLayAll0 xs=true) :
  vs.countP (λy=>PyData.eqv (SeqAt.readOf h y) d)=xs.countP (λy=>PyData.eqv y d):=by
 have key:xs=vs.map (SeqAt.readOf h):=(SeqAt.readsAll_map xs vs as hxs rs).symm;rw[key,List.countP_map]
 rfl
def zdl(y x:D):Option D:=match y with
 |.list ds=>if x.canLay0=true/\PyData.canLayAll0 ds=true/\x.depth<=60 then some (.int (ds.countP λy=>PyData.eqv y x)) else none
 |_=>none
theorem znN(hu:X.A.units+64<cLine):MtR X "list.count" (λv vs H Q=>∃G u y x d,vs=[u]/\Same G H/\Rep X.K G v y/\Rep X.K G u x/\zdl y x=some (.int d)/\Q (.int d) H):=by
 intro pins s σ H x xs v us Q I rx rs h;obtain ⟨G,u,dy,dx,d,rfl,sg,py,px,e,q⟩:=h;obtain ⟨w,rfl,rw'⟩:=rs.one;unfold zdl at e
 split at e
 ·rename_i ds
  split at e
  ·rename_i c
   obtain ⟨bs,rb⟩:=zbz I sg py rx (show PyData.canLayAll0 _=true from c.2.1)
   obtain ⟨as,ra⟩:=zbz I sg px rw' c.1
   cases rb with
   |list h1 h2 h3 h4=>
    rename_i l ob its cs n;obtain ⟨cls,dd,data,sl⟩:=ob;simp only at h2 h3;subst h2 h3;refine call_meets F.slot_list_count ⟨_,h1,rfl⟩ F.entry_list_count (F.args_list_count_2 _ _) (SeqAt.list_countAt _ _ _ dd sl _ (λy=>PyData.eqv (SeqAt.readOf s.heap y) dx)) ⟨h1,SeqAt.items_eqAt h4 ra c.2.1 c.1 (by have:=c.2.2;omega),?_⟩
    rw[ziv h4 c.2.1];cases e;exact ⟨.int _,H,I.tok _,⟨_,rfl⟩,q⟩
  ·cases e
 ·cases e
def zgq(y:D)(xs:List D):Option D:=match xs with
 |[x]=>zdl y x
 |_=>none
theorem ziw{ds xs:List D}{d:D}(h:zgq (.list ds) xs=some d):∃x n,xs=[x]/\d=.int n/\zdl (.list ds) x=some (.int n):=by
 unfold zgq at h
 split at h
 ·rename_i x
  have h':=h;unfold zdl at h;dsimp only at h
  split at h
  ·cases h;exact ⟨x,_,rfl,rfl,h'⟩
  ·cases h
 ·cases h
def zfV(f:M D)(g:M (List D)):M D:=zax f λy=>zax g λxs=>mOpt (match y with | .list ds=>zgq (.list ds) xs|_=>none)
theorem zhe{apos cpos:Pos}{f:M D}{g:M (List D)}(hu:X.A.units+64<cLine)(ho:PE X o (tD X.K B G0 f))(ha:PA X (e::es) (tDs X.K B G0 g))
  (hbase:attributeBase o "count" X.env (eval o X.env)=eval o X.env:=by rfl)
  (hfew:((backTo cpos (starEach (e::es) X.env)).all (λx=>!x.1)&&(backToKw cpos (keywordEach [] X.env)).all (λx=>x.1.isSome)
   && decide ((e::es).length+([]:List Keyword).length+(if ([]:List Keyword).isEmpty then 0 else 1)<30))=true:=by rfl)
  (hline:(apos.endLine==cpos.line)=true:=by rfl) (hs:starEach (e::es) X.env=(false,eval e X.env)::starEach es X.env:=by rfl) (hplain:(backTo cpos (starEach es X.env)).any (·.1)=false:=by rfl) :
  PE X (.Call (.Attribute o "count" apos) (e::es) [] cpos) (tD X.K B G0 (zfV f g)) :=
 peof (znm F.plainAttrs_list F.slot_list_count F.type_list_count (znN hu) ho ha hbase hfew hline hs hplain) λσ H Q q=>by
  refine tM.one (R:=Rep X.K) q λv H2 G Z y k r a=>?_
  cases y with
  |list ds=>
   obtain ⟨l,ws,rfl,h1,r1⟩:=r.lst_inv;refine ⟨.inl ⟨rfl,ws,k.gh.seq h1⟩,?_⟩;refine tM.nx (R:=Reps X.K) k a λxs H3 G3 Z3 es k3 s3 r3 a3=>?_;obtain ⟨d,e,a3⟩:=a3.opt;obtain ⟨x,n,rfl,rfl,e'⟩:=ziw e;obtain ⟨u,rfl,ru⟩:=r3.one_inv;exact ⟨G3,u,.list ds,x,n,rfl,k3.gh,r.mono s3,ru,e',aft.now a3 k3 (.int _)⟩
  |_=>
   unfold zax at a
   cases z:g Z with
   |bad=>rw[z] at a;exact a.elim
   |ok xs Z1=>rw[z] at a;exact a.elim
theorem zgr{f:M D}{g:M (List D)}{Z Z1 Z2:DEnv}{ds:List D}{x d:D}(h1:f Z=.ok (.list ds) Z1)(h2:g Z1=.ok [x] Z2)(h3:zdl (.list ds) x=some d):zfV f g Z=.ok d Z2:=by
 unfold zfV zax;rw[h1];dsimp only;rw[h2];dsimp only[zgq];rw[h3]
 rfl
end
section
variable{prog:Program}{w:World}{A:Around}{R:Result->Shared->Prop}{h0:Heap}{l I S:Addr}{rs:List (Addr×List Value)}
def Kept(h h':Heap):Prop:=∀b o,h.get? b=some o->h'.get? b=some o
def Ls1(h:Heap)(a:Addr)(its:List Value)(sl:Array (Option Value)):Prop:=∃n,h.get? a=some { cls:=.type "list", dict:=none,data:=.seq its.toArray n,slots:=sl }
def Ls(h:Heap)(a:Addr)(its:List Value):Prop:=∃n sl,h.get? a=some { cls:=.type "list", dict:=none,data:=.seq its.toArray n,slots:=sl }
theorem Ls.kept{h h':Heap}{a:Addr}{its:List Value}(x:Ls h a its)(k:Kept h h'):Ls h' a its:=by
 obtain ⟨n,sl,e⟩:=x;exact ⟨n,sl,k _ _ e⟩
theorem zjY(hh:A.in1.handled=none)(hI:h0.objs.size<=I)(hS:h0.objs.size<=S)(hIS:S≠I)(hl:h0.IsList l (rs.map λp=>Value.ref p.1).toArray)(hr:∀p∈rs,Ls h0 p.1 p.2) :
  ∀(k i:Nat)(s:Shared)(t:Addr)(acc:List Value)(c:Nat)(sl:Array (Option Value)),rs.length-i=k->i<=rs.length->Kept h0 s.heap->s.heap.IsListIter I l i ->
   s.heap.get? S=some { cls:=.type "list", dict:=none,data:=.seq #[.ref t] c,slots:=#[] }->t≠S->t≠I->Ls1 s.heap t acc sl->acc.length+((rs.drop i).map (·.2)).flatten.length<=sizeLine ->
   (∀p h' tk sl',Kept h0 h'->Ls1 h' p (acc++((rs.drop i).map (·.2)).flatten) sl'->(p=t/\i=rs.length/\sl'=sl∨h0.objs.size<=p/\sl'=#[])->R (.ok (.ret (.ref p))) { s with heap:=h',toks:=tk }) ->
   codeAny (model prog w) A (.builtin "sum.loop" ⟨[.ref I,.ref S,rawInt 2,rawInt 0],[]⟩) R s:=by
 intro k
 induction k with
 |zero=>
  intro i s t acc c sl hk hi hK hit hSS htS htI ht hz hR;have hin:i=rs.length:=by omega
  subst hin;refine codeAny_builtin F.entry_sum_loop ?_;rw[Around.under_plainId F.plain_sum_loop _];show wpAny _ A.in1 (seqItems? (.ref S) >>= _) _ _ s;refine Qd (wpAny_seqItems hSS rfl ?_);show wpAny _ A.in1 (tryCatch (pyNext (.ref I)) _ >>= _) _ _ s
  have hl':s.heap.IsList l (rs.map λp=>Value.ref p.1).toArray:=by
   obtain ⟨o,e,r⟩:=hl;exact ⟨o,hK _ _ e,r⟩
  refine wpAny_bind (wpAny_tryCatch (wpAny_pyNext_list_end hh hit hl' (by simp) λh' ex=>?_))
  refine Qh (hR t h' s.toks sl (λb o e=>?_) ?_ (.inl ⟨rfl,rfl,rfl⟩))
  ·exact ex b o (QN (QD (Qi e) hI)) (hK b o e)
  ·obtain ⟨n,e⟩:=ht
   rw[List.drop_length,Uc,List.flatten_nil,Jb];exact ⟨n,ex _ _ htI e⟩
 |succ k ih=>
  intro i s t acc c sl hk hi hK hit hSS htS htI ht hz hR;have hlt:i<rs.length:=by omega
  refine codeAny_builtin F.entry_sum_loop ?_;rw[Around.under_plainId F.plain_sum_loop _];show wpAny _ A.in1 (seqItems? (.ref S) >>= _) _ _ s;refine Qd (wpAny_seqItems hSS rfl ?_);show wpAny _ A.in1 (tryCatch (pyNext (.ref I)) _ >>= _) _ _ s
  have hl':s.heap.IsList l (rs.map λp=>Value.ref p.1).toArray:=by
   obtain ⟨o,e,r⟩:=hl;exact ⟨o,hK _ _ e,r⟩
  refine wpAny_bind (wpAny_tryCatch (wpAny_pyNext_list_item (x:=.ref (rs[i]'hlt).1) hit hl' (by simp[hlt]) λh' hit' sb=>?_))
  show wpAny _ A.in1 ((holding [Value.ref (rs[i]'hlt).1] (binaryOp .Add (.ref t) (.ref (rs[i]'hlt).1))).attempt >>= _) _ _ _;refine Qd (wpAny_attempt (JC ?_));have hm:rs[i]'hlt∈rs:=List.getElem_mem hlt;have hd:rs.drop i=rs[i]'hlt::rs.drop (i+1):=Jj hlt;have hK':Kept h0 h':=λb o e=>(sb.2 b (QN (QD (Qi e) hI))).trans (hK b o e);obtain ⟨n1,e1⟩:=ht;have e1':=(sb.2 t htI).trans e1;obtain ⟨n2,s2,e2⟩:=(hr _ hm).kept hK';have hSS':=(sb.2 S hIS).trans hSS;rw[hd,QB,QO,Ql] at hz;refine concat_meets ⟨_,e1',rfl⟩ ⟨_,e2,rfl⟩ noFill_list_add seq_list_add PySem.F.slot_list_add PySem.F.entry_list_add (PySem.F.args_list_add_2 _ _) (list_addW t _ acc.toArray _ n1 n2 none none sl s2 (by rw[QM,QM];omega)) ⟨e1',e2,?_⟩
  have hlS:S<h'.objs.size:=Qi hSS';have hlI:I<h'.objs.size:=by obtain ⟨o,e,_⟩:=hit';exact Qi e
  have ea:acc.toArray++(rs[i]'hlt).2.toArray=(acc++(rs[i]'hlt).2).toArray:=by simp
  rw[ea]
  have hP:∀b o,h'.get? b=some o->(h'.push { cls:=Value.type "list", data:=Data.seq (acc++(rs[i]'hlt).2).toArray }).get? b=some o:=λb o e=>Qj _ e
  have hS1:=hP _ _ hSS'
  have hNew:(h'.push { cls:=Value.type "list", data:=Data.seq (acc++(rs[i]'hlt).2).toArray }).get? h'.objs.size=some { cls:=Value.type "list", data:=Data.seq (acc++(rs[i]'hlt).2).toArray }:=Qx _ rfl
  show wpAny _ A.in1 (updateSeq S (λ_=>#[.ref h'.objs.size]) >>= _) _ _ _;refine Qd (wpAny_updateSeq hS1 rfl ?_);have hS2:=Heap.get?_update_self (Obj.mapSeq λ_=>#[Value.ref h'.objs.size]) hS1 rfl;refine Qd (wpAny_letGo ?_);refine Qd (wpAny_updateSeq hS2 rfl (Qh ⟨plainId_quiet F.plain_sum_loop _,?_⟩))
  have oth:∀b o,b≠S->(h'.push { cls:=Value.type "list", data:=Data.seq (acc++(rs[i]'hlt).2).toArray }).get? b=some o->(((h'.push { cls:=Value.type "list", data:=Data.seq (acc++(rs[i]'hlt).2).toArray }).update S (Obj.mapSeq λx=>#[Value.ref h'.objs.size])).update S (Obj.mapSeq λx=>#[Value.ref h'.objs.size])).get? b=some o:=λb o hb e=>(Heap.get?_update_other _ _ (Ne.symm hb)).trans ((Heap.get?_update_other _ _ (Ne.symm hb)).trans e)
  refine ih (i+1) _ h'.objs.size (acc++(rs[i]'hlt).2) _ #[] (by omega) hlt ?_ ?_ (Heap.get?_update_self _ hS2 rfl) (JN hlS) (JN hlI) ?_ (by rw[Ql];omega) λp h'' tk sl' hk'' hp hq=>?_
  ·exact λb o e=>oth b o (QN (QD (Qi e) hS)) (hP b o (hK' b o e))
  ·obtain ⟨o,e,r⟩:=hit'
   exact ⟨o,oth I o (Ne.symm hIS) (hP I o e),r⟩
  ·exact ⟨_,oth _ _ (JN hlS) hNew⟩
  ·refine hR p h'' tk sl' hk'' ?_ (.inr ?_)
   ·rw[hd,QB,QO,←Q8];exact hp
   ·rcases hq with ⟨rfl, -,e⟩|hq
    ·exact ⟨Nat.le_of_lt (Nat.lt_of_le_of_lt hS hlS),e⟩
    ·exact hq
end
section
variable{prog:Program}{w:World}{A:Around}{E:Value->Shared->Prop}{s:Shared}{l z:Addr}{rs:List (Addr×List Value)}
theorem zlp(a b:Value):argsOk "sum" ⟨[a,b],[]⟩:=by unfold argsOk;kernel_rfl
theorem zjZ{Q:Value->Shared->Prop}(hh:A.handled=none)(hl:s.heap.IsList l (rs.map λp=>Value.ref p.1).toArray)(hr:∀p∈rs,Ls s.heap p.1 p.2)(hz:Ls s.heap z [])(hb:(rs.map (·.2)).flatten.length<=sizeLine)
  (h:∀p h' tk sl',Kept s.heap h'->Ls1 h' p (rs.map (·.2)).flatten sl'->(p=z/\rs=[]∨s.heap.objs.size<=p/\sl'=#[])->Q (.ref p) { s with heap:=h',toks:=tk }) :
  wpAny (model prog w) A (call (.builtin "sum") [.ref l,.ref z]) Q E s:=by
 refine call_function_tree F.kind_sum F.plain_sum F.entry_sum (zlp _ _) ?_;unfold Builtin.«sum»;simp only[QK,QE];rw[QA (by decide)]
 refine Qd (wpAny_of_eq (show Builtin.Builtins.bindParams "sum" ["start"] 0 ⟨[.ref z],[]⟩=pure [some (.ref z)] from rfl) ?_)
 refine Qd (JF hl ?_);refine Qd (Qh ?_);obtain ⟨n,sl,ez⟩:=id hz
 have ty:∀h:Heap,h.get? z=some { cls:=.type "list", dict:=none,data:=.seq [].toArray n,slots:=sl }->({ s with heap:=h }:Shared).TypeIs (.ref z) "list" := λh e=>⟨_,e,rfl⟩
 have ez':(s.heap.push { cls:=.type "list_iterator", data:=.fields #[.ref l,.int 0 0] }).get? z=_:=Qj _ ez
 simp only[List.forIn_cons,List.forIn_nil]
 refine Qd (Qd (Qd (wpAny_isInstance (T := "list") (b:=false) (ty _ ez') F.sub_list_str ?_)))
 simp only[JE,J9]
 refine Qh (Qd (Qd (wpAny_isInstance (T := "list") (b:=false) (ty _ ez') F.sub_list_bytes ?_)))
 simp only[JE,J9]
 refine Qh (Qd (Qd (wpAny_isInstance (T := "list") (b:=false) (ty _ ez') F.sub_list_bytearray ?_)))
 simp only[JE,J9];refine Qh (Qh ?_);refine Qd (wpAny_newObj_type ?_);have hzs:=Qi ez
 have s1:(s.heap.push { cls:=.type "list_iterator", data:=.fields #[.ref l,.int 0 0] }).objs.size=s.heap.objs.size+1:=Heap.size_push ..
 have k2:Kept s.heap ((s.heap.push { cls:=.type "list_iterator", data:=.fields #[.ref l,.int 0 0] }).push { cls:=.type "list", data:=.seq #[.ref z] }):=λb o e=>Qj _ (Qj _ e)
 refine Qh ⟨plainId_quiet F.plain_sum_loop _,zjY (h0:=s.heap) (l:=l) (I:=s.heap.objs.size) (S:=(s.heap.push { cls:=.type "list_iterator", data:=.fields #[.ref l,.int 0 0] }).objs.size) (rs:=rs) hh (Qs _) (by rw[s1];exact JU _) (by rw[s1];exact Nat.succ_ne_self _) hl hr rs.length 0 _ z [] 0 sl rfl (JG _)
  k2 ⟨_,Heap.get?_push_of_some _ (Heap.get?_push_size _ rfl),rfl,rfl⟩ (Heap.get?_push_size _ rfl) (by rw[s1];exact Nat.ne_of_lt (Nat.lt_succ_of_lt hzs)) (Nat.ne_of_lt hzs) ⟨n,k2 _ _ ez⟩ (by simpa using hb) λp h' tk sl' hk hp hq=>?_⟩
 exact h p h' tk sl' hk (by simpa using hp) (hq.imp (λe=>⟨e.1,List.eq_nil_of_length_eq_zero e.2.1.symm⟩) id)
end
section
variable{X:Cx}{pins:List (Addr×Obj)}{σ:St}{H:Hp}{s:Shared}
theorem zlq(I:Inv X pins σ H s):∀{rs:List (Addr×List V)},(∀p∈rs,SqL X.K H p.1 p.2) ->
  ∃ts:List (Addr×List Value),(ts.map λp=>Value.ref p.1)=(rs.map λp=>Value.ref p.1)/\(∀p∈ts,Ls s.heap p.1 p.2)/\Vals (rs.map (·.2)).flatten (ts.map (·.2)).flatten
 |[],_=>⟨[],rfl,(λ_ h=>by cases h),(show Vals [] [] from Paired.nil)⟩
 |p::rs,h=>by
  obtain ⟨ts,e,hl,hv⟩:=zlq I λq hq=>h q (Qk _ hq);obtain ⟨its,rv,⟨⟨c1,d1,t1,sl⟩,n,e1,ec,ed,et⟩,z⟩:=I.list (h p (Qm ..));simp only at ec ed et;subst ec ed et;refine ⟨(p.1,its)::ts,by rw[QB,QB,e],λq hq=>?_,?_⟩
  ·rcases QR.1 hq with rfl|hq
   ·exact ⟨n,sl,e1⟩
   ·exact hl q hq
  ·rw[QB,QB,QO,QO]
   exact rv.append hv
theorem zhf:∀{as:List Addr}{us:List Value},Vals (as.map V.ref) us->us=as.map Value.ref
 |[],_,.nil=>rfl
 |a::as,_,.cons h t=>by
  cases h;rw[zhf t];rfl
theorem zlr(hc:X.calm=true):zc1 X (.builtin "sum") (λxs H Q=>∃l z,∃rs:List (Addr×List V),xs=[.ref l,.ref z]/\SqL X.K H l (rs.map λp=>V.ref p.1)/\(∀p∈rs,SqL X.K H p.1 p.2)/\SqL X.K H z []/\(rs.map (·.2)).flatten.length<=sizeLine /\
  (rs=[]->Q (.ref z) H)/\∀p,H p=none->Q (.ref p) (upd H p (.lst (rs.map (·.2)).flatten))):=by
 intro pins s σ H xs us Q I rx h;obtain ⟨l,z,rs,rfl,hq,hr,hz,hb,q0,q⟩:=h;obtain ⟨u,u',rfl,ru,ru'⟩:=zo7 rx;cases ru;cases ru';obtain ⟨its,rv,pl, -⟩:=I.list hq;obtain ⟨ts,e,hl,hv⟩:=zlq I hr
 have ei:its=ts.map λp=>Value.ref p.1:=by
  rw[e]
  have:=zhf (as:=rs.map (·.1)) (us:=its) (by rw[Q5];exact rv)
  rw[this,Q5];rfl
 subst ei;obtain ⟨zi,rz,⟨⟨c1,d1,t1,sl⟩,n,e1,ec,ed,et⟩, -⟩:=I.list hz;cases rz;simp only at ec ed et;subst ec ed et;have hlen:=hv.length;refine zjZ (I.ok.hd hc) pl.isList hl ⟨n,sl,e1⟩ (by omega) λp h' tk sl' hk hp hq=>?_
 rcases hq with ⟨rfl,rfl⟩|⟨hp',rfl⟩
 ·have hr0:rs=[]:=by
   cases rs with
   |nil=>rfl
   |cons a b=>cases e
  exact ⟨.ref _,H,I.kept hk,rfl,q0 hr0⟩
 ·obtain ⟨m,ep⟩:=hp
  exact ⟨.ref p,_,I.laid (t':=tk) hk hp' (show zb6 X.prog X.w _ h' _ (.lst _) from ⟨hb,_,m,hv,ep⟩),rfl,q p (I.hok.fresh hp')⟩
def zdY:List D->Option (List (List D))
 |[]=>some []
 |.list xs::r=>(zdY r).map (xs :: ·)
 |_=>none
theorem zfk{K:Frag}{G:Hp}:∀{vs:List V}{ds:List D}{ls:List (List D)},Reps K G vs ds->zdY ds=some ls ->
  ∃rs:List (Addr×List V),vs=(rs.map λp=>V.ref p.1)/\(∀p∈rs,SqL K G p.1 p.2)/\Reps K G (rs.map (·.2)).flatten ls.flatten/\rs.length=ls.length
 |_,_,ls,.nil,e=>by cases e;exact ⟨[],rfl,(λ_ h=>by cases h),.nil,rfl⟩
 |_,_,ls,.cons (d:=d) r t,e=>by
  cases d with
  |list xs=>
   unfold zdY at e
   cases z:zdY _ with
   |none=>rw[z] at e;cases e
   |some cs=>
    rw[z] at e;cases e;obtain ⟨rs,rfl,h1,h2,h3⟩:=zfk t z;obtain ⟨a,ws,rfl,h,rr⟩:=r.lst_inv;refine ⟨(a,ws)::rs,rfl,λp hp=>?_,?_,congrArg (· + 1) h3⟩
    ·rcases QR.1 hp with rfl|hp
     ·exact h
     ·exact h1 p hp
    ·rw[QB,QO,QO]
     exact rr.append h2
  |_=>cases e
theorem zj0(ls:List (List D)):zdY (ls.map PyData.list)=some ls:=by
 induction ls with
 |nil=>rfl
 |cons b r ih=>rw[QB,zdY,ih];rfl
def zj1:List D->Option D
 |[.list ds,.list []]=>(match zdY ds with
  |some ls=>if ls.flatten.length<=1000000 then some (.list ls.flatten) else none
  |none=>none)
 |_=>none
theorem zls{xs:List D}{d:D}(h:zj1 xs=some d):∃ds ls,xs=[.list ds,.list []]/\zdY ds=some ls/\ls.flatten.length<=1000000/\d=.list ls.flatten:=by
 unfold zj1 at h
 split at h
 ·rename_i ds
  cases z:zdY ds with
  |none=>rw[z] at h;cases h
  |some ls=>
   rw[z] at h;dsimp only at h
   split at h
   ·rename_i c
    cases h;exact ⟨ds,ls,rfl,z,c,rfl⟩
   ·cases h
 ·cases h
theorem zq5(hc:X.calm=true):zdf X (.builtin "sum") zj1:=by
 refine ⟨_,zlr hc,λvs G H ds d Q s r e k=>?_⟩;obtain ⟨ds,ls,rfl,z,c,rfl⟩:=zls e;obtain ⟨v,v',rfl,q1,q2⟩:=r.two_inv;obtain ⟨l,ws,rfl,h1,r1⟩:=q1.lst_inv;obtain ⟨a,ws2,rfl,h2,r2⟩:=q2.lst_inv
 have:=r2.nil_inv
 subst this;obtain ⟨rs,rfl,g1,g2,g3⟩:=zfk r1 z;refine ⟨l,a,rs,rfl,s.seq h1,λp hp=>s.seq (g1 p hp),s.seq h2,?_,λe0=>?_,λp hp=>?_⟩
 ·rw[g2.length];exact QH c lim
 ·subst e0
  have:ls=[]:=List.eq_nil_of_length_eq_zero g3.symm
  subst this;exact k _ G H (.refl s) (.lst h2 .nil)
 ·exact k _ _ _ (.new s hp) (.lst (SqL.of zaE) (g2.mono (zaO (s.free hp))))
end
section
variable{X:Cx}
def zcB(ns:List Int):List Int:=ns.mergeSort λa b=>decide (a<=b)
theorem zbI(ns:List Int):(zcB ns).Perm ns:=List.mergeSort_perm ..
theorem zhg(ns:List Int):(zcB ns).Pairwise (· <= ·):=by
 have:=List.pairwise_mergeSort (le:=λa b:Int=>decide (a<=b)) (by intro a b c;simp;omega) (by intro a b;simp;omega) ns
 exact this.imp (by simp)
theorem zlt:∀{a b:List Int},a.Perm b->a.Pairwise (· <= ·)->b.Pairwise (· <= ·)->a=b
 |[],b,p,_,_=>by rw[List.nil_perm.1 p]
 |x::a,[],p,_,_=>by have:=p.length_eq;simp at this
 |x::a,y::b,p,ha,hb=>by
  have hx:y<=x:=by
   rcases QR.1 (p.mem_iff.1 (Qm ..)) with e|e
   ·exact Int.le_of_eq e.symm
   ·exact (Jx.1 hb).1 x e
  have hy:x<=y:=by
   rcases QR.1 (p.mem_iff.2 (Qm ..)) with e|e
   ·exact Int.le_of_eq e.symm
   ·exact (Jx.1 ha).1 y e
  have e:=JL hy hx;subst e;rw[zlt (List.Perm.cons_inv p) (Jx.1 ha).2 (Jx.1 hb).2]
theorem zhh:∀{us:List Value}{ns:List Int},PyProof.Rows.IntsAre us ns->Vals (ns.map V.int) us
 |_,_,.nil=>Paired.nil
 |_,_,.cons n t h=>Paired.cons ⟨t,rfl⟩ (zhh h)
theorem zj2:zc1 X (.builtin "sorted") (λxs H Q=>∃l,∃ns:List Int,xs=[.ref l]/\SqL X.K H l (ns.map V.int)/\ns.length<64/\∀p,H p=none->Q (.ref p) (upd H p (.lst ((zcB ns).map V.int)))):=by
 intro pins s σ H xs us Q I rx h;obtain ⟨l,ns,rfl,hq,hb,q⟩:=h;obtain ⟨u,rfl,ru⟩:=rx.one;cases ru;obtain ⟨its,rv,p,hz⟩:=I.list hq;have hi:=zb0 rv;have hn:its.length=ns.length:=by have:=rv.length;rw[Qb] at this;omega
 refine sorted_ints p.isList hi (by omega) λout ns' a1 a2 a3=>?_
 obtain ⟨e,he⟩:=sortedAll_at s.heap its out;have en:ns'=zcB ns:=zlt (a2.trans (zbI ns).symm) a3 (zhg ns);subst en;refine ⟨.ref (s.heap.objs.size+1),_,I.laid (t':=s.toks) (λb o=>sortedAll_old) (JU _) (show zb6 X.prog X.w _ _ _ (.lst ((zcB ns).map V.int)) from ⟨?_,out.toList,e,zhh a1,he⟩),rfl,q _ (I.hok.fresh (JU _))⟩
 rw[Qb,(zbI ns).length_eq];rw[Qb] at hz;exact hz
def zfl:List D->Option D
 |[.list ds]=>(match zbM ds with
  |some ns=>if ns.length<64 then some (.list ((zcB ns).map .int)) else none
  |none=>none)
 |_=>none
theorem zj3{xs:List D}{d:D}(h:zfl xs=some d):∃ds ns,xs=[.list ds]/\zbM ds=some ns/\ns.length<64/\d=.list ((zcB ns).map .int):=by
 unfold zfl at h
 split at h
 ·rename_i ds
  cases z:zbM ds with
  |none=>rw[z] at h;cases h
  |some ns=>
   rw[z] at h;dsimp only at h
   split at h
   ·rename_i c
    cases h;exact ⟨ds,ns,rfl,z,c,rfl⟩
   ·cases h
 ·cases h
theorem zhi{K:Frag}{G:Hp}:∀ns:List Int,Reps K G (ns.map V.int) (ns.map int)
 |[]=>.nil
 |n::r=>.cons (.int n) (zhi r)
theorem zpC:zdf X (.builtin "sorted") zfl:=by
 refine ⟨_,zj2,λvs G H ds d Q s r e k=>?_⟩;obtain ⟨ds,ns,rfl,z,c,rfl⟩:=zj3 e;obtain ⟨v,rfl,q1⟩:=r.one_inv;obtain ⟨l,ws,rfl,h1,r1⟩:=q1.lst_inv
 have:=zb8 r1 z
 subst this;exact ⟨l,ns,rfl,s.seq h1,c,λp hp=>k _ _ _ (.new s hp) (.lst (SqL.of zaE) (zhi _))⟩
theorem zlu{ns:List Int}(h:ns.length<64):zfl [.list (ns.map .int)]=some (.list ((zcB ns).map .int)):=by
 unfold zfl;simp only[zcj,Qn h]
end
@[simp] theorem mBind_ok{α β:Type}{f:M α}{k:α->M β}{Z Z':DEnv}{x:α}(h:f Z=.ok x Z'):zax f k Z=k x Z':=by unfold zax;rw[h]
theorem zhj{s:D->DEnv->Option DEnv}{g:SM}{P:Nat->DEnv->Prop}{R:Out->Prop}:∀(ds:List D)(n:Nat)(Z:DEnv),P n Z ->
  (∀i d Z,ds[i]?=some d->P (n+i) Z->∃Z1,s d Z=some Z1/\((∃Z2,(g Z1=.nx Z2∨g Z1=.ct Z2)/\P (n+i+1) Z2)∨(∃x,g Z1=.rt x/\R (.rt x))∨(∃Z2,g Z1=.bk Z2/\R (.nx Z2)) ∨ ∃Z2 x,g Z1=.ex Z2 x/\R (.ex Z2 x)))->(∀Z,P (n+ds.length) Z->R (.nx Z))->R (zg5 s g ds Z)
 |[],n,Z,h,_,f=>f Z h
 |d::r,n,Z,h,st,f=>by
  obtain ⟨Z1,e1,e2⟩:=st 0 d Z rfl h;rw[zg5,e1];dsimp only;rcases e2 with ⟨Z2,e2,h2⟩|⟨x,e2,h2⟩|⟨Z2,e2,h2⟩|⟨Z2,x,e2,h2⟩
  ·have goal:=zhj (R:=R) r (n+1) Z2 h2 (λi d' Z3 q p=>by
    have e:n+1+i=n+(i+1):=by omega
    rw[e] at p ⊢;exact st (i+1) d' Z3 (by simpa using q) p) (λZ3 p=>f Z3 (by
    have e:n+1+r.length=n+(d::r).length:=by rw[QK];omega
    rw[e] at p;exact p))
   rcases e2 with e2|e2 <;> (rw[e2];exact goal)
  ·rw[e2];exact h2
  ·rw[e2];exact h2
  ·rw[e2];exact h2
theorem zcc{lo hi:Int}{i:Nat}{d:D}(h:(zbW lo hi)[i]?=some d):d=.int (lo+i)/\(i:Int)<hi-lo:=by
 have hl:i<(zbW lo hi).length:=(Qg.mp h).1;rw[za7] at hl;unfold zbW at h;rw[Qe,Qf (by rw[Qu];exact hl),List.getElem_range] at h
 cases h;exact ⟨rfl,by omega⟩
section
variable{α β:Type}{Z Z1 Z2 Z3 Z':DEnv}{f g h:M D}
theorem zag{a:α}:zah a Z=.ok a Z:=rfl
theorem zai:mNil Z=.ok [] Z:=rfl
theorem zbX{o:Option α}{a:α}(h:o=some a):mOpt o Z=.ok a Z:=by subst h;rfl
theorem zaB{f:M α}{k:α->M β}{x:α}{r:Res β}(h:f Z=.ok x Z1)(h2:k x Z1=r):zax f k Z=r:=by unfold zax;rw[h];exact h2
theorem zaK{f:M α}{k:α->β}{x:α}(h:f Z=.ok x Z1):mMap k f Z=.ok (k x) Z1:=by unfold mMap zax;rw[h];rfl
theorem zad{i:Nat}{d:D}(h:Z[i]?=some (some (.pub d))):dVar i Z=.ok d Z:=by unfold dVar;rw[h]
theorem zbD{i:Nat}{ds:List D}(h:Z[i]?=some (some (.own ds)))(h2:Z.set i (some (.pub (.list ds)))=Z'):dVar i Z=.ok (.list ds) Z':=by unfold dVar;rw[h];subst h2;rfl
theorem zap{op:D->D->Option β}{x y:D}{r:β}(h1:f Z=.ok x Z1)(h2:g Z1=.ok y Z2)(h3:op x y=some r):dBin op f g Z=.ok r Z2:=by
 unfold dBin;exact zaB h1 (zaB h2 (zbX h3))
theorem zab{g:M (List D)}{x:D}{xs:List D}(h1:f Z=.ok x Z1)(h2:g Z1=.ok xs Z2):zae f g Z=.ok (x::xs) Z2:=by
 unfold zae;exact zaB h1 (zaB h2 rfl)
theorem zcd{g:M (List D)}{xs:List D}(h1:g Z=.ok xs Z1)(h2:xs.length<=1000000):mTup g Z=.ok (.tuple xs) Z1:=by
 unfold mTup;exact zaB h1 (by rw[Qn h2];rfl)
theorem zbN{g:M (List D)}{xs:List D}(h1:g Z=.ok xs Z1)(h2:xs.length<=1000000):mLst g Z=.ok (.list xs) Z1:=by
 unfold mLst;exact zaB h1 (by rw[Qn h2];rfl)
theorem zc5{g:M (List D)}{xs:List D}(h1:g Z=.ok xs Z1)(h2:xs.length<=1000000):(zax g λxs=>if xs.length<=1000000 then zah xs else λ_=>.bad) Z=.ok xs Z1 :=
 zaB h1 (by rw[Qn h2];rfl)
theorem za6{i:Nat}{d y r:D}(h:Z[i]?=some (some (.pub d)))(h1:g Z=.ok y Z1)(h2:oIx d y=some r):dIxN i g Z=.ok r Z1:=by
 unfold dIxN;rw[h];exact zaB h1 (zbX h2)
theorem zdZ{i:Nat}{ds es:List D}{y r:D}(h:Z[i]?=some (some (.own ds)))(h1:g Z=.ok y Z1)(h3:Z1[i]?=some (some (.own es)))(h2:oIx (.list es) y=some r):dIxN i g Z=.ok r Z1:=by
 unfold dIxN;rw[h];exact zaB h1 (by rw[h3];exact zbX h2)
theorem zaV{p:List D->Option D}{g:M (List D)}{xs:List D}{r:D}(h1:g Z=.ok xs Z1)(h2:p xs=some r):zbu p g Z=.ok r Z1:=by
 unfold zbu;exact zaB h1 (zbX h2)
theorem zav{n:Nat}{F:List D->Option D}{g:M (List D)}{xs:List D}{r:D}(h1:g Z=.ok xs Z1)(h2:xs.length=n)(h3:F xs=some r):dFun n F g Z=.ok r Z1:=by
 unfold dFun;exact zaB h1 (by rw[Qn h2];exact zbX h3)
theorem zhk{i:Int}(h1:f Z=.ok (.int i) Z1):dNeg f Z=.ok (.int (-i)) Z1:=by
 unfold dNeg;exact zaB h1 rfl
theorem zbc{i:Nat}{d r:D}(h:Z[i]?=some (some (.pub d)))(h2:oLen [d]=some r):zbQ i Z=.ok r Z:=by
 unfold zbQ;rw[h];exact zbX h2
theorem zlv{i:Nat}{ds:List D}(h:Z[i]?=some (some (.own ds))):zbQ i Z=.ok (.int ds.length) Z:=by
 unfold zbQ;rw[h]
theorem zc6{g:M (List D)}{i:Int}{r:List D}(h1:g Z=.ok [.int i] Z1)(h2:zjO [.int i]=some r):zeP g Z=.ok r Z1:=by
 unfold zeP;exact zaB h1 (zbX h2)
theorem zlw{g:M (List D)}{i j:Int}{r:List D}(h1:g Z=.ok [.int i,.int j] Z1)(h2:zjP [.int i,.int j]=some r):znx g Z=.ok r Z1:=by
 unfold znx;exact zaB h1 (zbX h2)
theorem zck{g:M (List D)}{xs r:List D}(h1:g Z=.ok xs Z1)(h2:zk3 xs=some r):zdH g Z=.ok r Z1:=by
 unfold zdH;exact zaB h1 (zbX h2)
theorem zb9{i:Int}(h1:f Z=.ok (.int i) Z1):(zax f λx=>mOpt (zde x)) Z=.ok (some i) Z1:=zaB h1 rfl
theorem zbY{f:M Bool}{t:Bool}(h1:f Z=.ok t Z1):mNot f Z=.ok (!t) Z1:=zaK h1
theorem zbj{t:Bool}(h1:f Z=.ok (.bool t) Z1):zbq f Z=.ok t Z1:=by unfold zbq;exact zaB h1 rfl
theorem zq6{f g:M Bool}{t u:Bool}(h1:f Z=.ok t Z)(h2:t=true->g Z=.ok u Z):mAnd f g Z=.ok (t&&u) Z:=by
 unfold mAnd;refine zaB h1 ?_
 cases t with
 |true=>rw[Qn rfl];exact h2 rfl
 |false=>rfl
theorem zgs{t u:Bool}(h1:f Z=.ok (.bool t) Z)(h2:t=true->g Z=.ok (.bool u) Z):zih f g Z=.ok (.bool (t&&u)) Z:=by
 unfold zih;refine zaB h1 ?_
 cases t with
 |true=>exact h2 rfl
 |false=>rfl
theorem zoJ{t u:Bool}(h1:f Z=.ok (.bool t) Z)(h2:t=false->g Z=.ok (.bool u) Z):mOrV f g Z=.ok (.bool (t || u)) Z:=by
 unfold mOrV;refine zaB h1 ?_
 cases t with
 |false=>exact h2 rfl
 |true=>rfl
theorem zlx{t:Bool}(h1:f Z=.ok (.bool t) Z1):zkX f Z=.ok (.bool (!t)) Z1:=by unfold zkX;exact zaB h1 rfl
theorem zoK{f:M Bool}{g h:M α}{r:Res α}(h1:f Z=.ok true Z1)(h2:g Z1=r):mIf f g h Z=r:=by unfold mIf;exact zaB h1 (by rw[Qn rfl];exact h2)
theorem zly{f:M Bool}{g h:M α}{r:Res α}(h1:f Z=.ok false Z1)(h2:h Z1=r):mIf f g h Z=r:=by unfold mIf;exact zaB h1 (by rw[QA (by decide)];exact h2)
theorem zse{f:M Bool}{g h:M α}{t:Bool}{x y:α}(h1:f Z=.ok t Z1)(h2:g Z1=.ok x Z1)(h3:h Z1=.ok y Z1):mIf f g h Z=.ok (if t=true then x else y) Z1:=by
 unfold mIf;refine zaB h1 ?_;cases t with
 |true=>rw[Qn rfl,Qn rfl];exact h2
 |false=>rw[QA (by decide),QA (by decide)];exact h3
theorem zgt{p q:D->D->Option Bool}{x y z:D}{t u:Bool}(h1:f Z=.ok x Z)(h2:g Z=.ok y Z)(h3:p x y=some t)(h4:t=true->h Z=.ok z Z)(h5:t=true->q y z=some u):ze5 p q f g h Z=.ok (t&&u) Z:=by
 unfold ze5;refine zaB h1 (zaB h2 (zaB (zbX h3) ?_))
 cases t with
 |true=>rw[Qn rfl];exact zaB (h4 rfl) (zbX (h5 rfl))
 |false=>rfl
theorem zaN{i j:Int}:oAdd (.int i) (.int j)=some (.int (i+j)):=rfl
theorem zb3{x y:List D}(h:x.length+y.length<=1000000):oAdd (.list x) (.list y)=some (.list (x++y)):=by unfold oAdd;exact Qn h
theorem zbZ{i j:Int}:oSub (.int i) (.int j)=some (.int (i-j)):=rfl
theorem zd0{i j:Int}(h1 : -18446744073709551616<i)(h2:i<18446744073709551616):oMul (.int i) (.int j)=some (.int (i*j)):=by unfold oMul gMul;exact Qn (.inl ⟨by omega,by omega⟩)
theorem zcI{i j:Int}(h1 : -18446744073709551616<j)(h2:j<18446744073709551616):oMul (.int i) (.int j)=some (.int (i*j)):=by unfold oMul gMul;exact Qn (.inr ⟨by omega,by omega⟩)
theorem zdv{x:List D}{k:Int}(h : -1000000<=k/\k<=1000000/\x.length*k.toNat<=1000000):oMul (.list x) (.int k)=some (.list (replicate k.toNat x).flatten):=by unfold oMul;exact Qn h
theorem zlz{i j:Int}(h:0<j):oMod (.int i) (.int j)=some (.int (i % j)):=by unfold oMod gMod;exact Qn h
theorem zpD{i j:Int}(h:0<j)(h2:j<18446744073709551616):oDiv (.int i) (.int j)=some (.int (i / j)):=by unfold oDiv gDiv;exact Qn ⟨h,h2⟩
theorem zlA{i j:Int}(h:0<=j/\j<=1000000/\i.natAbs<2 ^ 64):oPow (.int i) (.int j)=some (.int (i ^ j.toNat)):=by unfold oPow gPow;exact Qn h
theorem zq7{p:Int->Int->Bool}{i j:Int}:oIB p (.int i) (.int j)=some (p i j):=rfl
theorem zcl{i j:Int}:oEq (.int i) (.int j)=some (decide (i=j)):=by
 unfold oEq;rw[if_pos ⟨rfl,rfl,by simp[PyData.depth]⟩];congr 1
theorem zaM{xs:List D}:oLen [.list xs]=some (.int xs.length):=rfl
theorem zgu{xs:List D}:oLen [.tuple xs]=some (.int xs.length):=rfl
theorem zlB{i j:Int}:zk1 [.int i,.int j]=some (.int (if j > i then j else i)):=rfl
theorem zct{j:Int}(h1:j<=1000000)(h2 : -1000000<=j):zjO [.int j]=some (zbW 0 j):=by unfold zjO;exact Qn ⟨h1,h2⟩
theorem znO{i j:Int}(h1:j<=1000000)(h2 : -1000000<=j)(h3:i<=1000000)(h4 : -1000000<=i):zjP [.int i,.int j]=some (zbW i j):=by unfold zjP;exact Qn ⟨h1,h2,h3,h4⟩
theorem zb4{xs:List D}:zk3 [.list xs]=some (zcO 0 xs):=rfl
theorem zaS{i:Nat}{d:D}(h1:f Z=.ok d Z1)(h2:i<Z1.length)(h3:Z1.set i (some (.pub d))=Z'):sSet i f Z=.nx Z':=by
 unfold sSet sAsg sB gN;rw[h1];dsimp only;rw[if_pos h2];subst h3;rfl
theorem zbB{i:Nat}{f:M (List D)}{ds:List D}(h1:f Z=.ok ds Z1)(h2:i<Z1.length)(h3:Z1.set i (some (.own ds))=Z'):zbU i f Z=.nx Z':=by
 unfold zbU sB;rw[h1];dsimp only;rw[if_pos h2];subst h3;rfl
theorem zd1{i:Nat}{d:D}{ds0 ds:List D}(h0:Z[i]?=some (some (.own ds0)))(h1:f Z=.ok d Z1)(h2:Z1[i]?=some (some (.own ds)))(h3:ds.length<1000000)(h4:Z1.set i (some (.own (ds++[d])))=Z'):sApp i f Z=.nx Z':=by
 unfold sApp sB;rw[h0];dsimp only;rw[h1];dsimp only;rw[h2];dsimp only;rw[if_pos h3];subst h4;rfl
theorem zeH{d:D}{s:D->DEnv->Option DEnv}(h1:f Z=.ok d Z1)(h2:s d Z1=some Z'):sAsg f s Z=.nx Z':=by
 unfold sAsg sB;rw[h1];dsimp only;rw[h2]
theorem zc7{d:D}(h1:f Z=.ok d Z1):ze9 f Z=.nx Z1:=by unfold ze9 sB;rw[h1]
theorem tg_N{i:Nat}{d:D}(h:i<Z.length)(h2:Z.set i (some (.pub d))=Z'):gN i d Z=some Z':=by unfold gN;rw[Qn h,h2]
theorem tg_0:gN0 [] Z=some Z:=rfl
theorem tg_C{s:D->DEnv->Option DEnv}{t:List D->DEnv->Option DEnv}{d:D}{r:List D}(h1:s d Z=some Z1)(h2:t r Z1=some Z'):gNC s t (d::r) Z=some Z':=by unfold gNC;dsimp only;rw[h1];exact h2
theorem tg_T{n:Nat}{t:List D->DEnv->Option DEnv}{ds:List D}(h1:ds.length=n)(h2:t ds Z=some Z'):gT n t (.tuple ds) Z=some Z':=by unfold gT;dsimp only;rw[if_pos h1];exact h2
structure Ho(g:SM)(Z:DEnv)(Q:Out->Prop):Prop where
 out:Q (g Z)
def zsf(h:SM)(Q:Out->Prop):Out->Prop
 |.nx Z'=>Ho h Z' Q
 |o=>Q o
structure zpE(h:SM)(Q:Out->Prop)(o:Out):Prop where
 out:zsf h Q o
variable{Q:Out->Prop}{s t u:SM}
theorem zaG(h:Ho s Z (zpE t Q)):Ho (sSeq s t) Z Q:=by
 have h:=h.out.out;constructor;unfold sSeq
 cases e:s Z with
 |nx o=>rw[e] at h;exact h.out
 |_=>rw[e] at h;exact h
theorem zaq(h1:s Z=.nx Z1)(h2:Ho t Z1 Q):Ho (sSeq s t) Z Q:=by
 constructor;unfold sSeq;rw[h1];exact h2.out
theorem zbl{o:Out}(h1:s Z=o)(h2:Q o):Ho s Z Q:=by constructor;rw[h1];exact h2
theorem zbh(h:Q (.nx Z)):Ho sNx Z Q:=⟨h⟩
theorem zat{o:DEnv}(h:Ho t o Q):zpE t Q (.nx o):=⟨h⟩
theorem zc8{d:D}(h:Q (.rt d)):zpE t Q (.rt d):=⟨h⟩
theorem za9{f:M Bool}{b:Bool}(h1:f Z=.ok b Z1)(h2:b=true->Ho s Z1 Q)(h3:b=false->Ho t Z1 Q):Ho (sIf f s t) Z Q:=by
 constructor;unfold sIf sB;rw[h1];dsimp only
 cases b with
 |true=>rw[Qn rfl];exact (h2 rfl).out
 |false=>rw[QA (by decide)];exact (h3 rfl).out
theorem zaD{d:D}(h1:f Z=.ok d Z1)(h2:Q (.rt d)):Ho (sRet f) Z Q:=by constructor;unfold sRet sB;rw[h1];exact h2
theorem zlC{P:Out->Prop}(h:Ho s Z P)(k:∀o,P o->Q o):Ho s Z Q:=⟨k _ h.out⟩
def zsg(I:DEnv->Prop)(Q:Out->Prop):Out->Prop
 |.nx Z | .ct Z=>I Z
 |.bk Z=>Q (.nx Z)
 |.rt d=>Q (.rt d)
 |.ex Z d=>Q (.ex Z d)
 |.bad=>False
structure zj4(I:DEnv->Prop)(Q:Out->Prop)(o:Out):Prop where
 out:zsg I Q o
theorem zaW{I:DEnv->Prop}(h:I Z):zj4 I Q (.nx Z):=⟨h⟩
theorem zd2{I:DEnv->Prop}{d:D}(h:Q (.rt d)):zj4 I Q (.rt d):=⟨h⟩
theorem zby{f:M (List D)}{tg:D->DEnv->Option DEnv}{ds:List D}(I:Nat->DEnv->Prop)(h1:f Z=.ok ds Z1)(h0:I 0 Z1)
  (hst:∀i d Z,ds[i]?=some d->I i Z->∃Z2,tg d Z=some Z2/\Ho s Z2 (zj4 (I (i+1)) Q)) (hend:∀Z,I ds.length Z->Q (.nx Z)):Ho (sFor f tg s) Z Q:=by
 constructor;unfold sFor sB;rw[h1];dsimp only
 refine zhj (P:=I) (R:=Q) ds 0 Z1 h0 (λi d Z e p=>?_) (λZ p=>hend Z (by rw[Q4] at p;exact p))
 rw[Q4] at p;obtain ⟨Z2,e2,q⟩:=hst i d Z e p;refine ⟨Z2,e2,?_⟩;rw[Q4];have q:=q.out.out
 cases z:s Z2 with
 |nx o=>rw[z] at q;exact .inl ⟨o,.inl rfl,q⟩
 |ct o=>rw[z] at q;exact .inl ⟨o,.inr rfl,q⟩
 |rt o=>rw[z] at q;exact .inr (.inl ⟨o,rfl,q⟩)
 |bk o=>rw[z] at q;exact .inr (.inr (.inl ⟨o,rfl,q⟩))
 |ex o x=>rw[z] at q;exact .inr (.inr (.inr ⟨o,x,rfl,q⟩))
 |bad=>rw[z] at q;exact q.elim
theorem zeI{N:List Str}{ds:List D}{P:D->Prop}(h0:zcQ N ds=Z)(h:Ho s Z λo=>∃d,o=.rt d/\P d):∃d,runD N s ds=some d/\P d:=by
 subst h0;obtain ⟨d,e,p⟩:=h.out;refine ⟨d,?_,p⟩;unfold runD;rw[e]
theorem za3{N:List Str}{ds:List D}{d:D}(h0:zcQ N ds=Z)(h:Ho s Z λo=>o=.rt d):runD N s ds=some d:=by
 obtain ⟨d',e,p⟩:=zeI (P:=λx=>x=d) h0 (zlC h λo e=>⟨d,e,rfl⟩);rw[e,p]
end
section
variable{α β:Type}{Z Z1 Z2 Z3 Z':DEnv}{f g h:M D}
theorem zd3{l u:M (Option Int)}{x r:D}{a b:Option Int}(h1:f Z=.ok x Z1)(h2:l Z1=.ok a Z2)(h3:u Z2=.ok b Z3)(h4:oSlA x a b=some r):dSlA f l u Z=.ok r Z3:=by
 unfold dSlA;exact zaB h1 (zaB h2 (zaB h3 (zbX h4)))
theorem zcp{f g:M Bool}{u:Bool}(h1:f Z=.ok false Z1)(h2:g Z1=.ok u Z2):mOr f g Z=.ok u Z2:=by unfold mOr;exact zaB h1 (by rw[QA (by decide)];exact h2)
theorem zgv{f g:M Bool}(h1:f Z=.ok false Z1):mAnd f g Z=.ok false Z1:=by unfold mAnd;exact zaB h1 rfl
theorem zgw{f g:M Bool}{u:Bool}(h1:f Z=.ok true Z1)(h2:g Z1=.ok u Z2):mAnd f g Z=.ok u Z2:=by unfold mAnd;exact zaB h1 (by rw[Qn rfl];exact h2)
theorem zcJ{c:String}{d:D}{t:Bool}(h:f Z=.ok d Z1)(ht:(!isTy d c)=t):mNot (zbq (mMap (λd=>.bool (isTy d c)) f)) Z=.ok t Z1:=by
 subst ht;exact zbY (zbj (zaK (k:=λd=>PyData.bool (isTy d c)) h))
theorem zaQ{x:D}{r:List D}(h1:f Z=.ok x Z1)(h2:zik x=some r):zaY f Z=.ok r Z1:=by
 unfold zaY;exact zaB h1 (zbX h2)
theorem zbE{p:D->D->Option β}{i:Nat}{d y:D}{r:β}(h:Z[i]?=some (some (.pub d)))(h1:g Z=.ok y Z1)(h2:p d y=some r):zce p i g Z=.ok r Z1:=by
 unfold zce;rw[h];exact zaB h1 (zbX h2)
theorem zi6{p:D->D->Option β}{i:Nat}{ds es:List D}{y:D}{r:β}(h:Z[i]?=some (some (.own ds)))(h1:g Z=.ok y Z1)(h3:Z1[i]?=some (some (.own es)))(h2:p (.list es) y=some r):zce p i g Z=.ok r Z1:=by
 unfold zce;rw[h];exact zaB h1 (by rw[h3];exact zbX h2)
theorem zbw{f:M (List D)}{k:Nat}{s:D->DEnv->Option DEnv}{t:M Bool}{ds es:List D}(h1:f Z=.ok ds Z1)(h2:zbG s t g ds (zaP Z1++replicate k none) []=some es):zci f k s t g Z=.ok es Z1:=by
 unfold zci;rw[h1];dsimp only;rw[h2]
theorem zcS{s:D->DEnv->Option DEnv}{t:M Bool}(p:D->Bool)(q:D->D)(I:DEnv->Prop):∀(ds:List D)(Z:DEnv)(es:List D),(∀d∈ds,∀Z,I Z->∃Z1,s d Z=some Z1/\t Z1=.ok (p d) Z1/\(p d=true->g Z1=.ok (q d) Z1)/\I (zaP Z1))->I Z->es.length+ds.length<=1000000 ->
  zbG s t g ds Z es=some (es++(ds.filter p).map q)
 |[],Z,es,_,_,_=>by rw[zbG];simp
 |d::r,Z,es,st,h0,hz=>by
  obtain ⟨Z1,e1,e2,e3,h1⟩:=st d Qm Z h0;have ih:=λes' hz'=>zcS p q I r (zaP Z1) es' (λd' hd=>st d' (Qk _ hd)) h1 hz';rw[QK] at hz;rw[zbG,e1];dsimp only;rw[e2];dsimp only
  cases hp:p d with
  |true=>
   rw[Qn rfl,e3 hp];dsimp only;rw[Qn (by omega),ih _ (by rw[Ql,Ja];omega),List.filter_cons_of_pos hp,QB,Q8]
   rfl
  |false=>
   rw[QA (by decide),ih _ (by omega),List.filter_cons_of_neg (by rw[hp];decide)]
theorem zfm{j:Nat}{d:D}{k:Int}{ds0 ds:List D}(h1:f Z=.ok d Z1)(h0:Z1[j]?=some (some (.own ds0)))(h2:g Z1=.ok (.int k) Z2)(h3:Z2[j]?=some (some (.own ds)))(h4:0<=k/\k<ds.length)(h5:Z2.set j (some (.own (ds.set k.toNat d)))=Z'):zim j g f Z=.nx Z':=by
 unfold zim sB;rw[h1];dsimp only;rw[h0];dsimp only;rw[h2];dsimp only;rw[h3];dsimp only;rw[if_pos h4];subst h5;rfl
theorem zcu{xs:List D}{a b:Option Int}:oSlA (.list xs) a b=some (.list (DL.cutD xs a b)):=rfl
theorem zbm{xs:List D}:zik (.list xs)=some xs:=rfl
theorem zix(bs:List Bool):zdk (bs.map PyData.bool)=some bs:=by
 induction bs with
 |nil=>rfl
 |cons b r ih=>rw[QB,zdk,ih];rfl
theorem zlD{bs:List Bool}:oAll [.list (bs.map PyData.bool)]=some (.bool (bs.all id)):=by unfold oAll;dsimp only;rw[zix];rfl
end
section
variable{α β:Type}{Z Z1 Z2 Z3 Z4 Z':DEnv}{f g h:M D}{s:SM}
theorem zoL{g:M (List D)}{xs r:List D}(h1:g Z=.ok xs Z1)(h2:oZip xs=some r):dZip g Z=.ok r Z1:=by unfold dZip;exact zaB h1 (zbX h2)
theorem zq8{l u t:M (Option Int)}{xs:List D}(h1:f Z=.ok (.list xs) Z1)(h2:l Z1=.ok none Z2)(h3:u Z2=.ok none Z3)(h4:t Z3=.ok (some (-1)) Z4):dRev f l u t Z=.ok (.list xs.reverse) Z4:=by
 unfold dRev;exact zaB h1 (zaB h2 (zaB h3 (zaB h4 (zbX (by unfold oRev;exact Qn rfl)))))
theorem zgx{i:Nat}{d:D}{ds:List D}(h:Z[i]?=some (some (.pub d)))(h2:zeQ [d]=some ds):zeG i Z=.ok ds Z:=by unfold zeG;rw[h];exact zbX h2
theorem zhl{N:List Str}{ds:List D}(h0:zcQ N ds=Z)(h:Ho s Z λo=>∃Z',o=.nx Z'):runD N s ds=some .none:=by
 subst h0;obtain ⟨Z',e⟩:=h.out;unfold runD;rw[e]
theorem zc9{i j:Int}:oNe (.int i) (.int j)=some (!decide (i=j)):=by
 unfold oNe;rw[if_pos ⟨rfl,rfl,by simp[PyData.depth]⟩];congr 1
theorem zgy{xs:List Int}{a b:Int}(ha:0<=a)(hb:0<=b)(hl:b<=xs.length):DL.cutD (xs.map int) (some a) (some b)=((xs.drop a.toNat).take (b.toNat-a.toNat)).map int:=by
 unfold DL.cutD HT.sIx;dsimp only;rw[QA (by omega),QA (by omega),Qb,List.map_take,List.map_drop]
 have e2:min b.toNat xs.length=b.toNat:=by omega
 rw[e2]
 by_cases hab:a.toNat<=xs.length
 ·have e1:min a.toNat xs.length=a.toNat:=by omega
  rw[e1]
 ·have e3:b.toNat-a.toNat=0:=by omega
  have e4:b.toNat-min a.toNat xs.length=0:=by omega
  rw[e3,e4,J4,J4]
theorem zlE{xs ys:List Int}:zipD (xs.map int) (ys.map int)=(xs.zip ys).map λp=>.tuple [.int p.1,.int p.2]:=by
 unfold zipD;rw[List.zip_map,Q5]
 rfl
end
section
variable{Z Z1:DEnv}
theorem zi7{g:M (List D)}{xs r:List D}(h1:g Z=.ok xs Z1)(h2:zfU xs=some r):zi5 g Z=.ok r Z1:=by
 unfold zi5;exact zaB h1 (zbX h2)
theorem zhm{xs:List D}:zfU [.list xs]=some (zcO 1 xs):=rfl
end
section
variable{X:Cx}{B G0:Hp}{KX:XW}{e o a b c tg i:Expr}{pos p2:Pos}{es rest:List Expr}
def zcK(f:M Bool)(g:SM):Nat->SM
 |0,_=>.bad
 |n+1,Z=>match f Z with
  |.bad=>.bad
  |.ok t Z1=>if t=true then (match g Z1 with
   |.nx Z2=>zcK f g n Z2
   |.ct Z2=>zcK f g n Z2
   |.bk Z2=>.nx Z2
   |.rt d=>.rt d
   |.ex Z2 d=>.ex Z2 d
   |.bad=>.bad) else .nx Z1
theorem zi8{body:List Stmt}{f:M Bool}{g:SM}(n:Nat)(hp:PassesOwn (model X.prog X.w) X.A X.env X.xe)(hc:PT X c (tBo X.K B G0 f))(hb:PSs X body (tS X.K B G0 KX g)):PS X (.While c body [] pos) (tS X.K B G0 KX (zcK f g n)) :=
 psof (zng hp hc hb) λDn σ H ⟨G,Z,k,a⟩=>by
  refine ⟨λm σ' H'=>∃G' Z',EOk X.K B G0 G' H' σ' Z'/\aftS X.K B G0 KX (zcK f g m Z') G' Dn,⟨n,G,Z,k,a⟩,?_⟩;rintro m σ' H' ⟨G',Z',k',a'⟩
  cases m with
  |zero=>exact a'.elim
  |succ m=>
   rw[zcK] at a';refine ⟨G',Z',k',?_⟩
   cases z:f Z' with
   |bad=>rw[z] at a';exact a'.elim
   |ok t Z1=>
    rw[z] at a';dsimp only at a';intro v G1 H1 k1 s1 e1;subst e1
    cases v with
    |false=>
     rw[QA Jk] at a' ⊢;exact a' _ G1 H1 k1 s1
    |true=>
     rw[Qn rfl] at a' ⊢;refine ⟨λσ2 H2=>∃G2 Z2,EOk X.K B G0 G2 H2 σ2 Z2/\aftS X.K B G0 KX (zcK f g m Z2) G2 Dn,λσ2 H2 h2=>⟨m,J6 m,h2⟩,G1,Z1,k1,?_⟩
     cases z2:g Z1 with
     |nx Z2=>rw[z2] at a';exact λσ4 G4 H4 k4 s4=>⟨G4,Z2,k4,aftS.mono (s1.trans s4) a'⟩
     |ct Z2=>rw[z2] at a';exact λσ4 G4 H4 k4 s4=>⟨G4,Z2,k4,aftS.mono (s1.trans s4) a'⟩
     |bk Z2=>rw[z2] at a';exact λσ4 G4 H4 k4 s4=>a' σ4 G4 H4 k4 (s1.trans s4)
     |rt d=>rw[z2] at a';exact a'
     |ex Z2 d=>rw[z2] at a';exact λv σ4 G4 H4 k4 s4 r4=>a' v σ4 G4 H4 k4 (s1.trans s4) r4
     |bad=>rw[z2] at a';exact a'.elim
def sAug(op:Int->Int->Option D)(j:Nat)(f:M D):SM:=λZ=>match Z[j]? with
 |some (some (.pub (.int a)))=>sB f (λy Z1=>match y with
  |.int b=>(match op a b with
   |some d=>if j<Z1.length then .nx (Z1.set j (some (.pub d))) else .bad
   |none=>.bad)
  |_=>.bad) Z
 |_=>.bad
def IpD(X:Cx)(op:Operator)(p:Int->Int->Option D):Prop:=∃ti,PIp X op ti/\∀i j d,p i j=some d->∃v:V,(∀G,Rep X.K G v d)/\∀H(Q:VK),Q v H->ti (.int i) (.int j) H Q
theorem zpF:IpD X .Mult gMul:=⟨_,zo6,λi j d e=>by
 unfold gMul at e
 split at e
 ·rename_i h
  cases e;exact ⟨_,λ_=>.int _,λH Q q=>⟨i,j,rfl,rfl,h,q⟩⟩
 ·cases e⟩
theorem zq9{j:Nat}{x:Str}{op:Operator}{p:Int->Int->Option D}{f:M D}{pos':Pos}(hN:X.N.Nodup)(hi:X.N[j]?=some x)(hx:Loc X.env.scope x)(ho:IpD X op p)(he:PE X e (tD X.K B G0 f))(hf:X.fn x=true∨X.env.scope.names.lookup x=some .local:=by first|exact .inl rfl|exact .inr rfl|assumption) :
  PS X (.AugAssign (.Name x pos') op e pos) (tS X.K B G0 KX (sAug p j f)):=by
 obtain ⟨ti,hti,hp⟩:=ho;refine psof (zqm hN hi hx he hti hf) λDn σ H ⟨G,Z,k,a⟩=>?_;unfold sAug at a
 cases q:Z[j]? with
 |none=>rw[q] at a;exact a.elim
 |some o0=>
  cases o0 with
  |none=>rw[q] at a;exact a.elim
  |some sl=>
   cases sl with
   |deep _ _=>rw[q] at a;exact a.elim
   |own ds=>rw[q] at a;exact a.elim
   |pub d0=>
    rw[q] at a
    cases d0 with
    |int i0=>
     dsimp only at a;obtain ⟨v,h1,h2⟩:=k.pub j _ q;cases h2.int_inv;refine ⟨.int i0,h1,G,Z,k,?_⟩;unfold sB at a
     cases z:f Z with
     |bad=>rw[z] at a;exact a.elim
     |ok y Z1=>
      rw[z] at a;dsimp only at a;intro u G1 H1 k1 s1 r1
      cases y with
      |int i1=>
       cases r1.int_inv;dsimp only at a
       cases w:p i0 i1 with
       |none=>rw[w] at a;exact a.elim
       |some d=>
        rw[w] at a;dsimp only at a
        split at a
        ·rename_i hl
         obtain ⟨v',rv,hq⟩:=hp i0 i1 d w;exact hq H1 _ (a _ G1 H1 (k1.setPub (rv G1) hl) s1)
        ·exact a.elim
      |_=>exact a.elim
    |_=>exact a.elim
def zhn(Z:DEnv)(j:Nat):Option (List D):=match Z[j]? with
 |some (some (.own ds))=>some ds
 |_=>none
theorem zfn{Z:DEnv}{j:Nat}{ds:List D}(h:zhn Z j=some ds):Z[j]?=some (some (.own ds)):=by
 unfold zhn at h
 split at h
 ·rename_i es e;cases h;exact e
 ·cases h
theorem zi9{Z:DEnv}{j:Nat}{ds:List D}(h:Z[j]?=some (some (.own ds))):zhn Z j=some ds:=by unfold zhn;rw[h]
def sExt(j:Nat)(f:M (List D)):SM:=λZ=>match zhn Z j with
 |none=>.bad
 |some _=>sB f (λes Z1=>match zhn Z1 j with
  |some ds=>if ds.length+es.length<=1000000 then .nx (Z1.set j (some (.own (ds++es)))) else .bad
  |none=>.bad) Z
theorem zra{j:Nat}{f:M (List D)}{apos cpos:Pos}(ho:PE X o (tVar j))(he:PE X e (tL X.K B G0 f))
  (hbase:attributeBase o "extend" X.env (eval o X.env)=eval o X.env:=by rfl)
  (hfew:((backTo cpos (starEach [e] X.env)).all (λx=>!x.1)&&(backToKw cpos (keywordEach [] X.env)).all (λx=>x.1.isSome)
   && decide ([e].length+([]:List Keyword).length+(if ([]:List Keyword).isEmpty then 0 else 1)<30))=true:=by rfl)
  (hline:(apos.endLine==cpos.line)=true:=by rfl) (hs:starEach [e] X.env=[(false,eval e X.env)]:=by rfl)
  (hsw:swapsWith (.Call (.Attribute o "extend" apos) [e] [] cpos) none pos.line X.env=pure false:=by rfl) :
  PS X (.Expr (.Call (.Attribute o "extend" apos) [e] [] cpos) pos) (tS X.K B G0 KX (sExt j f)) :=
 psof (zh9 (znm PySem.F.plainAttrs_list PySem.F.slot_list_extend PySem.F.type_list_extend zkN ho (zcM he zeC (by rw[hs];rfl)) hbase hfew hline (by rw[hs];rfl) rfl) hsw) λD σ H ⟨G,Z,k,a⟩=>by
  unfold sExt at a
  cases q0:zhn Z j with
  |none=>rw[q0] at a;exact a.elim
  |some ds0=>
  rw[q0] at a;dsimp only at a;obtain ⟨ad,vs0,h1,h2,h3,h4,h5⟩:=k.own j ds0 (zfn q0);refine ⟨.ref ad,h1,.inl ⟨rfl,_,SqL.of h4⟩,G,Z,k,?_⟩;unfold sB at a
  cases z:f Z with
  |bad=>rw[z] at a;exact a.elim
  |ok es Z1=>
  rw[z] at a;dsimp only at a;intro b zs G1 H1 k1 s1 n1
  cases q1:zhn Z1 j with
  |none=>rw[q1] at a;exact a.elim
  |some ds=>
  rw[q1] at a;dsimp only at a
  split at a
  ·rename_i hl
   obtain ⟨ad1,vs,g1,g2,g3,g4,g5⟩:=k1.own j ds (zfn q1);rw[h1] at g1;cases g1;refine ⟨ad,b,vs,zs,rfl,rfl,g4,n1.h,by rw[g5.length,n1.r.length];exact QH hl lim,?_⟩
   exact a σ G1 _ (k1.change (zfn q1) h1 (g5.append n1.r)) s1
  ·exact a.elim
end
section
variable{X:Cx}{B G0:Hp}{KX:XW}
end
section
variable{X:Cx}{B G0:Hp}{e o a b c tg i:Expr}{pos p2:Pos}{es rest:List Expr}
theorem zlF(hc:X.calm=true):zc1 X (.builtin "sum") (λxs H Q=>∃l,∃ns:List Int,xs=[.ref l]/\SqL X.K H l (ns.map V.int)/\Q (.int ns.sum) H):=by
 intro pins s σ H xs us Q I rx h;obtain ⟨l,ns,rfl,hq,q⟩:=h;obtain ⟨u,rfl,ru⟩:=rx.one;cases ru;obtain ⟨its,rv,p,hz⟩:=I.list hq;have hi:=zb0 rv;obtain ⟨ys,e⟩:=hi.allInts.items
 have hns:ns=ys.toList.map (·.1):=by
  rw[←hi.numsOf,←nums_intItems,←e]
 have hl:=p.isList;rw[e] at hl;refine sum_intListG (I.ok.hd hc) hl λh' tk t' hk=>?_
 have e2:preSum (numAt ys) ys.size=ns.sum:=by
  rw[preSum_eq,List.take_of_length_le (by simp),hns]
 rw[e2];exact ⟨.int ns.sum,H,I.kept hk,⟨t',rfl⟩,q⟩
def zho:List D->Option D
 |[.list ds]=>(zbM ds).map λns=>.int ns.sum
 |_=>none
theorem zlG{xs:List D}{d:D}(h:zho xs=some d):∃ds ns,xs=[.list ds]/\zbM ds=some ns/\d=.int ns.sum:=by
 unfold zho at h
 split at h
 ·rename_i ds
  cases z:zbM ds with
  |none=>rw[z] at h;cases h
  |some ns=>rw[z] at h;cases h;exact ⟨ds,ns,rfl,z,rfl⟩
 ·cases h
theorem zlH(hc:X.calm=true):zdf X (.builtin "sum") zho:=by
 refine ⟨_,zlF hc,λvs G H ds d Q s r e k=>?_⟩;obtain ⟨ds,ns,rfl,z,rfl⟩:=zlG e;obtain ⟨v,rfl,q1⟩:=r.one_inv;obtain ⟨l,ws,rfl,h1,r1⟩:=q1.lst_inv
 have:=zb8 r1 z
 subst this;exact ⟨l,ns,rfl,s.seq h1,k _ G H (.refl s) (.int _)⟩
theorem zeT{ns:List Int}:zho [.list (ns.map .int)]=some (.int ns.sum):=by
 unfold zho;dsimp only;rw[zcj];rfl
theorem zlI:MtR X "list.index" (λv vs H Q=>∃l k,∃ns:List Int,v=.ref l/\vs=[.int k]/\SqL X.K H l (ns.map V.int)/\PyData.layable0 (.list (ns.map .int))=true/\k∈ns/\Q (.int (ns.idxOf k:Nat)) H):=by
 intro pins s σ H x vs v us Q I rx rv h;obtain ⟨l,k,ns,rfl,rfl,hq,hl,hk,q⟩:=h;cases rx;obtain ⟨u,rfl,ru⟩:=rv.one;obtain ⟨t,rfl⟩:=ru;obtain ⟨its,rv,p,hz⟩:=I.list hq;exact index_list_ints p.isList (zb0 rv) hl hk ⟨.int _,H,I.tok _,⟨_,rfl⟩,q⟩
def zep(y:D)(xs:List D):Option D:=match y,xs with
 |.list ds,[.int k]=>(match zbM ds with
  |some ns=>if PyData.layable0 (.list (ns.map .int))=true/\k∈ns then some (.int (ns.idxOf k:Nat)) else none
  |none=>none)
 |_,_=>none
theorem ziy{ds xs:List D}{d:D}(h:zep (.list ds) xs=some d):∃k ns,xs=[.int k]/\zbM ds=some ns/\PyData.layable0 (.list (ns.map .int))=true/\k∈ns/\d=.int (ns.idxOf k:Nat):=by
 unfold zep at h
 split at h
 ·rename_i ds' k e1
  cases e1
  cases z:zbM ds with
  |none=>rw[z] at h;cases h
  |some ns=>
   rw[z] at h;dsimp only at h
   split at h
   ·rename_i c
    cases h;exact ⟨k,ns,rfl,rfl,c.1,c.2,rfl⟩
   ·cases h
 ·cases h
def zja(f:M D)(g:M (List D)):M D:=zax f λy=>zax g λxs=>mOpt (match y with | .list ds=>zep (.list ds) xs|_=>none)
theorem zlJ{apos cpos:Pos}{f:M D}{g:M (List D)}(ho:PE X o (tD X.K B G0 f))(ha:PA X (e::es) (tDs X.K B G0 g))
  (hbase:attributeBase o "index" X.env (eval o X.env)=eval o X.env:=by rfl)
  (hfew:((backTo cpos (starEach (e::es) X.env)).all (λx=>!x.1)&&(backToKw cpos (keywordEach [] X.env)).all (λx=>x.1.isSome)
   && decide ((e::es).length+([]:List Keyword).length+(if ([]:List Keyword).isEmpty then 0 else 1)<30))=true:=by rfl)
  (hline:(apos.endLine==cpos.line)=true:=by rfl) (hs:starEach (e::es) X.env=(false,eval e X.env)::starEach es X.env:=by rfl) (hplain:(backTo cpos (starEach es X.env)).any (·.1)=false:=by rfl) :
  PE X (.Call (.Attribute o "index" apos) (e::es) [] cpos) (tD X.K B G0 (zja f g)) :=
 peof (znm F.plainAttrs_list F.slot_list_index F.type_list_index zlI ho ha hbase hfew hline hs hplain) λσ H Q q=>by
  refine tM.one (R:=Rep X.K) q λv H2 G Z y k r a=>?_
  cases y with
  |list ds=>
   obtain ⟨l,ws,rfl,h1,r1⟩:=r.lst_inv;refine ⟨.inl ⟨rfl,ws,k.gh.seq h1⟩,?_⟩;refine tM.nx (R:=Reps X.K) k a λxs H3 G3 Z3 es k3 s3 r3 a3=>?_;obtain ⟨d,e,a3⟩:=a3.opt;obtain ⟨x,ns,rfl,z,hl,hk,rfl⟩:=ziy e;obtain ⟨u,rfl,ru⟩:=r3.one_inv
   have:=zb8 r1 z
   subst this;exact ⟨l,x,ns,rfl,by rw[ru.int_inv],k3.gh.seq (s3.seq h1),hl,hk,aft.now a3 k3 (.int _)⟩
  |_=>
   unfold zax at a
   cases z:g Z with
   |bad=>rw[z] at a;exact a.elim
   |ok xs Z1=>rw[z] at a;exact a.elim
theorem zjb{f:M D}{g:M (List D)}{Z Z1 Z2:DEnv}{ds:List D}{x d:D}(h1:f Z=.ok (.list ds) Z1)(h2:g Z1=.ok [x] Z2)(h3:zep (.list ds) [x]=some d):zja f g Z=.ok d Z2:=by
 unfold zja zax;rw[h1];dsimp only;rw[h2];dsimp only;rw[h3]
 rfl
end
end DL
namespace DL
open PySem PySem.Spec PySem.W PyProof.Rows
def runT{α:Type}(lt:Nat->Nat->Bool):KasT α->α
 |.ret a=>a
 |.ask i j k=>runT lt (k (lt i j))
theorem zcT{α β:Type}{lt:Nat->Nat->Bool}{f:α->KasT β}:∀t:KasT α,runT lt (t.bind f)=runT lt (f (runT lt t))
 |.ret _=>rfl
 |.ask i j k=>by show runT lt ((k (lt i j)).bind f)=_;rw[zcT];rfl
section
variable{key:Nat->Int}{p:Array Nat}
def KA(key:Nat->Int)(p:Array Nat)(i:Nat):Int:=key (p.getD i 0)
def srt(key:Nat->Int)(p:Array Nat)(m:Nat):Prop:=∀i j,i<=j->j<m->KA key p i<=KA key p j
def dsc(key:Nat->Int)(p:Array Nat)(m:Nat):Prop:=∀i j,i<=j->j<m->KA key p j<=KA key p i
abbrev kl(key:Nat->Int)(i j:Nat):Bool:=decide (key i<key j)
theorem zhp{k d i:Nat}(hk:k<p.size)(hd:d<=k):KA key (bubble p k d) i=if i=k-d then KA key p k else if k-d<i/\i<=k then KA key p (i-1) else KA key p i:=by
 unfold KA;simp only[Je];rw[getElem?_bubble hk d hd]
 repeat' split
 all_goals rfl
theorem zhq{i j k:Nat}(hj:j<=p.size):KA key (kas_rev p i j) k=if i<=k/\k<j then KA key p (i+j-1-k) else KA key p k:=by
 unfold KA kas_rev;simp only[Je];rw[getElem?_mirror_all hj]
 split <;> rfl
theorem zda{i j:Nat}:(kas_rev p i j).size=p.size:=mirror_size _ _ _ _
theorem zcv{i j:Nat}:(kas_rev p i j).Perm p:=mirror_perm _ _ _ _
theorem zgz:∀(f n:Nat),1<=n->srt key p n->srt key p (runT (kl key) (kas_asc p f n))/\n<=runT (kl key) (kas_asc p f n)/\runT (kl key) (kas_asc p f n)<=n+f /\
  (runT (kl key) (kas_asc p f n)<n+f->KA key p (runT (kl key) (kas_asc p f n))<KA key p (runT (kl key) (kas_asc p f n)-1))
 |0,n,h1,hs=>⟨hs,Qs _,Qs _,λh=>absurd h (Jv _)⟩
 |f+1,n,h1,hs=>by
  unfold kas_asc runT
  cases c:kl key (p.getD n 0) (p.getD (n-1) 0) with
  |true=>
   dsimp only;rw[Qn rfl];exact ⟨hs,Qs _,by show n<=n+(f+1);omega,λ_=>Qa c⟩
  |false=>
   dsimp only;rw[QA (by decide)]
   have hle:KA key p (n-1)<=KA key p n:=Ug.mp (Jl c)
   obtain ⟨a1,a2,a3,a4⟩:=zgz f (n+1) (by omega) (λi j hij hj=>by
    by_cases hjn:j=n
    ·subst hjn
     by_cases hin:i=j
     ·subst hin;exact QT _
     ·exact JO (hs i (j-1) (by omega) (by omega)) hle
    ·exact hs i j hij (by omega))
   exact ⟨a1,by omega,by omega,λh=>a4 (by omega)⟩
def eqs(key:Nat->Int)(p:Array Nat)(n q:Nat):Prop:=∀i,n-1-q<=i->i<n->KA key p i=KA key p (n-1)
theorem zd4:∀(f:Nat)(p:Array Nat)(n q:Nat),1<=n->q+1<=n->n+f<=p.size->dsc key p n->eqs key p n q ->
  let r:=runT (kl key) (kas_desc f p n q)
  r.1.Perm p/\r.1.size=p.size/\dsc key r.1 r.2.1/\eqs key r.1 r.2.1 r.2.2/\r.2.2+1<=r.2.1/\n<=r.2.1/\r.2.1<=n+f
 |0,p,n,q,h1,hq,hz,hd,he=>⟨Ub _,rfl,hd,he,hq,Qs _,Qs _⟩
 |f+1,p,n,q,h1,hq,hz,hd,he=>by
  intro r;have hr:r=runT (kl key) (kas_desc (f+1) p n q):=rfl;unfold kas_desc runT at hr
  cases c:kl key (p.getD n 0) (p.getD (n-1) 0) with
  |true=>
   rw[c] at hr;(try dsimp only at hr);rw[if_pos rfl] at hr;have hlt:KA key p n<KA key p (n-1):=Qa c
   have ext:∀p':Array Nat,(∀i,KA key p' i=KA key p i)->dsc key p' (n+1)/\eqs key p' (n+1) 0:=λp' hp=>⟨λi j hij hj=>by
     rw[hp,hp]
     by_cases hjn:j=n
     ·subst hjn
      by_cases hin:i=j
      ·subst hin;exact QT _
      ·exact JO (Int.le_of_lt hlt) (hd i (j-1) (by omega) (by omega))
     ·exact hd i j hij (by omega),λi hi1 hi2=>by
     have:i=n:=by omega
     subst this;rfl⟩
   by_cases hq0:q > 0
   ·rw[Qn hq0] at hr
    have same:∀i,KA key (kas_rev p (n-(q+1)) n) i=KA key p i:=λi=>by
     rw[zhq (by omega)]
     split
     ·rw[he _ (by omega) (by omega),he i (by omega) (by omega)]
     ·rfl
    obtain ⟨d1,e1⟩:=ext _ same;obtain ⟨a1,a2,a3,a4,a5,a6,a7⟩:=zd4 f (kas_rev p (n-(q+1)) n) (n+1) 0 (by omega) (by omega) (by rw[zda];omega) d1 e1
    rw[←hr] at a1 a2 a3 a4 a5 a6 a7;exact ⟨a1.trans zcv,a2.trans zda,a3,a4,a5,by omega,by omega⟩
   ·rw[QA hq0] at hr
    obtain ⟨d1,e1⟩:=ext p λ_=>rfl;obtain ⟨a1,a2,a3,a4,a5,a6,a7⟩:=zd4 f p (n+1) 0 (by omega) (by omega) (by omega) d1 e1
    rw[←hr] at a1 a2 a3 a4 a5 a6 a7;exact ⟨a1,a2,a3,a4,a5,by omega,by omega⟩
  |false=>
   rw[c] at hr;(try dsimp only at hr);rw[if_neg (by decide)] at hr
   unfold runT at hr;have hle:KA key p (n-1)<=KA key p n:=Ug.mp (Jl c)
   cases d:kl key (p.getD (n-1) 0) (p.getD n 0) with
   |true=>
    rw[d] at hr;(try dsimp only at hr);rw[if_pos rfl] at hr;unfold runT at hr;rw[hr];exact ⟨Ub _,rfl,hd,he,hq,Qs _,by show n<=n+(f+1);omega⟩
   |false=>
    rw[d] at hr;(try dsimp only at hr);rw[if_neg (by decide)] at hr
    have hge:KA key p n<=KA key p (n-1):=Ug.mp (Jl d)
    obtain ⟨a1,a2,a3,a4,a5,a6,a7⟩:=zd4 f p (n+1) (q+1) (by omega) (by omega) (by omega) (λi j hij hj=>by
     by_cases hjn:j=n
     ·subst hjn
      by_cases hin:i=j
      ·subst hin;exact QT _
      ·exact JO hge (hd i (j-1) (by omega) (by omega))
     ·exact hd i j hij (by omega)) (λi hi1 hi2=>by
     have e0:KA key p n=KA key p (n-1):=JL hge hle;show KA key p i=KA key p (n+1-1);rw[Nat.add_sub_cancel,e0]
     by_cases hin:i=n
     ·subst hin;exact e0
     ·exact he i (by omega) (by omega))
    rw[←hr] at a1 a2 a3 a4 a5 a6 a7;exact ⟨a1,a2,a3,a4,a5,by omega,by omega⟩
theorem zfW{n nrem:Nat}(h1:1<=n)(hn:n<=nrem)(hz:nrem<=p.size)(hd:dsc key p n) :
  let r:=runT (kl key) (kas_tail3 n nrem p)
  r.2.Perm p/\r.2.size=p.size/\srt key r.2 r.1/\1<=r.1/\r.1<=nrem:=by
 intro r;have hr:r=runT (kl key) (kas_tail3 n nrem p):=rfl;unfold kas_tail3 at hr;rw[zcT] at hr
 have hs:srt key (kas_rev p 0 n) n:=λi j hij hj=>by
  rw[zhq (by omega),zhq (by omega),Qn (by omega),Qn (by omega)]
  exact hd _ _ (by omega) (by omega)
 obtain ⟨a1,a2,a3,_⟩:=zgz (key:=key) (p:=kas_rev p 0 n) (nrem-n) n h1 hs;rw[hr];exact ⟨zcv,zda,a1,by show 1<=runT _ _;omega,by show runT _ _<=_;omega⟩
theorem zd5{n nrem:Nat}(h1:1<=n)(hn:n+1<=nrem)(hz:nrem<=p.size)(hd:dsc key p (n+1)) :
  let r:=runT (kl key) (kas_descPart n nrem p)
  r.2.Perm p/\r.2.size=p.size/\srt key r.2 r.1/\1<=r.1/\r.1<=nrem:=by
 intro r;have hr:r=runT (kl key) (kas_descPart n nrem p):=rfl;unfold kas_descPart at hr;rw[zcT] at hr
 obtain ⟨a1,a2,a3,a4,a5,a6,a7⟩:=zd4 (key:=key) (nrem-(n+1)) p (n+1) 0 (by omega) (by omega) (by omega) hd (λi hi1 hi2=>by
  have:i=n:=by omega
  subst this;rfl)
 generalize runT (kl key) (kas_desc (nrem-(n+1)) p (n+1) 0)=d at hr a1 a2 a3 a4 a5 a6 a7;obtain ⟨p1,n1,q1⟩:=d;dsimp only at hr a1 a2 a3 a4 a5 a6 a7
 by_cases hq:q1 > 0
 ·rw[Qn hq] at hr
  have same:∀i,KA key (kas_rev p1 (n1-(q1+1)) n1) i=KA key p1 i:=λi=>by
   rw[zhq (by omega)]
   split
   ·rw[a4 _ (by omega) (by omega),a4 i (by omega) (by omega)]
   ·rfl
  obtain ⟨b1,b2,b3,b4,b5⟩:=zfW (key:=key) (p:=kas_rev p1 (n1-(q1+1)) n1) (n:=n1) (nrem:=nrem) (by omega) (by omega) (by rw[zda];omega) (λi j hij hj=>by rw[same,same];exact a3 i j hij hj)
  rw[hr];exact ⟨(b1.trans zcv).trans a1,(b2.trans zda).trans a2,b3,b4,b5⟩
 ·rw[QA hq] at hr
  obtain ⟨b1,b2,b3,b4,b5⟩:=zfW (key:=key) (p:=p1) (n:=n1) (nrem:=nrem) (by omega) (by omega) (by omega) a3
  rw[hr];exact ⟨b1.trans a1,b2.trans a2,b3,b4,b5⟩
theorem zj5{nrem:Nat}(h1:1<=nrem)(hz:nrem<=p.size) :
  let r:=runT (kl key) (kas_count nrem p)
  r.2.Perm p/\r.2.size=p.size/\srt key r.2 r.1/\1<=r.1/\r.1<=nrem:=by
 intro r;have hr:r=runT (kl key) (kas_count nrem p):=rfl;unfold kas_count at hr;rw[zcT] at hr
 obtain ⟨a1,a2,a3,a4⟩:=zgz (key:=key) (p:=p) (nrem-1) 1 (Qs _) (λi j hij hj=>by
  have:i=j:=by omega
  subst this;exact QT _)
 generalize runT (kl key) (kas_asc p (nrem-1) 1)=n at hr a1 a2 a3 a4
 by_cases hn:(n==nrem)=true
 ·rw[Qn hn] at hr
  unfold runT at hr;rw[hr];exact ⟨Ub _,rfl,a1,a2,by show n<=nrem;omega⟩
 ·rw[QA hn] at hr
  have hne:n≠nrem:=by simpa using hn
  have hlt:=a4 (by omega)
  by_cases hn1:n > 1
  ·rw[Qn hn1] at hr
   unfold runT at hr
   cases c:kl key (p.getD 0 0) (p.getD (n-1) 0) with
   |true=>
    rw[c] at hr;(try dsimp only at hr);rw[if_pos rfl] at hr;unfold runT at hr;rw[hr];exact ⟨Ub _,rfl,a1,a2,by show n<=nrem;omega⟩
   |false=>
    rw[c] at hr;(try dsimp only at hr);rw[if_neg (by decide)] at hr
    have hge:KA key p (n-1)<=KA key p 0:=Ug.mp (Jl c);have all:∀i,i<n->KA key p i=KA key p 0:=λi hi=>JL (JO (a1 i (n-1) (by omega) (by omega)) hge) (a1 0 i (by omega) hi)
    have same:∀i,KA key (kas_rev p 0 n) i=KA key p i:=λi=>by
     rw[zhq (by omega)]
     split
     ·rw[all _ (by omega),all i (by omega)]
     ·rfl
    obtain ⟨b1,b2,b3,b4,b5⟩:=zd5 (key:=key) (p:=kas_rev p 0 n) (n:=n) (nrem:=nrem) a2 (by omega) (by rw[zda];exact hz) (λi j hij hj=>by
     rw[same,same]
     by_cases hjn:j=n
     ·subst hjn
      by_cases hin:i=j
      ·subst hin;exact QT _
      ·rw[all i (by omega)]
       rw[all (j-1) (by omega)] at hlt
       exact Int.le_of_lt hlt
     ·rw[all i (by omega),all j (by omega)];exact QT _)
    rw[hr];exact ⟨b1.trans zcv,b2.trans zda,b3,b4,b5⟩
  ·rw[QA hn1] at hr
   have:n=1:=by omega
   subst this
   obtain ⟨b1,b2,b3,b4,b5⟩:=zd5 (key:=key) (p:=p) (n:=1) (nrem:=nrem) (Qs _) (by omega) hz (λi j hij hj=>by
    by_cases hij2:i=j
    ·subst hij2;exact QT _
    ·have h0:i=0:=by omega
     have h1:j=1:=by omega
     subst h0;subst h1;exact Int.le_of_lt hlt)
   rw[hr];exact ⟨b1,b2,b3,b4,b5⟩
theorem zeq{k:Nat}(hs:srt key p k):∀(f l r:Nat),l<=r->r<=k->r-l<=f->(∀i,i<l->KA key p i<=KA key p k)->(∀i,r<=i->i<k->KA key p k<KA key p i) ->
  let m:=runT (kl key) (kas_place p k f l r)
  m<=k/\(∀i,i<m->KA key p i<=KA key p k)/\(∀i,m<=i->i<k->KA key p k<KA key p i)
 |0,l,r,hlr,hrk,hf,h1,h2=>⟨by show l<=k;omega,h1,λi (hi:l<=i)=>h2 i (by omega)⟩
 |f+1,l,r,hlr,hrk,hf,h1,h2=>by
  intro m;have hm:m=runT (kl key) (kas_place p k (f+1) l r):=rfl;unfold kas_place at hm
  by_cases hge:l ≥ r
  ·rw[Qn hge] at hm
   unfold runT at hm;rw[hm];exact ⟨by omega,h1,λi hi=>h2 i (by omega)⟩
  ·rw[QA hge] at hm
   unfold runT at hm
   cases c:kl key (p.getD k 0) (p.getD ((l+r) / 2) 0) with
   |true=>
    rw[c] at hm;(try dsimp only at hm);rw[if_pos rfl] at hm;rw[hm];have hlt:KA key p k<KA key p ((l+r) / 2):=Qa c;exact zeq hs f l ((l+r) / 2) (by omega) (by omega) (by omega) h1 λi hi hik=>Int.lt_of_lt_of_le hlt (hs _ _ hi hik)
   |false=>
    rw[c] at hm;(try dsimp only at hm);rw[if_neg (by decide)] at hm
    rw[hm];have hle:KA key p ((l+r) / 2)<=KA key p k:=Ug.mp (Jl c);exact zeq hs f ((l+r) / 2+1) r (by omega) hrk (by omega) (λi hi=>JO (hs i ((l+r) / 2) (by omega) (by omega)) hle) h2
theorem zjc:∀(f:Nat)(p:Array Nat)(k:Nat),k+f<=p.size->srt key p k->let r:=runT (kl key) (kas_bin f p k);r.Perm p/\r.size=p.size/\srt key r (k+f)
 |0,p,k,_,hs=>⟨Ub _,rfl,hs⟩
 |f+1,p,k,hz,hs=>by
  intro r;have hr:r=runT (kl key) (kas_bin (f+1) p k):=rfl;unfold kas_bin at hr;rw[zcT] at hr;obtain ⟨a1,a2,a3⟩:=zeq (key:=key) hs k 0 k (JG _) (Qs _) (by omega) (λi hi=>by omega) (λi h1 h2=>by omega)
  generalize runT (kl key) (kas_place p k k 0 k)=l at hr a1 a2 a3;have hk:k<p.size:=by omega
  obtain ⟨b1,b2,b3⟩:=zjc f (bubble p k (k-l)) (k+1) (by rw[bubble_size];omega) (λi j hij hj=>by
   rw[zhp hk (by omega),zhp hk (by omega),show k-(k-l)=l by omega]
   by_cases hi:i=l
   ·rw[Qn hi]
    by_cases hjl:j=l
    ·rw[Qn hjl];exact QT _
    ·rw[QA hjl,Qn (by omega)]
     exact Int.le_of_lt (a3 (j-1) (by omega) (by omega))
   ·rw[QA hi]
    by_cases hi2:l<i/\i<=k
    ·rw[Qn hi2,QA (show ¬j=l by omega),Qn (by omega)]
     exact hs _ _ (by omega) (by omega)
    ·rw[QA hi2]
     by_cases hjl:j=l
     ·rw[Qn hjl];exact a2 i (by omega)
     ·rw[QA hjl]
      split
      ·exact hs _ _ (by omega) (by omega)
      ·exact hs _ _ (by omega) (by omega))
  rw[hr];exact ⟨b1.trans (bubble_perm _ _ _),b2.trans (bubble_size _ _ _),by rw[show k+(f+1)=k+1+f by omega];exact b3⟩
theorem zlK{n:Nat}(h1:1<=n):let r:=runT (kl key) (kas_sort n);r.Perm (List.toArray (List.range n))/\r.size=n/\srt key r n:=by
 intro r;have hr:r=runT (kl key) (kas_sort n):=rfl;unfold kas_sort at hr;rw[zcT] at hr;have hsz:(List.toArray (List.range n)).size=n:=by simp
 obtain ⟨a1,a2,a3,a4,a5⟩:=zj5 (key:=key) (p:=List.toArray (List.range n)) (nrem:=n) h1 (by rw[hsz];exact Qs _)
 generalize runT (kl key) (kas_count n (List.toArray (List.range n)))=d at hr a1 a2 a3 a4 a5
 by_cases hlt:d.1<n
 ·rw[Qn hlt] at hr
  have hmax:max d.1 1=d.1:=by omega
  rw[hmax] at hr;obtain ⟨b1,b2,b3⟩:=zjc (key:=key) (n-d.1) d.2 d.1 (by omega) a3
  rw[hr];exact ⟨b1.trans a1,by omega,by rw[show d.1+(n-d.1)=n by omega] at b3;exact b3⟩
 ·rw[QA hlt] at hr
  unfold runT at hr;rw[hr];exact ⟨a1,by omega,by rw[show d.1=n by omega] at a3;exact a3⟩
def Asks{α:Type}(N:Nat)(R:α->Prop):KasT α->Prop
 |.ret a=>R a
 |.ask i j k=>i<N/\j<N/\∀b,Asks N R (k b)
theorem Asks.bind{α β:Type}{N:Nat}{R:α->Prop}{S:β->Prop}{f:α->KasT β}(hf:∀a,R a->Asks N S (f a)):∀{t:KasT α},Asks N R t->Asks N S (t.bind f)
 |.ret a,h=>hf a h
 |.ask _ _ k,⟨h1,h2,h3⟩=>⟨h1,h2,λb=>Asks.bind hf (h3 b)⟩
theorem zjd{α:Type}{lt:Nat->Nat->Bool}{cmp:Nat->Nat->(Bool->Shared->Prop)->Shared->Prop}{s:Shared}{N:Nat}{R:α->Prop}(hc:∀i j C,i<N->j<N->C (lt i j) s->cmp i j C s):∀(t:KasT α)(Q:α->Shared->Prop),Asks N R t->Q (runT lt t) s->t.kasWp cmp Q s
 |.ret _,_,_,h=>h
 |.ask i j k,Q,⟨h1,h2,h3⟩,h=>hc i j _ h1 h2 (zjd hc (k (lt i j)) Q (h3 _) h)
def bnd(N:Nat)(p:Array Nat):Prop:=∀i,p.getD i 0<N
theorem zdw{N:Nat}{p q:Array Nat}(hN:0<N)(h:bnd N p)(e:q.Perm p):bnd N q:=λi=>by
 rw[Je]
 cases z:q[i]? with
 |none=>exact hN
 |some v=>
  have hm:v∈q:=Array.mem_of_getElem? z;have hm2:v∈p:=e.mem_iff.mp hm;obtain ⟨j,hj,e2⟩:=Array.mem_iff_getElem.mp hm2
  have:=h j
  rw[Je,Jr hj,e2] at this;exact this
section
variable{N:Nat}(hN:0<N)
include hN
theorem zgA{p:Array Nat}(h:bnd N p):∀(f n:Nat),Asks N (λ_=>True) (kas_asc p f n)
 |0,_=>trivial
 |f+1,n=>⟨h _,h _,λb=>by
  cases b with
  |true=>(try dsimp only);rw[if_pos rfl];trivial
  |false=>(try dsimp only);rw[if_neg (by decide)];exact zgA h f (n+1)⟩
theorem zd6:∀(f:Nat)(p:Array Nat)(n q:Nat),bnd N p->Asks N (λr=>bnd N r.1) (kas_desc f p n q)
 |0,p,_,_,h=>h
 |f+1,p,n,q,h=>⟨h _,h _,λb=>by
  cases b with
  |true=>
   dsimp only;rw[Qn rfl];split
   ·exact zd6 f _ _ _ (zdw hN h zcv)
   ·exact zd6 f _ _ _ h
  |false=>
   dsimp only;rw[QA (by decide)]
   refine ⟨h _,h _,λb=>?_⟩
   cases b with
   |true=>(try dsimp only);rw[if_pos rfl];exact h
   |false=>(try dsimp only);rw[if_neg (by decide)];exact zd6 f _ _ _ h⟩
theorem zfX{p:Array Nat}{n nrem:Nat}(h:bnd N p):Asks N (λr=>bnd N r.2) (kas_tail3 n nrem p) :=
 Asks.bind (N:=N) (R:=λ_=>True) (S:=λr:Nat×Array Nat=>bnd N r.2) (f:=λm=>.ret (m,kas_rev p 0 n)) (λ_ _=>zdw (p:=p) (q:=kas_rev p 0 n) hN h zcv) (zgA hN (zdw hN h zcv) _ _)
theorem zd7{p:Array Nat}{n nrem:Nat}(h:bnd N p):Asks N (λr=>bnd N r.2) (kas_descPart n nrem p) :=
 Asks.bind (λr hr=>by
  split
  ·exact zfX hN (zdw hN hr zcv)
  ·exact zfX hN hr) (zd6 hN _ _ _ _ h)
theorem zj6{p:Array Nat}{nrem:Nat}(h:bnd N p):Asks N (λr=>bnd N r.2) (kas_count nrem p) :=
 Asks.bind (R:=λ_=>True) (λn _=>by
  split
  ·exact h
  ·split
   ·refine ⟨h _,h _,λb=>?_⟩
    cases b with
    |true=>(try dsimp only);rw[if_pos rfl];exact h
    |false=>(try dsimp only);rw[if_neg (by decide)];exact zd7 hN (zdw hN h zcv)
   ·exact zd7 hN h) (zgA hN h _ _)
theorem zer{p:Array Nat}(h:bnd N p)(k:Nat):∀(f l r:Nat),Asks N (λ_=>True) (kas_place p k f l r)
 |0,_,_=>trivial
 |f+1,l,r=>by
  unfold kas_place;split
  ·trivial
  ·refine ⟨h _,h _,λb=>?_⟩
   cases b with
   |true=>(try dsimp only);rw[if_pos rfl];exact zer h k f _ _
   |false=>(try dsimp only);rw[if_neg (by decide)];exact zer h k f _ _
theorem zje:∀(f:Nat)(p:Array Nat)(k:Nat),bnd N p->Asks N (λ_=>True) (kas_bin f p k)
 |0,_,_,_=>trivial
 |f+1,p,k,h=>Asks.bind (R:=λ_=>True) (λl _=>zje f _ _ (zdw hN h (bubble_perm _ _ _))) (zer hN h k _ _ _)
end
theorem zlL{n:Nat}(hn:0<n):Asks n (λ_=>True) (kas_sort n):=by
 have hb:bnd n (List.toArray (List.range n)):=λi=>by
  rw[Je]
  by_cases hi:i<n
  ·simp[hi]
  ·simp[hi,hn]
 refine Asks.bind (λr hr=>?_) (zj6 hn hb);split
 ·exact zje hn _ _ _ hr
 ·trivial
end
def keyP(q:Int×Int):Int:=q.1*10000000+q.2
def okP(q:Int×Int):Prop:=-1000000<=q.2/\q.2<=1000000
theorem zpG{x y:Int×Int}(hx:okP x)(hy:okP y):keyP x<keyP y ↔ (x.1<y.1∨x.1=y.1/\x.2<y.2):=by
 unfold keyP okP at *;omega
theorem znP{x y:Int×Int}(hx:okP x)(hy:okP y)(h:keyP x=keyP y):x=y:=by
 unfold keyP okP at *;have h1:x.1=y.1:=by omega
 have h2:x.2=y.2:=by omega
 exact Prod.ext h1 h2
section
variable{prog:Program}{w:World}{A:Around}{E:Value->Shared->Prop}{s:Shared}
def zjf(h:Heap)(v:Value)(q:Int×Int):Prop:=∃a t u o n,v=.ref a/\h.get? a=some o/\o.cls=.type "tuple" /\ o.data=.seq #[.int q.1 t,.int q.2 u] n
theorem zpH{x y:Value}{p q:Int×Int}{Q:Bool->Shared->Prop}(hx:zjf s.heap x p)(hy:zjf s.heap y q)(h:Q (decide (p.1<q.1∨p.1=q.1/\p.2<q.2)) s):wpAny (model prog w) A (keyLt' (tuples' true) x y) Q E s:=by
 obtain ⟨a,t,u,o,n,rfl,e1,c1,d1⟩:=hx;obtain ⟨b,t',u',o',n',rfl,e2,c2,d2⟩:=hy;refine kat_lt e1 d1 e2 d2 ?_;show KatLex prog w A true _ Q [(Value.int p.1 t,Value.int q.1 t'),(Value.int p.2 u,Value.int q.2 u')] 0 s;refine kat_cons (wpAny_eqBool_int ?_)
 by_cases h1:p.1=q.1
 ·have e:(p.1==q.1)=true:=by simpa using h1
  rw[e];refine kat_yes (kat_cons (wpAny_eqBool_int ?_))
  by_cases h2:p.2=q.2
  ·have e:(p.2==q.2)=true:=by simpa using h2
   rw[e];refine kat_yes (kat_nil ?_)
   have:decide (p.1<q.1∨p.1=q.1/\p.2<q.2)=false:=QQ (by omega)
   rw[this] at h;exact h
  ·have e:(p.2==q.2)=false:=by simpa using h2
   rw[e];refine kat_no (kat_one _ _ (PyProof.Rows.lt_int ?_))
   have:decide (p.1<q.1∨p.1=q.1/\p.2<q.2)=decide (p.2<q.2):=by
    by_cases z:p.2<q.2
    ·rw[Q9 z,Q9 (.inr ⟨h1,z⟩)]
    ·rw[QQ z,QQ (by omega)]
   rw[this] at h;exact h
 ·have e:(p.1==q.1)=false:=by simpa using h1
  rw[e];refine kat_no (oneLt_int ?_)
  have:decide (p.1<q.1∨p.1=q.1/\p.2<q.2)=decide (p.1<q.1):=by
   by_cases z:p.1<q.1
   ·rw[Q9 z,Q9 (.inl z)]
   ·rw[QQ z,QQ (by omega)]
  rw[this] at h;exact h
def zbS(h:Heap):List Value->LP->Prop
 |[],[]=>True
 |v::vs,q::qs=>zjf h v q/\zbS h vs qs
 |_,_=>False
theorem zbS.get{h:Heap}:∀{vs:List Value}{qs:LP},zbS h vs qs->vs.length=qs.length/\∀(i:Nat)(hi:i<vs.length),zjf h (vs.getD i .none) (qs.getD i (0,0))
 |[],[],_=>⟨rfl,λi hi=>absurd hi (JX _)⟩
 |v::vs,q::qs,⟨h1,h2⟩=>by
  obtain ⟨e,f⟩:=zbS.get h2;refine ⟨by simp[e],λi hi=>?_⟩
  cases i with
  |zero=>exact h1
  |succ i=>exact f i (by simpa using hi)
theorem zbS.tups{h:Heap}:∀{vs:List Value}{qs:LP},zbS h vs qs->∃fs:List Value,KatTups h vs fs/\fs.length=vs.length/\∀v∈fs,∃i t,v=.int i t
 |[],[],_=>⟨[],trivial,rfl,λ_ h=>by cases h⟩
 |v::vs,q::qs,⟨hp,h2⟩=>by
  obtain ⟨a,t,u,o,n,rfl,e1,c1,d1⟩:=hp;obtain ⟨fs,f1,f2,f3⟩:=zbS.tups h2;refine ⟨.int q.1 t::fs,.cons e1 c1 d1 rfl f1,by simp[f2],λv hv=>?_⟩
  rcases QR.mp hv with rfl|hv
  ·exact ⟨_,_,rfl⟩
  ·exact f3 v hv
theorem zbS.mono{h h':Heap}(k:∀b o,h.get? b=some o->h'.get? b=some o):∀{vs:List Value}{qs:LP},zbS h vs qs->zbS h' vs qs
 |[],[],_=>trivial
 |v::vs,q::qs,⟨hp,h2⟩=>by
  obtain ⟨a,t,u,o,n,rfl,e1,c1,d1⟩:=hp;exact ⟨⟨a,t,u,o,n,rfl,k _ _ e1,c1,d1⟩,zbS.mono k h2⟩
def znQ(qs:LP)(π:List Nat):Prop:=π.Perm (List.range qs.length)/\(π.map λi=>qs.getD i (0,0)).Pairwise λx y=>keyP x<=keyP y
theorem zfo{a:Addr}{vs:List Value}{qs:LP}{n:Nat}{P:Fin->Shared->Prop}(ho:s.heap.get? a=some (seqObj "list" vs.toArray n))
  (hp:zbS ((s.heap.update a (Obj.mapSeq λ_=>#[]))) vs qs) (hq:∀q∈qs,okP q) (h64:vs.length<64)
  (h:∀π:List Nat,znQ qs π->P (.done (.ret .none)) { s with heap:=sortedHeap s.heap a vs (List.toArray (π.map λi=>vs.getD i .none)) }) :
  wpAny (model prog w) A (Builtin.«list.sort» ⟨[.ref a],[]⟩) P E s:=by
 obtain ⟨hl,hget⟩:=hp.get;rw[list_sort_plain];have ha:a<s.heap.objs.size:=Qi ho;refine Qd (listItems_at ho rfl ?_);refine Qd (listUpdate_at ho rfl ?_)
 obtain ⟨e1,ho1⟩:∃e1,(s.heap.update a (Obj.mapSeq λ_=>#[])).get? a=some (seqObj "list" #[] e1):=⟨_,get?_update_seq ho (λ_=>#[])⟩
 refine Qd (seqEpoch_at ho1 rfl ?_);refine Qd (wpAny_newTuple ?_);refine Qd (wpAny_newList ?_);refine JC ?_
 have ho6:(((s.heap.update a (Obj.mapSeq λ_=>#[])).push (seqObj "tuple" vs.toArray 0)).push (seqObj "list" #[] 0)).get? a=some (seqObj "list" #[] e1):=by
  rw[Heap.get?_push_ne _ _ _ (by rw[size_push',Heap.size_update];exact QN (J0 ha)),Heap.get?_push_ne _ _ _ (by rw[Heap.size_update];exact QN ha)]
  exact ho1
 have hp6:zbS (((s.heap.update a (Obj.mapSeq λ_=>#[])).push (seqObj "tuple" vs.toArray 0)).push (seqObj "list" #[] 0)) vs qs:=hp.mono λb o e=>Qj _ (Qj _ e)
 show wpAny (model prog w) A _ P E { s with heap:=((s.heap.update a (Obj.mapSeq λ_=>#[])).push (seqObj "tuple" vs.toArray 0)).push (seqObj "list" #[] 0) }
 dsimp only;have hsz:vs.toArray.size=vs.length:=by simp
 by_cases h2:vs.toArray.size<2
 ·rw[Qn h2,Qn h2]
  refine Qd (Qh ?_);rw[StateT.run_pure];refine Qd (Qh ?_);dsimp only;refine Qd (seqEpoch_at ho6 rfl ?_);refine Qd (listUpdate_at ho6 rfl ?_ (hsz2:=by rw[Array.size_map];show (pairsOf vs).size<=_;rw[pairsOf_size,sizeLine_eq];omega))
  simp only[bne_self_eq_false,JE,J9]
  have hid:(arrOf (SortSt.mk' general' (vs.toArray.zip vs.toArray) #[] 7 none)).map (·.2)=List.toArray ((List.range vs.length).map λi=>vs.getD i .none):=by
   show (vs.toArray.zip vs.toArray).map (·.2)=_;apply Array.toList_inj.mp;apply List.ext_getElem?;intro i;simp only[Array.toList_map,Array.toList_zip,Qe,List.getElem?_zip_eq_some]
   by_cases hi:i<vs.length
   ·simp[List.getElem?_zip_eq_some,hi,List.getElem?_range]
   ·simp[hi]
  rw[hid];refine Qh (h (List.range vs.length) ⟨by rw[hl],?_⟩)
  rw[List.pairwise_map];rw[hsz] at h2;rcases (show vs.length=0∨vs.length=1 by omega) with z|z <;> rw[z]
  ·exact .nil
  ·exact List.pairwise_singleton _ _
 ·rw[QA h2,QA h2]
  rw[hsz] at h2;obtain ⟨fs,f1,f2,f3⟩:=hp6.tups
  refine Qd (kat_kind (T:=.type "int") f1 (by omega) (λv hv=>by obtain ⟨i,t,rfl⟩:=f3 v hv;exact (show Looks _ _ (pure (Value.type "int")) _ from .now)) rfl ?_)
  refine Qd (QG (kat_run (ks:=vs) (G:=λp s'=>s' = { s with heap:=((s.heap.update a (Obj.mapSeq λ_=>#[])).push (seqObj "tuple" vs.toArray 0)).push (seqObj "list" #[] 0) }/\p=runT (kl λi=>keyP (qs.getD i (0,0))) (kas_sort vs.length))
   (Q:=λst' s'=>s' = { s with heap:=((s.heap.update a (Obj.mapSeq λ_=>#[])).push (seqObj "tuple" vs.toArray 0)).push (seqObj "list" #[] 0) }/\failedOf st'=none/\arrOf st'=(runT (kl λi=>keyP (qs.getD i (0,0))) (kas_sort vs.length)).map (kas_item (vs.toArray.zip vs.toArray)))
   rfl (by omega) h64 (λp st' s' a1 a2 a3 a4=>⟨a4.1,a3,by rw[a2,a4.2]⟩) ?_) ?_ λ_ _ e=>e)
  ·refine zjd (N:=vs.length) (R:=λ_=>True) (lt:=kl λi=>keyP (qs.getD i (0,0))) (λi j C hi hj hC=>?_) _ _ (zlL (by omega)) ⟨rfl,rfl⟩
   refine zpH (zbS.get hp6 |>.2 i hi) (zbS.get hp6 |>.2 j hj) ?_;have oi:okP (qs.getD i (0,0)):=hq _ (by rw[Qr,Qf (by omega)];exact List.getElem_mem _)
   have oj:okP (qs.getD j (0,0)):=hq _ (by rw[Qr,Qf (by omega)];exact List.getElem_mem _)
   have e:decide ((qs.getD i (0,0)).1<(qs.getD j (0,0)).1∨(qs.getD i (0,0)).1=(qs.getD j (0,0)).1/\(qs.getD i (0,0)).2<(qs.getD j (0,0)).2)=kl (λi=>keyP (qs.getD i (0,0))) i j:=by
    unfold kl;exact decide_eq_decide.mpr (zpG oi oj).symm
   rw[e];exact hC
  ·rintro ⟨⟨⟩,st'⟩ s' ⟨rfl,hf,har⟩
   dsimp only;obtain ⟨b1,b2,b3⟩:=zlK (key:=λi=>keyP (qs.getD i (0,0))) (n:=vs.length) (by omega)
   generalize runT (kl λi=>keyP (qs.getD i (0,0))) (kas_sort vs.length)=p at har b1 b2 b3;have hout:=kat_snds (ks:=vs) (vs:=vs) rfl har;have hsz2:((arrOf st').map (·.2)).size=vs.length:=by rw[hout,QM,Qb,Jg,b2]
   refine Qd (seqEpoch_at ho6 rfl ?_);refine Qd (listUpdate_at ho6 rfl ?_ (hsz2:=by rw[hsz2,sizeLine_eq];omega))
   rw[hf];simp only[bne_self_eq_false,JE,J9];rw[hout];refine Qh (h p.toList ⟨?_,?_⟩)
   ·have:=Array.perm_iff_toList_perm.mp b1
    rw[←hl];exact this
   ·rw[List.pairwise_map,List.pairwise_iff_getElem]
    intro i j hi hj hij;rw[Jg,b2] at hi hj
    have:=b3 i j (by omega) hj
    unfold KA at this;rw[Je,Je,Jr (by omega),Jr (by omega)] at this
    simpa using this
end
section
variable{prog:Program}{w:World}{A:Around}{E:Value->Shared->Prop}{s:Shared}
theorem zhr{l:Addr}{vs:List Value}{qs:LP}{Q:Value->Shared->Prop}(hl:s.heap.IsList l vs.toArray)(hp:zbS s.heap vs qs)(hq:∀q∈qs,okP q)(h64:vs.length<64)
  (h:∀π:List Nat,znQ qs π->Q (.ref (s.heap.objs.size+1)) { s with heap:=sortedAll s.heap vs (List.toArray (π.map λi=>vs.getD i .none)) }) :
  wpAny (model prog w) A (call (.builtin "sorted") [.ref l]) Q E s:=by
 refine Calls.call_function_entry kind_sorted plain_sorted entry_sorted (args_sorted1 _) ?_;unfold Builtin.«sorted»
 refine Qd (m:=checkCount "sorted" 1 1 _) (Qh ?_)
 refine Qd (collect_list hl ?_);refine Qd (wpAny_newList ?_)
 have hsz:((s.heap.push (seqObj "list" #[] 0)).update s.heap.objs.size (Obj.mapSeq (· ++ vs.toArray))).objs.size=s.heap.objs.size+1:=by
  rw[Heap.size_update,size_push']
 have hoL:(((s.heap.push (seqObj "list" #[] 0)).update s.heap.objs.size (Obj.mapSeq (· ++ vs.toArray))).push (seqObj "list" vs.toArray 0)).get? (s.heap.objs.size+1)=some (seqObj "list" vs.toArray 0):=by
  rw[←hsz];exact Qx _ rfl
 show wpAny _ _ _ _ _ { s with heap:=((s.heap.push (seqObj "list" #[] 0)).update s.heap.objs.size (Obj.mapSeq (· ++ vs.toArray))).push (seqObj "list" vs.toArray 0) }
 rw[hsz];refine Qd (JC (JB slot_list_sort ⟨_,hoL,rfl⟩ entry_list_sort (zfo (qs:=qs) hoL (hp.mono λb o e=>?_) hq h64 λπ a1=>⟨_,rfl,?_⟩) (args_list_sort _)))
 ·have hlt:b<s.heap.objs.size:=Qi e
  dsimp only;have hlt':(b:Nat)<s.heap.objs.size:=hlt;rw[Heap.get?_update_ne _ _ _ _ (QN (J0 hlt')),Heap.get?_push_ne _ _ _ (by rw[hsz];exact QN (J0 hlt')),Heap.get?_update_ne _ _ _ _ (QN hlt),Heap.get?_push_ne _ _ _ (QN hlt)]
  exact e
 ·exact Qh ⟨_,rfl,h π a1⟩
end
end DL
namespace DL
open PySem PySem.Spec L2
open PyProof.Rows hiding St
section
variable{X:Cx}
theorem zjg{pins:List (Addr×Obj)}{s:Shared}{σ:St}{H:Hp}(I:Inv X pins σ H s):∀{as:List Addr}{us:List Value}{qs:LP},Vals (as.map V.ref) us->as.length=qs.length->(∀(i:Nat) a q,as[i]?=some a->qs[i]?=some q->SqT X.K H a [.int q.1,.int q.2])->zbS s.heap us qs
 |[],_,[],.nil,_,_=>trivial
 |a::as,_,q::qs,.cons r t,hl,h=>by
  refine ⟨?_,zjg I t (by simpa using hl) λi a q h1 h2=>h (i+1) a q (by simpa using h1) (by simpa using h2)⟩
  cases r;obtain ⟨its,rv,⟨o,e,c,n,d⟩,_⟩:=I.tuple (h 0 a q rfl rfl)
  obtain ⟨u,v,rfl,r1,r2⟩:=rv.two;obtain ⟨t1,rfl⟩:=r1;obtain ⟨t2,rfl⟩:=r2;exact ⟨a,t1,t2,o,n,rfl,e,c,by simpa using d⟩
theorem zhs{as:List Addr}{us:List Value}(r:Vals (as.map V.ref) us):∀(π:List Nat),(∀i∈π,i<as.length)->Vals (π.map λi=>V.ref (as.getD i 0)) (π.map λi=>us.getD i .none)
 |[],_=>.nil
 |i::π,h=>by
  refine .cons ?_ (zhs r π λj hj=>h j (Qk _ hj));have hi:=h i Qm;have e:(as.map V.ref)[i]?=some (.ref (as.getD i 0)):=by rw[List.getElem?_map,List.getElem?_eq_getElem hi];simp[List.getD,List.getElem?_eq_getElem hi]
  obtain ⟨u,e2,ru⟩:=r.get e;simp only[List.getD,e2,JS];exact ru
theorem zj7:zc1 X (.builtin "sorted") (λxs H Q=>∃l,∃as:List Addr,∃qs:LP,xs=[.ref l]/\SqL X.K H l (as.map V.ref)/\as.length=qs.length/\(∀(i:Nat) a q,as[i]?=some a->qs[i]?=some q->SqT X.K H a [.int q.1,.int q.2])/\(∀q∈qs,okP q)/\qs.length<64 /\
  ∀π p,znQ qs π->H p=none->Q (.ref p) (upd H p (.lst (π.map λi=>V.ref (as.getD i 0))))):=by
 intro pins s σ H xs us Q I rx h;obtain ⟨l,as,qs,rfl,hq,hl,ht,ho,hb,q⟩:=h;obtain ⟨u,rfl,ru⟩:=rx.one;cases ru;obtain ⟨its,rv,p,hz⟩:=I.list hq;have hn:its.length=qs.length:=by have:=rv.length;rw[Qb] at this;omega
 refine zhr (qs:=qs) p.isList (zjg I rv hl ht) ho (by omega) λπ hπ=>?_
 obtain ⟨e,he⟩:=sortedAll_at s.heap its (List.toArray (π.map λi=>its.getD i .none))
 have hπl:∀i∈π,i<as.length:=λi hi=>by
  have:=hπ.1.mem_iff.mp hi
  rw[Q6] at this;omega
 refine ⟨.ref (s.heap.objs.size+1),_,I.laid (t':=s.toks) (λb o=>sortedAll_old) (JU _) (show zb6 X.prog X.w _ _ _ (.lst (π.map λi=>V.ref (as.getD i 0))) from ⟨?_,_,e,zhs rv π hπl,he⟩),rfl,q π _ hπ (I.hok.fresh (JU _))⟩
 rw[Qb,hπ.1.length_eq,Qu];rw[Qb] at hz;omega
def zjh:D->Option (Int×Int)
 |.tuple [.int a,.int b]=>some (a,b)
 |_=>none
def zcL:List D->Option LP
 |[]=>some []
 |d::r=>(zjh d).bind λq=>(zcL r).map (q :: ·)
def duoD(q:Int×Int):D:=.tuple [.int q.1,.int q.2]
theorem zlM{d:D}{q:Int×Int}(h:zjh d=some q):d=duoD q:=by
 unfold zjh at h
 split at h
 ·cases h;rfl
 ·cases h
theorem zfp:∀{ds:List D}{qs:LP},zcL ds=some qs->ds=qs.map duoD
 |[],qs,h=>by cases h;rfl
 |d::r,qs,h=>by
  unfold zcL at h
  cases z:zjh d with
  |none=>rw[z] at h;cases h
  |some q=>
   rw[z] at h
   cases z2:zcL r with
   |none=>rw[z2] at h;cases h
   |some qs'=>rw[z2] at h;cases h;rw[zlM z,zfp z2];rfl
theorem zeJ:∀qs:LP,zcL (qs.map duoD)=some qs
 |[]=>rfl
 |q::r=>by rw[QB,zcL,zeJ r];rfl
def zgB(qs:LP):LP:=qs.mergeSort λx y=>decide (keyP x<=keyP y)
theorem zfY(qs:LP):(zgB qs).Perm qs:=List.mergeSort_perm ..
theorem zht(qs:LP):(zgB qs).Pairwise λx y=>keyP x<=keyP y:=by
 have:=List.pairwise_mergeSort (le:=λx y:Int×Int=>decide (keyP x<=keyP y)) (by intro a b c;simp;omega) (by intro a b;simp;omega) qs
 exact this.imp (by simp)
theorem zgC:∀{a b:LP},(∀x∈a,okP x)->a.Perm b->a.Pairwise (λx y=>keyP x<=keyP y)->b.Pairwise (λx y=>keyP x<=keyP y)->a=b
 |[],b,_,p,_,_=>by rw[List.nil_perm.1 p]
 |x::a,[],_,p,_,_=>by have:=p.length_eq;simp at this
 |x::a,y::b,ok,p,ha,hb=>by
  have hx:keyP y<=keyP x:=by
   rcases QR.1 (p.mem_iff.1 (Qm ..)) with e|e
   ·rw[e];exact QT _
   ·exact (Jx.1 hb).1 x e
  have hy:keyP x<=keyP y:=by
   rcases QR.1 (p.mem_iff.2 (Qm ..)) with e|e
   ·rw[e];exact QT _
   ·exact (Jx.1 ha).1 y e
  have oky:okP y:=ok y (p.mem_iff.2 (Qm ..));have e:=znP (ok x (Qm ..)) oky (JL hy hx);subst e;rw[zgC (λz hz=>ok z (Qk _ hz)) (List.Perm.cons_inv p) (Jx.1 ha).2 (Jx.1 hb).2]
theorem znR{qs:LP}{π:List Nat}(ok:∀q∈qs,okP q)(h:znQ qs π):(π.map λi=>qs.getD i (0,0))=zgB qs:=by
 have hp:(π.map λi=>qs.getD i (0,0)).Perm qs:=by
  have h1:=h.1.map λi=>qs.getD i (0,0)
  have e:(List.range qs.length).map (λi=>qs.getD i (0,0))=qs:=by
   apply List.ext_getElem?;intro i;rw[Qe]
   by_cases hi:i<qs.length
   ·rw[List.getElem?_range hi,List.getElem?_eq_getElem hi];simp[List.getD,List.getElem?_eq_getElem hi]
   ·rw[Jf (by rw[Qu];omega),Jf (by omega)];rfl
  rw[e] at h1;exact h1
 exact zgC (λx hx=>ok x (hp.mem_iff.mp hx)) (hp.trans (zfY qs).symm) h.2 (zht qs)
def okPB(q:Int×Int):Bool:=decide (-1000000<=q.2/\q.2<=1000000)
def zhu:List D->Option D
 |[.list ds]=>(match zcL ds with
  |some qs=>if qs.length<64/\qs.all okPB=true then some (.list ((zgB qs).map duoD)) else none
  |none=>none)
 |_=>none
theorem zj8{xs:List D}{d:D}(h:zhu xs=some d):∃qs:LP,xs=[.list (qs.map duoD)]/\qs.length<64/\(∀q∈qs,okP q)/\d=.list ((zgB qs).map duoD):=by
 unfold zhu at h
 split at h
 ·rename_i ds
  cases z:zcL ds with
  |none=>rw[z] at h;cases h
  |some qs=>
   rw[z] at h;dsimp only at h
   split at h
   ·rename_i c
    cases h;exact ⟨qs,by rw[zfp z],c.1,λq hq=>(show -1000000<=q.2/\q.2<=1000000 from Qa (QW.mp c.2 q hq)),rfl⟩
   ·cases h
 ·cases h
theorem zhv{K:Frag}{G:Hp}:∀{vs:List V}{qs:LP},Reps K G vs (qs.map duoD)->∃as:List Addr,vs=as.map V.ref/\as.length=qs.length/\∀(i:Nat) a q,as[i]?=some a->qs[i]?=some q->SqT K G a [.int q.1,.int q.2]
 |_,[],.nil=>⟨[],rfl,rfl,λi a q h=>by simp at h⟩
 |_,q::qs,.cons r t=>by
  obtain ⟨as,rfl,hl,h⟩:=zhv t;obtain ⟨a,ws,rfl,h1,r1⟩:=r.tup_inv
  cases r1 with
  |cons ra rb=>
   obtain ⟨v,rfl,rb'⟩:=rb.one_inv;refine ⟨a::as,rfl,by simp[hl],λi a' q' e1 e2=>?_⟩
   cases i with
   |zero=>
    cases e1;cases e2
    rw[ra.int_inv,rb'.int_inv] at h1;exact h1
   |succ i=>exact h i a' q' (by simpa using e1) (by simpa using e2)
theorem znS{K:Frag}{G:Hp}{a:Addr}{q:Int×Int}(h:SqT K G a [.int q.1,.int q.2]):Rep K G (.ref a) (duoD q):=.tup h (.cons (.int _) (.cons (.int _) .nil))
theorem zhw{K:Frag}{G:Hp}{as:List Addr}{qs:LP}(hl:as.length=qs.length)(h:∀(i:Nat) a q,as[i]?=some a->qs[i]?=some q->SqT K G a [.int q.1,.int q.2]):∀π:List Nat,(∀i∈π,i<qs.length)->Reps K G (π.map λi=>V.ref (as.getD i 0)) ((π.map λi=>qs.getD i (0,0)).map duoD)
 |[],_=>.nil
 |i::π,hb=>by
  refine .cons ?_ (zhw hl h π λj hj=>hb j (Qk _ hj));have hi:=hb i Qm;refine znS (h i _ _ ?_ ?_)
  ·rw[List.getElem?_eq_getElem (by omega)];simp[List.getD,List.getElem?_eq_getElem (show i<as.length by omega)]
  ·rw[List.getElem?_eq_getElem hi];simp[List.getD,List.getElem?_eq_getElem hi]
theorem zpI:zdf X (.builtin "sorted") zhu:=by
 refine ⟨_,zj7,λvs G H ds d Q s r e k=>?_⟩;obtain ⟨qs,rfl,h64,ok,rfl⟩:=zj8 e;obtain ⟨v,rfl,q1⟩:=r.one_inv;obtain ⟨l,ws,rfl,h1,r1⟩:=q1.lst_inv;obtain ⟨as,rfl,hl,ht⟩:=zhv r1;refine ⟨l,as,qs,rfl,s.seq h1,hl,λi a q e1 e2=>zdF s (ht i a q e1 e2),ok,h64,λπ p hπ hp=>?_⟩;have hb:∀i∈π,i<qs.length:=λi hi=>Q6.mp (hπ.1.mem_iff.mp hi);have rr:=(zhw hl ht π hb).mono (zaO (s.free hp):Same G (upd G p (.lst (π.map λi=>V.ref (as.getD i 0)))));rw[znR ok hπ] at rr;exact k _ _ _ (Ext.new s hp) (.lst (SqL.of zaE) rr)
theorem zdf.or{f:Value}{p q:List D->Option D}(h1:zdf X f p)(h2:zdf X f q):zdf X f (λxs=>(p xs).orElse λ_=>q xs):=by
 obtain ⟨r1,c1,k1⟩:=h1;obtain ⟨r2,c2,k2⟩:=h2;refine ⟨λxs H Q=>r1 xs H Q∨r2 xs H Q,λpins s σ H xs us Q I rx h=>?_,λvs G H ds d Q s r e k=>?_⟩
 ·rcases h with h|h
  ·exact c1 pins s σ H xs us Q I rx h
  ·exact c2 pins s σ H xs us Q I rx h
 ·dsimp only at e
  cases z:p ds with
  |some d'=>rw[z] at e;cases e;exact .inl (k1 vs G H ds _ Q s r z k)
  |none=>rw[z] at e;exact .inr (k2 vs G H ds _ Q s r e k)
def ziz(xs:List D):Option D:=(zfl xs).orElse λ_=>zhu xs
theorem zoM:zdf X (.builtin "sorted") ziz:=zpC.or zpI
theorem zfZ{ns:List Int}(h:ns.length<64):ziz [.list (ns.map .int)]=some (.list ((zcB ns).map .int)):=by unfold ziz;rw[zlu h];rfl
theorem zlN{qs:LP}(h:qs.length<64)(ok:∀q∈qs,okP q):ziz [.list (qs.map duoD)]=some (.list ((zgB qs).map duoD)):=by
 cases qs with
 |nil=>
  have e1:zgB []=[]:=by unfold zgB;simp
  have e2:zcB []=[]:=by unfold zcB;simp
  have:=zfZ (ns:=[]) (by decide)
  rw[e2] at this;rw[e1];exact this
 |cons q r=>
  have e1:zfl [.list ((q::r).map duoD)]=none:=rfl;unfold ziz;rw[e1,Option.orElse];unfold zhu;dsimp only;rw[zeJ];exact Qn ⟨h,QW.mpr λq hq=>Q9 (show -1000000<=q.2/\q.2<=1000000 from ok q hq)⟩
end
section
variable{X:Cx}
def zfq:List D->Option D
 |[d]=>if d.canLay0=true/\d.showable=true/\d.hasDict=false/\d.depth<=50/\d.shown.length<=1000000 then some (.str d.shown) else none
 |_=>none
theorem zlO(hu:X.A.units+64<cLine)(hg:X.A.guards=some []):zc1 X (.builtin "repr") (λxs H Q=>∃G v d,xs=[v]/\Same G H/\Rep X.K G v d/\d.canLay0=true/\d.showable=true/\d.hasDict=false/\d.depth<=50/\d.shown.length<=1000000/\Q (.str d.shown) H):=by
 intro pins s σ H xs us Q I rx h;obtain ⟨G,v,d,rfl,sg,r,c1,c2,c3,c4,c5,q⟩:=h;obtain ⟨u,rfl,ru⟩:=rx.one;obtain ⟨as,ra⟩:=zbz I sg r ru c1;have fin:∀h'(t:Tok) tk,(∀b o,s.heap.get? b=some o->h'.get? b=some o)->EP X pins σ Q (.str d.shown t) { s with heap:=h',toks:=tk }:=λh' t tk hk=>⟨.str d.shown,H,I.kept hk,⟨t,rfl⟩,q⟩
 cases r with
 |non=>cases ru;exact P.repr_of_none (fin s.heap _ _ λ_ _ e=>e)
 |bl b=>cases ru;exact P.repr_of_bool (fin s.heap _ _ λ_ _ e=>e)
 |int i=>
  obtain ⟨t,rfl⟩:=ru
  exact P.repr_of_int (by
   have:(int i).showable=true:=c2
   simpa[PyData.showable] using this) (fin s.heap _ _ λ_ _ e=>e)
 |str x=>
  obtain ⟨t,rfl⟩:=ru;exact P.repr_of_str (fin s.heap _ _ λ_ _ e=>e) (QH c5 lim)
 |lst h r=>
  cases ru;exact repr_of_reads' ra c2 (λz=>by rw[c3] at z;cases z) hg (by omega) (λ_ _ e=>e) (λh' t tk hk=>fin h' t tk hk) (QH c5 lim)
 |tup h r=>
  cases ru;exact repr_of_reads' ra c2 (λz=>by rw[c3] at z;cases z) hg (by omega) (λ_ _ e=>e) (λh' t tk hk=>fin h' t tk hk) (QH c5 lim)
 |dic h=>cases c1
 |exc _ _ _ _=>cases c1
 |dct _ _ _ _ _=>cases c1
 |dtt _ _ _ _=>cases c1
theorem zji(hu:X.A.units+64<cLine)(hg:X.A.guards=some []):zdf X (.builtin "repr") zfq:=by
 refine ⟨_,zlO hu hg,λvs G H ds d Q s r e k=>?_⟩;unfold zfq at e
 split at e
 ·split at e
  ·rename_i x c
   cases e;obtain ⟨v,rfl,q1⟩:=r.one_inv
   exact ⟨G,v,_,rfl,s,q1,c.1,c.2.1,c.2.2.1,c.2.2.2.1,c.2.2.2.2,k _ G H (.refl s) (.str _)⟩
  ·cases e
 ·cases e
theorem zdx:bootBuiltins "repr" = some (.builtin "repr"):=by decide +kernel
theorem zjj{d:D}(c:d.canLay0=true/\d.showable=true/\d.hasDict=false/\d.depth<=50/\d.shown.length<=1000000):zfq [d]=some (.str d.shown):=by unfold zfq;exact Qn c
end
section
variable{X:Cx}{B G0:Hp}{e o a b c tg:Expr}{pos p2:Pos}{es rest:List Expr}{te to ti:TE}
def zj9{β:Type}(p:D->D->Option β)(f:M D)(j:Nat):M β:=zax f λx=>λZ=>match Z[j]? with
 |some (some (.pub d))=>mOpt (p x d) Z
 |some (some (.own ds))=>mOpt (p x (.list ds)) Z
 |_=>.bad
theorem zsh{K:Frag}{σ:St}{H:Hp}{p:D->D->Option Bool}{r:R2}{j:Nat}{f:M D}{Q:Bool->Hp->Prop}{QV:VK}(hq:∀t H3,Q t H3->QV (.bl t) H3)
  (hr:∀v u G H x y d Q,Same G H->Rep K G v x->Rep K G u y->p x y=some d->Q (.bl d) H->r v u H Q)
  (q:tBo K B G0 (zj9 p f j) σ H Q):tD K B G0 f σ H λx H1=>tVar j σ H1 λy H2=>r x y H2 QV:=by
 refine tM.one (R:=Rep K) q λv H2 G Z x k rx a=>?_
 cases z:Z[j]? with
 |none=>rw[z] at a;exact a.elim
 |some o=>
  cases o with
  |none=>rw[z] at a;exact a.elim
  |some sl=>
   cases sl with
   |deep _ _=>rw[z] at a;exact a.elim
   |pub d=>
    rw[z] at a;dsimp only at a;obtain ⟨d',e',a'⟩:=aft.opt a;obtain ⟨u,h1,h2⟩:=k.pub j d z;exact ⟨u,h1,hr v u G H2 x d d' _ k.gh rx h2 e' (hq _ _ (a' d' G H2 k (.refl _) rfl))⟩
   |own ds=>
    rw[z] at a;dsimp only at a;obtain ⟨d',e',a'⟩:=aft.opt a;obtain ⟨ad,vs,h1,h2,h3,h4,h5⟩:=k.own j ds z;exact ⟨.ref ad,h1,hr v (.ref ad) H2 H2 x (.list ds) d' _ (.refl _) (rx.mono k.gh) (.lst (SqL.of h4) (h5.mono k.gh)) e' (hq _ _ (a' d' G H2 k (.refl _) rfl))⟩
theorem zpJ{op:CmpOp}{p:D->D->Option Bool}{j:Nat}{f:M D}(o:OpB X (compareOp op) p)(ha:PE X a (tD X.K B G0 f))(hb:PE X b (tVar j))(hm:behindInMarks op b=false) :
  PT X (.Compare a [op] [b] pos) (tBo X.K B G0 (zj9 p f j)):=by
 obtain ⟨r,h,i⟩:=o;exact ptof (zia h ha hb hm) λσ H Q q=>zsh (λt H3 z=>⟨t,rfl,z⟩) i q
theorem zjk{β:Type}{p:D->D->Option β}{f:M D}{j:Nat}{Z Z1:DEnv}{x:D}{ds:List D}{r:β}(h1:f Z=.ok x Z1)(h2:Z1[j]?=some (some (.own ds)))(h3:p x (.list ds)=some r):zj9 p f j Z=.ok r Z1:=by
 unfold zj9;exact zaB h1 (by rw[h2];exact zbX h3)
end
def zhx(Z:DEnv)(j:Nat):Option D:=match Z[j]? with
 |some (some (.pub d))=>some d
 |some (some (.own ds))=>some (.list ds)
 |some (some (.deep _ d))=>some d
 |_=>none
theorem EOk.tree{K:Frag}{B G0 G H:Hp}{σ:St}{Z:DEnv}{j:Nat}{d:D}(k:EOk K B G0 G H σ Z)(h:zhx Z j=some d):∃v,σ[j]?=some (some v)/\Rep K H v d:=by
 unfold zhx at h
 split at h
 ·rename_i d' e
  cases h;obtain ⟨v,h1,h2⟩:=k.pub j _ e
  exact ⟨v,h1,h2.mono k.gh⟩
 ·rename_i ds e
  cases h;obtain ⟨a,vs,h1,h2,h3,h4,h5⟩:=k.own j ds e
  exact ⟨.ref a,h1,.lst (SqL.of h4) (h5.mono k.gh)⟩
 ·rename_i p d' e
  cases h;obtain ⟨ω,k1,k2⟩:=k.dp
  obtain ⟨v,fp,s,r,_⟩:=k1 j p _ e;exact ⟨v,s,r.rep k.gh⟩
 ·cases h
section
variable{X:Cx}{B G0:Hp}{e o a b c tg:Expr}{pos p2:Pos}{es rest:List Expr}
end
end DL
namespace HT
open PySem PyProof.Rows
section
open PySem.SeqAt
open PySem.AutoSeq1 (wpAny_loadPart')
open PySem.MeetsSeq PySem.MeetsSeq2 PySem.MeetsSeq3
end
section
variable{prog:Program}{w:World}{A:Around}{E:Value->Shared->Prop}{s:Shared}
end
end HT
namespace DL
open PySem PySem.Spec L2
open PyProof.Rows hiding St
section
variable{X:Cx}
end
section
variable{X:Cx}
def zka(x y:D):Option (List D):=match x,y with
 |.list xs,.int k=>if -1000000<=k/\k<=1000000/\xs.length*k.toNat<=1000000 then some (replicate k.toNat xs).flatten else none
 |_,_=>none
theorem zlP{x y:D}{ds:List D}(h:zka x y=some ds):∃xs k,x=.list xs/\y=.int k/\(-1000000<=k/\k<=1000000/\xs.length*k.toNat<=1000000)/\ds=(replicate k.toNat xs).flatten:=by
 unfold zka at h
 split at h
 ·split at h
  ·rename_i xs k c
   cases h;exact ⟨xs,k,rfl,rfl,c,rfl⟩
  ·cases h
 ·cases h
def zkb(f g:M D):M (List D):=zax f λx=>zax g λy=>mOpt (zka x y)
theorem zlQ{f g:M D}(ha:PE X a (tD X.K B G0 f))(hb:PE X b (tD X.K B G0 g)):PE X (.BinOp a .Mult b pos) (tL X.K B G0 (zkb f g)) :=
 peof (zqo zkV ha hb) λσ H Q ⟨G,Z,k,q⟩=>by
  refine ⟨G,Z,k,?_⟩;unfold zkb zax at q
  cases z:f Z with
  |bad=>rw[z] at q;exact q.elim
  |ok x Z1=>
   rw[z] at q;dsimp only at q;intro v G1 H1 k1 s1 r1;refine ⟨G1,Z1,k1,?_⟩
   cases z2:g Z1 with
   |bad=>rw[z2] at q;exact q.elim
   |ok y Z2=>
    rw[z2] at q;dsimp only[mOpt] at q;intro u G2 H2 k2 s2 r2
    cases z3:zka x y with
    |none=>rw[z3] at q;exact q.elim
    |some ds=>
     rw[z3] at q;obtain ⟨xs,i,rfl,rfl,c,rfl⟩:=zlP z3;obtain ⟨l,vs,rfl,h1,w⟩:=r1.lst_inv;exact ⟨l,i,vs,rfl,r2.int_inv,k2.gh.seq (s2.seq h1),by omega,by omega,by rw[w.length];exact QH c.2.2 lim,λp hp=>q p _ G2 _ (k2.ext (Ext.hid k2.gh hp)) (s1.trans s2) (NewL.of k2 hp ((w.mono s2).rep _))⟩
theorem zlR{f g:M D}{Z Z1 Z2:DEnv}{x:D}{n:Nat}(h1:f Z=.ok (.list [x]) Z1)(h2:g Z1=.ok (.int n) Z2)(h:n<=1000):zkb f g Z=.ok (replicate n x) Z2:=by
 unfold zkb zax;rw[h1];dsimp only;rw[h2];dsimp only[mOpt]
 have e:zka (.list [x]) (.int n)=some (replicate n x):=by
  unfold zka;dsimp only;rw[Qn ⟨by omega,by omega,by show 1*_<=_;omega⟩]
  congr 1
  rw[Qz];clear h2 h
  induction n with
  |zero=>rfl
  |succ n ih=>rw[Q2,QO,ih,Q2];rfl
 rw[e]
end
end DL
namespace DL
open PySem
theorem lz0{P:List Value->Prop}{us:List Value}(hl:us.length=0)(h:P []):P us:=by
 cases us with
 |nil=>exact h
 |cons a r=>cases hl
theorem lzS{P:List Value->Prop}{us:List Value}{n:Nat}(hl:us.length=n+1)(h:∀a r,r.length=n->P (a::r)):P us:=by
 cases us with
 |nil=>cases hl
 |cons a r=>exact h a r (Nat.succ.inj hl)
theorem lz1{P:List Value->Prop}{us:List Value}(hl:us.length=1)(h:∀a,P [a]):P us:=lzS hl λa r e=>lz0 (P:=λr=>P (a::r)) e (h a)
theorem lz2{P:List Value->Prop}{us:List Value}(hl:us.length=2)(h:∀a b,P [a,b]):P us:=lzS hl λa r e=>lz1 (P:=λr=>P (a::r)) e (h a)
theorem lz3{P:List Value->Prop}{us:List Value}(hl:us.length=3)(h:∀a b c,P [a,b,c]):P us:=lzS hl λa r e=>lz2 (P:=λr=>P (a::r)) e (h a)
theorem lz4{P:List Value->Prop}{us:List Value}(hl:us.length=4)(h:∀a b c d,P [a,b,c,d]):P us:=lzS hl λa r e=>lz3 (P:=λr=>P (a::r)) e (h a)
theorem lz5{P:List Value->Prop}{us:List Value}(hl:us.length=5)(h:∀a b c d e,P [a,b,c,d,e]):P us:=lzS hl λa r e=>lz4 (P:=λr=>P (a::r)) e (h a)
theorem bz1{fd:FuncData}{ps:List Str}{us:List Value}(hl:us.length=1)(h:∀a,bindArgs fd { pos:=[a] }=pure (ps.zip [a])):bindArgs fd { pos:=us }=pure (ps.zip us):=lz1 (P:=λus=>bindArgs fd { pos:=us }=pure (ps.zip us)) hl h
theorem bz2{fd:FuncData}{ps:List Str}{us:List Value}(hl:us.length=2)(h:∀a b,bindArgs fd { pos:=[a,b] }=pure (ps.zip [a,b])):bindArgs fd { pos:=us }=pure (ps.zip us):=lz2 (P:=λus=>bindArgs fd { pos:=us }=pure (ps.zip us)) hl h
theorem bz3{fd:FuncData}{ps:List Str}{us:List Value}(hl:us.length=3)(h:∀a b c,bindArgs fd { pos:=[a,b,c] }=pure (ps.zip [a,b,c])):bindArgs fd { pos:=us }=pure (ps.zip us):=lz3 (P:=λus=>bindArgs fd { pos:=us }=pure (ps.zip us)) hl h
theorem bz4{fd:FuncData}{ps:List Str}{us:List Value}(hl:us.length=4)(h:∀a b c d,bindArgs fd { pos:=[a,b,c,d] }=pure (ps.zip [a,b,c,d])):bindArgs fd { pos:=us }=pure (ps.zip us):=lz4 (P:=λus=>bindArgs fd { pos:=us }=pure (ps.zip us)) hl h
theorem bz5{fd:FuncData}{ps:List Str}{us:List Value}(hl:us.length=5)(h:∀a b c d e,bindArgs fd { pos:=[a,b,c,d,e] }=pure (ps.zip [a,b,c,d,e])):bindArgs fd { pos:=us }=pure (ps.zip us):=lz5 (P:=λus=>bindArgs fd { pos:=us }=pure (ps.zip us)) hl h
end DL
namespace DL
open PySem PySem.Spec L2
open PyProof.Rows hiding St
def whole(h:Heap):Frag:=(List.range h.objs.size).filterMap λa=>(h.get? a).map λo=>(a,o)
theorem zhy{g:Addr->Option Obj}{x:Addr}:∀l:List Addr,(l.filterMap λa=>(g a).map λo=>(a,o)).lookup x=if x∈l then g x else none
 |[]=>rfl
 |y::l=>by
  have ih:=zhy (g:=g) (x:=x) l
  by_cases e:x=y
  ·subst e
   rw[Qn Qm]
   cases z:g x with
   |none=>rw[List.filterMap_cons_none (by rw[z];rfl),ih,z];split <;> rfl
   |some o=>rw[List.filterMap_cons_some (by rw[z];rfl),QU,beq_self_eq_true]
  ·have m:(x∈y::l)=(x∈l):=by simp[List.mem_cons,e]
   have b:(x==y)=false:=by simpa using e
   have ih':(if x∈y::l then g x else none)=_:=(by simp only[m];exact ih.symm)
   rw[ih']
   cases z:g y with
   |none=>rw[List.filterMap_cons_none (by rw[z];rfl)]
   |some o=>rw[List.filterMap_cons_some (by rw[z];rfl),QU,b]
theorem zdm{h:Heap}{a:Addr}:(whole h).lookup a=h.get? a:=by
 unfold whole;rw[zhy];split
 ·rfl
 ·rename_i n
  cases z:h.get? a with
  |none=>rfl
  |some o=>exact absurd (Q6.mpr (Qi z)) n
theorem znT(h:Heap):(whole h).In h:=λa o e=>by rw[zdm] at e;exact e
def zsi(st:Stmt):Option DefRec:=match st with
 |.FunctionDef name a b _ _ _ sc _ _ pos=>some ⟨name,a,b,sc,pos⟩
 |_=>none
def zlS(st:Stmt):Option Str:=match st with
 |.FunctionDef name _ _ _ _ _ _ _ _ _=>some name
 |_=>none
def zsj(st:Stmt):Pos:=match st with
 |.FunctionDef _ _ _ _ _ _ _ _ _ pos=>pos
 |_=>⟨0,0,0,0⟩
abbrev stAt(p:Program)(i:Nat):Stmt:=p.main.body.getD i (.Pass ⟨0,0,0,0⟩)
def zhz(p:Program)(ix:List Nat):List DefRec:=ix.filterMap λi=>zsi (stAt p i)
section
variable{p q:Program}{loose:List Str}{mean:ExcName->Option Value}{mg mb:Str->Option Value}{h:Heap}{w:World}
theorem zoN{ix:List Nat}(T:Top q loose mean mg mb h)(e:recsOf q=zhz p ix)(i:Nat)(x:Str)(hi:ix.contains i=true)(hn:zlS (stAt p i)=some x):∃f fd,mg x=some (.ref f)/\Fun (whole h) x x (stAt p i) f fd:=by
 cases hs:stAt p i with
 |FunctionDef name a b _ _ _ sc _ _ pos=>
  rw[hs] at hn;cases hn
  have hd:(⟨x,a,b,sc,pos⟩:DefRec)∈recsOf q:=by
   rw[e];exact List.mem_filterMap.mpr ⟨i,by simpa using hi,by rw[hs];rfl⟩
  obtain ⟨f,⟨oc,od,dt,osl⟩,pm,cd,doc,h1,h2,h3,h4⟩:=T.fn _ hd;have h3:dt=_:=h3;subst h3;refine ⟨f,_,h1,⟨⟨oc,od,.none,doc,pm,_,cd,_,osl,rfl,by rw[zdm];exact h2,?_⟩,?_⟩⟩
  ·obtain ⟨c,⟨_,_,dc,_⟩,vs,t,rfl,g1,g2,g3⟩:=h4
   have g2:dc=_:=g2;subst g2;unfold PySem.W.codeIn;dsimp only;rw[zdm,g1];dsimp only;have g4:vs.toList[1]?=some (.str x t):=by rw[Array.getElem?_toList];exact g3
   cases hv:vs.toList with
   |nil=>rw[hv] at g4;cases g4
   |cons v0 r=>
    rw[hv] at g4
    cases r with
    |nil=>cases g4
    |cons v1 r=>cases g4;exact beq_self_eq_true _
  ·unfold PySem.W.keepIn
   dsimp only;rw[zdm,h2]
 |_=>rw[hs] at hn;cases hn
theorem zlT{K:Frag}{x qual y:Str}{st:Stmt}{f:Addr}{fd:FuncData}(F:Fun K x qual st f fd)
  (hb:∀(kV doc pm:Value)(an:Option Addr)(cdv ct v:Value),bindArgs (PySem.W.fnOf x qual (zek st) (zdh st) (zak st) .none kV doc pm an cdv ct) ⟨[v],[]⟩=pure [(y,v)]) (s:Shared) (v:Value):BindsTo s fd ⟨[v],[]⟩ [(y,v)]:=by
 obtain ⟨oc,od,kV,doc,pm,an,cdv,ct,osl,rfl,lk,hcd⟩:=F.ex;exact .of_eq (hb kV doc pm an cdv ct v)
def znU(q:Program)(loose:List Str)(x:Str):Bool :=
 !startupNames.contains x && !loose.contains x && !((recsOf q).map (·.name)).contains x && !((litsOf q).map (·.1)).contains x && !((clssOf q loose).map (·.name)).contains x
theorem zbT(T:Top q loose mean mg mb h){xs:List Str}(e:xs.all (znU q loose)=true){x:Str}(hx:x∈xs):mg x=none:=by
 have:=QW.mp e x hx
 unfold znU at this;simp only[Jm,Bool.not_eq_true',List.contains_eq_mem,decide_eq_false_iff_not] at this;exact T.free x this.1.1.1.1 this.1.1.1.2 this.1.1.2 this.1.2 this.2
theorem zd8(T:Top q loose mean mg mb h){x:Str}{i:Int}(e:valOf q x=some (.int i)):∃t,mg x=some (.int i t):=by
 obtain ⟨v,h1,h2⟩:=T.const x _ e
 have:=h2 h
 cases this;exact ⟨_,h1⟩
theorem zrb:∀{vs:List Value}{ss:List Str},StrsAre vs ss->Vals (ss.map V.str) vs
 |_,_,.nil=>.nil
 |_,_,.cons y t r=>.cons ⟨t,rfl⟩ (zrb r)
theorem zlU(B:Tables q w mg h){x:Str}{ss:List Str}(e:tupStrsOf q x=some ss)(hl:ss.length<=1000) :
  ∃ad o its n,mg x=some (.ref ad)/\(whole h).lookup ad=some o/\o.cls=.type "tuple" /\ o.data=.seq its n/\its.size<=sizeLine/\Vals (ss.map V.str) its.toList:=by
 obtain ⟨a,vs,h1,⟨o,h2,h3,n,h4⟩,h5⟩:=B.tupS x ss e;have r:=zrb h5;refine ⟨a,o,_,n,h1,by rw[zdm];exact h2,h3,h4,?_,r⟩
 have:=r.length
 rw[Qb] at this;have l:(1000:Nat)<=sizeLine:=by decide
 rw[QM];omega
end
def scOk(sc:Scope)(N gl:List Str):Bool:=(N.all λx=>match sc.names.lookup x with|some .local=>true|some .cell=>true|_=>false)&&gl.all λx=>match sc.names.lookup x with|some .globalImplicit=>true|_=>false
def fnB(sc:Scope)(N gl:List Str):Bool:=decide (sc.kind=.function) && !sc.isCoroutine && !sc.isGenerator&&decide N.Nodup&&(sc.names.all λy=>match y.2 with | .free=>false|_=>true)&&scOk sc N gl
structure FnNm(sc:Scope)(N gl:List Str):Prop where
 kind:sc.kind=.function
 co:sc.isCoroutine=false
 gen:sc.isGenerator=false
 nd:N.Nodup
 nofree:∀y∈sc.names,y.2≠.free
 nm:∀x∈N,sc.names.lookup x=some .local∨sc.names.lookup x=some .cell
 gl:∀x∈gl,sc.names.lookup x=some .globalImplicit
theorem zaL{sc:Scope}{N gl:List Str}(H:fnB sc N gl=true):FnNm sc N gl:=by
 unfold fnB scOk at H;simp only[Jm,decide_eq_true_eq,Bool.not_eq_true',QW] at H;obtain ⟨⟨⟨⟨⟨h1,h2⟩,h3⟩,h4⟩,h5⟩,h6,h7⟩:=H;refine ⟨h1,h2,h3,h4,λy hy e=>?_,λx hx=>?_,λx hx=>?_⟩
 ·have:=h5 y hy;rw[e] at this;cases this
 ·have:=h6 x hx
  split at this
  ·rename_i e;exact .inl e
  ·rename_i e;exact .inr e
  ·cases this
 ·have:=h7 x hx
  split at this
  ·rename_i e;exact e
  ·cases this
section
variable{sc:Scope}{N gl:List Str}{x:Str}
theorem nq(H:FnNm sc N gl):N.Nodup:=H.nd
theorem fq(H:FnNm sc N gl)(n:Nat):zeY N (N.take n) sc:=⟨H.kind,H.co,H.gen,H.nd,by rw[QP,List.take_eq_take_iff];omega,λx hx=>H.nm x (J5 hx),H.nofree⟩
theorem lq(H:FnNm sc N gl)(i:Nat)(h:N[i]?=some x:=by rfl):L2.Loc sc x:=H.nm x (Qp h)
theorem gq(H:FnNm sc N gl)(i:Nat)(h:gl[i]?=some x:=by rfl):sc.names.lookup x=some .globalImplicit:=H.gl x (Qp h)
theorem pq{X:Cx}{pos:Pos}(H:FnNm X.env.scope X.N gl)(i:Nat)(h:X.N[i]?=some x:=by rfl)(hd:(x==("__debug__" : Str))=false:=by decide)(hc:(x==("__classdict__" : Str))=false:=by decide):PE X (.Name x pos) (tVar i) :=
 zot h ((H.nm x (Qp h)).elim .inl λz=>.inr (.inl z)) hd hc
end
theorem zbd{q p:Program}{loose:List Str}{mean:ExcName->Option Value}{mg mb:Str->Option Value}{h:Heap}{ix:List Nat}(P:Program)(w:World)(base:Heap){ps:List Str}{k n:Nat}{F:List D->Option D}(T:Top q loose mean mg mb h)(e:recsOf q=zhz p ix)(i:Nat)(x:Str)(hi:ix.contains i=true)(hn:zlS (stAt p i)=some x)
  (ok:∀{f:Addr}{fd:FuncData},Fun (whole h) x x (stAt p i) f fd->FnOk P w (whole h) mg base CX0 k f fd ps (spD (whole h) n F))
  (hb:∀(kV doc pm:Value)(an:Option Addr)(cdv ct:Value)(us:List Value),us.length=ps.length->bindArgs (PySem.W.fnOf x x (zek (stAt p i)) (zdh (stAt p i)) (zak (stAt p i)) .none kV doc pm an cdv ct) ⟨us,[]⟩=pure (ps.zip us)):Def P w (whole h) mg base x k n F:=by
 obtain ⟨f,fd,m,FU⟩:=zoN T e i x hi hn;exact Def.mk m FU (FU.binds hb) (ok FU)
section
variable{X:Cx}{B G0:Hp}{e:Expr}{pos:Pos}{es:List Expr}
theorem pdf{k kk n:Nat}{F:List D->Option D}{g:M (List D)}{x:Str}{p2:Pos}(d:Def X.prog X.w X.K X.mg X.base x k n F)(hr:Room kk X.A)(hg:Gl X x)(ha:PA X (e::es) (tDs X.K B G0 g))(hk:k<=kk:=by decide)(hn:(e::es).length=n:=by rfl)
  (hdb:(x==("__debug__" : Str))=false:=by decide) (he:starEach (e::es) X.env=(false,eval e X.env)::starEach es X.env:=by rfl) (hpl:(backTo pos (starEach es X.env)).any (·.1)=false:=by rfl) :
  PE X (.Call (.Name x p2) (e::es) [] pos) (tD X.K B G0 (dFun n F g)):=zpx d (hr.mono hk) hg ha hn hdb he hpl
end
theorem zsk{q p:Program}{loose:List Str}{mean:ExcName->Option Value}{mg mb:Str->Option Value}{h:Heap}{ix:List Nat}{P:Program}{w:World}{k:Nat}{F:List D->Option D}{y:Str}{fa:Addr}(T:Top q loose mean mg mb h)(e:recsOf q=zhz p ix)(i:Nat)(x:Str)(hi:ix.contains i=true)(hn:zlS (stAt p i)=some x)(hfa:mg x=some (.ref fa))
  (hb:∀(kV doc pm:Value)(an:Option Addr)(cdv ct v:Value),bindArgs (PySem.W.fnOf x x (zek (stAt p i)) (zdh (stAt p i)) (zak (stAt p i)) .none kV doc pm an cdv ct) ⟨[v],[]⟩=pure [(y,v)])
  (ok:∀(base:Heap){f:Addr}{fd:FuncData},Fun (whole h) x x (stAt p i) f fd->FnOk P w (whole h) mg base CX0 k f fd [y] (spD (whole h) 1 F)) :
  ∃fd:FuncData,(∀(s:Shared)(v:Value),BindsTo s fd ⟨[v],[]⟩ [(y,v)])/\∀base:Heap,FnOk P w (whole h) mg base CX0 k fa fd [y] (spD (whole h) 1 F):=by
 obtain ⟨f,fd,m,FU⟩:=zoN T e i x hi hn
 cases hfa.symm.trans m
 exact ⟨fd,zlT FU hb,λbase=>ok base FU⟩
theorem znV{l:PySem.W.OpenLaw}{n k:Nat}{q:Program}{loose:List Str}{XP:(Str->Option Value)->Heap->Prop}{YP:World->Heap->Prop}{d:DefRec}{F:List D->Option D}{x:Str}
  (hn:l.most=some n) (hn2:n<=sizeLine) (hdf:d.params.defaults=[]) (hr:Room k callerA)
  (hF:∀(w:World)(s₀:Shared)(mg mb:Str->Option Value)(fa:Addr)(h:Heap),PySem.W.Ground q loose [] XP w s₀ mg mb h->mg d.name=some (.ref fa) ->
   ∃fd:FuncData,(∀(s:Shared)(u:Value),BindsTo s fd ⟨[u],[]⟩ [(x,u)])/\∀base:Heap,FnOk l.prog w (whole h) mg base CX0 k fa fd [x] (spD (whole h) 1 F))
  (hl:∀ns:List Int,ns.length<=n->F [.list (ns.map int)]=some (.bool true)) :
  PySem.W.WalkO q loose XP YP l.row.toRowW d [] (λf vs=>PySem.call f vs):=by
 refine Att.attach_call hn hdf λw s₀ s₁ mg mb fa o pm cd doc a vs ns G Y ho hd hcd hmg hobj hints hlen hg=>?_;obtain ⟨fd,hb,hF⟩:=hF w s₀ mg mb fa _ G hmg;exact znn (znT _) G.T.g G.T.b G.T.builtins G.T.nolimit hg hobj hints (QH hlen hn2) hr (λbase _ _=>hF base) hb (λH hO hS=>zqT hS (hl ns hlen)) λH e s' z=>z
section
variable{K:Frag}{G H H':Hp}{nm:Str}{C a:Addr}{bm:List Value}{vs:List V}{ds fs:List D}{dd:Option Addr}
end
section
variable{X:Cx}{B G0:Hp}{KX:XW}{e a b c:Expr}{pos p2 cpos:Pos}{es:List Expr}{st:Stmt}{sts:List Stmt}{nm x:Str}{k kk n:Nat}
end
section
variable{K:Frag}{B G0 G H:Hp}{σ:St}{Z:DEnv}
end
section
variable{X:Cx}{B G0:Hp}{KX:XW}{e a b c:Expr}{pos p2 cpos np hpos:Pos}{es:List Expr}{x n:Str}{k kk:Nat}
end
section
variable{P:Program}{w:World}{K:Frag}{mg:Str->Option Value}{base:Heap}{st:Stmt}{f f0 D:Addr}{fd fd0:FuncData}{q:Str}{p1 p2 p3 p4 p5 p6 p7 p8 p9 r1 r2 r3 r4 r5 r6 r7 r8 r9 q1 q2:Pos}{j1 j2:Nat}
end
section
variable{h h':Heap}{nm:Str}{own:Option Stmt}{C N:Addr}{bm:List Value}{mN:Str->Option Value}
end
section
variable{h h':Heap}{nm:Str}{own ownD:Option Stmt}{C N D ND:Addr}{bm:List Value}{mN mD:Str->Option Value}{M:Model}
end
section
variable{h:Heap}{mg:Str->Option Value}{p:Program}{l:XL0}{i j:Nat}{c:Str×Option Nat}{p1 p2 p3 p4 p5 p6 p7 p8 p9 r1 r2 r3 r4 r5 r6 r7 r8 r9 q1 q2:Pos}{j1 j2:Nat}
end
section
variable{α β:Type}{Z Z1 Z2 Z3 Z':DEnv}{f:M D}{s t:SM}{Q:Out->Prop}{d:D}{ds fs:List D}{nm x:Str}{o:Out}
end
section
variable{X:Cx}{B G0:Hp}{KX:XW}{e o a b c:Expr}{pos p2:Pos}{es rest:List Expr}
end
end DL
namespace L2
open PySem PySem.Spec PyProof.Rows
end L2
namespace DL
open PySem PySem.Spec L2
open PyProof.Rows hiding St
def znW:D->Option Key
 |.int i=>some (.inl i)
 |.str x=>some (.inr x)
 |_=>none
def zd9:List D->Option (List Key)
 |[]=>some []
 |d::r=>match znW d,zd9 r with
  |some k,some ks=>some (k::ks)
  |_,_=>none
section
variable{K:Frag}{B G0 G H:Hp}{σ:St}{Z:DEnv}
theorem zgD{d:D}{k:Key}(h:znW d=some k):d=kD k:=by
 cases d with
 |int i=>cases h;rfl
 |str x=>cases h;rfl
 |_=>cases h
theorem Rep.key_inv{v:V}{k:Key}(r:Rep K G v (kD k)):v=kV k:=by
 cases k with
 |inl i=>exact r.int_inv
 |inr x=>exact r.str_inv
end
section
variable{X:Cx}{B G0:Hp}{KX:XW}{e o a b c:Expr}{pos p2:Pos}{es rest:List Expr}
end
section
variable{X:Cx}{B G0:Hp}{KX:XW}{e o a b c:Expr}{pos p2 cpos:Pos}{es rest:List Expr}
end
section
variable{X:Cx}
end
end DL
namespace DL
open PySem PySem.Spec L2 PySem.SeqAt PySem.AutoSeq1
open PyProof.Rows hiding St
section
variable{X:Cx}{pins:List (Addr×Obj)}{s:Shared}{σ:L2.St}{G H:Hp}{A:Around}
end
section
variable{X:Cx}{pins:List (Addr×Obj)}{s:Shared}{σ:L2.St}{G H:Hp}{A:Around}
end
end DL
namespace DL
open PySem PySem.Spec L2
open PyProof.Rows hiding St
section
variable{X:Cx}{pins:List (Addr×Obj)}{s:Shared}{σ:L2.St}{G H:Hp}
end
section
variable{X:Cx}
end
section
variable{X:Cx}{B G0:Hp}{KX:XW}{e:Expr}{pos cpos:Pos}{sts sts2:List Stmt}
end
end DL
namespace L2
open PySem PySem.Spec PyProof.Rows
section
variable{prog:Program}{w:World}{A:Around}{E:Value->Shared->Prop}{s:Shared}{d it:Addr}{o:Obj}{es:Array DictEntry}{ep i:Nat}
theorem zpK{Q:Value->Shared->Prop}(hd:(d==sysModules)=false)(ho:s.heap.get? d=some o)(hc:o.ExactDict)(hdat:o.data=.dict es ep)
  (hQ:Q (.ref s.heap.objs.size) { s with heap:=s.heap.push { cls:=.type "dict_keyiterator", data:=.fields #[.ref d,.int 0 0,.int es.size 0,.int ep 0] } }):wpAny (model prog w) A (pyIter (.ref d)) Q E s:=by
 have hT:s.TypeIs (.ref d) "dict" := ⟨o,ho,hc.1⟩
 refine wpAny_pyIter_slot hT F.slot_dict_iter (JB F.slot_dict_iter hT F.entry_dict_iter ?_ (F.args_dict_iter_1 _));unfold Builtin.«dict.__iter__»;refine Qd ?_;unfold Builtin.Dict.dictSlotNone;refine Qd (wpAny_notOrdered_dict hT ?_);show wpAny _ _ (pure (Value.ref d)) _ _ s;refine Qh ?_;show wpAny _ _ (Builtin.Dict.showsAll d >>= _) _ _ s;unfold Builtin.Dict.showsAll;rw[QA (by rw[hd];exact Jk)];refine Qd (Qh ?_)
 refine Qd (wpAny_dictEntries ho hdat (Qd (wpAny_dictEpoch ho hdat ?_)))
 refine wpAny_bind (wpAny_newObj_type (wpAny_pure ⟨_,rfl, "dict_keyiterator", _,⟨_,Heap.get?_push_size _ rfl,rfl⟩,F.slot_dict_keyiterator_next.lookup,?_⟩));simpa[rawInt] using hQ
theorem zpL{Q:Option Value->Shared->Prop}(hit:s.heap.IsKeyIter it d i es.size ep)(hod:s.heap.get? d=some o)(hdd:o.data=.dict es ep)(hlt:i<es.size)
  (hQ:∀h',h'.IsKeyIter it d (i+1) es.size ep->Heap.SameBut it s.heap h'->Q (some es[i].key) { s with heap:=h' }):wpAny (model prog w) A (pyNext (.ref it)) Q E s:=by
 obtain ⟨oi,ho,hc,hd⟩:=id hit
 unfold pyNext;refine Qd (wpAny_attempt (wpAny_callSpecial?_slot (name:=Str.ofString "__next__") hit.typeIs Jw (JB Jw hit.typeIs F.entry_dict_keyiterator_next ?_ (F.args_dict_keyiterator_next_1 _))))
 refine Qd (Qh (Qd (Qd ?_)))
 first|refine Qd (Ju hit.typeIs (Qh (Qd (wpAny_fieldsOf ho hd ?_))))|refine Qd (wpAny_typeNameOf_keyiter hit.typeIs (Qh (Qd (wpAny_fieldsOf ho hd ?_))))
 have hown:Builtin.Dict_items.ownsTuple "dict_keyiterator" = false:=(by decide)
 simp only[hown,JE,J9];show wpAny _ _ (if (Value.ref d==Value.none)=true then _ else _) _ _ s;rw[QA (show ¬((Value.ref d==Value.none)=true) from Jk)];refine Qd (Qh (Qd (wpAny_dictEntries hod hdd ?_)))
 rw[if_neg (by simp)];refine wpAny_bind (wpAny_pure (wpAny_bind (wpAny_dictEpoch hod hdd ?_)));rw[if_neg (by simp)];refine wpAny_pure ?_
 simp only[show ¬((i:Int)<0) from by omega,J9,Qz,Jr hlt];refine Qd ?_
 first|refine Qd (Ju hit.typeIs (Qh (Qd (wpAny_isOneOf_keyiter hit.typeIs ?_))))|refine Qd (wpAny_typeNameOf_keyiter hit.typeIs (Qh (Qd (wpAny_isOneOf_keyiter hit.typeIs ?_))))
 show wpAny _ _ (setField (.ref it) 1 (rawInt ((i:Int)+1)) >>= _) _ _ s;refine wpAny_bind (wpAny_setField ho hd (by simp) ?_)
 have hit':(s.heap.update it (Obj.mapFields (·.setIfInBounds 1 (rawInt ((i:Int)+1))))).IsKeyIter it d (i+1) es.size ep:=⟨_,Heap.get?_update_self _ ho (Obj.isFreed_of_fields (Obj.data_mapFields hd _)),(Obj.cls_mapFields ..).trans hc,by rw[Obj.data_mapFields hd];simp[rawInt]⟩
 refine Qd (JC (Qd (wpAny_isOneOf_keyiter (s:={ s with heap:=s.heap.update it (Obj.mapFields (·.setIfInBounds 1 (rawInt ((i:Int)+1)))) }) hit'.typeIs ?_)));show wpAny _ _ (pure es[i].key) _ _ _;exact Qh (Qh ⟨_,rfl,Qh (hQ _ hit' (Heap.SameBut.update ..))⟩)
theorem zrc{Q:Option Value->Shared->Prop}(hh:A.handled=none)(hit:s.heap.IsKeyIter it d i es.size ep)(hod:s.heap.get? d=some o)(hdd:o.data=.dict es ep)(hge:es.size<=i)
  (hQ:∀h',Heap.ExtBut it s.heap h'->Q none { s with heap:=h' }):wpAny (model prog w) A (pyNext (.ref it)) Q E s:=by
 obtain ⟨oi,ho,hc,hd⟩:=id hit
 unfold pyNext;refine Qd (wpAny_attempt (wpAny_callSpecial?_slot (name:=Str.ofString "__next__") hit.typeIs Jw (JB Jw hit.typeIs F.entry_dict_keyiterator_next ?_ (F.args_dict_keyiterator_next_1 _))))
 refine Qd (Qh (Qd (Qd ?_)))
 first|refine Qd (Ju hit.typeIs (Qh (Qd (wpAny_fieldsOf ho hd ?_))))|refine Qd (wpAny_typeNameOf_keyiter hit.typeIs (Qh (Qd (wpAny_fieldsOf ho hd ?_))))
 have hown:Builtin.Dict_items.ownsTuple "dict_keyiterator" = false:=(by decide)
 simp only[hown,JE,J9];show wpAny _ _ (if (Value.ref d==Value.none)=true then _ else _) _ _ s;rw[QA (show ¬((Value.ref d==Value.none)=true) from Jk)];refine Qd (Qh (Qd (wpAny_dictEntries hod hdd ?_)))
 rw[if_neg (by simp)];refine wpAny_bind (wpAny_pure (wpAny_bind (wpAny_dictEpoch hod hdd ?_)));rw[if_neg (by simp)];refine wpAny_pure ?_
 simp only[show ¬((i:Int)<0) from by omega,J9,Qz,Array.getElem?_eq_none hge];refine Qd ?_
 first|refine Qd (Ju hit.typeIs (Qh ?_))|refine Qd (wpAny_typeNameOf_keyiter hit.typeIs (Qh ?_))
 show wpAny _ _ (setField (.ref it) 0 .none >>= _) _ _ s;refine wpAny_bind (wpAny_setField ho hd (by simp) ?_);show wpAny _ _ (newExc (.type "StopIteration") [] >>= _) _ _ _
 refine Qd ?_;simp only[newExc,newTuple];refine Qd (wpAny_newObj_type ?_ (by size_fits));refine Qd (m:=firstArgMember _ _) (wpAny_of_eq (a:=Value.none) (by first|rfl|(simp only[firstArgMember];rfl)) ?_)
 refine wpAny_newObj_type ?_ (by size_fits);simp only[raiseNew];refine Qd (wpAny_handled ?_);rw[show A.in1.handled=none from hh]
 refine Qd (Qh (wpAny_throw ?_));refine Qd (wpAny_isInstance (T := "StopIteration") (b:=true) ⟨_,Qx _ rfl,rfl⟩ isSubtype_stop (Qh (hQ _ (((Heap.SameBut.update ..).extBut.push _).push _))))
end
theorem KT.get{H:Hp}:∀{kvs:List (List Key×V)}{xs:List (List Key×Addr×Value)}{i:Nat}{p:List Key×V},KT H kvs xs->kvs[i]?=some p->∃q,xs[i]?=some q/\p.1=q.1/\H q.2.1=some (.tup (p.1.map kV))/\RelV p.2 q.2.2
 |_,_,0,_,.cons h _,e=>by cases e;exact ⟨_,rfl,h⟩
 |_,_,i+1,p,.cons _ t,e=>by
  obtain ⟨q,h1,h2⟩:=KT.get (i:=i) (p:=p) t (by simpa using e)
  exact ⟨q,by simpa using h1,h2⟩
def Itf(o:Obj)(d:Addr):It :=
 ⟨λi H=>∃kvs,H d=some (.frz o (.dT kvs))/\i<kvs.length,
  λi H v H'=>H'=H/\∃b,v=.ref b/\∀kvs,H d=some (.frz o (.dT kvs))->∃p,kvs[i]?=some p/\H b=some (.tup (p.1.map kV)),
  λi H=>∃kvs,H d=some (.frz o (.dT kvs))/\kvs.length<=i⟩
theorem KT.length{H:Hp}{kvs:List (List Key×V)}{xs:List (List Key×Addr×Value)}(r:KT H kvs xs):kvs.length=xs.length:=Paired.length r
theorem zoO{X:Cx}{pins:List (Addr×Obj)}{s:Shared}{σ:St}{H:Hp}{o:Obj}{es:Array DictEntry}{ep:Nat}{d:Addr}{kvs:List (List Key×V)}(hd:o.data=.dict es ep)(I:Inv X pins σ H s)(hq:H d=some (.frz o (.dT kvs))) :
  s.heap.get? d=some o/\o.ExactDict/\(d==sysModules)=false/\es.size=kvs.length/\∀i(h:i<es.size),∃p b,kvs[i]?=some p/\es[i].key=.ref b/\H b=some (.tup (p.1.map kV)):=by
 obtain ⟨hget,z,y,xs,rel,o',es',ep',h1,h2,h3,h4,h5⟩:=(show zb6 X.prog X.w H s.heap d (.frz o (.dT kvs)) from I.hok d _ hq)
 rw[hget] at h1;cases h1;rw[hd] at h3;cases h3
 have hl:es.size=kvs.length:=by
  have:=congrArg List.length h4
  rw[Qb,←KT.length rel] at this;simpa using this
 refine ⟨hget,h2,y,hl,λi h=>?_⟩;have hk:kvs[i]?=some kvs[i]:=Qf (by omega)
 obtain ⟨q,hx,e1,e2,e3⟩:=KT.get rel hk;refine ⟨_,q.2.1,hk,?_,e2⟩;have e:es.toList[i]?=some (entryOfKey (tupleKind (zb5 X.prog X.w)) q):=by rw[h4,Qe,hx];rfl
 have e':es.toList[i]?=some es[i]:=by rw[Array.getElem?_toList,Jr h]
 rw[e'] at e;rw[QY e]
 rfl
theorem zkc{P:Program}{w:World}{K:Frag}{tg:Expr}{o:Obj}{es:Array DictEntry}{ep:Nat}(hd:o.data=.dict es ep)(d it:Addr):Turn P w K tg (Itf o d) [it] it (λi h=>h.IsKeyIter it d i es.size ep) where
 mem:=by simp
 obj:=λi h st b hb=>by
  have e:b=it:=by simpa using hb
  subst e;obtain ⟨o,e,c,d⟩:=st;exact ⟨o,e,λv z=>by rw[d] at z;cases z⟩
 keep:=λi h h' st k=>by
  obtain ⟨o,e,c,d⟩:=st;exact ⟨o,k it (by simp) o e,c,d⟩
 item:=by
  intro X hP hw hK hc i pins s σ H E I hf st hg;subst hP hw hK;obtain ⟨kvs,hq,hi⟩:=hg;obtain ⟨hget,hx,hy,hl,hall⟩:=zoO hd I hq;have hi':i<es.size:=by omega
  obtain ⟨p,b,h1,h2,h3⟩:=hall i hi';obtain ⟨f0,f1,f2,f3,f4,f5⟩:=hf it (by simp)
  refine zpL st hget hd hi' λh' st' sb=>?_;have I1:Inv X pins σ H { s with heap:=h' }:=I.turned (t':=s.toks) (λb o hb e=>(sb.2 b hb).trans e) f0 f1 f3 f4 f5;obtain ⟨o',e,c,d'⟩:=id st';refine ⟨_,rfl,zkC (s:={ s with heap:=h' }) e c d' (by decide) ⟨.ref b,H,I1,by rw[h2];rfl,⟨rfl,b,rfl,λkvs' hq'=>?_⟩,st',λb hb=>(hf b hb).1⟩⟩
  rw[hq] at hq';cases hq';exact ⟨p,h1,h3⟩
 done:=by
  intro X hP hw hK hc i pins s σ H E I hf st hg;subst hP hw hK;obtain ⟨kvs,hq,hi⟩:=hg;obtain ⟨hget,hx,hy,hl,hall⟩:=zoO hd I hq;obtain ⟨f0,f1,f2,f3,f4,f5⟩:=hf it (by simp)
  exact zrc (I.ok.hd hc) st hget hd (by omega) λh' eb=>⟨rfl,I.turned (t':=s.toks) (λb o hb e=>eb b o hb e) f0 f1 f3 f4 f5⟩
 self:=λ_ _ _ _ _ st h=>wpAny_pyIter_keyiter st h
section
variable{X:Cx}{tg:Expr}
def iDct(tl:TE):TI:=λσ H R=>tl σ H λx H1=>∃a o kvs,x=.ref a/\H1 a=some (.frz o (.dT kvs))/\R (Itf o a) H1
theorem zrd{l:Expr}{tl:TE}(hl:PE X l tl):PI X tg l (iDct tl):=by
 intro pins s σ H R I h;refine thn (hl pins s σ H _ I h) λv s1 ⟨x,H1,I1,r1,q1⟩=>?_;obtain ⟨a,o,kvs,e,hq,q⟩:=q1;subst e;cases r1;obtain ⟨hget,z,y,xs,rel,o',es,ep,h1,h2,h3,_⟩:=(show zb6 X.prog X.w H1 s1.heap a (.frz o (.dT kvs)) from I1.hok a _ hq)
 rw[hget] at h1;cases h1;refine zpK y hget h2 h3 ?_;refine ⟨s1.heap.objs.size,[s1.heap.objs.size],_,_,H1,rfl,I1.kept (t':=s1.toks) λb o e=>Qj _ e,zkc h3 a _,⟨_,Qx _ rfl,rfl,rfl⟩,λb hb=>?_,q⟩;have e:b=s1.heap.objs.size:=by simpa using hb
 subst e;exact I1.fpOk (Qs _) (I1.hok.fresh (Qs _))
def tFrz(te:TE):TE:=λσ H Q=>te σ H λv H1=>∃a kvs,v=.ref a/\H1 a=some (.dT kvs)/\∀o,Q v (upd H1 a (.frz o (.dT kvs)))
theorem zre{e:Expr}{te:TE}(h:PE X e te):PE X e (tFrz te):=by
 intro pins s σ H Q I q;refine thn (h pins s σ H _ I q) λu s1 ⟨v,H1,I1,rv,a,kvs,ev,hq,q1⟩=>?_;subst ev;obtain ⟨z,y,xs,rel,o,es,ep,h1,h2⟩:=(show zb6 X.prog X.w H1 s1.heap a (.dT kvs) from I1.hok a _ hq)
 refine ⟨.ref a,_,?_,rv,q1 o⟩;refine zie (t':=s1.toks) I1 (by rw[hq];exact True.intro) (Heap.SameBut.refl _ _) ⟨o,h1⟩ ⟨h1,z,y,xs,KT.keeps rel λb ys e=>?_,o,es,ep,h1,h2⟩
 rw[zaI (zp9 e hq (by intro z;cases z))];exact e
def zrf(K:Frag)(td ty:TE):TE:=λσ H Q=>td σ H λx H1=>ty σ H1 λy H2=>∃a b kvs k v,x=.ref a/\y=.ref b/\Rd H2 a (.dT kvs)/\SqT K H2 b (k.map kV)/\valV kvs k=some v/\Q v H2
theorem znX{o i:Expr}{pos:Pos}{td ty:TE}(hu:X.A.units+1<cLine)(ho:PE X o td)(hi:PE X i ty)(hs:NoSl i):PE X (.Subscript o i pos) (zrf X.K td ty):=by
 intro pins s σ H Q I h;refine zpj PySem.F.slot_dict_getitem.lookup hs (thn (ho pins s σ H _ I h) λu s1 ⟨x,H1,I1,rx,q1⟩=>thn (hi pins s1 σ H1 _ I1 q1) λiv s2 ⟨y,H2,I2,ry,a,b,kvs,k,v,ex,ey,e,eb,l,q2⟩=>?_);subst ex ey;obtain rfl:u=Value.ref a:=rx;obtain rfl:iv=Value.ref b:=ry;obtain ⟨z,hd,xs,rel,dd⟩:=zqE I2.hok e;refine ⟨dd.typeIs,?_⟩;obtain ⟨w',hw,rw'⟩:=RelO.some_of (v:=v) (o:=(atKey xs k).map (·.2)) (by rw[←l];exact rel.val k)
 obtain ⟨p,hp,hp2⟩:=Option.map_eq_some_iff.mp hw;obtain ⟨its,rv,⟨ob,g1,g2,n,g3⟩,hz⟩:=I2.tuple eb;refine wpAny_getItem_heap (tupleKind_room_in1 hu) ⟨ob,its.toArray,n,g1,g2,g3,by simpa using ze2 rv⟩ dd hp ?_
 rw[hp2];exact ⟨v,H2,I2.tok _,rw',q2⟩
end
end L2
namespace DL
open PySem PySem.Spec L2
open PyProof.Rows hiding St
section
variable{K:Frag}{B G0 G H:Hp}{σ:St}{Z:DEnv}
def zdn(Z:DEnv):Bool:=Z.all λs=>match s with|some (.own _)=>false|some (.deep _ _)=>false|_=>true
theorem zdo(h:zdn Z=true){i:Nat}{ds:List D}(q:Z[i]?=some (some (.own ds))):False:=by
 have:=QW.mp h _ (Qp q)
 cases this
theorem zkd(h:zdn Z=true){i:Nat}{p:Pat}{d:D}(q:Z[i]?=some (some (.deep p d))):False:=by
 have:=QW.mp h _ (Qp q)
 cases this
theorem DpOk.no(h:zdn Z=true):DpOk K B G H σ Z:=.of (λ_ _ _ q=>zkd h q) λ_ _ q=>zdo h q
theorem zhA{i:Nat}{d:D}(h:zdn Z=true):zdn (Z.set i (some (.pub d)))=true:=by
 unfold zdn;rw[QW];intro s hs;rcases List.mem_or_eq_of_mem_set hs with h1|h1
 ·exact QW.mp h s h1
 ·subst h1;rfl
theorem EOk.rebaseN(k:EOk K B G0 G H σ Z)(h:zdn Z=true):EOk K H G G H σ Z where
 bh:=.refl _
 gh:=k.gh
 g0:=.refl _
 np:=λ_ _ _ n=>n
 len:=k.len
 pub:=k.pub
 own:=λi ds q=>(zdo h q).elim
 sep:=k.sep
 dp:=.no h
theorem EOk.heap{H':Hp}(k:EOk K B G0 G H σ Z)(h:zdn Z=true)(g:Same G H'):EOk K H' G G H' σ Z where
 bh:=.refl _
 gh:=g
 g0:=.refl _
 np:=λ_ _ _ n=>n
 len:=k.len
 pub:=k.pub
 own:=λi ds q=>(zdo h q).elim
 sep:=k.sep
 dp:=.no h
theorem zfr:∀(k:List Key),Reps K G (k.map kV) (k.map kD)
 |[]=>.nil
 |.inl i::r=>.cons (.int i) (zfr r)
 |.inr x::r=>.cons (.str x) (zfr r)
theorem zjl:∀{k:List Key}{ws:List V},Reps K G ws (k.map kD)->ws=k.map kV
 |[],_,.nil=>rfl
 |k::r,_,.cons h t=>by rw[QB,←zjl t,h.key_inv]
theorem znY{b:Addr}{ys:List V}(gh:Same G H)(hb:H b=some (.tup ys)):∃G',Ext G H G' H/\SqT K G' b ys:=by
 cases q:G b with
 |some u=>
  have:=gh b u q
  rw[hb] at this;cases this;exact ⟨G,.refl gh,SqT.of q⟩
 |none=>
  refine ⟨upd G b (.tup ys),⟨.refl _,zaO q,λc u e=>?_,λc u e n=>?_⟩,SqT.of zaE⟩
  ·by_cases z:c=b
   ·subst z;rw[zaE] at e;cases e;exact hb
   ·rw[zaI z] at e;exact gh c u e
  ·by_cases z:c=b
   ·subst z;rw[hb] at e;cases u <;> cases e
   ·rw[zaI z];exact n
theorem zlV{ad:Addr}{o:Obj}{ks:List (List Key)}{vs:List V}(h:G ad=some (.frz o (.dT (ks.zip vs))))(hl:ks.length=vs.length):zem K (Itf o ad) (ks.map tkD) G where
 go:=λi G1 H s1 s2 hi=>by
  rw[Qb] at hi;exact ⟨_,s2 _ _ (s1 _ _ h),by rw[JK];omega⟩
 stop:=λi G1 H s1 s2 hi=>by
  rw[Qb] at hi;exact ⟨_,s2 _ _ (s1 _ _ h),by rw[JK];omega⟩
 yld:=λi G1 H x H' d s1 s2 e y=>by
  obtain ⟨rfl,b,rfl,y⟩:=y;obtain ⟨p,hp,hb⟩:=y _ (s2 _ _ (s1 _ _ h));rw[Qe] at e
  have hp1:ks[i]?=some p.1:=by
   rw[List.getElem?_zip_eq_some] at hp;exact hp.1
  rw[hp1] at e;cases e;obtain ⟨G',ex,sq⟩:=znY (K:=K) s2 hb;exact ⟨G',ex,.tup sq (zfr p.1)⟩
def kOf:D->Option (List Key)
 |.tuple ds=>zd9 ds
 |_=>none
def unT:List (D×D)->Option (List D)
 |(.bool true,.none)::r=>some (r.map (·.1))
 |_=>none
def zlW:D->Option (List D)
 |.dict kvs=>unT kvs
 |_=>none
def znZ(f:M D):M (List D):=zax f λx=>mOpt (zlW x)
def zke:D->D->Option D
 |.dict ((.bool true,.none)::r),y=>match kOf y with
  |some k=>(r.find? λp=>decide (kOf p.1=some k)).map (·.2)
  |none=>none
 |_,_=>none
theorem Rep.prs_inv{v:V}{r:List (D×D)}(h:Rep K G v (.dict ((.bool true,.none)::r))):∃(a:Addr)(o:Obj)(ks:List (List Key))(vs:List V)(ds:List D),v=.ref a/\r=(ks.map tkD).zip ds/\ks.length=ds.length/\G a=some (.frz o (.dT (ks.zip vs)))/\Reps K G vs ds:=by
 cases h with
 |@dct ad ks vs ds _ e hne hl _ _=>
  cases ks with
  |nil=>exact absurd rfl hne
  |cons k ks=>
   cases ds with
   |nil=>cases hl
   |cons d ds=>
    have e1:=(Prod.mk.inj (List.cons.inj e).1).1
    cases k <;> cases e1
 |@dtt ad o ks vs ds _ e hl h r=>exact ⟨ad,o,ks,vs,ds,rfl,(List.cons.inj e).2,hl,h,r⟩
theorem zes:∀(k:List Key),zd9 (k.map kD)=some k
 |[]=>rfl
 |.inl i::r=>by rw[QB,zd9];show (match some (Sum.inl i),zd9 (r.map kD) with|some k,some ks=>some (k::ks)|_,_=>none)=_;rw[zes r]
 |.inr x::r=>by rw[QB,zd9];show (match some (Sum.inr x),zd9 (r.map kD) with|some k,some ks=>some (k::ks)|_,_=>none)=_;rw[zes r]
theorem zf0:∀{ds:List D}{k:List Key},zd9 ds=some k->ds=k.map kD
 |[],_,h=>by cases h;rfl
 |d::r,k,h=>by
  rw[zd9] at h
  split at h
  ·rename_i k1 ks h1 h2
   cases h;rw[QB,←zf0 h2,←zgD h1]
  ·cases h
theorem zrg(k:List Key):kOf (tkD k)=some k:=zes k
theorem zjm{k:List Key}{d:D}:∀{ks:List (List Key)}{vs:List V}{ds:List D},Reps K G vs ds->(((ks.map tkD).zip ds).find? λp=>decide (kOf p.1=some k)).map (·.2)=some d->∃v,valV (ks.zip vs) k=some v/\Rep K G v d
 |[],vs,ds,_,e=>by simp at e
 |q::ks,_,_,.nil,e=>by simp at e
 |q::ks,_,_,.cons (v:=v) (vs:=vs) (ds:=ds) r t,e=>by
  rw[QB,JW,List.find?_cons,zrg] at e;rw[JW]
  by_cases h:q=k
  ·subst h
   simp only[decide_true] at e;cases e;exact ⟨v,zgh rfl,r⟩
  ·have h':¬(some q=some k):=λz=>h (QY z)
   simp only[h',decide_false] at e;rw[zeS (by exact h)]
   exact zjm t e
end
section
variable{X:Cx}{B G0:Hp}{KX:XW}{e a b c tg:Expr}{pos:Pos}
theorem zpM{f:M D}(h:PE X e (tD X.K B G0 f)):PI X tg e (iD X.K B G0 (znZ f)):=piof (zrd h) λσ H R q=>tM.toI (R0:=Rep X.K) q λv H' G' Z' x k r a=>by
 cases z:zlW x with
 |none=>rw[z] at a;exact a.elim
 |some ds=>
  rw[z] at a;unfold zlW at z
  split at z
  ·unfold unT at z
   split at z
   ·cases z
    obtain ⟨ad,o,ks,vs,ds,rfl,rfl,hl,hg,rr⟩:=r.prs_inv;refine ⟨ad,o,_,rfl,k.gh _ _ hg,a _ G' H' k (.refl _) ?_⟩;rw[List.map_fst_zip (by rw[Qb];omega)]
    exact zlV hg (by rw[rr.length];exact hl)
   ·cases z
  ·cases z
theorem zlX(hu:X.A.units+64<cLine){f g:M D}(ha:PE X a (tD X.K B G0 f))(hb:PE X b (tD X.K B G0 g))(hs:NoSl b:=by intro _ _;rfl):PE X (.Subscript a b pos) (tD X.K B G0 (dBin zke f g)) :=
 peof (znX (by omega) ha hb hs) λσ H Q q=>tM.two q λv u H2 G Z x y k rx ry a=>by
  obtain ⟨d,e,a1⟩:=a.opt;unfold zke at e
  split at e
  ·rename_i r
   split at e
   ·rename_i ky hk
    obtain ⟨ad,o,ks,vs,ds,rfl,rfl,hl,hg,rr⟩:=rx.prs_inv
    cases y with
    |tuple ys=>
     have hy:=zf0 hk;subst hy;obtain ⟨bd,ws,rfl,hsq,rw'⟩:=ry.tup_inv;have hws:ws=ky.map kV:=zjl rw';subst hws;obtain ⟨w,hw,rw2⟩:=zjm rr e;exact ⟨ad,bd,_,ky,w,rfl,rfl,.inr ⟨o,k.gh _ _ hg⟩,zdF k.gh hsq,hw,a1.now k rw2⟩
    |_=>cases hk
   ·cases e
  ·cases e
end
def zlY(acc:List (List Key×D))(k:List Key):Bool:=acc.all λp=>decide (p.1≠k)
theorem zn0{acc:List (List Key×D)}{k:List Key}(h:zlY acc k=true):k∉acc.map (·.1):=λz=>by
 obtain ⟨p,hp,e⟩:=Qt.mp z
 have:=Qa (QW.mp h p hp)
 exact this e
def isNo:Option (Option Sl)->Bool
 |some none=>true
 |_=>false
theorem zpN{x:Option (Option Sl)}(h:isNo x=true):x=some none:=by
 unfold isNo at h
 split at h
 ·rfl
 ·cases h
def zfs(i1 i2:Nat)(g:M D):List D->List (List Key×D)->DEnv->Option (List (List Key×D))
 |[],acc,_=>some acc
 |.tuple [x,y]::r,acc,Z=>match znW x,znW y with
  |some kx,some ky=>match g ((Z.set i1 (some (.pub x))).set i2 (some (.pub y))) with
   |.ok v Z'=>if acc.length<1000000/\zlY acc [kx,ky]=true/\zdn Z'=true then zfs i1 i2 g r (acc++[([kx,ky],v)]) Z' else none
   |.bad=>none
  |_,_=>none
 |_::_,_,_=>none
def prsD(acc:List (List Key×D)):D:=.dict (pdD (acc.map (·.1)) (acc.map (·.2)))
def sPrs(j i1 i2:Nat)(f:M (List D))(g:M D):SM:=λZ=>
 if zdn Z=true/\isNo Z[j]?=true/\i1<Z.length/\i2<Z.length then match f Z with
  |.ok ds Z1=>if zdn Z1=true then match zfs i1 i2 g ds [] Z1 with
   |some acc=>.rt (prsD acc)
   |none=>.bad
   else .bad
  |.bad=>.bad
 else .bad
section
variable{X:Cx}{B G0:Hp}{KX:XW}{e a b c tg iter:Expr}{pos:Pos}
theorem zrh{j i1 i2:Nat}{x y z:Str}{f:M (List D)}{g:M D}{p1 p2 p3 p4 p5 p6 p7 p8 p9 pa pb pc pd pe:Pos}{k1 k2}
  (hu:X.A.units+64<cLine) (hp:PassesOwn (model X.prog X.w) X.A X.env X.xe) (hc:X.calm=true) (hN:X.N.Nodup)
  (hj:X.N[j]?=some x) (h1:X.N[i1]?=some y) (h2:X.N[i2]?=some z) (hx:Loc X.env.scope x) (hy:Loc X.env.scope y) (hz:Loc X.env.scope z)
  (vx:∀q,PE X (.Name x q) (tVar j)) (vy:∀q,PE X (.Name y q) (tVar i1)) (vz:∀q,PE X (.Name z q) (tVar i2))
  (n1:j≠i1) (n2:j≠i2) (n3:i1≠i2)
  (hi:∀B' G',PI X (.Tuple [.Name y p3,.Name z p4] k1 p5) iter (iD X.K B' G' f)) (hg:∀B' G',PE X e (tD X.K B' G' g))
  (hfx:X.fn x=true∨X.env.scope.names.lookup x=some .local) (hfy:X.fn y=true∨X.env.scope.names.lookup y=some .local) (hfz:X.fn z=true∨X.env.scope.names.lookup z=some .local)
  (hs1:swapsWith (.Dict [] [] p2) (some (.Name x p1)) pa.line X.env=pure false:=by rfl)
  (hs2:swapsWith e (some (.Subscript (.Name x p6) (.Tuple [.Name y p7,.Name z p8] k2 p9) pb)) pc.line X.env=pure false:=by rfl)
  (hs3:(assignEach [.Name y p3,.Name z p4] X.env).map (·.2)=assign (.Name y p3) X.env::(assignEach [.Name z p4] X.env).map (·.2):=by rfl)
  (hs4:(assignEach [.Name z p4] X.env).map (·.2)=assign (.Name z p4) X.env::(assignEach [] X.env).map (·.2):=by rfl)
  (hs5:(assignEach [.Name y p3,.Name z p4] X.env).length=2:=by rfl) (hs6:(assignEach [.Name y p3,.Name z p4] X.env).findIdx? (·.1)=none:=by rfl)
  (hs7:starEach [.Name y p7,.Name z p8] X.env=(false,eval (.Name y p7) X.env)::starEach [.Name z p8] X.env:=by rfl)
  (hs8:starEach [.Name z p8] X.env=[(false,eval (.Name z p8) X.env)]:=by rfl)
  (hs9:∀x,foldedSetIterable iter X.env x=pure x:=by intro _;rfl) :
  PSs X [.Assign [.Name x p1] (.Dict [] [] p2) pa,.For (.Tuple [.Name y p3,.Name z p4] k1 p5) iter [.Assign [.Subscript (.Name x p6) (.Tuple [.Name y p7,.Name z p8] k2 p9) pb] e pc] [] pd,.Return (some (.Name x pe)) pos] (tS X.K B G0 KX (sPrs j i1 i2 f g)):=by
 have L1:=zkB (pos:=pa) hN hj hx (znq (X:=X) (pos:=p2)) hs1 hfx;have hi':PI X (.Tuple [.Name y p3,.Name z p4] k1 p5) iter (λσ H R=>∃B' G',iD X.K B' G' f σ H R):=λpins s σ H R I ⟨B',G',q⟩=>hi B' G' pins s σ H R I q;have hg':PE X e (λσ H Q=>∃B' G',tD X.K B' G' g σ H Q):=λpins s σ H Q I ⟨B',G',q⟩=>hg B' G' pins s σ H Q I q;have T:=zox (X:=X) (pos:=p5) (k:=k1) hc (zgf (zam (pos:=p3) hN h1 hy hfy) (zgf (zam (pos:=p4) hN h2 hz hfz) zkA hs4) hs3) hs5 hs6;have P:=zpk (X:=X) (pos:=pc) (pos':=pb) (by omega) (vx p6) (zoB (pos:=p9) (x1:=k2) (zcM (vy p7) (zcM (vz p8) zeC hs8) hs7)) hg' hs2
 have F:=zoy (pos:=pd) hp hc hi' T (zh8 P) hs9;have R:=zow (pos:=pos) (zre (vx pe));refine zpm (zge L1 (zge F (zh8 R))) λDn σ H ⟨G,Z,k,a⟩=>?_;unfold sPrs at a
 split at a
 case isFalse=>exact a.elim
 case isTrue hcond=>
 obtain ⟨c1,c2,c3,c4⟩:=hcond;have c2:=zpN c2;intro p hp0;show ∃B' G',iD X.K B' G' f (σ.set j (some (.ref p))) (upd H p (.dT [])) _;have hgp:G p=none:=k.gh.free hp0
 have hbp:B p=none:=by
  cases q:B p with
  |none=>rfl
  |some u=>have:=k.bh p u q;rw[hp0] at this;cases this
 have hjl:j<Z.length:=(Qg.mp c2).1;have sgH:Same G (upd H p (.dT [])):=k.gh.trans (zaO hp0)
 have k1:EOk X.K (upd H p (.dT [])) G G (upd H p (.dT [])) (σ.set j (some (.ref p))) Z:=by
  refine ⟨.refl _,sgH,.refl _,λ_ _ _ n=>n,by rw[Q3];exact k.len,λi d q=>?_,λi ds q=>(zdo c1 q).elim,λi l ad es fs q _ _ _=>(zdo c1 q).elim,.no c1⟩
  have z:j≠i:=λz=>by subst z;rw[c2] at q;cases q
  rw[Qo z];exact k.pub i d q
 have hpj:(σ.set j (some (V.ref p)))[j]?=some (some (.ref p)):=QC (by rw[←k.len];exact hjl)
 have ex0:Ext G0 B G (upd H p (.dT [])):=k.exit.trans (Ext.hid k.gh hp0);refine ⟨_,_,G,Z,k1,?_⟩
 cases zf:f Z with
 |bad=>rw[zf] at a;exact a.elim
 |ok ds Z1=>
 rw[zf] at a;dsimp only at a ⊢
 split at a
 case isFalse=>exact a.elim
 case isTrue c5=>
 cases zl:zfs i1 i2 g ds [] Z1 with
 |none=>rw[zl] at a;exact a.elim
 |some accF=>
 rw[zl] at a;dsimp only at a;intro J G1 H1 kk s1 it;have hp1:H1 p=some (.dT []):=kk.bh p _ zaE;have hg1:G1 p=none:=kk.np p (.t []) zaE hgp
 refine ⟨λi m σ' H'=>m=ds.length-i/\∃G' Z' acc vs,EOk X.K H' G' G' H' σ' Z'/\Same G1 G'/\zdn Z'=true/\Z'.length=Z.length/\σ'[j]?=some (some (.ref p))/\H' p=some (.dT ((acc.map (·.1)).zip vs))/\Reps X.K G' vs (acc.map (·.2))/\G' p=none/\Ext G0 B G' H'/\zfs i1 i2 g (ds.drop i) acc Z'=some accF,
  ⟨ds.length,by omega,G1,Z1,[],[],kk.rebaseN c5,.refl _,c5,by rw[kk.len,k1.len],hpj,hp1,.nil,hg1,ex0.trans kk.exit,by rw[List.drop_zero];exact zl⟩,?_⟩
 rintro i m σ' H' ⟨rfl,G',Z',acc,vs,k',s',c6,c6',hpj',hp',rv,hg'',ex',hl⟩
 by_cases hi:i<ds.length
 ·right
  refine ⟨it.go i G' H' s' k'.gh hi,λσ2 H2=>∃G' Z' acc vs,EOk X.K H2 G' G' H2 σ2 Z'/\Same G1 G'/\zdn Z'=true/\Z'.length=Z.length/\σ2[j]?=some (some (.ref p))/\H2 p=some (.dT ((acc.map (·.1)).zip vs))/\Reps X.K G' vs (acc.map (·.2))/\G' p=none/\Ext G0 B G' H2/\zfs i1 i2 g (ds.drop (i+1)) acc Z'=some accF,λσ2 H2 h2=>⟨ds.length-(i+1),by omega,rfl,h2⟩,λxv H2 yl=>?_⟩
  obtain ⟨G2,ex,rx⟩:=it.yld i G' H' xv H2 ds[i] s' k'.gh (Qf hi) yl;rw[Jj hi] at hl;generalize hdi:ds[i]=di at hl rx;unfold zfs at hl
  split at hl
  ·rename_i heq;cases heq
  ·rename_i acc Z' _ _ _ dx dy r heq
   injection heq with he1 he2;subst he1 he2
   split at hl
   ·rename_i kx ky hkx hky
    obtain ⟨ad,ws,rfl,hsq,rws⟩:=rx.tup_inv
    cases rws with
    |cons ra rws=>
    cases rws with
    |cons rb rws=>
    cases rws;rename_i v1 v2
    have ev1:=zgD hkx;have ev2:=zgD hky;subst ev1 ev2;have ew1:=ra.key_inv;have ew2:=rb.key_inv;subst ew1 ew2;refine ⟨ad,_,rfl,zdF ex.gh hsq,rfl,_,_,rfl,_,_,rfl,rfl,?_⟩;have k2:EOk X.K H' G' G2 H2 σ' Z':=k'.ext ex;have k3:=(k2.setPub (i:=i1) ra (by rw[c6'];exact c3)).setPub (i:=i2) rb (by rw[Q3,c6'];exact c4)
    have c7:zdn ((Z'.set i1 (some (.pub (kD kx)))).set i2 (some (.pub (kD ky))))=true:=zhA (zhA c6);have hs2:H2 p=some (.dT ((acc.map (·.1)).zip vs)):=ex.h p _ hp';have hg2:G2 p=none:=ex.np p (.t _) hp' hg'';refine ⟨_,_,G2,_,k3.rebaseN c7,?_⟩
    cases zg:g ((Z'.set i1 (some (.pub (kD kx)))).set i2 (some (.pub (kD ky)))) with
    |bad=>rw[zg] at hl;cases hl
    |ok dv Z4=>
    rw[zg] at hl;dsimp only at hl
    split at hl
    case isFalse=>cases hl
    case isTrue hcc=>
    obtain ⟨d1,d2,d3⟩:=hcc;have d2:=zn0 d2;intro v G4 H4 k4 s4 rv4;have lj:j<σ'.length:=(Qg.mp hpj').1;have l1:i1<σ'.length:=by rw[←k'.len,c6'];exact c3
    have l2:i2<σ'.length:=by rw[←k'.len,c6'];exact c4
    refine ⟨.ref p,by rw[Qo n2.symm,Qo n1.symm];exact hpj',?_⟩
    refine ⟨_,by rw[Qo n3.symm];exact QC l1,_,QC (by rw[Q3];exact l2),(show 2<=sizeLine by decide),λq hq=>?_⟩
    have hp4:H4 p=some (.dT ((acc.map (·.1)).zip vs)):=k4.bh p _ hs2;have hqp:p≠q:=zaT hp4 hq;have hg4:G4 p=none:=k4.np p (.t _) hs2 hg2;have hgq:G4 q=none:=k4.gh.free hq;have hvl:vs.length=acc.length:=by rw[rv.length,Qb]
    have hnone:valV ((acc.map (·.1)).zip vs) [kx,ky]=none:=by
     have key:∀(ks:List (List Key))(us:List V),[kx,ky]∉ks->valV (ks.zip us) [kx,ky]=none:=by
      intro ks
      induction ks with
      |nil=>intro us _;rfl
      |cons k0 kr ih=>
       intro us hn
       cases us with
       |nil=>rfl
       |cons u0 ur=>
        rw[JW,zeS (by intro z;exact hn (by rw[←z];exact Qm))]
        exact ih ur λz=>hn (Qk _ z)
     exact key _ _ d2
    refine ⟨p,_,rfl,DPut.t (k:=[kx,ky]) (by rw[zaI hqp];exact hp4) zaE (by rw[JK,Qb,sizeLine_eq];omega),?_⟩
    rw[zno _ hnone]
    have sg6:Same G4 (upd (upd H4 q (.tup [kV kx,kV ky])) p (.dT ((acc.map (·.1)).zip vs++[([kx,ky],v)]))):=λbb u e=>by
     rw[zaI (zaT e hg4),zaI (zaT e hgq)];exact k4.gh bb u e
    refine ⟨G4,Z4,acc++[([kx,ky],dv)],vs++[v],k4.heap d3 sg6,(s'.trans ex.g).trans s4,d3,?_,?_,?_,?_,hg4,?_,hl⟩
    ·rw[k4.len,Q3,Q3,←k'.len,c6']
    ·rw[Qo n2.symm,Qo n1.symm];exact hpj'
    ·rw[zaE,QF,List.zip_append (by rw[Qb,hvl])];rfl
    ·rw[QF];exact Reps.append (rv.mono (ex.g.trans s4)) (.cons rv4 .nil)
    ·have e4:Ext G0 B G4 H4:=(ex'.trans ex).trans k4.exit
     refine ⟨λbb u e=>?_,e4.g,sg6,e4.np⟩;have hb4:=e4.h bb u e;rw[zaI (zaT e hbp),zaI (zaT hb4 hq)];exact hb4
   ·cases hl
  ·cases hl
 ·left
  refine ⟨it.stop i G' H' s' k'.gh (by omega),.ref p,hpj',p,_,rfl,hp',λo=>?_⟩
  rw[List.drop_eq_nil_of_le (by omega)] at hl
  have hl:some acc=some accF:=hl;have hl:=QY hl;subst hl;refine a (.ref p) (upd G' p (.frz o (.dT ((acc.map (·.1)).zip vs)))) _ ⟨λbb u e=>?_,ex'.g.trans (zaO hg''),λbb u e=>?_,λbb u e n=>?_⟩ ?_
  ·rw[zaI (zaT e hbp)];exact ex'.h bb u e
  ·by_cases zz:bb=p
   ·subst zz;rw[zaE] at e ⊢;exact e
   ·rw[zaI zz] at e ⊢;exact k'.gh bb u e
  ·rw[zaI (zaT e hbp)];exact ex'.np bb u e n
  ·exact .dtt rfl (by rw[Qb,Qb]) zaE (rv.mono (zaO hg''))
end
section
variable{X:Cx}
def zdJ:List Int->Int
 |[]=>0
 |[n]=>n
 |n::r=>if zdJ r<n then zdJ r else n
theorem zft:∀{ns:List Int},0<ns.length->zdJ ns∈ns
 |[n],_=>Q0.2 rfl
 |n::m::r,_=>by
  have ih:=zft (ns:=m::r) (Ud _);unfold zdJ;split
  ·exact Qk _ ih
  ·exact Qm ..
theorem zjn:∀{ns:List Int}{a:Int},a∈ns->zdJ ns<=a
 |[n],a,h=>by rw[Q0.1 h];exact QT _
 |n::m::r,a,h=>by
  have ih:∀b,b∈m::r->zdJ (m::r)<=b:=λb hb=>zjn hb;unfold zdJ;rcases QR.1 h with e|h
  ·subst e;split <;> omega
  ·have:=ih a h;split <;> omega
theorem zn1{ns:List Int}{M:Int}(h1:M∈ns)(h2:∀a,a∈ns->M<=a):zdJ ns=M :=
 JL (zjn h1) (h2 _ (zft (JV h1)))
theorem zlZ(hc:X.calm=true):zc1 X (.builtin "min") (λxs H Q=>∃l,∃ns:List Int,xs=[.ref l]/\SqL X.K H l (ns.map V.int)/\0<ns.length/\Q (.int (zdJ ns)) H):=by
 intro pins s σ H xs us Q I rx h;obtain ⟨l,ns,rfl,hq,hb,q⟩:=h;obtain ⟨u,rfl,ru⟩:=rx.one;cases ru;obtain ⟨its,rv,p,hz⟩:=I.list hq;have hi:=zb0 rv;obtain ⟨ys,e⟩:=hi.allInts.items
 have hns:ns=ys.toList.map (·.1):=by
  rw[←hi.numsOf,←nums_intItems,←e]
 have hsz:0<ys.size:=by
  rw[hns,Qb,Jg] at hb;exact hb
 have hl:=p.isList;rw[e] at hl;refine min_intList (I.ok.hd hc) hl hsz λv h' tk hv hk=>?_;obtain ⟨t,rfl⟩:=intItems_at hv;obtain ⟨h1,h2⟩:=argBest_lt (numAt ys) (ys.size-1);refine ⟨.int (zdJ ns),H,I.kept hk,⟨t,?_⟩,q⟩;rw[zn1 (M:=_) ?_ ?_]
 ·rw[hns,numAt_eq];exact getD_mem (by rw[Qb,Jg];omega)
 ·intro a ha
  rw[hns] at ha;obtain ⟨j,hj,rfl⟩:=mem_getD ha;rw[Qb,Jg] at hj;rw[←numAt_eq];exact h2 j (by omega)
def zkf:List D->Option D
 |[.list ds]=>(match zbM ds with
  |some ns=>if 0<ns.length then some (.int (zdJ ns)) else none
  |none=>none)
 |_=>none
theorem zl0{xs:List D}{d:D}(h:zkf xs=some d):∃ds ns,xs=[.list ds]/\zbM ds=some ns/\0<ns.length/\d=.int (zdJ ns):=by
 unfold zkf at h
 split at h
 ·rename_i ds
  cases z:zbM ds with
  |none=>rw[z] at h;cases h
  |some ns=>
   rw[z] at h;dsimp only at h
   split at h
   ·rename_i c
    cases h;exact ⟨ds,ns,rfl,z,c,rfl⟩
   ·cases h
 ·cases h
theorem zri(hc:X.calm=true):zdf X (.builtin "min") zkf:=by
 refine ⟨_,zlZ hc,λvs G H ds d Q s r e k=>?_⟩;obtain ⟨ds,ns,rfl,z,c,rfl⟩:=zl0 e;obtain ⟨v,rfl,q1⟩:=r.one_inv;obtain ⟨l,ws,rfl,h1,r1⟩:=q1.lst_inv
 have:=zb8 r1 z
 subst this;exact ⟨l,ns,rfl,s.seq h1,c,k _ G H (.refl s) (.int _)⟩
theorem zn2{ns:List Int}(h:0<ns.length):zkf [.list (ns.map .int)]=some (.int (zdJ ns)):=by
 unfold zkf;simp only[zcj,Qn h]
end
end DL
namespace L2
open PySem PySem.Spec PyProof.Rows
end L2
namespace DL
open PySem PySem.Spec L2
open PyProof.Rows hiding St
section
variable{X:Cx}{B G0:Hp}{KX:XW}{e1 e2 e3:Expr}{pos:Pos}
end
section
variable{X:Cx}{B G0:Hp}{e:Expr}{pos:Pos}{es:List Expr}{st:Stmt}{sts:List Stmt}
end
section
variable{prog:Program}{w:World}{A:Around}{E:Value->Shared->Prop}{s:Shared}
end
end DL
namespace L2
open PySem PySem.Spec PyProof.Rows
section
variable{X:Cx}
end
end L2
namespace DL
open PySem PySem.Spec L2
open PyProof.Rows hiding St
section
variable{X:Cx}{B G0:Hp}{e a b c tg:Expr}{pos:Pos}{es rest:List Expr}
end
theorem EOk.lent{K:Frag}{B G0 G H:Hp}{σ:St}{Z:DEnv}(k:EOk K B G0 G H σ Z):EOk K H H H H σ (zcA Z) where
 bh:=.refl _
 gh:=.refl _
 g0:=.refl _
 np:=λ_ _ e n=>by rw[n] at e;cases e
 len:=by unfold zcA;rw[Qb];exact k.len
 pub:=λi d e=>by
  rcases zg8 e with e2|⟨ds,rfl,e2⟩|⟨p,e2⟩
  ·exact k.tree (by unfold zhx;rw[e2])
  ·exact k.tree (by unfold zhx;rw[e2])
  ·exact k.tree (by unfold zhx;rw[e2])
 own:=λi ds e=>(zcR e).elim
 sep:=λi j a ds es e=>(zcR e).elim
 dp:=.of (λ_ _ _ q=>zfQ q) λ_ _ q=>zcR q
section
variable{X:Cx}{B G0:Hp}{KX:XW}{e a b c tg iter:Expr}{pos:Pos}
end
end DL
namespace L2
open PySem PySem.Spec PyProof.Rows
section
variable{X:Cx}
end
end L2
namespace DL
open PySem PySem.Spec L2
open PyProof.Rows hiding St
section
variable{X:Cx}{B G0:Hp}{e a b c tg:Expr}{pos:Pos}{es rest:List Expr}
end
section
variable{prog:Program}{w:World}{A:Around}{E:Value->Shared->Prop}{s:Shared}
end
section
variable{X:Cx}{B G0:Hp}{e a b c:Expr}{pos p2 p3:Pos}
end
section
variable{X:Cx}{B G0:Hp}{KX:XW}{e o a b c tg i:Expr}{pos p2:Pos}{es rest:List Expr}{te to ti:TE}
end
section
variable{prog:Program}{w:World}{A:Around}{E:Value->Shared->Prop}{s:Shared}
end
section
variable{prog:Program}{w:World}{A:Around}{E:Value->Shared->Prop}
variable{K:Type}[DecidableEq K]{knd:KeyKind prog w K}
end
section
variable{prog:Program}{w:World}{A:Around}{E:Value->Shared->Prop}{h:Heap}{g:Array GenState}{d:Drawn}{t:Nat}{os:OsState}{a:Addr}{o:Obj}
end
section
variable{prog:Program}{w:World}{A:Around}{E:Value->Shared->Prop}
variable{K:Type}[DecidableEq K]{knd:KeyKind prog w K}
end
end DL
namespace L2
open PySem PySem.Spec PyProof.Rows
section
variable{X:Cx}
end
end L2
namespace DL
open PySem PySem.Spec L2
open PyProof.Rows hiding St
section
variable{X:Cx}{B G0:Hp}{a:Expr}{p p2 p3 pos:Pos}
end
section
variable{K:Frag}{B G0 G H:Hp}{σ:St}{Z:DEnv}
end
section
variable{X:Cx}{B G0:Hp}{KX:XW}{e o a b c:Expr}{pos:Pos}{es:List Expr}{st:Stmt}{sts:List Stmt}{pt:Pat}
end
section
variable{K:Frag}{B G0 G H:Hp}{σ:St}{Z:DEnv}
end
section
variable{X:Cx}{B G0:Hp}{KX:XW}{e o a b c:Expr}{pos:Pos}{es:List Expr}
end
section
variable{X:Cx}{B G0:Hp}{KX:XW}{e o a b c:Expr}{pos:Pos}{es:List Expr}
end
def isT:Option HO->Bool
 |some (.tup _)=>true
 |some (.frz _ (.tup _))=>true
 |_=>false
theorem zrj{u:MO}:isT (some u.ho)=false:=by cases u <;> rfl
def pubG(fp:List Addr)(G H:Hp):Hp:=λb=>if b∈fp∨isT (H b)=true then H b else G b
section
variable{K:Frag}{B G0 G H:Hp}{fp:List Addr}
theorem zl1(gh:Same G H):Same G (pubG fp G H):=λb o e=>by
 unfold pubG;split
 ·exact gh b o e
 ·exact e
theorem zpO(gh:Same G H):Same (pubG fp G H) H:=λb o e=>by
 unfold pubG at e
 split at e
 ·exact e
 ·exact gh b o e
theorem zl2{b:Addr}(h:b∈fp∨isT (H b)=true):pubG fp G H b=H b:=by unfold pubG;rw[Qn h]
theorem zl3{b:Addr}(h:b∉fp)(h2:isT (H b)=false):pubG fp G H b=G b:=by
 unfold pubG;rw[QA];rintro (z|z)
 ·exact h z
 ·rw[h2] at z;cases z
theorem Ext.pubT{G' H':Hp}(ex:Ext G H G' H')(fr:∀a∈fp,H a=none):Ext G H (pubG fp G' H') H' :=
 ⟨ex.h,ex.g.trans (zl1 ex.gh),zpO ex.gh,λa u e n=>by
  rw[zl3 (λm=>by rw[fr a m] at e;cases e) (by rw[ex.h a _ e];exact zrj)]
  exact ex.np a u e n⟩
def nl0:D->Bool
 |.tuple ds=>ds.all flat
 |d=>flat d
theorem Rep.nl{G' G2 H':Hp}{v:V}{d:D}(r:Rep K G' v d)(h:nl0 d=true)(gh:Same G' H'):Rep K (pubG fp G2 H') v d:=by
 cases r with
 |tup hs rr=>
  refine .tup ?_ (rr.flat h);rcases hs with (hs|⟨o,hs⟩)|hs
  ·have:=gh _ _ hs
   exact .inl (.inl ((zl2 (.inr (by rw[this];rfl))).trans this))
  ·have:=gh _ _ hs
   exact .inl (.inr ⟨o,(zl2 (.inr (by rw[this];rfl))).trans this⟩)
  ·exact .inr hs
 |non=>exact .non
 |bl b=>exact .bl b
 |int i=>exact .int i
 |str x=>exact .str x
 |lst _ _=>cases h
 |dic _=>cases h
 |exc _ _ _ _=>cases h
 |dct _ _ _ _ _=>cases h
 |dtt _ _ _ _=>cases h
theorem Reps.nl{G' G2 H':Hp}(gh:Same G' H'):∀{vs:List V}{ds:List D},Reps K G' vs ds->ds.all nl0=true->Reps K (pubG fp G2 H') vs ds
 |_,_,.nil,_=>.nil
 |_,_,.cons r t,h=>by
  rw[List.all_cons,Jm] at h;exact .cons (r.nl h.1 gh) (Reps.nl gh t h.2)
end
def zdN(f:M (List D)):M (List D):=λZ=>match f (zcA Z) with
 |.ok ds _=>if ds.all nl0=true then .ok ds Z else .bad
 |.bad=>.bad
section
variable{X:Cx}{B G0:Hp}{KX:XW}{e o a b c:Expr}{pos:Pos}{es:List Expr}{pt:Pat}
end
section
variable{Z Z1 Z2 Z':DEnv}{pt:Pat}
theorem zn3{f:M (List D)}{ds:List D}(h:f (zcA Z)=.ok ds Z')(hf:ds.all nl0=true):zdN f Z=.ok ds Z:=by unfold zdN;rw[h];dsimp only;rw[if_pos hf]
end
section
variable{X:Cx}{B G0:Hp}{e:Expr}
end
section
variable{X:Cx}{B G0:Hp}{e o a b c:Expr}{pos:Pos}{es:List Expr}
end
section
variable{X:Cx}{B G0:Hp}{KX:XW}{e1 e2 e3 a b:Expr}{pos:Pos}{es:List Expr}
end
section
variable{K:Frag}{B G0 G H:Hp}{fp:List Addr}
end
section
variable{X:Cx}{B G0:Hp}{KX:XW}{e a b:Expr}{pos:Pos}{es:List Expr}
end
theorem NewL.back{K:Frag}{B G0 G H G' H':Hp}{σ:St}{Z Z1:DEnv}{ad:Addr}{vs:List V}{ds:List D}(k:EOk K B G0 G H σ Z)(k':EOk K H H G' H' σ Z1)(n:NewL K H G' H' σ Z1 ad vs ds)(hf:ds.all nl0=true) :
  EOk K B G0 (pubG [] G H') H' σ Z/\Same G (pubG [] G H')/\NewL K B (pubG [] G H') H' σ Z ad vs ds:=by
 have ex:Ext G H G H':=⟨k'.bh,.refl _,k.gh.trans k'.bh,λ_ _ _ n=>n⟩;have ex2:Ext G H (pubG [] G H') H':=ex.pubT (λa m=>by cases m)
 refine ⟨k.ext ex2,ex2.g,⟨k.bh.free n.b,?_,n.h,n.r.nl k'.gh hf,λj es q w=>?_,λj pt d v fp q s r=>k.freshD k'.bh n.b q s r⟩⟩
 ·rw[zl3 (by simp) (by rw[n.h];rfl)]
  exact k.gh.free n.b
 ·obtain ⟨b,us,g1,g2,g3,g4,g5⟩:=k.own j es q
  rw[g1] at w;cases w;rw[n.b] at g4;cases g4
section
variable{X:Cx}{B G0:Hp}{KX:XW}
theorem zsl{l:Bool}{y:Str}{j:Nat}{py:Pos}{spos:Pos}{tg elt iter:Expr}{ifs:List Expr}{gs:List Comprehension}{scope:Scope}{pos:Pos}{N2:List Str}{k:Nat}{f:M (List D)}{s:D->DEnv->Option DEnv}{t:M Bool}{rd:RdB}(hN:X.N.Nodup)(hj:X.N[j]?=some y)(hy:X.env.scope.names.lookup y=some .local)(hc:X.calm=true)
  (hi:∀B' G',PI X tg iter (iD X.K B' G' f)) (hblk:PBlk X N2 scope (.ListComp elt (⟨tg,iter,ifs,0⟩::gs) scope pos) tg ifs s t rd) (hb:zjS X.env.scope scope X.N N2 k) (hs:∀x,foldedSetIterable iter X.env x=pure x:=by intro _;rfl)
  (hsw:swapsWith (.ListComp elt (⟨tg,iter,ifs,0⟩::gs) scope pos) (some (.Name y py)) spos.line X.env=pure true:=by rfl) :
  PS X (.Assign [.Name y py] (.ListComp elt (⟨tg,iter,ifs,0⟩::gs) scope pos) spos) (tS X.K B G0 KX (zbU j (zdN (dCG l f k s t rd)))):=by
 intro pins s0 σ H Dn I ⟨G,Z,k0,a⟩;unfold zbU sB zdN at a
 cases z:dCG l f k s t rd (zcA Z) with
 |bad=>rw[z] at a;exact a.elim
 |ok es Z1=>
 rw[z] at a;dsimp only at a
 by_cases hnl:es.all nl0=true
 case neg=>rw[QA hnl] at a;exact a.elim
 rw[Qn hnl] at a;dsimp only at a
 by_cases hl:j<Z.length
 ·rw[Qn hl] at a
  obtain ⟨ds,ZF,zf,zl,hfl⟩:=zii z;rw[exec_Assign_Name_used _ _ _ _ hsw];refine Qd (Js (Qd ?_));show wpAny _ X.A (do let _ ←comprehension (.ListComp elt (⟨tg,iter,ifs,0⟩::gs) scope pos) scope X.env _ (newList []) false (eval iter X.env) (some (assign (.Name y py) X.env))) _ _ s0
  refine Qd (QG (zgl (use:=some (assign (.Name y py) X.env)) (Qc:=λ_ s'=>SP X pins Dn .next s') hc (hi H H) hblk hb hs I k0.lent zf zl hfl λC D vs G' H' s4 m I7 hm hC hL hz hcl hp k' s' n=>?_) (λ_ s' hq=>Qh (Qh hq)) λ_ _ e=>e);show wpAny _ X.A (assign (.Name y py) X.env (.ref D)) _ _ s4;refine wpAny_assign_Name (zeX I7 hN hj (.inl hy) (v:=.ref D) rfl (λs5 I8 ⟨ad,sb,hx⟩=>?_) (.inr hy))
  have hCa:C≠ad:=by
   rcases hx with e|e
   ·rw[e];exact hL
   ·exact Ne.symm (hcl y ad e)
  refine ⟨m,hm.sameBut sb hCa,λh' sb'=>⟨_,H',I8.turned (t':=s5.toks) (it:=C) (λb o hb e=>(sb'.2 b hb).trans e) hC hL (.inr hz) hcl hp,?_⟩⟩;obtain ⟨k2,s2,n2⟩:=NewL.back k0 k' n hnl;exact a _ _ H' (k2.setOwn n2 hl) s2
 ·rw[QA hl] at a;exact a.elim
theorem zl4{F F':M (List D)}(h:∀Z es Z',F Z=.ok es Z'->F' Z=.ok es Z')(Z:DEnv)(es:List D)(Z':DEnv)(e:zdN F Z=.ok es Z'):zdN F' Z=.ok es Z':=by
 unfold zdN at e ⊢
 cases z:F (zcA Z) with
 |bad=>rw[z] at e;cases e
 |ok ds Z1=>rw[z] at e;rw[h _ _ _ z];exact e
theorem zsm{l:Bool}{y:Str}{j:Nat}{py:Pos}{spos:Pos}{tg elt iter:Expr}{ifs:List Expr}{gs:List Comprehension}{scope:Scope}{pos:Pos}{f:M (List D)}{s:D->DEnv->Option DEnv}{t:M Bool}{rd:RdB}{F:M (List D)}(SC:Scope)(N1 N2:List Str)(k:Nat)(le:∀Z es Z',F Z=.ok es Z'->dCG l f k s t rd Z=.ok es Z')(hN:X.N.Nodup)(hj:X.N[j]?=some y)(hy:X.env.scope.names.lookup y=some .local)(hc:X.calm=true)
  (hi:∀B' G',PI X tg iter (iD X.K B' G' f)) (hblk:PBlk X N2 scope (.ListComp elt (⟨tg,iter,ifs,0⟩::gs) scope pos) tg ifs s t rd) (h1:X.env.scope=SC) (h2:X.N=N1) (hb:zfR znB SC scope N1 N2 k=true) (hs:∀x,foldedSetIterable iter X.env x=pure x:=by intro _;rfl)
  (hsw:swapsWith (.ListComp elt (⟨tg,iter,ifs,0⟩::gs) scope pos) (some (.Name y py)) spos.line X.env=pure true:=by rfl) :
  PS X (.Assign [.Name y py] (.ListComp elt (⟨tg,iter,ifs,0⟩::gs) scope pos) spos) (tS X.K B G0 KX (zbU j (zdN F))) :=
 psof (zsl hN hj hy hc hi hblk (by rw[h1,h2];exact zij hb) hs hsw) λ_ _ _ q=>zoI (zl4 le) q
end
def zfu(f:M D):M Bool:=zax f λx=>match x with | .list ds=>zah (!ds.isEmpty)|_=>λ_=>.bad
def FUEL:Nat:=10 ^ 60
section
variable{X:Cx}{B G0:Hp}{e:Expr}
theorem ziA{α β:Type}{xs:List α}{ys:List β}(h:xs.length=ys.length):xs.isEmpty=ys.isEmpty:=by
 cases xs <;> cases ys <;> first|rfl|(simp at h)
theorem zpP{f:M D}(h:PE X e (tD X.K B G0 f))(he:∀whole,isTrue e X.env whole=(do let v ←whole;standAt e.pos;holding [v] (truthy v)):=by intro _;rfl):PT X e (tBo X.K B G0 (zfu f)) :=
 ptof (znj h he) λσ H Q q=>tM.one (R:=Rep X.K) q λv H2 G Z x k r a=>by
  cases x with
  |list ds=>
   obtain ⟨l,vs,rfl,h1,r1⟩:=r.lst_inv;refine ⟨!vs.isEmpty,.inl ⟨vs,k.gh.seq h1,rfl⟩,?_⟩;exact aft.now (v:=!vs.isEmpty) a k (by rw[ziA r1.length])
  |_=>exact a.elim
theorem zhB{f:M D}{Z Z1:DEnv}{ds:List D}(h1:f Z=.ok (.list ds) Z1):zfu f Z=.ok (!ds.isEmpty) Z1:=by unfold zfu;exact zaB h1 rfl
end
end DL
namespace W
open PySem PySem.Spec L2 DL
open PyProof.Rows hiding St
def top(i:Nat):Stmt:=PySem.Challenge.pw_wishdeal_k41_a_best_dealing.main.body.getD i (.Pass ⟨0,0,0,0⟩)
abbrev GG(s:Stmt)(x:Str):Prop:=(zak s).names.lookup x=some NameKind.globalImplicit
abbrev VV(s:Stmt)(x:Str):Prop:=L2.Vis (zak s) x
abbrev LL(s:Stmt)(x:Str):Prop:=L2.Loc (zak s) x
theorem vk{s:Stmt}{x:Str}(h:(zak s).names.lookup x=some .local∨(zak s).names.lookup x=some .cell∨(zak s).names.lookup x=some .free):VV s x:=h
theorem lk{s:Stmt}{x:Str}(h:(zak s).names.lookup x=some .local∨(zak s).names.lookup x=some .cell):LL s x:=h
structure Txt(K:Frag)(mg:Str->Option Value):Prop where
 b_all:mg "all" = none
 b_bool:mg "bool" = none
 b_enumerate:mg "enumerate" = none
 b_int:mg "int" = none
 b_isinstance:mg "isinstance" = none
 b_len:mg "len" = none
 b_list:mg "list" = none
 b_max:mg "max" = none
 b_min:mg "min" = none
 b_range:mg "range" = none
 b_repr:mg "repr" = none
 b_set:mg "set" = none
 b_sorted:mg "sorted" = none
 b_str:mg "str" = none
 b_sum:mg "sum" = none
 b_tuple:mg "tuple" = none
 b_zip:mg "zip" = none
 c_MOST_ASKERS:∃t,mg "MOST_ASKERS" = some (Value.int 7 t)
 c_MOST_COPIES:∃t,mg "MOST_COPIES" = some (Value.int 7 t)
 c_MOST_RANKS:∃t,mg "MOST_RANKS" = some (Value.int 5 t)
 c_MOST_THINGS:∃t,mg "MOST_THINGS" = some (Value.int 6 t)
 c_ORDERS:∃ad o its n,mg "ORDERS" = some (.ref ad)/\K.lookup ad=some o/\o.cls=.type "tuple" /\ o.data=.seq its n/\its.size<=sizeLine/\Vals ((["firsts", "full", "lasts"]:List Str).map V.str) its.toList
abbrev Sbk:Stmt:=top 55
abbrev N_bk:List Str:=["_law_script", "_law_k"]
theorem Hbk:FnNm (zak Sbk) N_bk ["len"]:=zaL (by decide +kernel)
def g_bk:SM :=
 sSeq (sIf (zce (oIB λi j=>decide (i<j)) 1 (zbQ 0))
 (sRet (dIxN 0 (dVar 1)))
 (sNx))
 (sRet (zah (.int 0)))
def F_bk:List D->Option D:=runD N_bk g_bk
abbrev Sbp:Stmt:=top 60
abbrev N_bp:List Str:=["_law_wishes_here", "_law_asker"]
theorem Hbp:FnNm (zak Sbp) N_bp ["sum", "sorted"]:=zaL (by decide +kernel)
def g_bp:SM :=
 sRet (zbu ziz (zae (zbu zj1 (zae (dBin oIx (dIxN 0 (zah (.int 1))) (dVar 1)) (zae (mLst (mNil)) (mNil)))) (mNil)))
def F_bp:List D->Option D:=runD N_bp g_bp
abbrev Sbv:Stmt:=top 66
abbrev N_bv:List Str:=["_law_wishes_here", "_law_found", "_law_asker"]
theorem Hbv:FnNm (zak Sbv) N_bv ["len", "range", "_law_wished"]:=zaL (by decide +kernel)
def zl5:SM :=
 sExt 1 (zci (zaY (dFun 2 F_bp (zae (dVar 0) (zae (dVar 2) (mNil))))) 1 (gN 3) (zah true) (mTup (zae (dVar 2) (zae (dVar 3) (mNil)))))
def g_bv:SM :=
 sSeq (zbU 1 (zax (mNil) λxs=>if xs.length<=1000000 then zah xs else λ_=>.bad))
 (sSeq (sFor (zeP (zae (zbu oLen (zae (dIxN 0 (zah (.int 1))) (mNil))) (mNil))) (gN 2) zl5)
 (sRet (dVar 1)))
def F_bv:List D->Option D:=runD N_bv g_bv
abbrev Sbn:Stmt:=top 58
abbrev N_bn:List Str:=["_law_wishes_here", "_law_asker", "_law_thing", "_law_k", "_law_row"]
theorem Hbn:FnNm (zak Sbn) N_bn ["enumerate"]:=zaL (by decide +kernel)
def zl6:SM :=
 sIf (zce oIn 2 (dVar 4))
 (sRet (dBin oAdd (dVar 3) (zah (.int 1))))
 (sNx)
def g_bn:SM :=
 sSeq (sFor (zdH (zae (dBin oIx (dIxN 0 (zah (.int 1))) (dVar 1)) (mNil))) (gT 2 (gNC (gN 3) (gNC (gN 4) (gN0)))) zl6)
 (sRet (zah (.int 0)))
def F_bn:List D->Option D:=runD N_bn g_bn
abbrev Sbo:Stmt:=top 59
abbrev N_bo:List Str:=["_law_wishes_here"]
theorem Hbo:FnNm (zak Sbo) N_bo ["max"]:=zaL (by decide +kernel)
def g_bo:SM :=
 sRet (zbu zhd (zae (mMap PyData.list (zci (zaY (dIxN 0 (zah (.int 1)))) 1 (gN 1) (zah true) (zbQ 1))) (mNil)))
def F_bo:List D->Option D:=runD N_bo g_bo
abbrev Sbr:Stmt:=top 62
abbrev N_br:List Str:=["_law_wishes_here", "_law_aim_here", "_law_asker", "_law_thing", "_law_order", "_law_old", "_law_turns", "_law_base", "_law_ranks", "_law_rank_here", "_law_powers", "_law_k", "_law_worth_here", "_law_pick", "_law_one"]
theorem Hbr:FnNm (zak Sbr) N_br ["range", "_law_rank", "_law_longest", "len"]:=zaL (by decide +kernel)
def zgE:SM :=
 sSeq (sSet 12 (dBin oMul (dVar 12) (dBin oAdd (dVar 8) (zah (.int 1)))))
 (sSeq (sSet 13 (dBin oMul (dVar 13) (dBin oAdd (dVar 8) (zah (.int 1)))))
 (sIf (zce oEq 14 (dVar 2))
 (sSet 13 (dBin oSub (dBin oAdd (dBin oAdd (dVar 13) (dVar 8)) (zah (.int 1))) (dVar 9)))
 (sNx)))
def zl7:SM :=
 sApp 10 (dBin oMul (dIxN 10 (dNeg (zah (.int 1)))) (dVar 7))
def g_br:SM :=
 sSeq (sAsg (dVar 1) (gT 3 (gNC (gN 4) (gNC (gN 5) (gNC (gN 6) (gN0))))))
 (sSeq (sSet 7 (dBin oAdd (zbu oLen (zae (dIxN 0 (zah (.int 1))) (mNil))) (zah (.int 1))))
 (sSeq (sSet 8 (dFun 1 F_bo (zae (dVar 0) (mNil))))
 (sSeq (sSet 9 (dFun 3 F_bn (zae (dVar 0) (zae (dVar 2) (zae (dVar 3) (mNil))))))
 (sSeq (zbU 10 (zax (zae (zah (.int 1)) (mNil)) λxs=>if xs.length<=1000000 then zah xs else λ_=>.bad))
 (sSeq (sFor (zeP (zae (dVar 8) (mNil))) (gN 11) zl7)
 (sSeq (sSet 12 (dIxN 10 (dBin oSub (dVar 8) (dVar 9))))
 (sSeq (sIf (zce oEq 4 (zah (.str "full")))
 (sSet 12 (dBin oAdd (dVar 12) (dIxN 10 (dVar 8))))
 (sNx))
 (sSeq (sIf (zce oEq 4 (zah (.str "lasts")))
 (sSet 12 (dBin oSub (dIxN 10 (dVar 8)) (dIxN 10 (dBin oSub (dVar 9) (zah (.int 1))))))
 (sNx))
 (sSeq (sSet 12 (dBin oMul (dVar 12) (dVar 7)))
 (sSeq (sIf (mAnd (mMap (λd=>!isNon d) (dVar 5)) (dBin oEq (dIxN 5 (dVar 2)) (dVar 3)))
 (sSet 12 (dBin oAdd (dVar 12) (zah (.int 1))))
 (sNx))
 (sSeq (sSet 13 (zah (.int 0)))
 (sSeq (sFor (zaY (dVar 6)) (gN 14) zgE)
 (sRet (dBin oAdd (dVar 12) (dVar 13)))))))))))))))
def F_br:List D->Option D:=runD N_br g_br
abbrev Sbx:Stmt:=top 68
abbrev N_bx:List Str:=["_law_wishes_here", "_law_aim_here", "_law_found", "_law_asker", "_law_thing"]
theorem Hbx:FnNm (zak Sbx) N_bx ["_law_wishes_of", "_law_worth"]:=zaL (by decide +kernel)
def g_bx:SM :=
 sPrs 2 3 4 (zaY (dFun 1 F_bv (zae (dVar 0) (mNil)))) (dFun 4 F_br (zae (dVar 0) (zae (dVar 1) (zae (dVar 3) (zae (dVar 4) (mNil))))))
def F_bx:List D->Option D:=runD N_bx g_bx
abbrev Sca:Stmt:=top 71
abbrev N_ca:List Str:=["_law_wishes_here", "_law_paper"]
theorem Hca:FnNm (zak Sca) N_ca ["sum", "zip"]:=zaL (by decide +kernel)
def g_ca:SM :=
 sRet (dBin oAdd (zbu zho (zae (dIxN 1 (zah (.int 1))) (mNil))) (zbu zho (zae (mMap PyData.list (zci (dZip (zae (dIxN 0 (zah (.int 0))) (zae (dIxN 1 (zah (.int 2))) (mNil)))) 2 (gT 2 (gNC (gN 2) (gNC (gN 3) (gN0)))) (zah true) (dBin oMul (dVar 2) (dVar 3)))) (mNil))))
def F_ca:List D->Option D:=runD N_ca g_ca
abbrev Sby:Stmt:=top 69
abbrev N_by:List Str:=["_law_worths_here", "_law_dealing", "_law_pairs"]
theorem Hby:FnNm (zak Sby) N_by ["sum", "enumerate"]:=zaL (by decide +kernel)
def g_by:SM :=
 sSeq (zbU 2 (zci (zdH (zae (dVar 1) (mNil))) 2 (gT 2 (gNC (gN 3) (gNC (gN 4) (gN0)))) (mMap (λd=>!isNon d) (dVar 4)) (mTup (zae (dVar 3) (zae (dVar 4) (mNil))))))
 (sRet (zbu zho (zae (mMap PyData.list (zci (zaY (dVar 2)) 1 (gN 3) (zah true) (dBin zke (dVar 0) (dVar 3)))) (mNil))))
def F_by:List D->Option D:=runD N_by g_by
abbrev Sbt:Stmt:=top 64
abbrev N_bt:List Str:=["_law_thing"]
theorem Hbt:FnNm (zak Sbt) N_bt ["isinstance", "int", "bool"]:=zaL (by decide +kernel)
def g_bt:SM :=
 sRet (zih (mMap (λd=>.bool (isTy d "int")) (dVar 0)) (zkX (mMap (λd=>.bool (isTy d "bool")) (dVar 0))))
def F_bt:List D->Option D:=runD N_bt g_bt
abbrev Sbw:Stmt:=top 67
abbrev N_bw:List Str:=["_law_wishes_here", "_law_thing", "_law_asker", "_law_one"]
theorem Hbw:FnNm (zak Sbw) N_bw ["enumerate", "_law_is_number", "_law_wished", "isinstance", "list", "len"]:=zaL (by decide +kernel)
def zl8:SM :=
 sSeq (sIf (mAnd (mMap (λd=>!isNon d) (dVar 3)) (mOr (mNot (zbq (dFun 1 F_bt (zae (dVar 3) (mNil))))) (zce oNin 3 (dFun 2 F_bp (zae (dVar 0) (zae (dVar 2) (mNil)))))))
 (sRet (zah (.bool false)))
 (sNx))
 (sIf (mAnd (mMap (λd=>!isNon d) (dVar 3)) (dBin (oIB λi j=>decide (j<i)) (zfV (dVar 1) (zae (dVar 3) (mNil))) (dBin oIx (dIxN 0 (zah (.int 0))) (dVar 3))))
 (sRet (zah (.bool false)))
 (sNx))
def g_bw:SM :=
 sSeq (sIf (mOr (mNot (zbq (mMap (λd=>.bool (isTy d "list")) (dVar 1)))) (dBin oNe (zbQ 1) (zbu oLen (zae (dIxN 0 (zah (.int 1))) (mNil)))))
 (sRet (zah (.bool false)))
 (sNx))
 (sSeq (sFor (zdH (zae (dVar 1) (mNil))) (gT 2 (gNC (gN 2) (gNC (gN 3) (gN0)))) zl8)
 (sRet (zah (.bool true))))
def F_bw:List D->Option D:=runD N_bw g_bw
abbrev Sbu:Stmt:=top 65
abbrev N_bu:List Str:=["_law_thing", "_law_many"]
theorem Hbu:FnNm (zak Sbu) N_bu ["all", "isinstance", "list", "len"]:=zaL (by decide +kernel)
def g_bu:SM :=
 sSeq (sIf (mOr (mNot (zbq (mMap (λd=>.bool (isTy d "list")) (dVar 0)))) (dBin oNe (zbQ 0) (dVar 1)))
 (sRet (zah (.bool false)))
 (sNx))
 (sRet (zbu oAll (zae (mMap PyData.list (zci (zaY (dVar 0)) 1 (gN 2) (zah true) (dFun 1 F_bt (zae (dVar 2) (mNil))))) (mNil))))
def F_bu:List D->Option D:=runD N_bu g_bu
abbrev Sbz:Stmt:=top 70
abbrev N_bz:List Str:=["_law_wishes_here", "_law_worths_here", "_law_thing", "_law_asker", "_law_one"]
theorem Hbz:FnNm (zak Sbz) N_bz ["min", "len", "_law_is_row", "_law_is_number", "isinstance", "tuple"]:=zaL (by decide +kernel)
def zl9:SM :=
 sIf (dBin (oIB λi j=>decide (i<j)) (dBin oAdd (dBin oIx (dIxN 2 (zah (.int 1))) (dVar 3)) (dBin oIx (dIxN 2 (zah (.int 2))) (dVar 4))) (dBin oMul (dIxN 2 (zah (.int 0))) (dBin zke (dVar 1) (mTup (zae (dVar 3) (zae (dVar 4) (mNil)))))))
 (sRet (zah (.bool false)))
 (sNx)
def g_bz:SM :=
 sSeq (sIf (mOr (mNot (zbq (mMap (λd=>.bool (isTy d "tuple")) (dVar 2)))) (dBin oNe (zbQ 2) (zah (.int 3))))
 (sRet (zah (.bool false)))
 (sNx))
 (sSeq (sIf (mOr (mNot (zbq (dFun 1 F_bt (zae (dIxN 2 (zah (.int 0))) (mNil))))) (dBin (oIB λi j=>decide (i<j)) (dIxN 2 (zah (.int 0))) (zah (.int 1))))
 (sRet (zah (.bool false)))
 (sNx))
 (sSeq (sIf (mOr (mNot (zbq (dFun 2 F_bu (zae (dIxN 2 (zah (.int 1))) (zae (zbu oLen (zae (dIxN 0 (zah (.int 1))) (mNil))) (mNil)))))) (mNot (zbq (dFun 2 F_bu (zae (dIxN 2 (zah (.int 2))) (zae (zbu oLen (zae (dIxN 0 (zah (.int 0))) (mNil))) (mNil)))))))
 (sRet (zah (.bool false)))
 (sNx))
 (sSeq (sIf (dBin (oIB λi j=>decide (i<j)) (zbu zkf (zae (dBin oAdd (dIxN 2 (zah (.int 1))) (dIxN 2 (zah (.int 2)))) (mNil))) (zah (.int 0)))
 (sRet (zah (.bool false)))
 (sNx))
 (sSeq (sFor (znZ (dVar 1)) (gT 2 (gNC (gN 3) (gNC (gN 4) (gN0)))) zl9)
 (sRet (zah (.bool true)))))))
def F_bz:List D->Option D:=runD N_bz g_bz
abbrev Scb:Stmt:=top 72
abbrev N_cb:List Str:=["_law_wishes_here", "_law_worths_here", "_law_dealing", "_law_paper"]
theorem Hcb:FnNm (zak Scb) N_cb ["_law_claim", "_law_sum", "_law_is_dealing", "_law_lets"]:=zaL (by decide +kernel)
def g_cb:SM :=
 sSeq (sIf (mOr (mNot (zbq (dFun 2 F_bw (zae (dVar 0) (zae (dVar 2) (mNil)))))) (mNot (zbq (dFun 3 F_bz (zae (dVar 0) (zae (dVar 1) (zae (dVar 3) (mNil))))))))
 (sRet (zah (.bool false)))
 (sNx))
 (sSeq (sIf (dBin oNe (dIxN 3 (zah (.int 0))) (zah (.int 1)))
 (sRet (zah (.bool false)))
 (sNx))
 (sRet (mMap PyData.bool (dBin oEq (dFun 2 F_ca (zae (dVar 0) (zae (dVar 3) (mNil)))) (dFun 2 F_by (zae (dVar 1) (zae (dVar 2) (mNil))))))))
def F_cb:List D->Option D:=runD N_cb g_cb
abbrev Scc:Stmt:=top 73
abbrev N_cc:List Str:=["_law_wishes_here", "_law_worths_here", "_law_found"]
theorem Hcc:FnNm (zak Scc) N_cc ["_law_shows_best", "isinstance", "tuple", "len"]:=zaL (by decide +kernel)
def g_cc:SM :=
 sSeq (sIf (mOr (mNot (zbq (mMap (λd=>.bool (isTy d "tuple")) (dVar 2)))) (dBin oNe (zbQ 2) (zah (.int 2))))
 (sRet (zah (.bool false)))
 (sNx))
 (sRet (dFun 4 F_cb (zae (dVar 0) (zae (dVar 1) (zae (dIxN 2 (zah (.int 0))) (zae (dIxN 2 (zah (.int 1))) (mNil)))))))
def F_cc:List D->Option D:=runD N_cc g_cc
abbrev Sbh:Stmt:=top 50
abbrev N_bh:List Str:=["askers", "worths", "prices", "asks", "asker", "thing", "worth"]
theorem Hbh:FnNm (zak Sbh) N_bh ["max"]:=zaL (by decide +kernel)
def zma:SM :=
 zim 3 (dVar 4) (zbu zk1 (zae (dIxN 3 (dVar 4)) (zae (dBin oSub (dVar 6) (dIxN 2 (dVar 5))) (mNil))))
def g_bh:SM :=
 sSeq (zbU 3 (zkb (mLst (zae (zah (.int 0)) (mNil))) (dVar 0)))
 (sSeq (sFor (zaY (dVar 1)) (gT 3 (gNC (gN 4) (gNC (gN 5) (gNC (gN 6) (gN0))))) zma)
 (sRet (dVar 3)))
def F_bh:List D->Option D:=runD N_bh g_bh
abbrev Saw:Stmt:=top 39
abbrev N_aw:List Str:=["nothing", "got"]
theorem Haw:FnNm (zak Saw) N_aw []:=zaL (by decide +kernel)
def g_aw:SM :=
 sRet (mIf (mMap isNon (dVar 1)) (dVar 0) (dVar 1))
def F_aw:List D->Option D:=runD N_aw g_aw
abbrev Sax:Stmt:=top 40
abbrev N_ax:List Str:=["nothing", "worths", "dealing", "had", "asker", "thing", "worth", "told"]
theorem Hax:FnNm (zak Sax) N_ax ["place_of", "enumerate", "len"]:=zaL (by decide +kernel)
def zmb:SM :=
 sIf (dBin oNe (dIxN 2 (dVar 4)) (dVar 5))
 (sApp 7 (mTup (zae (dFun 2 F_aw (zae (dVar 0) (zae (dIxN 2 (dVar 4)) (mNil)))) (zae (dVar 5) (zae (dBin oSub (dVar 6) (dIxN 3 (dVar 4))) (zae (dVar 4) (mNil)))))))
 (sNx)
def zmc:SM :=
 sIf (dBin oEq (dIxN 2 (dVar 4)) (dVar 5))
 (zim 3 (dVar 4) (dVar 6))
 (sNx)
def g_ax:SM :=
 sSeq (zbU 3 (zkb (mLst (zae (zah (.int 0)) (mNil))) (zbQ 2)))
 (sSeq (sFor (zaY (dVar 1)) (gT 3 (gNC (gN 4) (gNC (gN 5) (gNC (gN 6) (gN0))))) zmc)
 (sSeq (zbU 7 (zdN (zci (zdH (zae (dVar 2) (mNil))) 2 (gT 2 (gNC (gN 8) (gNC (gN 9) (gN0)))) (mMap (λd=>!isNon d) (dVar 9)) (mTup (zae (dVar 9) (zae (dVar 0) (zae (dNeg (dIxN 3 (dVar 8))) (zae (dVar 8) (mNil)))))))))
 (sSeq (sFor (zaY (dVar 1)) (gT 3 (gNC (gN 4) (gNC (gN 5) (gNC (gN 6) (gN0))))) zmb)
 (sRet (dVar 7)))))
def F_ax:List D->Option D:=runD N_ax g_ax
abbrev Saa:Stmt:=top 1
abbrev N_aa:List Str:=["thing"]
theorem Haa:FnNm (zak Saa) N_aa ["isinstance", "int", "bool"]:=zaL (by decide +kernel)
def g_aa:SM :=
 sRet (zih (mMap (λd=>.bool (isTy d "int")) (dVar 0)) (zkX (mMap (λd=>.bool (isTy d "bool")) (dVar 0))))
def F_aa:List D->Option D:=runD N_aa g_aa
abbrev Sab:Stmt:=top 2
abbrev N_ab:List Str:=["thing", "many"]
theorem Hab:FnNm (zak Sab) N_ab ["is_whole"]:=zaL (by decide +kernel)
def g_ab:SM :=
 sRet (zih (dFun 1 F_aa (zae (dVar 0) (mNil))) (mMap PyData.bool (ze5 (oIB λi j=>decide (i<=j)) (oIB λi j=>decide (i<j)) (zah (.int 0)) (dVar 0) (dVar 1))))
def F_ab:List D->Option D:=runD N_ab g_ab
abbrev Sad:Stmt:=top 13
abbrev N_ad:List Str:=["thing", "things"]
theorem Had:FnNm (zak Sad) N_ad ["all", "isinstance", "list", "len"]:=zaL (by decide +kernel)
def g_ad:SM :=
 sSeq (sIf (mOr (mNot (zbq (mMap (λd=>.bool (isTy d "list")) (dVar 0)))) (dBin oEq (zbQ 0) (zah (.int 0))))
 (sRet (zah (.bool false)))
 (sNx))
 (sRet (zbu oAll (zae (mMap PyData.list (zci (zaY (dVar 0)) 1 (gN 2) (zah true) (dFun 2 F_ab (zae (dVar 2) (zae (dVar 1) (mNil)))))) (mNil))))
def F_ad:List D->Option D:=runD N_ad g_ad
abbrev Sae:Stmt:=top 14
abbrev N_ae:List Str:=["thing", "things", "wished"]
theorem Hae:FnNm (zak Sae) N_ae ["len", "set", "all", "isinstance", "list", "MOST_RANKS"]:=zaL (by decide +kernel)
def g_ae:SM :=
 sSeq (sIf (mOr (mNot (zbq (mMap (λd=>.bool (isTy d "list")) (dVar 0)))) (dBin (oIB λi j=>decide (j<i)) (zbQ 0) (zah (.int 5))))
 (sRet (zah (.bool false)))
 (sNx))
 (sSeq (sIf (mNot (zbq (zbu oAll (zae (mMap PyData.list (zci (zaY (dVar 0)) 1 (gN 3) (zah true) (dFun 2 F_ad (zae (dVar 3) (zae (dVar 1) (mNil)))))) (mNil)))))
 (sRet (zah (.bool false)))
 (sNx))
 (sSeq (zbU 2 (zg9 (zaY (dVar 0)) 2 (gN 3) (zah true) (zaY (dVar 3)) (gN 4) (zah true) (dVar 4)))
 (sRet (mMap PyData.bool (dBin oEq (zbu zc4 (zae (dVar 2) (mNil))) (zbQ 2))))))
def F_ae:List D->Option D:=runD N_ae g_ae
abbrev Saf:Stmt:=top 15
abbrev N_af:List Str:=["lists", "things", "asker", "ranks"]
theorem Haf:FnNm (zak Saf) N_af ["enumerate", "is_asker_list", "isinstance", "list", "len", "MOST_ASKERS"]:=zaL (by decide +kernel)
def zmd:SM :=
 sIf (mNot (zbq (dFun 2 F_ae (zae (dVar 3) (zae (dVar 1) (mNil))))))
 (zdK)
 (sNx)
def g_af:SM :=
 sSeq (sIf (mOr (mNot (zbq (mMap (λd=>.bool (isTy d "list")) (dVar 0)))) (mNot (ze5 (oIB λi j=>decide (i<=j)) (oIB λi j=>decide (i<=j)) (zah (.int 1)) (zbQ 0) (zah (.int 7)))))
 (zdK)
 (sNx))
 (sFor (zdH (zae (dVar 0) (mNil))) (gT 2 (gNC (gN 2) (gNC (gN 3) (gN0)))) zmd)
def F_af:List D->Option D:=runD N_af g_af
abbrev Sac:Stmt:=top 12
abbrev N_ac:List Str:=["copies", "number", "many"]
theorem Hac:FnNm (zak Sac) N_ac ["enumerate", "MOST_COPIES", "is_number_below", "isinstance", "list", "len", "MOST_THINGS"]:=zaL (by decide +kernel)
def zme:SM :=
 sIf (mNot (zbq (dFun 2 F_ab (zae (dVar 2) (zae (dBin oAdd (zah (.int 7)) (zah (.int 1))) (mNil))))))
 (zdK)
 (sNx)
def g_ac:SM :=
 sSeq (sIf (mOr (mNot (zbq (mMap (λd=>.bool (isTy d "list")) (dVar 0)))) (mNot (ze5 (oIB λi j=>decide (i<=j)) (oIB λi j=>decide (i<=j)) (zah (.int 1)) (zbQ 0) (zah (.int 6)))))
 (zdK)
 (sNx))
 (sFor (zdH (zae (dVar 0) (mNil))) (gT 2 (gNC (gN 1) (gNC (gN 2) (gN0)))) zme)
def F_ac:List D->Option D:=runD N_ac g_ac
abbrev Sag:Stmt:=top 16
abbrev N_ag:List Str:=["thing", "copies", "lists"]
theorem Hag:FnNm (zak Sag) N_ag ["len", "look_at_lists", "look_at_copies", "isinstance", "tuple"]:=zaL (by decide +kernel)
def g_ag:SM :=
 sSeq (sIf (mOr (mNot (zbq (mMap (λd=>.bool (isTy d "tuple")) (dVar 0)))) (dBin oNe (zbQ 0) (zah (.int 2))))
 (zdK)
 (sNx))
 (sSeq (sAsg (dVar 0) (gT 2 (gNC (gN 1) (gNC (gN 2) (gN0)))))
 (sSeq (ze9 (dFun 1 F_ac (zae (dVar 1) (mNil))))
 (ze9 (dFun 2 F_af (zae (dVar 2) (zae (zbQ 1) (mNil)))))))
def F_ag:List D->Option D:=runD N_ag g_ag
abbrev Sak:Stmt:=top 21
abbrev N_ak:List Str:=["wishes", "dealing"]
theorem Hak:FnNm (zak Sak) N_ak ["enumerate", "look_at_wishes"]:=zaL (by decide +kernel)
def g_ak:SM :=
 sSeq (ze9 (dFun 1 F_ag (zae (dVar 0) (mNil))))
 (sRet (mMap PyData.list (zci (zdH (zae (dIxN 0 (zah (.int 0))) (mNil))) 2 (gT 2 (gNC (gN 2) (gNC (gN 3) (gN0)))) (zah true) (dBin oSub (dVar 3) (zfV (dVar 1) (zae (dVar 2) (mNil)))))))
def F_ak:List D->Option D:=runD N_ak g_ak
abbrev Say:Stmt:=top 41
abbrev N_ay:List Str:=["wishes", "dealing", "nothing", "left", "to_nothing"]
theorem Hay:FnNm (zak Say) N_ay ["range", "enumerate", "copies_left", "len"]:=zaL (by decide +kernel)
def g_ay:SM :=
 sSeq (sSet 2 (zbu oLen (zae (dIxN 0 (zah (.int 0))) (mNil))))
 (sSeq (sSet 3 (dFun 2 F_ak (zae (dVar 0) (zae (dVar 1) (mNil)))))
 (sSeq (zbU 4 (zci (zdH (zae (dVar 3) (mNil))) 2 (gT 2 (gNC (gN 5) (gNC (gN 6) (gN0)))) (zce (oIB λi j=>decide (j<i)) 6 (zah (.int 0))) (mTup (zae (dVar 5) (zae (dVar 2) (zae (zah (.int 0)) (zae (zah .none) (mNil))))))))
 (sRet (dBin oAdd (dVar 4) (mMap PyData.list (zci (zeP (zae (dVar 2) (mNil))) 1 (gN 5) (zah true) (mTup (zae (dVar 2) (zae (dVar 5) (zae (zah (.int 0)) (zae (zah .none) (mNil))))))))))))
def F_ay:List D->Option D:=runD N_ay g_ay
abbrev Saz:Stmt:=top 42
abbrev N_az:List Str:=["wishes", "worths", "dealing"]
theorem Haz:FnNm (zak Saz) N_az ["len", "steps_of_askers", "steps_of_copies"]:=zaL (by decide +kernel)
def g_az:SM :=
 sRet (dBin oAdd (dFun 3 F_ax (zae (zbu oLen (zae (dIxN 0 (zah (.int 0))) (mNil))) (zae (dVar 1) (zae (dVar 2) (mNil))))) (dFun 2 F_ay (zae (dVar 0) (zae (dVar 2) (mNil)))))
def F_az:List D->Option D:=runD N_az g_az
abbrev Sba:Stmt:=top 43
abbrev N_ba:List Str:=["walks", "steps", "told", "step", "ahead", "behind", "gain", "asker", "gained", "walked"]
theorem Hba:FnNm (zak Sba) N_ba ["list"]:=zaL (by decide +kernel)
def zmf:SM :=
 sSeq (sAsg (dVar 3) (gT 4 (gNC (gN 4) (gNC (gN 5) (gNC (gN 6) (gNC (gN 7) (gN0)))))))
 (sSeq (sAsg (dIxN 0 (dVar 4)) (gT 2 (gNC (gN 8) (gNC (gN 9) (gN0)))))
 (sIf (dBin (oIB λi j=>decide (j<i)) (dBin oAdd (dVar 8) (dVar 6)) (dBin oIx (dIxN 2 (dVar 5)) (zah (.int 0))))
 (zim 2 (dVar 5) (mTup (zae (dBin oAdd (dVar 8) (dVar 6)) (zae (dBin oAdd (dVar 9) (mLst (zae (dVar 3) (mNil)))) (mNil)))))
 (sNx)))
def g_ba:SM :=
 sSeq (zbU 2 (zeG 0))
 (sSeq (sFor (zaY (dVar 1)) (gN 3) zmf)
 (sRet (dVar 2)))
def F_ba:List D->Option D:=runD N_ba g_ba
abbrev Sbb:Stmt:=top 44
abbrev N_bb:List Str:=["places", "steps", "told", "turn"]
theorem Hbb:FnNm (zak Sbb) N_bb ["range", "longer_walks"]:=zaL (by decide +kernel)
def zmg:SM :=
 sSet 2 (dFun 2 F_ba (zae (dVar 2) (zae (dVar 1) (mNil))))
def g_bb:SM :=
 sSeq (sSet 2 (dBin oMul (mLst (zae (mTup (zae (zah (.int 0)) (zae (mLst (mNil)) (mNil)))) (mNil))) (dVar 0)))
 (sSeq (sFor (zeP (zae (dVar 0) (mNil))) (gN 3) zmg)
 (sRet (dVar 2)))
def F_bb:List D->Option D:=runD N_bb g_bb
abbrev Sbg:Stmt:=top 49
abbrev N_bg:List Str:=["wishes", "worths", "dealing", "nothing", "walks"]
theorem Hbg:FnNm (zak Sbg) N_bg ["all_steps", "widest_walks", "len"]:=zaL (by decide +kernel)
def g_bg:SM :=
 sSeq (sSet 3 (zbu oLen (zae (dIxN 0 (zah (.int 0))) (mNil))))
 (sSeq (sSet 4 (dFun 2 F_bb (zae (dBin oAdd (dVar 3) (zah (.int 1))) (zae (dFun 3 F_az (zae (dVar 0) (zae (dVar 1) (zae (dVar 2) (mNil))))) (mNil)))))
 (sRet (mMap PyData.list (zci (zaY (dSlA (dVar 4) (zah none) (zax (dVar 3) λx=>mOpt (zde x)))) 2 (gT 2 (gNC (gN 5) (gNC (gN 6) (gN0)))) (zah true) (dVar 5)))))
def F_bg:List D->Option D:=runD N_bg g_bg
abbrev Sbi:Stmt:=top 51
abbrev N_bi:List Str:=["wishes", "worths", "dealing", "prices"]
theorem Hbi:FnNm (zak Sbi) N_bi ["len", "asks_beyond", "prices_for"]:=zaL (by decide +kernel)
def g_bi:SM :=
 sSeq (sSet 3 (dFun 3 F_bg (zae (dVar 0) (zae (dVar 1) (zae (dVar 2) (mNil))))))
 (sRet (mTup (zae (zah (.int 1)) (zae (dFun 3 F_bh (zae (zbu oLen (zae (dIxN 0 (zah (.int 1))) (mNil))) (zae (dVar 1) (zae (dVar 3) (mNil))))) (zae (dVar 3) (mNil))))))
def F_bi:List D->Option D:=runD N_bi g_bi
abbrev Sbc:Stmt:=top 45
abbrev N_bc:List Str:=["walk", "end", "step", "begin"]
theorem Hbc:FnNm (zak Sbc) N_bc ["enumerate", "range"]:=zaL (by decide +kernel)
def zmh:SM :=
 sIf (dBin oEq (dBin oIx (dIxN 0 (dVar 3)) (zah (.int 0))) (dIxN 2 (zah (.int 1))))
 (sRet (dSlA (dVar 0) (zax (dVar 3) λx=>mOpt (zde x)) (zax (dBin oAdd (dVar 1) (zah (.int 1))) λx=>mOpt (zde x))))
 (sNx)
def zmi:SM :=
 sFor (zeP (zae (dBin oAdd (dVar 1) (zah (.int 1))) (mNil))) (gN 3) zmh
def g_bc:SM :=
 sSeq (sFor (zdH (zae (dVar 0) (mNil))) (gT 2 (gNC (gN 1) (gNC (gN 2) (gN0)))) zmi)
 (sRet (mLst (mNil)))
def F_bc:List D->Option D:=runD N_bc g_bc
abbrev Sbd:Stmt:=top 46
abbrev N_bd:List Str:=["nothing", "steps", "begin", "number", "step", "way", "ahead", "behind", "gain", "asker"]
theorem Hbd:FnNm (zak Sbd) N_bd ["enumerate"]:=zaL (by decide +kernel)
def zmj:SM :=
 sIf (mMap (λd=>!isNon d) (dVar 9))
 (sApp 5 (mTup (zae (dVar 9) (zae (mIf (zce oEq 7 (dVar 0)) (zah .none) (dVar 7)) (mNil)))))
 (sNx)
def zmk:SM :=
 sIf (dBin oEq (dIxN 4 (zah (.int 0))) (dVar 0))
 (sSet 2 (dVar 3))
 (sNx)
def g_bd:SM :=
 sSeq (sSet 2 (zah (.int 0)))
 (sSeq (sFor (zdH (zae (dVar 1) (mNil))) (gT 2 (gNC (gN 3) (gNC (gN 4) (gN0)))) zmk)
 (sSeq (zbU 5 (zax (mNil) λxs=>if xs.length<=1000000 then zah xs else λ_=>.bad))
 (sSeq (sFor (zaY (dBin oAdd (dSlA (dVar 1) (zax (dVar 2) λx=>mOpt (zde x)) (zah none)) (dSlA (dVar 1) (zah none) (zax (dVar 2) λx=>mOpt (zde x))))) (gT 4 (gNC (gN 6) (gNC (gN 7) (gNC (gN 8) (gNC (gN 9) (gN0)))))) zmj)
 (sRet (dVar 5)))))
def F_bd:List D->Option D:=runD N_bd g_bd
abbrev Sbe:Stmt:=top 47
abbrev N_be:List Str:=["wishes", "worths", "dealing", "nothing", "gained", "walk"]
theorem Hbe:FnNm (zak Sbe) N_be ["all_steps", "widest_walks", "len", "round_within", "way_round"]:=zaL (by decide +kernel)
def zml:SM :=
 sIf (dBin oEq (zbQ 5) (dBin oAdd (dVar 3) (zah (.int 1))))
 (sRet (dFun 2 F_bd (zae (dVar 3) (zae (dFun 1 F_bc (zae (dVar 5) (mNil))) (mNil)))))
 (sNx)
def g_be:SM :=
 sSeq (sSet 3 (zbu oLen (zae (dIxN 0 (zah (.int 0))) (mNil))))
 (sSeq (sFor (zaY (dFun 2 F_bb (zae (dBin oAdd (dVar 3) (zah (.int 1))) (zae (dFun 3 F_az (zae (dVar 0) (zae (dVar 1) (zae (dVar 2) (mNil))))) (mNil))))) (gT 2 (gNC (gN 4) (gNC (gN 5) (gN0)))) zml)
 (sRet (mLst (mNil))))
def F_be:List D->Option D:=runD N_be g_be
abbrev Sav:Stmt:=top 37
abbrev N_av:List Str:=["dealing", "way", "told", "asker", "taken"]
theorem Hav:FnNm (zak Sav) N_av ["list"]:=zaL (by decide +kernel)
def zmm:SM :=
 zim 2 (dVar 3) (dVar 4)
def g_av:SM :=
 sSeq (zbU 2 (zeG 0))
 (sSeq (sFor (zaY (dVar 1)) (gT 2 (gNC (gN 3) (gNC (gN 4) (gN0)))) zmm)
 (sRet (dVar 2)))
def F_av:List D->Option D:=runD N_av g_av
abbrev Sbf:Stmt:=top 48
abbrev N_bf:List Str:=["wishes", "worths", "dealing", "way"]
theorem Hbf:FnNm (zak Sbf) N_bf ["gaining_way", "behind_way", "len"]:=zaL (by decide +kernel)
def zgF:SM :=
 sSeq (sSet 2 (dFun 2 F_av (zae (dVar 2) (zae (dVar 3) (mNil)))))
 (sSet 3 (dFun 3 F_be (zae (dVar 0) (zae (dVar 1) (zae (dVar 2) (mNil))))))
def g_bf:SM :=
 sSeq (sSet 2 (dBin oMul (mLst (zae (zah .none) (mNil))) (zbu oLen (zae (dIxN 0 (zah (.int 1))) (mNil)))))
 (sSeq (sSet 3 (dFun 3 F_be (zae (dVar 0) (zae (dVar 1) (zae (dVar 2) (mNil))))))
 (sSeq (zcK (zfu (dVar 3)) zgF FUEL)
 (sRet (dVar 2))))
def F_bf:List D->Option D:=runD N_bf g_bf
abbrev Saj:Stmt:=top 19
abbrev N_aj:List Str:=["wishes"]
theorem Haj:FnNm (zak Saj) N_aj ["enumerate", "sorted", "look_at_wishes"]:=zaL (by decide +kernel)
def g_aj:SM :=
 sSeq (ze9 (dFun 1 F_ag (zae (dVar 0) (mNil))))
 (sRet (zbu ziz (zae (mMap PyData.list (zha (zdH (zae (dIxN 0 (zah (.int 1))) (mNil))) 4 (gT 2 (gNC (gN 1) (gNC (gN 2) (gN0)))) (zah true) (zaY (dVar 2)) (gN 3) (zah true) (zaY (dVar 3)) (gN 4) (zah true) (mTup (zae (dVar 1) (zae (dVar 4) (mNil)))))) (mNil))))
def F_aj:List D->Option D:=runD N_aj g_aj
abbrev Saq:Stmt:=top 31
abbrev N_aq:List Str:=["base", "times", "told", "step"]
theorem Haq:FnNm (zak Saq) N_aq ["range"]:=zaL (by decide +kernel)
def zmn:SM :=
 sAug gMul 2 (dVar 0)
def g_aq:SM :=
 sSeq (sSet 2 (zah (.int 1)))
 (sSeq (sFor (zeP (zae (dVar 1) (mNil))) (gN 3) zmn)
 (sRet (dVar 2)))
def F_aq:List D->Option D:=runD N_aq g_aq
abbrev Sas:Stmt:=top 33
abbrev N_as:List Str:=["turns", "base", "asker", "rank", "behind"]
theorem Has:FnNm (zak Sas) N_as ["power", "len"]:=zaL (by decide +kernel)
def g_as:SM :=
 sSeq (sIf (zce oNin 2 (dVar 0))
 (sRet (zah (.int 0)))
 (sNx))
 (sSeq (sSet 4 (dBin oSub (dBin oSub (zbQ 0) (zah (.int 1))) (zja (dVar 0) (zae (dVar 2) (mNil)))))
 (sRet (dBin oMul (dBin oSub (dVar 1) (dVar 3)) (dFun 2 F_aq (zae (dVar 1) (zae (dVar 4) (mNil)))))))
def F_as:List D->Option D:=runD N_as g_as
abbrev Sar:Stmt:=top 32
abbrev N_ar:List Str:=["order", "base", "most", "rank"]
theorem Har:FnNm (zak Sar) N_ar ["power"]:=zaL (by decide +kernel)
def g_ar:SM :=
 sSeq (sIf (zce oEq 0 (zah (.str "firsts")))
 (sRet (dFun 2 F_aq (zae (dVar 1) (zae (dBin oSub (dVar 2) (dVar 3)) (mNil)))))
 (sNx))
 (sSeq (sIf (zce oEq 0 (zah (.str "full")))
 (sRet (dBin oAdd (dFun 2 F_aq (zae (dVar 1) (zae (dVar 2) (mNil)))) (dFun 2 F_aq (zae (dVar 1) (zae (dBin oSub (dVar 2) (dVar 3)) (mNil))))))
 (sNx))
 (sRet (dBin oSub (dFun 2 F_aq (zae (dVar 1) (zae (dVar 2) (mNil)))) (dFun 2 F_aq (zae (dVar 1) (zae (dBin oSub (dVar 3) (zah (.int 1))) (mNil)))))))
def F_ar:List D->Option D:=runD N_ar g_ar
abbrev Sah:Stmt:=top 17
abbrev N_ah:List Str:=["ranks", "thing", "number", "rank"]
theorem Hah:FnNm (zak Sah) N_ah ["enumerate"]:=zaL (by decide +kernel)
def zmo:SM :=
 sIf (zce oIn 1 (dVar 3))
 (sRet (dVar 2))
 (sNx)
def g_ah:SM :=
 sSeq (sFor (zi5 (zae (dVar 0) (mNil))) (gT 2 (gNC (gN 2) (gNC (gN 3) (gN0)))) zmo)
 (sRet (zah (.int 0)))
def F_ah:List D->Option D:=runD N_ah g_ah
abbrev Sat:Stmt:=top 34
abbrev N_at:List Str:=["wishes", "aim", "most", "asker", "thing", "order", "old", "turns", "lists", "rank", "base", "kept", "by_counts"]
theorem Hat:FnNm (zak Sat) N_at ["len", "power", "worth_by_turns", "worth_by_order", "rank_in"]:=zaL (by decide +kernel)
def g_at:SM :=
 sSeq (sAsg (dVar 1) (gT 3 (gNC (gN 5) (gNC (gN 6) (gNC (gN 7) (gN0))))))
 (sSeq (sSet 8 (dIxN 0 (zah (.int 1))))
 (sSeq (sSet 9 (dFun 2 F_ah (zae (dIxN 8 (dVar 3)) (zae (dVar 4) (mNil)))))
 (sSeq (sSet 10 (dBin oAdd (zbQ 8) (zah (.int 1))))
 (sSeq (sSet 11 (mIf (mAnd (mMap (λd=>!isNon d) (dVar 6)) (dBin oEq (dIxN 6 (dVar 3)) (dVar 4))) (zah (.int 1)) (zah (.int 0))))
 (sSeq (sSet 12 (dBin oAdd (dBin oMul (dFun 4 F_ar (zae (dVar 5) (zae (dVar 10) (zae (dVar 2) (zae (dVar 9) (mNil)))))) (dVar 10)) (dVar 11)))
 (sRet (dBin oAdd (dBin oMul (dVar 12) (dFun 2 F_aq (zae (dBin oAdd (dVar 2) (zah (.int 1))) (zae (zbQ 7) (mNil))))) (dFun 4 F_as (zae (dVar 7) (zae (dBin oAdd (dVar 2) (zah (.int 1))) (zae (dVar 3) (zae (dVar 9) (mNil)))))))))))))
def F_at:List D->Option D:=runD N_at g_at
abbrev Sai:Stmt:=top 18
abbrev N_ai:List Str:=["wishes"]
theorem Hai:FnNm (zak Sai) N_ai ["max", "look_at_wishes"]:=zaL (by decide +kernel)
def g_ai:SM :=
 sSeq (ze9 (dFun 1 F_ag (zae (dVar 0) (mNil))))
 (sRet (zbu zhd (zae (mMap PyData.list (zci (zaY (dIxN 0 (zah (.int 1)))) 1 (gN 1) (zah true) (zbQ 1))) (mNil))))
def F_ai:List D->Option D:=runD N_ai g_ai
abbrev Sao:Stmt:=top 28
abbrev N_ao:List Str:=["thing", "askers"]
theorem Hao:FnNm (zak Sao) N_ao ["len", "set", "isinstance", "list", "all"]:=zaL (by decide +kernel)
def g_ao:SM :=
 sSeq (sIf (mOr (mNot (zbq (mMap (λd=>.bool (isTy d "list")) (dVar 0)))) (mNot (zbq (zbu oAll (zae (mMap PyData.list (zci (zaY (dVar 0)) 1 (gN 2) (zah true) (dFun 2 F_ab (zae (dVar 2) (zae (dVar 1) (mNil)))))) (mNil))))))
 (sRet (zah (.bool false)))
 (sNx))
 (sRet (mMap PyData.bool (dBin oEq (zbu zc4 (zae (dVar 0) (mNil))) (zbQ 0))))
def F_ao:List D->Option D:=runD N_ao g_ao
abbrev San:Stmt:=top 27
abbrev N_an:List Str:=["thing", "askers", "things"]
theorem Han:FnNm (zak San) N_an ["all", "isinstance", "list", "len"]:=zaL (by decide +kernel)
def g_an:SM :=
 sSeq (sIf (mMap isNon (dVar 0))
 (sRet (zah (.bool true)))
 (sNx))
 (sSeq (sIf (mOr (mNot (zbq (mMap (λd=>.bool (isTy d "list")) (dVar 0)))) (dBin oNe (zbQ 0) (dVar 1)))
 (sRet (zah (.bool false)))
 (sNx))
 (sRet (zbu oAll (zae (mMap PyData.list (zci (zaY (dVar 0)) 1 (gN 3) (zah true) (mOrV (mMap (λd=>.bool (isNon d)) (dVar 3)) (dFun 2 F_ab (zae (dVar 3) (zae (dVar 2) (mNil))))))) (mNil)))))
def F_an:List D->Option D:=runD N_an g_an
abbrev Sal:Stmt:=top 24
abbrev N_al:List Str:=["thing"]
theorem Hal:FnNm (zak Sal) N_al ["isinstance", "str", "ORDERS"]:=zaL (by decide +kernel)
def g_al:SM :=
 sRet (zih (mMap (λd=>.bool (isTy d "str")) (dVar 0)) (mMap PyData.bool (zce oIn 0 (zah (.tuple ((["firsts", "full", "lasts"]:List Str).map PyData.str))))))
def F_al:List D->Option D:=runD N_al g_al
abbrev Sam:Stmt:=top 25
abbrev N_am:List Str:=["thing"]
theorem Ham:FnNm (zak Sam) N_am ["is_order"]:=zaL (by decide +kernel)
def g_am:SM :=
 sIf (mNot (zbq (dFun 1 F_al (zae (dVar 0) (mNil)))))
 (zdK)
 (sNx)
def F_am:List D->Option D:=runD N_am g_am
abbrev Sap:Stmt:=top 29
abbrev N_ap:List Str:=["wishes", "thing", "copies", "lists", "order", "old", "turns"]
theorem Hap:FnNm (zak Sap) N_ap ["len", "is_turns", "is_old", "look_at_order", "isinstance", "tuple", "look_at_wishes"]:=zaL (by decide +kernel)
def g_ap:SM :=
 sSeq (ze9 (dFun 1 F_ag (zae (dVar 0) (mNil))))
 (sSeq (sIf (mOr (mNot (zbq (mMap (λd=>.bool (isTy d "tuple")) (dVar 1)))) (dBin oNe (zbQ 1) (zah (.int 3))))
 (zdK)
 (sNx))
 (sSeq (sAsg (dVar 0) (gT 2 (gNC (gN 2) (gNC (gN 3) (gN0)))))
 (sSeq (sAsg (dVar 1) (gT 3 (gNC (gN 4) (gNC (gN 5) (gNC (gN 6) (gN0))))))
 (sSeq (ze9 (dFun 1 F_am (zae (dVar 4) (mNil))))
 (sSeq (sIf (mNot (zbq (dFun 3 F_an (zae (dVar 5) (zae (zbQ 3) (zae (zbQ 2) (mNil)))))))
 (zdK)
 (sNx))
 (sIf (mNot (zbq (dFun 2 F_ao (zae (dVar 6) (zae (zbQ 3) (mNil))))))
 (zdK)
 (sNx)))))))
def F_ap:List D->Option D:=runD N_ap g_ap
abbrev Sau:Stmt:=top 35
abbrev N_au:List Str:=["wishes", "aim", "most"]
theorem Hau:FnNm (zak Sau) N_au ["all_wishes", "longest", "look_at_aim"]:=zaL (by decide +kernel)
def g_au:SM :=
 sSeq (ze9 (dFun 2 F_ap (zae (dVar 0) (zae (dVar 1) (mNil)))))
 (sSeq (sSet 2 (dFun 1 F_ai (zae (dVar 0) (mNil))))
 (sRet (mMap PyData.list (zci (zaY (dFun 1 F_aj (zae (dVar 0) (mNil)))) 2 (gT 2 (gNC (gN 3) (gNC (gN 4) (gN0)))) (zah true) (mTup (zae (dVar 3) (zae (dVar 4) (zae (dFun 5 F_at (zae (dVar 0) (zae (dVar 1) (zae (dVar 2) (zae (dVar 3) (zae (dVar 4) (mNil))))))) (mNil)))))))))
def F_au:List D->Option D:=runD N_au g_au
abbrev Sbj:Stmt:=top 53
abbrev N_bj:List Str:=["wishes", "aim", "worths", "dealing"]
theorem Hbj:FnNm (zak Sbj) N_bj ["paper_for", "best_by", "all_worths"]:=zaL (by decide +kernel)
def g_bj:SM :=
 sSeq (sSet 2 (dFun 2 F_au (zae (dVar 0) (zae (dVar 1) (mNil)))))
 (sSeq (sSet 3 (dFun 2 F_bf (zae (dVar 0) (zae (dVar 2) (mNil)))))
 (sRet (mTup (zae (dVar 3) (zae (dFun 3 F_bi (zae (dVar 0) (zae (dVar 2) (zae (dVar 3) (mNil))))) (mNil))))))
def F_bj:List D->Option D:=runD N_bj g_bj
abbrev Sbl:Stmt:=top 56
abbrev N_bl:List Str:=["_law_cell", "_law_salt", "_law_sizes", "_law_number", "_law_left", "_law_found", "_law_k", "_law_one"]
theorem Hbl:FnNm (zak Sbl) N_bl ["len", "range", "max"]:=zaL (by decide +kernel)
def ziB:SM :=
 sIf (mAnd (zce (oIB λi j=>decide (j<=i)) 3 (dBin oPow (zah (.int 10)) (zah (.int 18)))) (zce (oIB λi j=>decide (j<i)) 4 (zah (.int 0))))
 (sSeq (sApp 5 (dBin oMod (dVar 4) (dIxN 2 (dVar 6))))
 (sSet 4 (dBin oDiv (dVar 4) (dIxN 2 (dVar 6)))))
 (sSeq (sSet 7 (dBin oMod (dBin oAdd (dBin oAdd (dBin oAdd (dVar 3) (dBin oMul (zah (.int 7919)) (dVar 1))) (dBin oMul (dBin oMul (zah (.int 101)) (dVar 6)) (dVar 6))) (dVar 6)) (zah (.int 2147483647))))
 (sSeq (sSet 7 (dBin oMod (dBin oMul (dVar 7) (zah (.int 48271))) (zah (.int 2147483647))))
 (sSeq (sSet 7 (dBin oMod (dBin oMul (dBin oMod (dBin oMul (dVar 7) (dVar 7)) (zah (.int 2147483629))) (zah (.int 48271))) (zah (.int 2147483647))))
 (sApp 5 (dBin oMod (dBin oDiv (dVar 7) (zah (.int 16))) (dIxN 2 (dVar 6)))))))
def g_bl:SM :=
 sSeq (sSet 3 (zbu zk1 (zae (dVar 0) (zae (dBin oSub (dNeg (zah (.int 1))) (dVar 0)) (mNil)))))
 (sSeq (sSet 4 (dVar 3))
 (sSeq (zbU 5 (zax (mNil) λxs=>if xs.length<=1000000 then zah xs else λ_=>.bad))
 (sSeq (sFor (zeP (zae (zbQ 2) (mNil))) (gN 6) ziB)
 (sRet (dVar 5)))))
def F_bl:List D->Option D:=runD N_bl g_bl
abbrev Sbq:Stmt:=top 61
abbrev N_bq:List Str:=["_law_wishes_here", "_law_cell", "_law_salt", "_law_askers", "_law_sizes", "_law_digits", "_law_old", "_law_turns", "_law_digit"]
theorem Hbq:FnNm (zak Sbq) N_bq ["_law_numbers", "len"]:=zaL (by decide +kernel)
def zgG:SM :=
 sSet 8 (dBin oMod (dBin oAdd (dVar 8) (zah (.int 1))) (dVar 3))
def zmp:SM :=
 sSeq (zcK (zj9 oIn (dVar 8) 7) zgG 1000)
 (sApp 7 (dVar 8))
def g_bq:SM :=
 sSeq (sSet 3 (zbu oLen (zae (dIxN 0 (zah (.int 1))) (mNil))))
 (sSeq (sSet 4 (dBin oAdd (mLst (zae (zah (.int 3)) (zae (zah (.int 2)) (zae (dBin oAdd (dVar 3) (zah (.int 1))) (mNil))))) (dBin oMul (mLst (zae (dBin oAdd (zbu oLen (zae (dIxN 0 (zah (.int 0))) (mNil))) (zah (.int 1))) (mNil))) (dVar 3))))
 (sSeq (sSet 5 (dFun 3 F_bl (zae (dVar 1) (zae (dVar 2) (zae (dBin oAdd (dVar 4) (dBin oMul (mLst (zae (dVar 3) (mNil))) (dVar 3))) (mNil))))))
 (sSeq (sSet 6 (zah .none))
 (sSeq (sIf (dBin oEq (dIxN 5 (zah (.int 1))) (zah (.int 1)))
 (zbU 6 (zci (zaY (dSlA (dVar 5) (zax (zah (.int 3)) λx=>mOpt (zde x)) (zax (dBin oAdd (zah (.int 3)) (dVar 3)) λx=>mOpt (zde x)))) 1 (gN 9) (zah true) (dBin oIx (mLst (zae (zah .none) (zae (dBin oSub (dVar 9) (zah (.int 1))) (mNil)))) (zbu zlg (zae (mMap PyData.bool (zce (oIB λi j=>decide (j<i)) 9 (zah (.int 0)))) (mNil))))))
 (sNx))
 (sSeq (zbU 7 (zax (mNil) λxs=>if xs.length<=1000000 then zah xs else λ_=>.bad))
 (sSeq (sFor (zaY (dSlA (dVar 5) (zax (dBin oAdd (zah (.int 3)) (dVar 3)) λx=>mOpt (zde x)) (zax (dBin oAdd (dBin oAdd (zah (.int 3)) (dVar 3)) (dIxN 5 (zah (.int 2)))) λx=>mOpt (zde x)))) (gN 8) zmp)
 (sRet (mTup (zae (dBin oIx (mLst (zae (zah (.str "firsts")) (zae (zah (.str "full")) (zae (zah (.str "lasts")) (mNil))))) (dIxN 5 (zah (.int 0)))) (zae (dVar 6) (zae (dVar 7) (mNil))))))))))))
def F_bq:List D->Option D:=runD N_bq g_bq
abbrev Sbs:Stmt:=top 63
abbrev N_bs:List Str:=["_law_wishes_here", "_law_lists", "_law_ranks"]
theorem Hbs:FnNm (zak Sbs) N_bs ["list"]:=zaL (by decide +kernel)
def zmq:SM :=
 sApp 1 (mMap PyData.list (zci (zaY (dVar 2)) 1 (gN 3) (zah true) (mMap PyData.list (zeG 3))))
def g_bs:SM :=
 sSeq (zbU 1 (zax (mNil) λxs=>if xs.length<=1000000 then zah xs else λ_=>.bad))
 (sSeq (sFor (zaY (dIxN 0 (zah (.int 1)))) (gN 2) zmq)
 (sRet (mTup (zae (mMap PyData.list (zax (zae (dIxN 0 (zah (.int 0))) (mNil)) λxs=>mOpt (zeQ xs))) (zae (dVar 1) (mNil))))))
def F_bs:List D->Option D:=runD N_bs g_bs
abbrev Sbm:Stmt:=top 57
abbrev N_bm:List Str:=["_law_script", "_law_at", "_law_most_things", "_law_most_askers", "_law_most_ranks", "_law_sizes", "_law_digits", "_law_copies", "_law_lists", "_law_asker", "_law_cell", "_law_places", "_law_ranks", "_law_rank_here", "_law_row"]
theorem Hbm:FnNm (zak Sbm) N_bm ["range", "len", "_law_numbers", "_law_cell_at"]:=zaL (by decide +kernel)
def ziC:SM :=
 sSeq (zbU 14 (zci (zeP (zae (zbQ 7) (mNil))) 1 (gN 15) (dBin oEq (dIxN 11 (dVar 15)) (dVar 13)) (dVar 15)))
 (sIf (zce oNe 14 (mLst (mNil)))
 (sApp 12 (dBin oIx (mLst (zae (dVar 14) (zae (dRev (dVar 14) (zah none) (zah none) (zax (dNeg (zah (.int 1))) λx=>mOpt (zde x))) (mNil)))) (dIxN 11 (dNeg (zah (.int 1))))))
 (sNx))
def ziD:SM :=
 sSeq (sSet 10 (dFun 2 F_bk (zae (dVar 0) (zae (dBin oAdd (dBin oAdd (dVar 1) (zah (.int 1))) (dVar 9)) (mNil)))))
 (sSeq (sSet 11 (dFun 3 F_bl (zae (dVar 10) (zae (dBin oAdd (dBin oAdd (dBin oMul (zah (.int 11)) (dVar 1)) (dBin oMul (zah (.int 3)) (dVar 9))) (zah (.int 1))) (zae (dBin oAdd (dBin oMul (mLst (zae (dBin oAdd (dVar 4) (zah (.int 1))) (mNil))) (dVar 2)) (mLst (zae (zah (.int 2)) (mNil)))) (mNil))))))
 (sSeq (zbU 12 (zax (mNil) λxs=>if xs.length<=1000000 then zah xs else λ_=>.bad))
 (sSeq (sFor (znx (zae (zah (.int 1)) (zae (dBin oAdd (dVar 4) (zah (.int 1))) (mNil)))) (gN 13) ziC)
 (sApp 8 (dVar 12)))))
def g_bm:SM :=
 sSeq (sSet 5 (dBin oAdd (mLst (zae (dVar 2) (zae (dVar 3) (mNil)))) (dBin oMul (mLst (zae (zah (.int 11)) (mNil))) (dVar 2))))
 (sSeq (sSet 6 (dFun 3 F_bl (zae (dFun 2 F_bk (zae (dVar 0) (zae (dVar 1) (mNil)))) (zae (dVar 1) (zae (dVar 5) (mNil))))))
 (sSeq (zbU 7 (zci (zaY (dSlA (dVar 6) (zax (zah (.int 2)) λx=>mOpt (zde x)) (zax (dBin oAdd (zah (.int 3)) (dIxN 6 (zah (.int 0)))) λx=>mOpt (zde x)))) 1 (gN 15) (zah true) (dBin oIx (mLst (zae (zah (.int 1)) (zae (zah (.int 1)) (zae (zah (.int 2)) (zae (zah (.int 0)) (zae (zah (.int 3)) (zae (zah (.int 7)) (zae (zah (.int 1)) (zae (zah (.int 4)) (zae (zah (.int 5)) (zae (zah (.int 6)) (zae (zah (.int 1)) (mNil))))))))))))) (dVar 15))))
 (sSeq (zbU 8 (zax (mNil) λxs=>if xs.length<=1000000 then zah xs else λ_=>.bad))
 (sSeq (sFor (zeP (zae (dBin oAdd (zah (.int 1)) (dIxN 6 (zah (.int 1)))) (mNil))) (gN 9) ziD)
 (sRet (mTup (zae (dVar 7) (zae (dVar 8) (mNil)))))))))
def F_bm:List D->Option D:=runD N_bm g_bm
abbrev Scd:Stmt:=top 74
abbrev N_cd:List Str:=["_law_script", "_law_wishes_here", "_law_handed", "_law_held", "_law_k", "_law_cell", "_law_aim_here", "_law_shown", "_law_found"]
theorem Hcd:FnNm (zak Scd) N_cd ["repr", "_law_cell_at", "enumerate", "max", "_law_worths", "_law_is_told_best", "best_dealing", "_law_aim", "_law_copy", "_law_wishes"]:=zaL (by decide +kernel)
def zmr:SM :=
 sIf (dBin oNe (zbu zfq (zae (dVar 8) (mNil))) (dVar 7))
 (sRet (zah (.bool false)))
 (sNx)
def zms:SM :=
 sSeq (sSet 6 (dFun 3 F_bq (zae (dVar 1) (zae (dVar 5) (zae (dBin oAdd (zah (.int 5)) (dVar 4)) (mNil))))))
 (sSeq (sSet 7 (zbu zfq (zae (dVar 6) (mNil))))
 (sSeq (sSet 8 (dFun 2 F_bj (zae (dVar 2) (zae (dVar 6) (mNil)))))
 (sSeq (sIf (mOr (mNot (zbq (dFun 3 F_cc (zae (dVar 1) (zae (dFun 2 F_bx (zae (dVar 1) (zae (dVar 6) (mNil)))) (zae (dVar 8) (mNil))))))) (dBin oNe (zbu zfq (zae (dVar 6) (mNil))) (dVar 7)))
 (sRet (zah (.bool false)))
 (sNx))
 (sSeq (sIf (dBin (oIB λi j=>decide (j<=i)) (zbu zhd (zae (dBin oAdd (dBin oIx (dIxN 8 (zah (.int 1))) (zah (.int 1))) (dBin oIx (dIxN 8 (zah (.int 1))) (zah (.int 2)))) (mNil))) (dBin oPow (zah (.int 10)) (zah (.int 40))))
 (sRet (zah (.bool false)))
 (sNx))
 (sApp 3 (mTup (zae (dVar 8) (zae (zbu zfq (zae (dVar 8) (mNil))) (mNil)))))))))
def g_cd:SM :=
 sSeq (sSet 1 (dFun 5 F_bm (zae (dVar 0) (zae (zah (.int 1)) (zae (zah (.int 6)) (zae (zah (.int 7)) (zae (zah (.int 5)) (mNil))))))))
 (sSeq (sSet 2 (dFun 1 F_bs (zae (dVar 1) (mNil))))
 (sSeq (zbU 3 (zax (mNil) λxs=>if xs.length<=1000000 then zah xs else λ_=>.bad))
 (sSeq (sFor (zdH (zae (dBin oAdd (mLst (zae (dFun 2 F_bk (zae (dVar 0) (zae (zah (.int 0)) (mNil)))) (mNil))) (dSlA (dVar 0) (zax (zah (.int 9)) λx=>mOpt (zde x)) (zax (zah (.int 13)) λx=>mOpt (zde x)))) (mNil))) (gT 2 (gNC (gN 4) (gNC (gN 5) (gN0)))) zms)
 (sSeq (sFor (zaY (dVar 3)) (gT 2 (gNC (gN 8) (gNC (gN 7) (gN0)))) zmr)
 (sRet (mMap PyData.bool (zce oEq 2 (dVar 1))))))))
def F_cd:List D->Option D:=runD N_cd g_cd
section
variable{P:Program}{w:World}{K:Frag}{mg:Str->Option Value}{base:Heap}{f:Addr}{fd:FuncData}(T:Txt K mg)
include T
theorem Kbk(F:Fun K "_law_cell_at" "_law_cell_at" Sbk f fd):FnOk P w K mg base CX0 1 f fd ["_law_script", "_law_k"] (spD K 2 F_bk) :=
 okD (k:=0) (g:=g_bk) F (fq Hbk 2) rfl λcdv A outer s H E B G0 hr=>
 have hu:=hr.units;have hgd:=hr.gd
 (zaj (zbk (zb7 B_lt (pq Hbk 1) (za1 (gq Hbk 0) T.b_len (pq Hbk 0)) (za4 _))
 (zao (zau (zas (pq Hbk 0) (zac (pq Hbk 1)) (λ_ _=>rfl))))
 zaX)
 (zao (zau zal)))
theorem Kbp(F:Fun K "_law_wished" "_law_wished" Sbp f fd):FnOk P w K mg base CX0 1 f fd ["_law_wishes_here", "_law_asker"] (spD K 2 F_bp) :=
 okD (k:=0) (g:=g_bp) F (fq Hbp 2) rfl λcdv A outer s H E B G0 hr=>
 have hu:=hr.units;have hgd:=hr.gd
 (zao (zau (zaA zoM (gq Hbp 1) T.b_sorted PyProof.Rows.boot_sorted (zaa (zaA (zq5 rfl) (gq Hbp 0) T.b_sum JY (zaa (zcP (zas (pq Hbp 0) zal (λ_ _=>rfl)) (zac (pq Hbp 1)) (λ_ _=>rfl)) (zaa (zbs zaf) zaf))) zaf))))
theorem Kbv(d_bp:Def P w K mg base "_law_wished" 1 2 F_bp)(F:Fun K "_law_wishes_of" "_law_wishes_of" Sbv f fd):FnOk P w K mg base CX0 2 f fd ["_law_wishes_here"] (spD K 1 F_bv) :=
 okD (k:=1) (g:=g_bv) F (fq Hbv 1) rfl λcdv A outer s H E B G0 hr=>
 have hu:=hr.units;have hgd:=hr.gd
 (zaj (zch (i:=1) (nq Hbv) rfl (lq Hbv 1) (zc3 zaf))
 (zaj (zbx Qq rfl (zcf (gq Hbv 1) T.b_range (zaa (zaA zdS (gq Hbv 0) T.b_len Jh (zaa (zas (pq Hbv 0) zal (λ_ _=>rfl)) zaf)) zaf)) (zan (zam (i:=2) (nq Hbv) rfl (lq Hbv 2)))
 (zao (zra (pq Hbv 1) (zdI (zak Sbv) N_bv ["_law_wishes_here", "_law_found", "_law_asker", "_law_thing"] 1 zbe rfl (zbr (pdf d_bp hr (gq Hbv 2) (zaa (zac (pq Hbv 0)) (zaa (zac (pq Hbv 2)) zaf)))) (λcl C s0 H0 ex=>⟨λB' G'=>(zan (zam (i:=3) (show (["_law_wishes_here", "_law_found", "_law_asker", "_law_thing"]:List Str).Nodup by decide +kernel) rfl (za2 rfl) (.inr (zbi rfl)))),λB' G'=>zbt,(zaZ rfl rfl rfl λB' G'=>(zbJ (zaa (zac (pvb 2)) (zaa (zac (pvb 3)) zaf))))⟩) rfl rfl (by decide +kernel)))))
 (zao (zau (zac (pq Hbv 1))))))
theorem Kbn(F:Fun K "_law_rank" "_law_rank" Sbn f fd):FnOk P w K mg base CX0 1 f fd ["_law_wishes_here", "_law_asker", "_law_thing"] (spD K 3 F_bn) :=
 okD (k:=0) (g:=g_bn) F (fq Hbn 3) rfl λcdv A outer s H E B G0 hr=>
 have hu:=hr.units;have hgd:=hr.gd
 (zaj (zbx Qq rfl (zcr (gq Hbn 0) T.b_enumerate (zaa (zcP (zas (pq Hbn 0) zal (λ_ _=>rfl)) (zac (pq Hbn 1)) (λ_ _=>rfl)) zaf)) (zbp rfl (zar (zan (zam (i:=3) (nq Hbn) rfl (lq Hbn 3))) (zar (zan (zam (i:=4) (nq Hbn) rfl (lq Hbn 4))) zbo)))
 (zao (zbk (zb7 (B_in hu) (pq Hbn 2) (zac (pq Hbn 4)) rfl)
 (zao (zau (zaz zba (zac (pq Hbn 3)) zal)))
 zaX)))
 (zao (zau zal)))
theorem Kbo(F:Fun K "_law_longest" "_law_longest" Sbo f fd):FnOk P w K mg base CX0 1 f fd ["_law_wishes_here"] (spD K 1 F_bo) :=
 okD (k:=0) (g:=g_bo) F (fq Hbo 1) rfl λcdv A outer s H E B G0 hr=>
 have hu:=hr.units;have hgd:=hr.gd
 (zao (zau (zaA (zlo rfl) (gq Hbo 0) T.b_max boot_max (zaa (zbR (zdI (zak Sbo) N_bo ["_law_wishes_here", "_law_ranks"] 1 zbe rfl (zbr (zas (pq Hbo 0) zal (λ_ _=>rfl))) (λcl C s0 H0 ex=>⟨λB' G'=>(zan (zam (i:=1) (show (["_law_wishes_here", "_law_ranks"]:List Str).Nodup by decide +kernel) rfl (za2 rfl) (.inr (zbi rfl)))),λB' G'=>zbt,(zaZ rfl rfl rfl λB' G'=>(za1 (zdM rfl) T.b_len (pvb 1)))⟩) rfl rfl (by decide +kernel))) zaf))))
theorem Kbr(d_bn:Def P w K mg base "_law_rank" 1 3 F_bn)(d_bo:Def P w K mg base "_law_longest" 1 1 F_bo)(F:Fun K "_law_worth" "_law_worth" Sbr f fd):FnOk P w K mg base CX0 2 f fd ["_law_wishes_here", "_law_aim_here", "_law_asker", "_law_thing"] (spD K 4 F_br) :=
 okD (k:=1) (g:=g_br) F (fq Hbr 4) rfl λcdv A outer s H E B G0 hr=>
 have hu:=hr.units;have hgd:=hr.gd
 (zaj (zfa (zac (pq Hbr 1)) (zbp rfl (zar (zan (zam (i:=4) (nq Hbr) rfl (lq Hbr 4))) (zar (zan (zam (i:=5) (nq Hbr) rfl (lq Hbr 5))) (zar (zan (zam (i:=6) (nq Hbr) rfl (lq Hbr 6))) zbo)))))
 (zaj (zaJ (i:=7) (nq Hbr) rfl (lq Hbr 7) (zaz zba (zaA zdS (gq Hbr 3) T.b_len Jh (zaa (zas (pq Hbr 0) zal (λ_ _=>rfl)) zaf)) zal))
 (zaj (zaJ (i:=8) (nq Hbr) rfl (lq Hbr 8) (pdf d_bo hr (gq Hbr 2) (zaa (zac (pq Hbr 0)) zaf)))
 (zaj (zaJ (i:=9) (nq Hbr) rfl (lq Hbr 9) (pdf d_bn hr (gq Hbr 1) (zaa (zac (pq Hbr 0)) (zaa (zac (pq Hbr 2)) (zaa (zac (pq Hbr 3)) zaf)))))
 (zaj (zch (i:=10) (nq Hbr) rfl (lq Hbr 10) (zc3 (zaa zal zaf)))
 (zaj (zbx Qq rfl (zcf (gq Hbr 0) T.b_range (zaa (zac (pq Hbr 8)) zaf)) (zan (zam (i:=11) (nq Hbr) rfl (lq Hbr 11)))
 (zao (zdL (pq Hbr 10) (zaz zcz (zas (pq Hbr 10) (zfd zal) (λ_ _=>rfl)) (zac (pq Hbr 7))))))
 (zaj (zaJ (i:=12) (nq Hbr) rfl (lq Hbr 12) (zas (pq Hbr 10) (zaz zdG (zac (pq Hbr 8)) (zac (pq Hbr 9))) (λ_ _=>rfl)))
 (zaj (zbk (zb7 (B_eq hu) (pq Hbr 4) ze4 (za4 _))
 (zao (zaJ (i:=12) (nq Hbr) rfl (lq Hbr 12) (zaz zba (zac (pq Hbr 12)) (zas (pq Hbr 10) (zac (pq Hbr 8)) (λ_ _=>rfl)))))
 zaX)
 (zaj (zbk (zb7 (B_eq hu) (pq Hbr 4) ze4 (za4 _))
 (zao (zaJ (i:=12) (nq Hbr) rfl (lq Hbr 12) (zaz zdG (zas (pq Hbr 10) (zac (pq Hbr 8)) (λ_ _=>rfl)) (zas (pq Hbr 10) (zaz zdG (zac (pq Hbr 9)) zal) (λ_ _=>rfl)))))
 zaX)
 (zaj (zaJ (i:=12) (nq Hbr) rfl (lq Hbr 12) (zaz zcz (zac (pq Hbr 12)) (zac (pq Hbr 7))))
 (zaj (zbk (PW.pt (ze6 (zc2 (zac (pq Hbr 5))) (zdQ (zbb (B_eq hu) (zas (pq Hbr 5) (zac (pq Hbr 2)) (λ_ _=>rfl)) (zac (pq Hbr 3)) (za4 _)))))
 (zao (zaJ (i:=12) (nq Hbr) rfl (lq Hbr 12) (zaz zba (zac (pq Hbr 12)) zal)))
 zaX)
 (zaj (zaJ (i:=13) (nq Hbr) rfl (lq Hbr 13) zal)
 (zaj (zbx Qq rfl (zbr (zac (pq Hbr 6))) (zan (zam (i:=14) (nq Hbr) rfl (lq Hbr 14)))
 (zaj (zaJ (i:=12) (nq Hbr) rfl (lq Hbr 12) (zaz zcz (zac (pq Hbr 12)) (zaz zba (zac (pq Hbr 8)) zal)))
 (zaj (zaJ (i:=13) (nq Hbr) rfl (lq Hbr 13) (zaz zcz (zac (pq Hbr 13)) (zaz zba (zac (pq Hbr 8)) zal)))
 (zao (zbk (zb7 (B_eq hu) (pq Hbr 14) (zac (pq Hbr 2)) (za4 _))
 (zao (zaJ (i:=13) (nq Hbr) rfl (lq Hbr 13) (zaz zdG (zaz zba (zaz zba (zac (pq Hbr 13)) (zac (pq Hbr 8))) zal) (zac (pq Hbr 9)))))
 zaX)))))
 (zao (zau (zaz zba (zac (pq Hbr 12)) (zac (pq Hbr 13))))))))))))))))))
theorem Kbx(d_bv:Def P w K mg base "_law_wishes_of" 2 1 F_bv)(d_br:Def P w K mg base "_law_worth" 2 4 F_br)(F:Fun K "_law_worths" "_law_worths" Sbx f fd):FnOk P w K mg base CX0 3 f fd ["_law_wishes_here", "_law_aim_here"] (spD K 2 F_bx) :=
 okD (k:=2) (g:=g_bx) F (fq Hbx 2) rfl λcdv A outer s H E B G0 hr=>
 have hu:=hr.units;have hgd:=hr.gd
 (zrh (j:=2) (i1:=3) (i2:=4) hu Qq rfl (nq Hbx) rfl rfl rfl (lq Hbx 2) (lq Hbx 3) (lq Hbx 4) (λ_=>(pq Hbx 2)) (λ_=>(pq Hbx 3)) (λ_=>(pq Hbx 4)) (by decide) (by decide) (by decide)
 (λB' G'=>(zbr (pdf d_bv hr (gq Hbx 0) (zaa (zac (pq Hbx 0)) zaf))))
 (λB' G'=>(pdf d_br hr (gq Hbx 1) (zaa (zac (pq Hbx 0)) (zaa (zac (pq Hbx 1)) (zaa (zac (pq Hbx 3)) (zaa (zac (pq Hbx 4)) zaf)))))) (by first|exact .inl rfl|exact .inr rfl|assumption) (by first|exact .inl rfl|exact .inr rfl|assumption) (by first|exact .inl rfl|exact .inr rfl|assumption))
theorem Kca(F:Fun K "_law_claim" "_law_claim" Sca f fd):FnOk P w K mg base CX0 1 f fd ["_law_wishes_here", "_law_paper"] (spD K 2 F_ca) :=
 okD (k:=0) (g:=g_ca) F (fq Hca 2) rfl λcdv A outer s H E B G0 hr=>
 have hu:=hr.units;have hgd:=hr.gd
 (zao (zau (zaz zba (zaA (zlH rfl) (gq Hca 0) T.b_sum JY (zaa (zas (pq Hca 1) zal (λ_ _=>rfl)) zaf)) (zaA (zlH rfl) (gq Hca 0) T.b_sum JY (zaa (zbR (zdI (zak Sca) N_ca ["_law_wishes_here", "_law_paper", "_law_many", "_law_price"] 2 zbe rfl (zq1 (gq Hca 1) T.b_zip (zaa (zas (pq Hca 0) zal (λ_ _=>rfl)) (zaa (zas (pq Hca 1) zal (λ_ _=>rfl)) zaf))) (λcl C s0 H0 ex=>⟨λB' G'=>(zbp rfl (zar (zan (zam (i:=2) (show (["_law_wishes_here", "_law_paper", "_law_many", "_law_price"]:List Str).Nodup by decide +kernel) rfl (za2 rfl) (.inr (zbi rfl)))) (zar (zan (zam (i:=3) (show (["_law_wishes_here", "_law_paper", "_law_many", "_law_price"]:List Str).Nodup by decide +kernel) rfl (za2 rfl) (.inr (zbi rfl)))) zbo))),λB' G'=>zbt,(zaZ rfl rfl rfl λB' G'=>(zaz zcz (zac (pvb 2)) (zac (pvb 3))))⟩) rfl rfl (by decide +kernel))) zaf)))))
theorem Kby(F:Fun K "_law_sum" "_law_sum" Sby f fd):FnOk P w K mg base CX0 1 f fd ["_law_worths_here", "_law_dealing"] (spD K 2 F_by) :=
 okD (k:=0) (g:=g_by) F (fq Hby 2) rfl λcdv A outer s H E B G0 hr=>
 have hu:=hr.units;have hgd:=hr.gd
 (zaj (sD_1 (j:=2) (zak Sby) N_by ["_law_worths_here", "_law_dealing", "_law_pairs", "_law_asker", "_law_thing"] 2 zbe (nq Hby) rfl rfl rfl (zcr (gq Hby 1) T.b_enumerate (zaa (zac (pq Hby 1)) zaf)) (λcl C s0 H0 ex=>⟨λB' G'=>(zbp rfl (zar (zan (zam (i:=3) (show (["_law_worths_here", "_law_dealing", "_law_pairs", "_law_asker", "_law_thing"]:List Str).Nodup by decide +kernel) rfl (za2 rfl) (.inr (zbi rfl)))) (zar (zan (zam (i:=4) (show (["_law_worths_here", "_law_dealing", "_law_pairs", "_law_asker", "_law_thing"]:List Str).Nodup by decide +kernel) rfl (za2 rfl) (.inr (zbi rfl)))) zbo))),λB' G'=>(zgk (zc2 (zac (pvb 4)))),(zaZ rfl rfl rfl λB' G'=>(zbJ (zaa (zac (pvb 3)) (zaa (zac (pvb 4)) zaf))))⟩) rfl rfl (by decide +kernel))
 (zao (zau (zaA (zlH rfl) (gq Hby 0) T.b_sum JY (zaa (zbR (zdI (zak Sby) N_by ["_law_worths_here", "_law_dealing", "_law_pairs", "_law_pair"] 1 zbe rfl (zbr (zac (pq Hby 2))) (λcl C s0 H0 ex=>⟨λB' G'=>(zan (zam (i:=3) (show (["_law_worths_here", "_law_dealing", "_law_pairs", "_law_pair"]:List Str).Nodup by decide +kernel) rfl (za2 rfl) (.inr (zbi rfl)))),λB' G'=>zbt,(zaZ rfl rfl rfl λB' G'=>(zlX hu (zac (pvb 0)) (zac (pvb 3))))⟩) rfl rfl (by decide +kernel))) zaf)))))
theorem Kbt(F:Fun K "_law_is_number" "_law_is_number" Sbt f fd):FnOk P w K mg base CX0 1 f fd ["_law_thing"] (spD K 1 F_bt) :=
 okD (k:=0) (g:=g_bt) F (fq Hbt 1) rfl λcdv A outer s H E B G0 hr=>
 have hu:=hr.units;have hgd:=hr.gd
 (zao (zau (zgj (za5 (c := "int") (by decide) (gq Hbt 0) T.b_isinstance (gq Hbt 1) T.b_int (by decide +kernel) (zac (pq Hbt 0)) (by decide) (by decide)) (ze7 (zkY (za5 (c := "bool") (by decide) (gq Hbt 0) T.b_isinstance (gq Hbt 2) T.b_bool (by decide +kernel) (zac (pq Hbt 0)) (by decide) (by decide)))))))
theorem Kbw(d_bt:Def P w K mg base "_law_is_number" 1 1 F_bt)(d_bp:Def P w K mg base "_law_wished" 1 2 F_bp)(F:Fun K "_law_is_dealing" "_law_is_dealing" Sbw f fd):FnOk P w K mg base CX0 2 f fd ["_law_wishes_here", "_law_thing"] (spD K 2 F_bw) :=
 okD (k:=1) (g:=g_bw) F (fq Hbw 2) rfl λcdv A outer s H E B G0 hr=>
 have hu:=hr.units;have hgd:=hr.gd
 (zaj (zbk (PW.pt (zcn (za8 (zbf (za5 (c := "list") (by decide) (gq Hbw 3) T.b_isinstance (gq Hbw 4) T.b_list (by decide +kernel) (zac (pq Hbw 1)) (by decide) (by decide)))) (zbP (zbb (B_ne hu) (za1 (gq Hbw 5) T.b_len (pq Hbw 1)) (zaA zdS (gq Hbw 5) T.b_len Jh (zaa (zas (pq Hbw 0) zal (λ_ _=>rfl)) zaf)) (za4 _)))))
 (zao (zau zbn))
 zaX)
 (zaj (zbx Qq rfl (zcr (gq Hbw 0) T.b_enumerate (zaa (zac (pq Hbw 1)) zaf)) (zbp rfl (zar (zan (zam (i:=2) (nq Hbw) rfl (lq Hbw 2))) (zar (zan (zam (i:=3) (nq Hbw) rfl (lq Hbw 3))) zbo)))
 (zaj (zbk (PW.pt (ze6 (zc2 (zac (pq Hbw 3))) (zdQ (PW.pt (zcn (za8 (zbf (pdf d_bt hr (gq Hbw 1) (zaa (zac (pq Hbw 3)) zaf)))) (zbP (zb7 (zq3 hu) (pq Hbw 3) (pdf d_bp hr (gq Hbw 2) (zaa (zac (pq Hbw 0)) (zaa (zac (pq Hbw 2)) zaf))) rfl)))))))
 (zao (zau zbn))
 zaX)
 (zao (zbk (PW.pt (ze6 (zc2 (zac (pq Hbw 3))) (zdQ (zbb B_gt (zhe hu (zac (pq Hbw 1)) (zaa (zac (pq Hbw 3)) zaf)) (zcP (zas (pq Hbw 0) zal (λ_ _=>rfl)) (zac (pq Hbw 3)) (λ_ _=>rfl)) (za4 _)))))
 (zao (zau zbn))
 zaX))))
 (zao (zau zbn))))
theorem Kbu(d_bt:Def P w K mg base "_law_is_number" 1 1 F_bt)(F:Fun K "_law_is_row" "_law_is_row" Sbu f fd):FnOk P w K mg base CX0 2 f fd ["_law_thing", "_law_many"] (spD K 2 F_bu) :=
 okD (k:=1) (g:=g_bu) F (fq Hbu 2) rfl λcdv A outer s H E B G0 hr=>
 have hu:=hr.units;have hgd:=hr.gd
 (zaj (zbk (PW.pt (zcn (za8 (zbf (za5 (c := "list") (by decide) (gq Hbu 1) T.b_isinstance (gq Hbu 2) T.b_list (by decide +kernel) (zac (pq Hbu 0)) (by decide) (by decide)))) (zbP (zbb (B_ne hu) (za1 (gq Hbu 3) T.b_len (pq Hbu 0)) (zac (pq Hbu 1)) (za4 _)))))
 (zao (zau zbn))
 zaX)
 (zao (zau (zaA (zlc rfl) (gq Hbu 0) T.b_all JI (zaa (zbR (zdI (zak Sbu) N_bu ["_law_thing", "_law_many", "_law_one"] 1 zbe rfl (zbr (zac (pq Hbu 0))) (λcl C s0 H0 ex=>⟨λB' G'=>(zan (zam (i:=2) (show (["_law_thing", "_law_many", "_law_one"]:List Str).Nodup by decide +kernel) rfl (za2 rfl) (.inr (zbi rfl)))),λB' G'=>zbt,(zaZ rfl rfl rfl λB' G'=>(pdf d_bt hr (zdM rfl) (zaa (zac (pvb 2)) zaf)))⟩) rfl rfl (by decide +kernel))) zaf)))))
theorem Kbz(d_bu:Def P w K mg base "_law_is_row" 2 2 F_bu)(d_bt:Def P w K mg base "_law_is_number" 1 1 F_bt)(F:Fun K "_law_lets" "_law_lets" Sbz f fd):FnOk P w K mg base CX0 3 f fd ["_law_wishes_here", "_law_worths_here", "_law_thing"] (spD K 3 F_bz) :=
 okD (k:=2) (g:=g_bz) F (fq Hbz 3) rfl λcdv A outer s H E B G0 hr=>
 have hu:=hr.units;have hgd:=hr.gd
 (zaj (zbk (PW.pt (zcn (za8 (zbf (za5 (c := "tuple") (by decide) (gq Hbz 4) T.b_isinstance (gq Hbz 5) T.b_tuple (by decide +kernel) (zac (pq Hbz 2)) (by decide) (by decide)))) (zbP (zbb (B_ne hu) (za1 (gq Hbz 1) T.b_len (pq Hbz 2)) zal (za4 _)))))
 (zao (zau zbn))
 zaX)
 (zaj (zbk (PW.pt (zcn (za8 (zbf (pdf d_bt hr (gq Hbz 3) (zaa (zas (pq Hbz 2) zal (λ_ _=>rfl)) zaf)))) (zbP (zbb B_lt (zas (pq Hbz 2) zal (λ_ _=>rfl)) zal (za4 _)))))
 (zao (zau zbn))
 zaX)
 (zaj (zbk (PW.pt (zcn (za8 (zbf (pdf d_bu hr (gq Hbz 2) (zaa (zas (pq Hbz 2) zal (λ_ _=>rfl)) (zaa (zaA zdS (gq Hbz 1) T.b_len Jh (zaa (zas (pq Hbz 0) zal (λ_ _=>rfl)) zaf)) zaf))))) (zbP (za8 (zbf (pdf d_bu hr (gq Hbz 2) (zaa (zas (pq Hbz 2) zal (λ_ _=>rfl)) (zaa (zaA zdS (gq Hbz 1) T.b_len Jh (zaa (zas (pq Hbz 0) zal (λ_ _=>rfl)) zaf)) zaf))))))))
 (zao (zau zbn))
 zaX)
 (zaj (zbk (zbb B_lt (zaA (zri rfl) (gq Hbz 0) T.b_min boot_min (zaa (zaz zba (zas (pq Hbz 2) zal (λ_ _=>rfl)) (zas (pq Hbz 2) zal (λ_ _=>rfl))) zaf)) zal (za4 _))
 (zao (zau zbn))
 zaX)
 (zaj (zbx Qq rfl (zpM (zac (pq Hbz 1))) (zbp rfl (zar (zan (zam (i:=3) (nq Hbz) rfl (lq Hbz 3))) (zar (zan (zam (i:=4) (nq Hbz) rfl (lq Hbz 4))) zbo)))
 (zao (zbk (zbb B_lt (zaz zba (zcP (zas (pq Hbz 2) zal (λ_ _=>rfl)) (zac (pq Hbz 3)) (λ_ _=>rfl)) (zcP (zas (pq Hbz 2) zal (λ_ _=>rfl)) (zac (pq Hbz 4)) (λ_ _=>rfl))) (zaz zcz (zas (pq Hbz 2) zal (λ_ _=>rfl)) (zlX hu (zac (pq Hbz 1)) (zbJ (zaa (zac (pq Hbz 3)) (zaa (zac (pq Hbz 4)) zaf))))) (za4 _))
 (zao (zau zbn))
 zaX)))
 (zao (zau zbn)))))))
theorem Kcb(d_ca:Def P w K mg base "_law_claim" 1 2 F_ca)(d_by:Def P w K mg base "_law_sum" 1 2 F_by)(d_bw:Def P w K mg base "_law_is_dealing" 2 2 F_bw)(d_bz:Def P w K mg base "_law_lets" 3 3 F_bz)(F:Fun K "_law_shows_best" "_law_shows_best" Scb f fd):FnOk P w K mg base CX0 4 f fd ["_law_wishes_here", "_law_worths_here", "_law_dealing", "_law_paper"] (spD K 4 F_cb) :=
 okD (k:=3) (g:=g_cb) F (fq Hcb 4) rfl λcdv A outer s H E B G0 hr=>
 have hu:=hr.units;have hgd:=hr.gd
 (zaj (zbk (PW.pt (zcn (za8 (zbf (pdf d_bw hr (gq Hcb 2) (zaa (zac (pq Hcb 0)) (zaa (zac (pq Hcb 2)) zaf))))) (zbP (za8 (zbf (pdf d_bz hr (gq Hcb 3) (zaa (zac (pq Hcb 0)) (zaa (zac (pq Hcb 1)) (zaa (zac (pq Hcb 3)) zaf)))))))))
 (zao (zau zbn))
 zaX)
 (zaj (zbk (zbb (B_ne hu) (zas (pq Hcb 3) zal (λ_ _=>rfl)) zal (za4 _))
 (zao (zau zbn))
 zaX)
 (zao (zau (zig (B_eq hu) (pdf d_ca hr (gq Hcb 0) (zaa (zac (pq Hcb 0)) (zaa (zac (pq Hcb 3)) zaf))) (pdf d_by hr (gq Hcb 1) (zaa (zac (pq Hcb 1)) (zaa (zac (pq Hcb 2)) zaf))) (za4 _))))))
theorem Kcc(d_cb:Def P w K mg base "_law_shows_best" 4 4 F_cb)(F:Fun K "_law_is_told_best" "_law_is_told_best" Scc f fd):FnOk P w K mg base CX0 5 f fd ["_law_wishes_here", "_law_worths_here", "_law_found"] (spD K 3 F_cc) :=
 okD (k:=4) (g:=g_cc) F (fq Hcc 3) rfl λcdv A outer s H E B G0 hr=>
 have hu:=hr.units;have hgd:=hr.gd
 (zaj (zbk (PW.pt (zcn (za8 (zbf (za5 (c := "tuple") (by decide) (gq Hcc 1) T.b_isinstance (gq Hcc 2) T.b_tuple (by decide +kernel) (zac (pq Hcc 2)) (by decide) (by decide)))) (zbP (zbb (B_ne hu) (za1 (gq Hcc 3) T.b_len (pq Hcc 2)) zal (za4 _)))))
 (zao (zau zbn))
 zaX)
 (zao (zau (pdf d_cb hr (gq Hcc 0) (zaa (zac (pq Hcc 0)) (zaa (zac (pq Hcc 1)) (zaa (zas (pq Hcc 2) zal (λ_ _=>rfl)) (zaa (zas (pq Hcc 2) zal (λ_ _=>rfl)) zaf))))))))
theorem Kbh(F:Fun K "asks_beyond" "asks_beyond" Sbh f fd):FnOk P w K mg base CX0 1 f fd ["askers", "worths", "prices"] (spD K 3 F_bh) :=
 okD (k:=0) (g:=g_bh) F (fq Hbh 3) rfl λcdv A outer s H E B G0 hr=>
 have hu:=hr.units;have hgd:=hr.gd
 (zaj (zch (i:=3) (nq Hbh) rfl (lq Hbh 3) (zlQ (zbs (zaa zal zaf)) (zac (pq Hbh 0))))
 (zaj (zbx Qq rfl (zbr (zac (pq Hbh 1))) (zbp rfl (zar (zan (zam (i:=4) (nq Hbh) rfl (lq Hbh 4))) (zar (zan (zam (i:=5) (nq Hbh) rfl (lq Hbh 5))) (zar (zan (zam (i:=6) (nq Hbh) rfl (lq Hbh 6))) zbo))))
 (zao (zgn (zaA (zoH rfl) (gq Hbh 0) T.b_max boot_max (zaa (zas (pq Hbh 3) (zac (pq Hbh 4)) (λ_ _=>rfl)) (zaa (zaz zdG (zac (pq Hbh 6)) (zas (pq Hbh 2) (zac (pq Hbh 5)) (λ_ _=>rfl))) zaf))) (pq Hbh 3) (zac (pq Hbh 4)))))
 (zao (zau (zac (pq Hbh 3))))))
theorem Kaw(F:Fun K "place_of" "place_of" Saw f fd):FnOk P w K mg base CX0 1 f fd ["nothing", "got"] (spD K 2 F_aw) :=
 okD (k:=0) (g:=g_aw) F (fq Haw 2) rfl λcdv A outer s H E B G0 hr=>
 have hu:=hr.units;have hgd:=hr.gd
 (zao (zau (ze8 (zkZ (zac (pq Haw 1))) (zac (pq Haw 0)) (zac (pq Haw 1)))))
theorem Kax(d_aw:Def P w K mg base "place_of" 1 2 F_aw)(F:Fun K "steps_of_askers" "steps_of_askers" Sax f fd):FnOk P w K mg base CX0 2 f fd ["nothing", "worths", "dealing"] (spD K 3 F_ax) :=
 okD (k:=1) (g:=g_ax) F (fq Hax 3) rfl λcdv A outer s H E B G0 hr=>
 have hu:=hr.units;have hgd:=hr.gd
 (zaj (zch (i:=3) (nq Hax) rfl (lq Hax 3) (zlQ (zbs (zaa zal zaf)) (za1 (gq Hax 2) T.b_len (pq Hax 2))))
 (zaj (zbx Qq rfl (zbr (zac (pq Hax 1))) (zbp rfl (zar (zan (zam (i:=4) (nq Hax) rfl (lq Hax 4))) (zar (zan (zam (i:=5) (nq Hax) rfl (lq Hax 5))) (zar (zan (zam (i:=6) (nq Hax) rfl (lq Hax 6))) zbo))))
 (zao (zbk (zbb (B_eq hu) (zas (pq Hax 2) (zac (pq Hax 4)) (λ_ _=>rfl)) (zac (pq Hax 5)) (za4 _))
 (zao (zgn (zac (pq Hax 6)) (pq Hax 3) (zac (pq Hax 4))))
 zaX)))
 (zaj (zsm (j:=7) (zak Sax) N_ax ["nothing", "worths", "dealing", "had", ".asker", "thing", "worth", "told", "asker", "got"] 2 zbe (nq Hax) rfl rfl rfl (λB' G'=>(zcr (gq Hax 1) T.b_enumerate (zaa (zac (pq Hax 2)) zaf))) (λcl C s0 H0 ex=>⟨λB' G'=>(zbp rfl (zar (zan (zam (i:=8) (show (["nothing", "worths", "dealing", "had", ".asker", "thing", "worth", "told", "asker", "got"]:List Str).Nodup by decide +kernel) rfl (za2 rfl) (.inr (zbi rfl)))) (zar (zan (zam (i:=9) (show (["nothing", "worths", "dealing", "had", ".asker", "thing", "worth", "told", "asker", "got"]:List Str).Nodup by decide +kernel) rfl (za2 rfl) (.inr (zbi rfl)))) zbo))),λB' G'=>(zgk (zc2 (zac (pvb 9)))),(zaZ rfl rfl rfl λB' G'=>(zbJ (zaa (zac (pvb 9)) (zaa (zac (pvb 0)) (zaa (zfd (zas (pvb 3) (zac (pvb 8)) (λ_ _=>rfl))) (zaa (zac (pvb 8)) zaf))))))⟩) rfl rfl (by decide +kernel))
 (zaj (zbx Qq rfl (zbr (zac (pq Hax 1))) (zbp rfl (zar (zan (zam (i:=4) (nq Hax) rfl (lq Hax 4))) (zar (zan (zam (i:=5) (nq Hax) rfl (lq Hax 5))) (zar (zan (zam (i:=6) (nq Hax) rfl (lq Hax 6))) zbo))))
 (zao (zbk (zbb (B_ne hu) (zas (pq Hax 2) (zac (pq Hax 4)) (λ_ _=>rfl)) (zac (pq Hax 5)) (za4 _))
 (zao (zdL (pq Hax 7) (zbJ (zaa (pdf d_aw hr (gq Hax 0) (zaa (zac (pq Hax 0)) (zaa (zas (pq Hax 2) (zac (pq Hax 4)) (λ_ _=>rfl)) zaf))) (zaa (zac (pq Hax 5)) (zaa (zaz zdG (zac (pq Hax 6)) (zas (pq Hax 3) (zac (pq Hax 4)) (λ_ _=>rfl))) (zaa (zac (pq Hax 4)) zaf)))))))
 zaX)))
 (zao (zau (zac (pq Hax 7))))))))
theorem Kaa(F:Fun K "is_whole" "is_whole" Saa f fd):FnOk P w K mg base CX0 1 f fd ["thing"] (spD K 1 F_aa) :=
 okD (k:=0) (g:=g_aa) F (fq Haa 1) rfl λcdv A outer s H E B G0 hr=>
 have hu:=hr.units;have hgd:=hr.gd
 (zao (zau (zgj (za5 (c := "int") (by decide) (gq Haa 0) T.b_isinstance (gq Haa 1) T.b_int (by decide +kernel) (zac (pq Haa 0)) (by decide) (by decide)) (ze7 (zkY (za5 (c := "bool") (by decide) (gq Haa 0) T.b_isinstance (gq Haa 2) T.b_bool (by decide +kernel) (zac (pq Haa 0)) (by decide) (by decide)))))))
theorem Kab(d_aa:Def P w K mg base "is_whole" 1 1 F_aa)(F:Fun K "is_number_below" "is_number_below" Sab f fd):FnOk P w K mg base CX0 2 f fd ["thing", "many"] (spD K 2 F_ab) :=
 okD (k:=1) (g:=g_ab) F (fq Hab 2) rfl λcdv A outer s H E B G0 hr=>
 have hu:=hr.units;have hgd:=hr.gd
 (zao (zau (zgj (pdf d_aa hr (gq Hab 0) (zaa (zac (pq Hab 0)) zaf)) (ze7 (zkW B_le B_lt zal (zac (pq Hab 0)) (zac (pq Hab 1)))))))
theorem Kad(d_ab:Def P w K mg base "is_number_below" 2 2 F_ab)(F:Fun K "is_rank" "is_rank" Sad f fd):FnOk P w K mg base CX0 3 f fd ["thing", "things"] (spD K 2 F_ad) :=
 okD (k:=2) (g:=g_ad) F (fq Had 2) rfl λcdv A outer s H E B G0 hr=>
 have hu:=hr.units;have hgd:=hr.gd
 (zaj (zbk (PW.pt (zcn (za8 (zbf (za5 (c := "list") (by decide) (gq Had 1) T.b_isinstance (gq Had 2) T.b_list (by decide +kernel) (zac (pq Had 0)) (by decide) (by decide)))) (zbP (zbb (B_eq hu) (za1 (gq Had 3) T.b_len (pq Had 0)) zal (za4 _)))))
 (zao (zau zbn))
 zaX)
 (zao (zau (zaA (zlc rfl) (gq Had 0) T.b_all JI (zaa (zbR (zdI (zak Sad) N_ad ["thing", "things", "number"] 1 zbe rfl (zbr (zac (pq Had 0))) (λcl C s0 H0 ex=>⟨λB' G'=>(zan (zam (i:=2) (show (["thing", "things", "number"]:List Str).Nodup by decide +kernel) rfl (za2 rfl) (.inr (zbi rfl)))),λB' G'=>zbt,(zaZ rfl rfl rfl λB' G'=>(pdf d_ab hr (zdM rfl) (zaa (zac (pvb 2)) (zaa (zac (pvb 1)) zaf))))⟩) rfl rfl (by decide +kernel))) zaf)))))
theorem Kae(d_ad:Def P w K mg base "is_rank" 3 2 F_ad)(F:Fun K "is_asker_list" "is_asker_list" Sae f fd):FnOk P w K mg base CX0 4 f fd ["thing", "things"] (spD K 2 F_ae) :=
 okD (k:=3) (g:=g_ae) F (fq Hae 2) rfl λcdv A outer s H E B G0 hr=>
 have hu:=hr.units;have hgd:=hr.gd
 (zaj (zbk (PW.pt (zcn (za8 (zbf (za5 (c := "list") (by decide) (gq Hae 3) T.b_isinstance (gq Hae 4) T.b_list (by decide +kernel) (zac (pq Hae 0)) (by decide) (by decide)))) (zbP (zbb B_gt (za1 (gq Hae 0) T.b_len (pq Hae 0)) (znF (gq Hae 5) T.c_MOST_RANKS) (za4 _)))))
 (zao (zau zbn))
 zaX)
 (zaj (zbk (za8 (zbf (zaA (zlc rfl) (gq Hae 2) T.b_all JI (zaa (zbR (zdI (zak Sae) N_ae ["thing", "things", "wished", "rank"] 1 zbe rfl (zbr (zac (pq Hae 0))) (λcl C s0 H0 ex=>⟨λB' G'=>(zan (zam (i:=3) (show (["thing", "things", "wished", "rank"]:List Str).Nodup by decide +kernel) rfl (za2 rfl) (.inr (zbi rfl)))),λB' G'=>zbt,(zaZ rfl rfl rfl λB' G'=>(pdf d_ad hr (zdM rfl) (zaa (zac (pvb 3)) (zaa (zac (pvb 1)) zaf))))⟩) rfl rfl (by decide +kernel))) zaf))))
 (zao (zau zbn))
 zaX)
 (zaj (sD_1 (j:=2) (zak Sae) N_ae ["thing", "things", "wished", "rank", "number"] 2 zla (nq Hae) rfl rfl rfl (zbr (zac (pq Hae 0))) (λcl C s0 H0 ex=>⟨λB' G'=>(zan (zam (i:=3) (show (["thing", "things", "wished", "rank", "number"]:List Str).Nodup by decide +kernel) rfl (za2 rfl) (.inr (zbi rfl)))),λB' G'=>zbt,(zfg rfl rfl rfl rfl (λ_=>rfl) (λB' G'=>(zbr (zac (pvb 3)))) (λB' G'=>(zan (zam (i:=4) (show (["thing", "things", "wished", "rank", "number"]:List Str).Nodup by decide +kernel) rfl (za2 rfl) (.inr (zbi rfl))))) (λB' G'=>zbt) (zaZ rfl rfl rfl λB' G'=>(zac (pvb 4))))⟩) rfl rfl (by decide +kernel))
 (zao (zau (zig (B_eq hu) (zfT rfl (gq Hae 0) T.b_len (gq Hae 1) T.b_set (zaa (zac (pq Hae 2)) zaf)) (za1 (gq Hae 0) T.b_len (pq Hae 2)) (za4 _)))))))
theorem Kaf(d_ae:Def P w K mg base "is_asker_list" 4 2 F_ae)(F:Fun K "look_at_lists" "look_at_lists" Saf f fd):FnOk P w K mg base CX0 5 f fd ["lists", "things"] (spD K 2 F_af) :=
 okD (k:=4) (g:=g_af) F (fq Haf 2) rfl λcdv A outer s H E B G0 hr=>
 have hu:=hr.units;have hgd:=hr.gd
 (zaj (zbk (PW.pt (zcn (za8 (zbf (za5 (c := "list") (by decide) (gq Haf 2) T.b_isinstance (gq Haf 3) T.b_list (by decide +kernel) (zac (pq Haf 0)) (by decide) (by decide)))) (zbP (za8 (zg4 B_le B_le zal (za1 (gq Haf 4) T.b_len (pq Haf 0)) (znF (gq Haf 5) T.c_MOST_ASKERS))))))
 (zao zcs)
 zaX)
 (zao (zbx Qq rfl (zcr (gq Haf 0) T.b_enumerate (zaa (zac (pq Haf 0)) zaf)) (zbp rfl (zar (zan (zam (i:=2) (nq Haf) rfl (lq Haf 2))) (zar (zan (zam (i:=3) (nq Haf) rfl (lq Haf 3))) zbo)))
 (zao (zbk (za8 (zbf (pdf d_ae hr (gq Haf 1) (zaa (zac (pq Haf 3)) (zaa (zac (pq Haf 1)) zaf)))))
 (zao zcs)
 zaX)))))
theorem Kac(d_ab:Def P w K mg base "is_number_below" 2 2 F_ab)(F:Fun K "look_at_copies" "look_at_copies" Sac f fd):FnOk P w K mg base CX0 3 f fd ["copies"] (spD K 1 F_ac) :=
 okD (k:=2) (g:=g_ac) F (fq Hac 1) rfl λcdv A outer s H E B G0 hr=>
 have hu:=hr.units;have hgd:=hr.gd
 (zaj (zbk (PW.pt (zcn (za8 (zbf (za5 (c := "list") (by decide) (gq Hac 3) T.b_isinstance (gq Hac 4) T.b_list (by decide +kernel) (zac (pq Hac 0)) (by decide) (by decide)))) (zbP (za8 (zg4 B_le B_le zal (za1 (gq Hac 5) T.b_len (pq Hac 0)) (znF (gq Hac 6) T.c_MOST_THINGS))))))
 (zao zcs)
 zaX)
 (zao (zbx Qq rfl (zcr (gq Hac 0) T.b_enumerate (zaa (zac (pq Hac 0)) zaf)) (zbp rfl (zar (zan (zam (i:=1) (nq Hac) rfl (lq Hac 1))) (zar (zan (zam (i:=2) (nq Hac) rfl (lq Hac 2))) zbo)))
 (zao (zbk (za8 (zbf (pdf d_ab hr (gq Hac 2) (zaa (zac (pq Hac 2)) (zaa (zaz zba (znF (gq Hac 1) T.c_MOST_COPIES) zal) zaf)))))
 (zao zcs)
 zaX)))))
theorem Kag(d_af:Def P w K mg base "look_at_lists" 5 2 F_af)(d_ac:Def P w K mg base "look_at_copies" 3 1 F_ac)(F:Fun K "look_at_wishes" "look_at_wishes" Sag f fd):FnOk P w K mg base CX0 6 f fd ["thing"] (spD K 1 F_ag) :=
 okD (k:=5) (g:=g_ag) F (fq Hag 1) rfl λcdv A outer s H E B G0 hr=>
 have hu:=hr.units;have hgd:=hr.gd
 (zaj (zbk (PW.pt (zcn (za8 (zbf (za5 (c := "tuple") (by decide) (gq Hag 3) T.b_isinstance (gq Hag 4) T.b_tuple (by decide +kernel) (zac (pq Hag 0)) (by decide) (by decide)))) (zbP (zbb (B_ne hu) (za1 (gq Hag 0) T.b_len (pq Hag 0)) zal (za4 _)))))
 (zao zcs)
 zaX)
 (zaj (zfa (zac (pq Hag 0)) (zbp rfl (zar (zan (zam (i:=1) (nq Hag) rfl (lq Hag 1))) (zar (zan (zam (i:=2) (nq Hag) rfl (lq Hag 2))) zbo))))
 (zaj (zdi (pdf d_ac hr (gq Hag 2) (zaa (zac (pq Hag 1)) zaf)))
 (zao (zdi (pdf d_af hr (gq Hag 1) (zaa (zac (pq Hag 2)) (zaa (za1 (gq Hag 0) T.b_len (pq Hag 1)) zaf))))))))
theorem Kak(d_ag:Def P w K mg base "look_at_wishes" 6 1 F_ag)(F:Fun K "copies_left" "copies_left" Sak f fd):FnOk P w K mg base CX0 7 f fd ["wishes", "dealing"] (spD K 2 F_ak) :=
 okD (k:=6) (g:=g_ak) F (fq Hak 2) rfl λcdv A outer s H E B G0 hr=>
 have hu:=hr.units;have hgd:=hr.gd
 (zaj (zdi (pdf d_ag hr (gq Hak 1) (zaa (zac (pq Hak 0)) zaf)))
 (zao (zau (zbR (zdI (zak Sak) N_ak ["wishes", "dealing", "thing", "many"] 2 zbe rfl (zcr (gq Hak 0) T.b_enumerate (zaa (zas (pq Hak 0) zal (λ_ _=>rfl)) zaf)) (λcl C s0 H0 ex=>⟨λB' G'=>(zbp rfl (zar (zan (zam (i:=2) (show (["wishes", "dealing", "thing", "many"]:List Str).Nodup by decide +kernel) rfl (za2 rfl) (.inr (zbi rfl)))) (zar (zan (zam (i:=3) (show (["wishes", "dealing", "thing", "many"]:List Str).Nodup by decide +kernel) rfl (za2 rfl) (.inr (zbi rfl)))) zbo))),λB' G'=>zbt,(zaZ rfl rfl rfl λB' G'=>(zaz zdG (zac (pvb 3)) (zhe hu (zac (pvb 1)) (zaa (zac (pvb 2)) zaf))))⟩) rfl rfl (by decide +kernel))))))
theorem Kay(d_ak:Def P w K mg base "copies_left" 7 2 F_ak)(F:Fun K "steps_of_copies" "steps_of_copies" Say f fd):FnOk P w K mg base CX0 8 f fd ["wishes", "dealing"] (spD K 2 F_ay) :=
 okD (k:=7) (g:=g_ay) F (fq Hay 2) rfl λcdv A outer s H E B G0 hr=>
 have hu:=hr.units;have hgd:=hr.gd
 (zaj (zaJ (i:=2) (nq Hay) rfl (lq Hay 2) (zaA zdS (gq Hay 3) T.b_len Jh (zaa (zas (pq Hay 0) zal (λ_ _=>rfl)) zaf)))
 (zaj (zaJ (i:=3) (nq Hay) rfl (lq Hay 3) (pdf d_ak hr (gq Hay 2) (zaa (zac (pq Hay 0)) (zaa (zac (pq Hay 1)) zaf))))
 (zaj (sD_1 (j:=4) (zak Say) N_ay ["wishes", "dealing", "nothing", "left", "to_nothing", "thing", "many"] 2 zbe (nq Hay) rfl rfl rfl (zcr (gq Hay 1) T.b_enumerate (zaa (zac (pq Hay 3)) zaf)) (λcl C s0 H0 ex=>⟨λB' G'=>(zbp rfl (zar (zan (zam (i:=5) (show (["wishes", "dealing", "nothing", "left", "to_nothing", "thing", "many"]:List Str).Nodup by decide +kernel) rfl (za2 rfl) (.inr (zbi rfl)))) (zar (zan (zam (i:=6) (show (["wishes", "dealing", "nothing", "left", "to_nothing", "thing", "many"]:List Str).Nodup by decide +kernel) rfl (za2 rfl) (.inr (zbi rfl)))) zbo))),λB' G'=>(zgk (zb7 B_gt (pvb 6) zal (za4 _))),(zaZ rfl rfl rfl λB' G'=>(zbJ (zaa (zac (pvb 5)) (zaa (zac (pvb 2)) (zaa zal (zaa zel zaf))))))⟩) rfl rfl (by decide +kernel))
 (zao (zau (zaz zba (zac (pq Hay 4)) (zbR (zdI (zak Say) N_ay ["wishes", "dealing", "nothing", "left", "to_nothing", "thing"] 1 zbe rfl (zcf (gq Hay 0) T.b_range (zaa (zac (pq Hay 2)) zaf)) (λcl C s0 H0 ex=>⟨λB' G'=>(zan (zam (i:=5) (show (["wishes", "dealing", "nothing", "left", "to_nothing", "thing"]:List Str).Nodup by decide +kernel) rfl (za2 rfl) (.inr (zbi rfl)))),λB' G'=>zbt,(zaZ rfl rfl rfl λB' G'=>(zbJ (zaa (zac (pvb 2)) (zaa (zac (pvb 5)) (zaa zal (zaa zel zaf))))))⟩) rfl rfl (by decide +kernel)))))))))
theorem Kaz(d_ax:Def P w K mg base "steps_of_askers" 2 3 F_ax)(d_ay:Def P w K mg base "steps_of_copies" 8 2 F_ay)(F:Fun K "all_steps" "all_steps" Saz f fd):FnOk P w K mg base CX0 9 f fd ["wishes", "worths", "dealing"] (spD K 3 F_az) :=
 okD (k:=8) (g:=g_az) F (fq Haz 3) rfl λcdv A outer s H E B G0 hr=>
 have hu:=hr.units;have hgd:=hr.gd
 (zao (zau (zaz zba (pdf d_ax hr (gq Haz 1) (zaa (zaA zdS (gq Haz 0) T.b_len Jh (zaa (zas (pq Haz 0) zal (λ_ _=>rfl)) zaf)) (zaa (zac (pq Haz 1)) (zaa (zac (pq Haz 2)) zaf)))) (pdf d_ay hr (gq Haz 2) (zaa (zac (pq Haz 0)) (zaa (zac (pq Haz 2)) zaf))))))
theorem Kba(F:Fun K "longer_walks" "longer_walks" Sba f fd):FnOk P w K mg base CX0 1 f fd ["walks", "steps"] (spD K 2 F_ba) :=
 okD (k:=0) (g:=g_ba) F (fq Hba 2) rfl λcdv A outer s H E B G0 hr=>
 have hu:=hr.units;have hgd:=hr.gd
 (zaj (zch (i:=2) (nq Hba) rfl (lq Hba 2) (zfi (gq Hba 0) T.b_list (pq Hba 0)))
 (zaj (zbx Qq rfl (zbr (zac (pq Hba 1))) (zan (zam (i:=3) (nq Hba) rfl (lq Hba 3)))
 (zaj (zfa (zac (pq Hba 3)) (zbp rfl (zar (zan (zam (i:=4) (nq Hba) rfl (lq Hba 4))) (zar (zan (zam (i:=5) (nq Hba) rfl (lq Hba 5))) (zar (zan (zam (i:=6) (nq Hba) rfl (lq Hba 6))) (zar (zan (zam (i:=7) (nq Hba) rfl (lq Hba 7))) zbo))))))
 (zaj (zfa (zas (pq Hba 0) (zac (pq Hba 4)) (λ_ _=>rfl)) (zbp rfl (zar (zan (zam (i:=8) (nq Hba) rfl (lq Hba 8))) (zar (zan (zam (i:=9) (nq Hba) rfl (lq Hba 9))) zbo))))
 (zao (zbk (zbb B_gt (zaz zba (zac (pq Hba 8)) (zac (pq Hba 6))) (zcP (zas (pq Hba 2) (zac (pq Hba 5)) (λ_ _=>rfl)) zal (λ_ _=>rfl)) (za4 _))
 (zao (zgn (zbJ (zaa (zaz zba (zac (pq Hba 8)) (zac (pq Hba 6))) (zaa (zaz zba (zac (pq Hba 9)) (zbs (zaa (zac (pq Hba 3)) zaf))) zaf))) (pq Hba 2) (zac (pq Hba 5))))
 zaX)))))
 (zao (zau (zac (pq Hba 2))))))
theorem Kbb(d_ba:Def P w K mg base "longer_walks" 1 2 F_ba)(F:Fun K "widest_walks" "widest_walks" Sbb f fd):FnOk P w K mg base CX0 2 f fd ["places", "steps"] (spD K 2 F_bb) :=
 okD (k:=1) (g:=g_bb) F (fq Hbb 2) rfl λcdv A outer s H E B G0 hr=>
 have hu:=hr.units;have hgd:=hr.gd
 (zaj (zaJ (i:=2) (nq Hbb) rfl (lq Hbb 2) (zaz zcz (zbs (zaa (zbJ (zaa zal (zaa (zbs zaf) zaf))) zaf)) (zac (pq Hbb 0))))
 (zaj (zbx Qq rfl (zcf (gq Hbb 0) T.b_range (zaa (zac (pq Hbb 0)) zaf)) (zan (zam (i:=3) (nq Hbb) rfl (lq Hbb 3)))
 (zao (zaJ (i:=2) (nq Hbb) rfl (lq Hbb 2) (pdf d_ba hr (gq Hbb 1) (zaa (zac (pq Hbb 2)) (zaa (zac (pq Hbb 1)) zaf))))))
 (zao (zau (zac (pq Hbb 2))))))
theorem Kbg(d_az:Def P w K mg base "all_steps" 9 3 F_az)(d_bb:Def P w K mg base "widest_walks" 2 2 F_bb)(F:Fun K "prices_for" "prices_for" Sbg f fd):FnOk P w K mg base CX0 10 f fd ["wishes", "worths", "dealing"] (spD K 3 F_bg) :=
 okD (k:=9) (g:=g_bg) F (fq Hbg 3) rfl λcdv A outer s H E B G0 hr=>
 have hu:=hr.units;have hgd:=hr.gd
 (zaj (zaJ (i:=3) (nq Hbg) rfl (lq Hbg 3) (zaA zdS (gq Hbg 2) T.b_len Jh (zaa (zas (pq Hbg 0) zal (λ_ _=>rfl)) zaf)))
 (zaj (zaJ (i:=4) (nq Hbg) rfl (lq Hbg 4) (pdf d_bb hr (gq Hbg 1) (zaa (zaz zba (zac (pq Hbg 3)) zal) (zaa (pdf d_az hr (gq Hbg 0) (zaa (zac (pq Hbg 0)) (zaa (zac (pq Hbg 1)) (zaa (zac (pq Hbg 2)) zaf)))) zaf))))
 (zao (zau (zbR (zdI (zak Sbg) N_bg ["wishes", "worths", "dealing", "nothing", "walks", "gained", "walk"] 2 zbe rfl (zbr (zcb (zac (pq Hbg 4)) zdR (zbL (zac (pq Hbg 3))))) (λcl C s0 H0 ex=>⟨λB' G'=>(zbp rfl (zar (zan (zam (i:=5) (show (["wishes", "worths", "dealing", "nothing", "walks", "gained", "walk"]:List Str).Nodup by decide +kernel) rfl (za2 rfl) (.inr (zbi rfl)))) (zar (zan (zam (i:=6) (show (["wishes", "worths", "dealing", "nothing", "walks", "gained", "walk"]:List Str).Nodup by decide +kernel) rfl (za2 rfl) (.inr (zbi rfl)))) zbo))),λB' G'=>zbt,(zaZ rfl rfl rfl λB' G'=>(zac (pvb 5)))⟩) rfl rfl (by decide +kernel)))))))
theorem Kbi(d_bh:Def P w K mg base "asks_beyond" 1 3 F_bh)(d_bg:Def P w K mg base "prices_for" 10 3 F_bg)(F:Fun K "paper_for" "paper_for" Sbi f fd):FnOk P w K mg base CX0 11 f fd ["wishes", "worths", "dealing"] (spD K 3 F_bi) :=
 okD (k:=10) (g:=g_bi) F (fq Hbi 3) rfl λcdv A outer s H E B G0 hr=>
 have hu:=hr.units;have hgd:=hr.gd
 (zaj (zaJ (i:=3) (nq Hbi) rfl (lq Hbi 3) (pdf d_bg hr (gq Hbi 2) (zaa (zac (pq Hbi 0)) (zaa (zac (pq Hbi 1)) (zaa (zac (pq Hbi 2)) zaf)))))
 (zao (zau (zbJ (zaa zal (zaa (pdf d_bh hr (gq Hbi 1) (zaa (zaA zdS (gq Hbi 0) T.b_len Jh (zaa (zas (pq Hbi 0) zal (λ_ _=>rfl)) zaf)) (zaa (zac (pq Hbi 1)) (zaa (zac (pq Hbi 3)) zaf)))) (zaa (zac (pq Hbi 3)) zaf)))))))
theorem Kbc(F:Fun K "round_within" "round_within" Sbc f fd):FnOk P w K mg base CX0 1 f fd ["walk"] (spD K 1 F_bc) :=
 okD (k:=0) (g:=g_bc) F (fq Hbc 1) rfl λcdv A outer s H E B G0 hr=>
 have hu:=hr.units;have hgd:=hr.gd
 (zaj (zbx Qq rfl (zcr (gq Hbc 0) T.b_enumerate (zaa (zac (pq Hbc 0)) zaf)) (zbp rfl (zar (zan (zam (i:=1) (nq Hbc) rfl (lq Hbc 1))) (zar (zan (zam (i:=2) (nq Hbc) rfl (lq Hbc 2))) zbo)))
 (zao (zbx Qq rfl (zcf (gq Hbc 1) T.b_range (zaa (zaz zba (zac (pq Hbc 1)) zal) zaf)) (zan (zam (i:=3) (nq Hbc) rfl (lq Hbc 3)))
 (zao (zbk (zbb (B_eq hu) (zcP (zas (pq Hbc 0) (zac (pq Hbc 3)) (λ_ _=>rfl)) zal (λ_ _=>rfl)) (zas (pq Hbc 2) zal (λ_ _=>rfl)) (za4 _))
 (zao (zau (zcb (zac (pq Hbc 0)) (zbL (zac (pq Hbc 3))) (zbL (zaz zba (zac (pq Hbc 1)) zal)))))
 zaX)))))
 (zao (zau (zbs zaf))))
theorem Kbd(F:Fun K "way_round" "way_round" Sbd f fd):FnOk P w K mg base CX0 1 f fd ["nothing", "steps"] (spD K 2 F_bd) :=
 okD (k:=0) (g:=g_bd) F (fq Hbd 2) rfl λcdv A outer s H E B G0 hr=>
 have hu:=hr.units;have hgd:=hr.gd
 (zaj (zaJ (i:=2) (nq Hbd) rfl (lq Hbd 2) zal)
 (zaj (zbx Qq rfl (zcr (gq Hbd 0) T.b_enumerate (zaa (zac (pq Hbd 1)) zaf)) (zbp rfl (zar (zan (zam (i:=3) (nq Hbd) rfl (lq Hbd 3))) (zar (zan (zam (i:=4) (nq Hbd) rfl (lq Hbd 4))) zbo)))
 (zao (zbk (zbb (B_eq hu) (zas (pq Hbd 4) zal (λ_ _=>rfl)) (zac (pq Hbd 0)) (za4 _))
 (zao (zaJ (i:=2) (nq Hbd) rfl (lq Hbd 2) (zac (pq Hbd 3))))
 zaX)))
 (zaj (zch (i:=5) (nq Hbd) rfl (lq Hbd 5) (zc3 zaf))
 (zaj (zbx Qq rfl (zbr (zaz zba (zcb (zac (pq Hbd 1)) (zbL (zac (pq Hbd 2))) zdR) (zcb (zac (pq Hbd 1)) zdR (zbL (zac (pq Hbd 2)))))) (zbp rfl (zar (zan (zam (i:=6) (nq Hbd) rfl (lq Hbd 6))) (zar (zan (zam (i:=7) (nq Hbd) rfl (lq Hbd 7))) (zar (zan (zam (i:=8) (nq Hbd) rfl (lq Hbd 8))) (zar (zan (zam (i:=9) (nq Hbd) rfl (lq Hbd 9))) zbo)))))
 (zao (zbk (zc2 (zac (pq Hbd 9)))
 (zao (zdL (pq Hbd 5) (zbJ (zaa (zac (pq Hbd 9)) (zaa (ze8 (zb7 (B_eq hu) (pq Hbd 7) (zac (pq Hbd 0)) (za4 _)) zel (zac (pq Hbd 7))) zaf)))))
 zaX)))
 (zao (zau (zac (pq Hbd 5))))))))
theorem Kbe(d_az:Def P w K mg base "all_steps" 9 3 F_az)(d_bb:Def P w K mg base "widest_walks" 2 2 F_bb)(d_bc:Def P w K mg base "round_within" 1 1 F_bc)(d_bd:Def P w K mg base "way_round" 1 2 F_bd)(F:Fun K "gaining_way" "gaining_way" Sbe f fd):FnOk P w K mg base CX0 10 f fd ["wishes", "worths", "dealing"] (spD K 3 F_be) :=
 okD (k:=9) (g:=g_be) F (fq Hbe 3) rfl λcdv A outer s H E B G0 hr=>
 have hu:=hr.units;have hgd:=hr.gd
 (zaj (zaJ (i:=3) (nq Hbe) rfl (lq Hbe 3) (zaA zdS (gq Hbe 2) T.b_len Jh (zaa (zas (pq Hbe 0) zal (λ_ _=>rfl)) zaf)))
 (zaj (zbx Qq rfl (zbr (pdf d_bb hr (gq Hbe 1) (zaa (zaz zba (zac (pq Hbe 3)) zal) (zaa (pdf d_az hr (gq Hbe 0) (zaa (zac (pq Hbe 0)) (zaa (zac (pq Hbe 1)) (zaa (zac (pq Hbe 2)) zaf)))) zaf)))) (zbp rfl (zar (zan (zam (i:=4) (nq Hbe) rfl (lq Hbe 4))) (zar (zan (zam (i:=5) (nq Hbe) rfl (lq Hbe 5))) zbo)))
 (zao (zbk (zbb (B_eq hu) (za1 (gq Hbe 2) T.b_len (pq Hbe 5)) (zaz zba (zac (pq Hbe 3)) zal) (za4 _))
 (zao (zau (pdf d_bd hr (gq Hbe 4) (zaa (zac (pq Hbe 3)) (zaa (pdf d_bc hr (gq Hbe 3) (zaa (zac (pq Hbe 5)) zaf)) zaf)))))
 zaX)))
 (zao (zau (zbs zaf)))))
theorem Kav(F:Fun K "behind_way" "behind_way" Sav f fd):FnOk P w K mg base CX0 1 f fd ["dealing", "way"] (spD K 2 F_av) :=
 okD (k:=0) (g:=g_av) F (fq Hav 2) rfl λcdv A outer s H E B G0 hr=>
 have hu:=hr.units;have hgd:=hr.gd
 (zaj (zch (i:=2) (nq Hav) rfl (lq Hav 2) (zfi (gq Hav 0) T.b_list (pq Hav 0)))
 (zaj (zbx Qq rfl (zbr (zac (pq Hav 1))) (zbp rfl (zar (zan (zam (i:=3) (nq Hav) rfl (lq Hav 3))) (zar (zan (zam (i:=4) (nq Hav) rfl (lq Hav 4))) zbo)))
 (zao (zgn (zac (pq Hav 4)) (pq Hav 2) (zac (pq Hav 3)))))
 (zao (zau (zac (pq Hav 2))))))
theorem Kbf(d_be:Def P w K mg base "gaining_way" 10 3 F_be)(d_av:Def P w K mg base "behind_way" 1 2 F_av)(F:Fun K "best_by" "best_by" Sbf f fd):FnOk P w K mg base CX0 11 f fd ["wishes", "worths"] (spD K 2 F_bf) :=
 okD (k:=10) (g:=g_bf) F (fq Hbf 2) rfl λcdv A outer s H E B G0 hr=>
 have hu:=hr.units;have hgd:=hr.gd
 (zaj (zaJ (i:=2) (nq Hbf) rfl (lq Hbf 2) (zaz zcz (zbs (zaa zel zaf)) (zaA zdS (gq Hbf 2) T.b_len Jh (zaa (zas (pq Hbf 0) zal (λ_ _=>rfl)) zaf))))
 (zaj (zaJ (i:=3) (nq Hbf) rfl (lq Hbf 3) (pdf d_be hr (gq Hbf 0) (zaa (zac (pq Hbf 0)) (zaa (zac (pq Hbf 1)) (zaa (zac (pq Hbf 2)) zaf)))))
 (zaj (zi8 FUEL Qq (zpP (zac (pq Hbf 3)))
 (zaj (zaJ (i:=2) (nq Hbf) rfl (lq Hbf 2) (pdf d_av hr (gq Hbf 1) (zaa (zac (pq Hbf 2)) (zaa (zac (pq Hbf 3)) zaf))))
 (zao (zaJ (i:=3) (nq Hbf) rfl (lq Hbf 3) (pdf d_be hr (gq Hbf 0) (zaa (zac (pq Hbf 0)) (zaa (zac (pq Hbf 1)) (zaa (zac (pq Hbf 2)) zaf))))))))
 (zao (zau (zac (pq Hbf 2)))))))
theorem Kaj(d_ag:Def P w K mg base "look_at_wishes" 6 1 F_ag)(F:Fun K "all_wishes" "all_wishes" Saj f fd):FnOk P w K mg base CX0 7 f fd ["wishes"] (spD K 1 F_aj) :=
 okD (k:=6) (g:=g_aj) F (fq Haj 1) rfl λcdv A outer s H E B G0 hr=>
 have hu:=hr.units;have hgd:=hr.gd
 (zaj (zdi (pdf d_ag hr (gq Haj 2) (zaa (zac (pq Haj 0)) zaf)))
 (zao (zau (zaA zoM (gq Haj 1) T.b_sorted PyProof.Rows.boot_sorted (zaa (zbR (zdI (zak Saj) N_aj ["wishes", "asker", "ranks", "rank", "thing"] 4 zlb rfl (zcr (gq Haj 0) T.b_enumerate (zaa (zas (pq Haj 0) zal (λ_ _=>rfl)) zaf)) (λcl C s0 H0 ex=>⟨λB' G'=>(zbp rfl (zar (zan (zam (i:=1) (show (["wishes", "asker", "ranks", "rank", "thing"]:List Str).Nodup by decide +kernel) rfl (za2 rfl) (.inr (zbi rfl)))) (zar (zan (zam (i:=2) (show (["wishes", "asker", "ranks", "rank", "thing"]:List Str).Nodup by decide +kernel) rfl (za2 rfl) (.inr (zbi rfl)))) zbo))),λB' G'=>zbt,(zfg rfl rfl rfl rfl (λ_=>rfl) (λB' G'=>(zbr (zac (pvb 2)))) (λB' G'=>(zan (zam (i:=3) (show (["wishes", "asker", "ranks", "rank", "thing"]:List Str).Nodup by decide +kernel) rfl (za2 rfl) (.inr (zbi rfl))))) (λB' G'=>zbt) (zfg rfl rfl rfl rfl (λ_=>rfl) (λB' G'=>(zbr (zac (pvb 3)))) (λB' G'=>(zan (zam (i:=4) (show (["wishes", "asker", "ranks", "rank", "thing"]:List Str).Nodup by decide +kernel) rfl (za2 rfl) (.inr (zbi rfl))))) (λB' G'=>zbt) (zaZ rfl rfl rfl λB' G'=>(zbJ (zaa (zac (pvb 1)) (zaa (zac (pvb 4)) zaf))))))⟩) rfl rfl (by decide +kernel))) zaf)))))
theorem Kaq(F:Fun K "power" "power" Saq f fd):FnOk P w K mg base CX0 1 f fd ["base", "times"] (spD K 2 F_aq) :=
 okD (k:=0) (g:=g_aq) F (fq Haq 2) rfl λcdv A outer s H E B G0 hr=>
 have hu:=hr.units;have hgd:=hr.gd
 (zaj (zaJ (i:=2) (nq Haq) rfl (lq Haq 2) zal)
 (zaj (zbx Qq rfl (zcf (gq Haq 0) T.b_range (zaa (zac (pq Haq 1)) zaf)) (zan (zam (i:=3) (nq Haq) rfl (lq Haq 3)))
 (zao (zq9 (j:=2) (nq Haq) rfl (lq Haq 2) zpF (zac (pq Haq 0)))))
 (zao (zau (zac (pq Haq 2))))))
theorem Kas(d_aq:Def P w K mg base "power" 1 2 F_aq)(F:Fun K "worth_by_turns" "worth_by_turns" Sas f fd):FnOk P w K mg base CX0 2 f fd ["turns", "base", "asker", "rank"] (spD K 4 F_as) :=
 okD (k:=1) (g:=g_as) F (fq Has 4) rfl λcdv A outer s H E B G0 hr=>
 have hu:=hr.units;have hgd:=hr.gd
 (zaj (zbk (zb7 (zq3 hu) (pq Has 2) (zac (pq Has 0)) rfl)
 (zao (zau zal))
 zaX)
 (zaj (zaJ (i:=4) (nq Has) rfl (lq Has 4) (zaz zdG (zaz zdG (za1 (gq Has 1) T.b_len (pq Has 0)) zal) (zlJ (zac (pq Has 0)) (zaa (zac (pq Has 2)) zaf))))
 (zao (zau (zaz zcz (zaz zdG (zac (pq Has 1)) (zac (pq Has 3))) (pdf d_aq hr (gq Has 0) (zaa (zac (pq Has 1)) (zaa (zac (pq Has 4)) zaf))))))))
theorem Kar(d_aq:Def P w K mg base "power" 1 2 F_aq)(F:Fun K "worth_by_order" "worth_by_order" Sar f fd):FnOk P w K mg base CX0 2 f fd ["order", "base", "most", "rank"] (spD K 4 F_ar) :=
 okD (k:=1) (g:=g_ar) F (fq Har 4) rfl λcdv A outer s H E B G0 hr=>
 have hu:=hr.units;have hgd:=hr.gd
 (zaj (zbk (zb7 (B_eq hu) (pq Har 0) ze4 (za4 _))
 (zao (zau (pdf d_aq hr (gq Har 0) (zaa (zac (pq Har 1)) (zaa (zaz zdG (zac (pq Har 2)) (zac (pq Har 3))) zaf)))))
 zaX)
 (zaj (zbk (zb7 (B_eq hu) (pq Har 0) ze4 (za4 _))
 (zao (zau (zaz zba (pdf d_aq hr (gq Har 0) (zaa (zac (pq Har 1)) (zaa (zac (pq Har 2)) zaf))) (pdf d_aq hr (gq Har 0) (zaa (zac (pq Har 1)) (zaa (zaz zdG (zac (pq Har 2)) (zac (pq Har 3))) zaf))))))
 zaX)
 (zao (zau (zaz zdG (pdf d_aq hr (gq Har 0) (zaa (zac (pq Har 1)) (zaa (zac (pq Har 2)) zaf))) (pdf d_aq hr (gq Har 0) (zaa (zac (pq Har 1)) (zaa (zaz zdG (zac (pq Har 3)) zal) zaf))))))))
theorem Kah(F:Fun K "rank_in" "rank_in" Sah f fd):FnOk P w K mg base CX0 1 f fd ["ranks", "thing"] (spD K 2 F_ah) :=
 okD (k:=0) (g:=g_ah) F (fq Hah 2) rfl λcdv A outer s H E B G0 hr=>
 have hu:=hr.units;have hgd:=hr.gd
 (zaj (zbx Qq rfl (znM (gq Hah 0) T.b_enumerate (zaa (zac (pq Hah 0)) zaf)) (zbp rfl (zar (zan (zam (i:=2) (nq Hah) rfl (lq Hah 2))) (zar (zan (zam (i:=3) (nq Hah) rfl (lq Hah 3))) zbo)))
 (zao (zbk (zb7 (B_in hu) (pq Hah 1) (zac (pq Hah 3)) rfl)
 (zao (zau (zac (pq Hah 2))))
 zaX)))
 (zao (zau zal)))
theorem Kat(d_aq:Def P w K mg base "power" 1 2 F_aq)(d_as:Def P w K mg base "worth_by_turns" 2 4 F_as)(d_ar:Def P w K mg base "worth_by_order" 2 4 F_ar)(d_ah:Def P w K mg base "rank_in" 1 2 F_ah)(F:Fun K "worth_by_aim" "worth_by_aim" Sat f fd):FnOk P w K mg base CX0 3 f fd ["wishes", "aim", "most", "asker", "thing"] (spD K 5 F_at) :=
 okD (k:=2) (g:=g_at) F (fq Hat 5) rfl λcdv A outer s H E B G0 hr=>
 have hu:=hr.units;have hgd:=hr.gd
 (zaj (zfa (zac (pq Hat 1)) (zbp rfl (zar (zan (zam (i:=5) (nq Hat) rfl (lq Hat 5))) (zar (zan (zam (i:=6) (nq Hat) rfl (lq Hat 6))) (zar (zan (zam (i:=7) (nq Hat) rfl (lq Hat 7))) zbo)))))
 (zaj (zaJ (i:=8) (nq Hat) rfl (lq Hat 8) (zas (pq Hat 0) zal (λ_ _=>rfl)))
 (zaj (zaJ (i:=9) (nq Hat) rfl (lq Hat 9) (pdf d_ah hr (gq Hat 4) (zaa (zas (pq Hat 8) (zac (pq Hat 3)) (λ_ _=>rfl)) (zaa (zac (pq Hat 4)) zaf))))
 (zaj (zaJ (i:=10) (nq Hat) rfl (lq Hat 10) (zaz zba (za1 (gq Hat 0) T.b_len (pq Hat 8)) zal))
 (zaj (zaJ (i:=11) (nq Hat) rfl (lq Hat 11) (ze8 (PW.pt (ze6 (zc2 (zac (pq Hat 6))) (zdQ (zbb (B_eq hu) (zas (pq Hat 6) (zac (pq Hat 3)) (λ_ _=>rfl)) (zac (pq Hat 4)) (za4 _))))) zal zal))
 (zaj (zaJ (i:=12) (nq Hat) rfl (lq Hat 12) (zaz zba (zaz zcz (pdf d_ar hr (gq Hat 3) (zaa (zac (pq Hat 5)) (zaa (zac (pq Hat 10)) (zaa (zac (pq Hat 2)) (zaa (zac (pq Hat 9)) zaf))))) (zac (pq Hat 10))) (zac (pq Hat 11))))
 (zao (zau (zaz zba (zaz zcz (zac (pq Hat 12)) (pdf d_aq hr (gq Hat 1) (zaa (zaz zba (zac (pq Hat 2)) zal) (zaa (za1 (gq Hat 0) T.b_len (pq Hat 7)) zaf)))) (pdf d_as hr (gq Hat 2) (zaa (zac (pq Hat 7)) (zaa (zaz zba (zac (pq Hat 2)) zal) (zaa (zac (pq Hat 3)) (zaa (zac (pq Hat 9)) zaf))))))))))))))
theorem Kai(d_ag:Def P w K mg base "look_at_wishes" 6 1 F_ag)(F:Fun K "longest" "longest" Sai f fd):FnOk P w K mg base CX0 7 f fd ["wishes"] (spD K 1 F_ai) :=
 okD (k:=6) (g:=g_ai) F (fq Hai 1) rfl λcdv A outer s H E B G0 hr=>
 have hu:=hr.units;have hgd:=hr.gd
 (zaj (zdi (pdf d_ag hr (gq Hai 1) (zaa (zac (pq Hai 0)) zaf)))
 (zao (zau (zaA (zlo rfl) (gq Hai 0) T.b_max boot_max (zaa (zbR (zdI (zak Sai) N_ai ["wishes", "ranks"] 1 zbe rfl (zbr (zas (pq Hai 0) zal (λ_ _=>rfl))) (λcl C s0 H0 ex=>⟨λB' G'=>(zan (zam (i:=1) (show (["wishes", "ranks"]:List Str).Nodup by decide +kernel) rfl (za2 rfl) (.inr (zbi rfl)))),λB' G'=>zbt,(zaZ rfl rfl rfl λB' G'=>(za1 (zdM rfl) T.b_len (pvb 1)))⟩) rfl rfl (by decide +kernel))) zaf)))))
theorem Kao(d_ab:Def P w K mg base "is_number_below" 2 2 F_ab)(F:Fun K "is_turns" "is_turns" Sao f fd):FnOk P w K mg base CX0 3 f fd ["thing", "askers"] (spD K 2 F_ao) :=
 okD (k:=2) (g:=g_ao) F (fq Hao 2) rfl λcdv A outer s H E B G0 hr=>
 have hu:=hr.units;have hgd:=hr.gd
 (zaj (zbk (PW.pt (zcn (za8 (zbf (za5 (c := "list") (by decide) (gq Hao 2) T.b_isinstance (gq Hao 3) T.b_list (by decide +kernel) (zac (pq Hao 0)) (by decide) (by decide)))) (zbP (za8 (zbf (zaA (zlc rfl) (gq Hao 4) T.b_all JI (zaa (zbR (zdI (zak Sao) N_ao ["thing", "askers", "asker"] 1 zbe rfl (zbr (zac (pq Hao 0))) (λcl C s0 H0 ex=>⟨λB' G'=>(zan (zam (i:=2) (show (["thing", "askers", "asker"]:List Str).Nodup by decide +kernel) rfl (za2 rfl) (.inr (zbi rfl)))),λB' G'=>zbt,(zaZ rfl rfl rfl λB' G'=>(pdf d_ab hr (zdM rfl) (zaa (zac (pvb 2)) (zaa (zac (pvb 1)) zaf))))⟩) rfl rfl (by decide +kernel))) zaf)))))))
 (zao (zau zbn))
 zaX)
 (zao (zau (zig (B_eq hu) (zfT rfl (gq Hao 0) T.b_len (gq Hao 1) T.b_set (zaa (zac (pq Hao 0)) zaf)) (za1 (gq Hao 0) T.b_len (pq Hao 0)) (za4 _)))))
theorem Kan(d_ab:Def P w K mg base "is_number_below" 2 2 F_ab)(F:Fun K "is_old" "is_old" San f fd):FnOk P w K mg base CX0 3 f fd ["thing", "askers", "things"] (spD K 3 F_an) :=
 okD (k:=2) (g:=g_an) F (fq Han 3) rfl λcdv A outer s H E B G0 hr=>
 have hu:=hr.units;have hgd:=hr.gd
 (zaj (zbk (zkZ (zac (pq Han 0)))
 (zao (zau zbn))
 zaX)
 (zaj (zbk (PW.pt (zcn (za8 (zbf (za5 (c := "list") (by decide) (gq Han 1) T.b_isinstance (gq Han 2) T.b_list (by decide +kernel) (zac (pq Han 0)) (by decide) (by decide)))) (zbP (zbb (B_ne hu) (za1 (gq Han 3) T.b_len (pq Han 0)) (zac (pq Han 1)) (za4 _)))))
 (zao (zau zbn))
 zaX)
 (zao (zau (zaA (zlc rfl) (gq Han 0) T.b_all JI (zaa (zbR (zdI (zak San) N_an ["thing", "askers", "things", "kept"] 1 zbe rfl (zbr (zac (pq Han 0))) (λcl C s0 H0 ex=>⟨λB' G'=>(zan (zam (i:=3) (show (["thing", "askers", "things", "kept"]:List Str).Nodup by decide +kernel) rfl (za2 rfl) (.inr (zbi rfl)))),λB' G'=>zbt,(zaZ rfl rfl rfl λB' G'=>(zqR (zpt (zac (pvb 3))) (ze7 (pdf d_ab hr (zdM rfl) (zaa (zac (pvb 3)) (zaa (zac (pvb 2)) zaf))))))⟩) rfl rfl (by decide +kernel))) zaf))))))
theorem Kal(F:Fun K "is_order" "is_order" Sal f fd):FnOk P w K mg base CX0 1 f fd ["thing"] (spD K 1 F_al) :=
 okD (k:=0) (g:=g_al) F (fq Hal 1) rfl λcdv A outer s H E B G0 hr=>
 have hu:=hr.units;have hgd:=hr.gd
 (zao (zau (zgj (za5 (c := "str") (by decide) (gq Hal 0) T.b_isinstance (gq Hal 1) T.b_str (by decide +kernel) (zac (pq Hal 0)) (by decide) (by decide)) (ze7 (zin (B_in hu) (pq Hal 0) (zsd (gq Hal 2) T.c_ORDERS) rfl)))))
theorem Kam(d_al:Def P w K mg base "is_order" 1 1 F_al)(F:Fun K "look_at_order" "look_at_order" Sam f fd):FnOk P w K mg base CX0 2 f fd ["thing"] (spD K 1 F_am) :=
 okD (k:=1) (g:=g_am) F (fq Ham 1) rfl λcdv A outer s H E B G0 hr=>
 have hu:=hr.units;have hgd:=hr.gd
 (zao (zbk (za8 (zbf (pdf d_al hr (gq Ham 0) (zaa (zac (pq Ham 0)) zaf))))
 (zao zcs)
 zaX))
theorem Kap(d_ao:Def P w K mg base "is_turns" 3 2 F_ao)(d_an:Def P w K mg base "is_old" 3 3 F_an)(d_am:Def P w K mg base "look_at_order" 2 1 F_am)(d_ag:Def P w K mg base "look_at_wishes" 6 1 F_ag)(F:Fun K "look_at_aim" "look_at_aim" Sap f fd):FnOk P w K mg base CX0 7 f fd ["wishes", "thing"] (spD K 2 F_ap) :=
 okD (k:=6) (g:=g_ap) F (fq Hap 2) rfl λcdv A outer s H E B G0 hr=>
 have hu:=hr.units;have hgd:=hr.gd
 (zaj (zdi (pdf d_ag hr (gq Hap 6) (zaa (zac (pq Hap 0)) zaf)))
 (zaj (zbk (PW.pt (zcn (za8 (zbf (za5 (c := "tuple") (by decide) (gq Hap 4) T.b_isinstance (gq Hap 5) T.b_tuple (by decide +kernel) (zac (pq Hap 1)) (by decide) (by decide)))) (zbP (zbb (B_ne hu) (za1 (gq Hap 0) T.b_len (pq Hap 1)) zal (za4 _)))))
 (zao zcs)
 zaX)
 (zaj (zfa (zac (pq Hap 0)) (zbp rfl (zar (zan (zam (i:=2) (nq Hap) rfl (lq Hap 2))) (zar (zan (zam (i:=3) (nq Hap) rfl (lq Hap 3))) zbo))))
 (zaj (zfa (zac (pq Hap 1)) (zbp rfl (zar (zan (zam (i:=4) (nq Hap) rfl (lq Hap 4))) (zar (zan (zam (i:=5) (nq Hap) rfl (lq Hap 5))) (zar (zan (zam (i:=6) (nq Hap) rfl (lq Hap 6))) zbo)))))
 (zaj (zdi (pdf d_am hr (gq Hap 3) (zaa (zac (pq Hap 4)) zaf)))
 (zaj (zbk (za8 (zbf (pdf d_an hr (gq Hap 2) (zaa (zac (pq Hap 5)) (zaa (za1 (gq Hap 0) T.b_len (pq Hap 3)) (zaa (za1 (gq Hap 0) T.b_len (pq Hap 2)) zaf))))))
 (zao zcs)
 zaX)
 (zao (zbk (za8 (zbf (pdf d_ao hr (gq Hap 1) (zaa (zac (pq Hap 6)) (zaa (za1 (gq Hap 0) T.b_len (pq Hap 3)) zaf)))))
 (zao zcs)
 zaX))))))))
theorem Kau(d_aj:Def P w K mg base "all_wishes" 7 1 F_aj)(d_at:Def P w K mg base "worth_by_aim" 3 5 F_at)(d_ai:Def P w K mg base "longest" 7 1 F_ai)(d_ap:Def P w K mg base "look_at_aim" 7 2 F_ap)(F:Fun K "all_worths" "all_worths" Sau f fd):FnOk P w K mg base CX0 8 f fd ["wishes", "aim"] (spD K 2 F_au) :=
 okD (k:=7) (g:=g_au) F (fq Hau 2) rfl λcdv A outer s H E B G0 hr=>
 have hu:=hr.units;have hgd:=hr.gd
 (zaj (zdi (pdf d_ap hr (gq Hau 2) (zaa (zac (pq Hau 0)) (zaa (zac (pq Hau 1)) zaf))))
 (zaj (zaJ (i:=2) (nq Hau) rfl (lq Hau 2) (pdf d_ai hr (gq Hau 1) (zaa (zac (pq Hau 0)) zaf)))
 (zao (zau (zbR (zdI (zak Sau) N_au ["wishes", "aim", "most", "asker", "thing"] 2 zbe rfl (zbr (pdf d_aj hr (gq Hau 0) (zaa (zac (pq Hau 0)) zaf))) (λcl C s0 H0 ex=>⟨λB' G'=>(zbp rfl (zar (zan (zam (i:=3) (show (["wishes", "aim", "most", "asker", "thing"]:List Str).Nodup by decide +kernel) rfl (za2 rfl) (.inr (zbi rfl)))) (zar (zan (zam (i:=4) (show (["wishes", "aim", "most", "asker", "thing"]:List Str).Nodup by decide +kernel) rfl (za2 rfl) (.inr (zbi rfl)))) zbo))),λB' G'=>zbt,(zaZ rfl rfl rfl λB' G'=>(zbJ (zaa (zac (pvb 3)) (zaa (zac (pvb 4)) (zaa (pdf d_at hr (zdM rfl) (zaa (zac (pvb 0)) (zaa (zac (pvb 1)) (zaa (zac (pvb 2)) (zaa (zac (pvb 3)) (zaa (zac (pvb 4)) zaf)))))) zaf)))))⟩) rfl rfl (by decide +kernel)))))))
theorem Kbj(d_bi:Def P w K mg base "paper_for" 11 3 F_bi)(d_bf:Def P w K mg base "best_by" 11 2 F_bf)(d_au:Def P w K mg base "all_worths" 8 2 F_au)(F:Fun K "best_dealing" "best_dealing" Sbj f fd):FnOk P w K mg base CX0 12 f fd ["wishes", "aim"] (spD K 2 F_bj) :=
 okD (k:=11) (g:=g_bj) F (fq Hbj 2) rfl λcdv A outer s H E B G0 hr=>
 have hu:=hr.units;have hgd:=hr.gd
 (zaj (zaJ (i:=2) (nq Hbj) rfl (lq Hbj 2) (pdf d_au hr (gq Hbj 2) (zaa (zac (pq Hbj 0)) (zaa (zac (pq Hbj 1)) zaf))))
 (zaj (zaJ (i:=3) (nq Hbj) rfl (lq Hbj 3) (pdf d_bf hr (gq Hbj 1) (zaa (zac (pq Hbj 0)) (zaa (zac (pq Hbj 2)) zaf))))
 (zao (zau (zbJ (zaa (zac (pq Hbj 3)) (zaa (pdf d_bi hr (gq Hbj 0) (zaa (zac (pq Hbj 0)) (zaa (zac (pq Hbj 2)) (zaa (zac (pq Hbj 3)) zaf)))) zaf)))))))
theorem Kbl(F:Fun K "_law_numbers" "_law_numbers" Sbl f fd):FnOk P w K mg base CX0 1 f fd ["_law_cell", "_law_salt", "_law_sizes"] (spD K 3 F_bl) :=
 okD (k:=0) (g:=g_bl) F (fq Hbl 3) rfl λcdv A outer s H E B G0 hr=>
 have hu:=hr.units;have hgd:=hr.gd
 (zaj (zaJ (i:=3) (nq Hbl) rfl (lq Hbl 3) (zaA (zoH rfl) (gq Hbl 2) T.b_max boot_max (zaa (zac (pq Hbl 0)) (zaa (zaz zdG (zfd zal) (zac (pq Hbl 0))) zaf))))
 (zaj (zaJ (i:=4) (nq Hbl) rfl (lq Hbl 4) (zac (pq Hbl 3)))
 (zaj (zch (i:=5) (nq Hbl) rfl (lq Hbl 5) (zc3 zaf))
 (zaj (zbx Qq rfl (zcf (gq Hbl 1) T.b_range (zaa (za1 (gq Hbl 0) T.b_len (pq Hbl 2)) zaf)) (zan (zam (i:=6) (nq Hbl) rfl (lq Hbl 6)))
 (zao (zbk (PW.pt (ze6 (zb7 B_ge (pq Hbl 3) (zaz zqP zal zal) (za4 _)) (zdQ (zb7 B_gt (pq Hbl 4) zal (za4 _)))))
 (zaj (zdL (pq Hbl 5) (zaz zif (zac (pq Hbl 4)) (zas (pq Hbl 2) (zac (pq Hbl 6)) (λ_ _=>rfl))))
 (zao (zaJ (i:=4) (nq Hbl) rfl (lq Hbl 4) (zaz zqO (zac (pq Hbl 4)) (zas (pq Hbl 2) (zac (pq Hbl 6)) (λ_ _=>rfl))))))
 (zaj (zaJ (i:=7) (nq Hbl) rfl (lq Hbl 7) (zaz zif (zaz zba (zaz zba (zaz zba (zac (pq Hbl 3)) (zaz zcz zal (zac (pq Hbl 1)))) (zaz zcz (zaz zcz zal (zac (pq Hbl 6))) (zac (pq Hbl 6)))) (zac (pq Hbl 6))) zal))
 (zaj (zaJ (i:=7) (nq Hbl) rfl (lq Hbl 7) (zaz zif (zaz zcz (zac (pq Hbl 7)) zal) zal))
 (zaj (zaJ (i:=7) (nq Hbl) rfl (lq Hbl 7) (zaz zif (zaz zcz (zaz zif (zaz zcz (zac (pq Hbl 7)) (zac (pq Hbl 7))) zal) zal) zal))
 (zao (zdL (pq Hbl 5) (zaz zif (zaz zqO (zac (pq Hbl 7)) zal) (zas (pq Hbl 2) (zac (pq Hbl 6)) (λ_ _=>rfl)))))))))))
 (zao (zau (zac (pq Hbl 5))))))))
theorem Kbq(d_bl:Def P w K mg base "_law_numbers" 1 3 F_bl)(F:Fun K "_law_aim" "_law_aim" Sbq f fd):FnOk P w K mg base CX0 2 f fd ["_law_wishes_here", "_law_cell", "_law_salt"] (spD K 3 F_bq) :=
 okD (k:=1) (g:=g_bq) F (fq Hbq 3) rfl λcdv A outer s H E B G0 hr=>
 have hu:=hr.units;have hgd:=hr.gd
 (zaj (zaJ (i:=3) (nq Hbq) rfl (lq Hbq 3) (zaA zdS (gq Hbq 1) T.b_len Jh (zaa (zas (pq Hbq 0) zal (λ_ _=>rfl)) zaf)))
 (zaj (zaJ (i:=4) (nq Hbq) rfl (lq Hbq 4) (zaz zba (zbs (zaa zal (zaa zal (zaa (zaz zba (zac (pq Hbq 3)) zal) zaf)))) (zaz zcz (zbs (zaa (zaz zba (zaA zdS (gq Hbq 1) T.b_len Jh (zaa (zas (pq Hbq 0) zal (λ_ _=>rfl)) zaf)) zal) zaf)) (zac (pq Hbq 3)))))
 (zaj (zaJ (i:=5) (nq Hbq) rfl (lq Hbq 5) (pdf d_bl hr (gq Hbq 0) (zaa (zac (pq Hbq 1)) (zaa (zac (pq Hbq 2)) (zaa (zaz zba (zac (pq Hbq 4)) (zaz zcz (zbs (zaa (zac (pq Hbq 3)) zaf)) (zac (pq Hbq 3)))) zaf)))))
 (zaj (zaJ (i:=6) (nq Hbq) rfl (lq Hbq 6) zel)
 (zaj (zbk (zbb (B_eq hu) (zas (pq Hbq 5) zal (λ_ _=>rfl)) zal (za4 _))
 (zao (sD_1 (j:=6) (zak Sbq) N_bq ["_law_wishes_here", "_law_cell", "_law_salt", "_law_askers", "_law_sizes", "_law_digits", "_law_old", "_law_turns", "._law_digit", "_law_digit"] 1 zbe (nq Hbq) rfl rfl rfl (zbr (zcb (zac (pq Hbq 5)) (zbL zal) (zbL (zaz zba zal (zac (pq Hbq 3)))))) (λcl C s0 H0 ex=>⟨λB' G'=>(zan (zam (i:=9) (show (["_law_wishes_here", "_law_cell", "_law_salt", "_law_askers", "_law_sizes", "_law_digits", "_law_old", "_law_turns", "._law_digit", "_law_digit"]:List Str).Nodup by decide +kernel) rfl (za2 rfl) (.inr (zbi rfl)))),λB' G'=>zbt,(zaZ rfl rfl rfl λB' G'=>(zcP (zbs (zaa zel (zaa (zaz zdG (zac (pvb 9)) zal) zaf))) (zjM zq4 (zdM rfl) T.b_int PyProof.Rows.boot_int (zaa (zin B_gt (pvb 9) zal (za4 _)) zaf)) (λ_ _=>rfl)))⟩) rfl rfl (by decide +kernel)))
 zaX)
 (zaj (zch (i:=7) (nq Hbq) rfl (lq Hbq 7) (zc3 zaf))
 (zaj (zbx Qq rfl (zbr (zcb (zac (pq Hbq 5)) (zbL (zaz zba zal (zac (pq Hbq 3)))) (zbL (zaz zba (zaz zba zal (zac (pq Hbq 3))) (zas (pq Hbq 5) zal (λ_ _=>rfl)))))) (zan (zam (i:=8) (nq Hbq) rfl (lq Hbq 8)))
 (zaj (zi8 1000 Qq (zpJ (B_in hu) (zac (pq Hbq 8)) (pq Hbq 7) rfl)
 (zao (zaJ (i:=8) (nq Hbq) rfl (lq Hbq 8) (zaz zif (zaz zba (zac (pq Hbq 8)) zal) (zac (pq Hbq 3))))))
 (zao (zdL (pq Hbq 7) (zac (pq Hbq 8))))))
 (zao (zau (zbJ (zaa (zcP (zbs (zaa ze4 (zaa ze4 (zaa ze4 zaf)))) (zas (pq Hbq 5) zal (λ_ _=>rfl)) (λ_ _=>rfl)) (zaa (zac (pq Hbq 6)) (zaa (zac (pq Hbq 7)) zaf)))))))))))))
theorem Kbs(F:Fun K "_law_copy" "_law_copy" Sbs f fd):FnOk P w K mg base CX0 1 f fd ["_law_wishes_here"] (spD K 1 F_bs) :=
 okD (k:=0) (g:=g_bs) F (fq Hbs 1) rfl λcdv A outer s H E B G0 hr=>
 have hu:=hr.units;have hgd:=hr.gd
 (zaj (zch (i:=1) (nq Hbs) rfl (lq Hbs 1) (zc3 zaf))
 (zaj (zbx Qq rfl (zbr (zas (pq Hbs 0) zal (λ_ _=>rfl))) (zan (zam (i:=2) (nq Hbs) rfl (lq Hbs 2)))
 (zao (zdL (pq Hbs 1) (zbR (zdI (zak Sbs) N_bs ["_law_wishes_here", "_law_lists", "_law_ranks", "_law_row"] 1 zbe rfl (zbr (zac (pq Hbs 2))) (λcl C s0 H0 ex=>⟨λB' G'=>(zan (zam (i:=3) (show (["_law_wishes_here", "_law_lists", "_law_ranks", "_law_row"]:List Str).Nodup by decide +kernel) rfl (za2 rfl) (.inr (zbi rfl)))),λB' G'=>zbt,(zaZ rfl rfl rfl λB' G'=>(zbR (zfi (zdM rfl) T.b_list (pvb 3))))⟩) rfl rfl (by decide +kernel))))))
 (zao (zau (zbJ (zaa (zbR (znJ (gq Hbs 0) T.b_list (zaa (zas (pq Hbs 0) zal (λ_ _=>rfl)) zaf))) (zaa (zac (pq Hbs 1)) zaf)))))))
theorem Kbm(d_bl:Def P w K mg base "_law_numbers" 1 3 F_bl)(d_bk:Def P w K mg base "_law_cell_at" 1 2 F_bk)(F:Fun K "_law_wishes" "_law_wishes" Sbm f fd):FnOk P w K mg base CX0 2 f fd ["_law_script", "_law_at", "_law_most_things", "_law_most_askers", "_law_most_ranks"] (spD K 5 F_bm) :=
 okD (k:=1) (g:=g_bm) F (fq Hbm 5) rfl λcdv A outer s H E B G0 hr=>
 have hu:=hr.units;have hgd:=hr.gd
 (zaj (zaJ (i:=5) (nq Hbm) rfl (lq Hbm 5) (zaz zba (zbs (zaa (zac (pq Hbm 2)) (zaa (zac (pq Hbm 3)) zaf))) (zaz zcz (zbs (zaa zal zaf)) (zac (pq Hbm 2)))))
 (zaj (zaJ (i:=6) (nq Hbm) rfl (lq Hbm 6) (pdf d_bl hr (gq Hbm 2) (zaa (pdf d_bk hr (gq Hbm 3) (zaa (zac (pq Hbm 0)) (zaa (zac (pq Hbm 1)) zaf))) (zaa (zac (pq Hbm 1)) (zaa (zac (pq Hbm 5)) zaf)))))
 (zaj (sD_1 (j:=7) (zak Sbm) N_bm ["_law_script", "_law_at", "_law_most_things", "_law_most_askers", "_law_most_ranks", "_law_sizes", "_law_digits", "_law_copies", "_law_lists", "_law_asker", "_law_cell", "_law_places", "_law_ranks", "_law_rank_here", "_law_row", "_law_digit"] 1 zbe (nq Hbm) rfl rfl rfl (zbr (zcb (zac (pq Hbm 6)) (zbL zal) (zbL (zaz zba zal (zas (pq Hbm 6) zal (λ_ _=>rfl)))))) (λcl C s0 H0 ex=>⟨λB' G'=>(zan (zam (i:=15) (show (["_law_script", "_law_at", "_law_most_things", "_law_most_askers", "_law_most_ranks", "_law_sizes", "_law_digits", "_law_copies", "_law_lists", "_law_asker", "_law_cell", "_law_places", "_law_ranks", "_law_rank_here", "_law_row", "_law_digit"]:List Str).Nodup by decide +kernel) rfl (za2 rfl) (.inr (zbi rfl)))),λB' G'=>zbt,(zaZ rfl rfl rfl λB' G'=>(zcP (zbs (zaa zal (zaa zal (zaa zal (zaa zal (zaa zal (zaa zal (zaa zal (zaa zal (zaa zal (zaa zal (zaa zal zaf)))))))))))) (zac (pvb 15)) (λ_ _=>rfl)))⟩) rfl rfl (by decide +kernel))
 (zaj (zch (i:=8) (nq Hbm) rfl (lq Hbm 8) (zc3 zaf))
 (zaj (zbx Qq rfl (zcf (gq Hbm 0) T.b_range (zaa (zaz zba zal (zas (pq Hbm 6) zal (λ_ _=>rfl))) zaf)) (zan (zam (i:=9) (nq Hbm) rfl (lq Hbm 9)))
 (zaj (zaJ (i:=10) (nq Hbm) rfl (lq Hbm 10) (pdf d_bk hr (gq Hbm 3) (zaa (zac (pq Hbm 0)) (zaa (zaz zba (zaz zba (zac (pq Hbm 1)) zal) (zac (pq Hbm 9))) zaf))))
 (zaj (zaJ (i:=11) (nq Hbm) rfl (lq Hbm 11) (pdf d_bl hr (gq Hbm 2) (zaa (zac (pq Hbm 10)) (zaa (zaz zba (zaz zba (zaz zcz zal (zac (pq Hbm 1))) (zaz zcz zal (zac (pq Hbm 9)))) zal) (zaa (zaz zba (zaz zcz (zbs (zaa (zaz zba (zac (pq Hbm 4)) zal) zaf)) (zac (pq Hbm 2))) (zbs (zaa zal zaf))) zaf)))))
 (zaj (zch (i:=12) (nq Hbm) rfl (lq Hbm 12) (zc3 zaf))
 (zaj (zbx Qq rfl (zk2 (gq Hbm 0) T.b_range (zaa zal (zaa (zaz zba (zac (pq Hbm 4)) zal) zaf))) (zan (zam (i:=13) (nq Hbm) rfl (lq Hbm 13)))
 (zaj (sD_1 (j:=14) (zak Sbm) N_bm ["_law_script", "_law_at", "_law_most_things", "_law_most_askers", "_law_most_ranks", "_law_sizes", "_law_digits", "_law_copies", "_law_lists", "_law_asker", "_law_cell", "_law_places", "_law_ranks", "_law_rank_here", "_law_row", "_law_thing"] 1 zbe (nq Hbm) rfl rfl rfl (zcf (gq Hbm 0) T.b_range (zaa (za1 (gq Hbm 1) T.b_len (pq Hbm 7)) zaf)) (λcl C s0 H0 ex=>⟨λB' G'=>(zan (zam (i:=15) (show (["_law_script", "_law_at", "_law_most_things", "_law_most_askers", "_law_most_ranks", "_law_sizes", "_law_digits", "_law_copies", "_law_lists", "_law_asker", "_law_cell", "_law_places", "_law_ranks", "_law_rank_here", "_law_row", "_law_thing"]:List Str).Nodup by decide +kernel) rfl (za2 rfl) (.inr (zbi rfl)))),λB' G'=>(zgk (zbb (B_eq hu) (zas (pvb 11) (zac (pvb 15)) (λ_ _=>rfl)) (zac (pvb 13)) (za4 _))),(zaZ rfl rfl rfl λB' G'=>(zac (pvb 15)))⟩) rfl rfl (by decide +kernel))
 (zao (zbk (zb7 (B_ne hu) (pq Hbm 14) (zbs zaf) (za4 _))
 (zao (zdL (pq Hbm 12) (zcP (zbs (zaa (zac (pq Hbm 14)) (zaa (zpz (zac (pq Hbm 14)) zdR zdR (zbL (zfd zal))) zaf))) (zas (pq Hbm 11) (zfd zal) (λ_ _=>rfl)) (λ_ _=>rfl))))
 zaX))))
 (zao (zdL (pq Hbm 8) (zac (pq Hbm 12)))))))))
 (zao (zau (zbJ (zaa (zac (pq Hbm 7)) (zaa (zac (pq Hbm 8)) zaf))))))))))
theorem Kcd(d_bk:Def P w K mg base "_law_cell_at" 1 2 F_bk)(d_bx:Def P w K mg base "_law_worths" 3 2 F_bx)(d_cc:Def P w K mg base "_law_is_told_best" 5 3 F_cc)(d_bj:Def P w K mg base "best_dealing" 12 2 F_bj)(d_bq:Def P w K mg base "_law_aim" 2 3 F_bq)(d_bs:Def P w K mg base "_law_copy" 1 1 F_bs)(d_bm:Def P w K mg base "_law_wishes" 2 5 F_bm)(F:Fun K "law" "law" Scd f fd):FnOk P w K mg base CX0 13 f fd ["_law_script"] (spD K 1 F_cd) :=
 okD (k:=12) (g:=g_cd) F (fq Hcd 1) rfl λcdv A outer s H E B G0 hr=>
 have hu:=hr.units;have hgd:=hr.gd
 (zaj (zaJ (i:=1) (nq Hcd) rfl (lq Hcd 1) (pdf d_bm hr (gq Hcd 9) (zaa (zac (pq Hcd 0)) (zaa zal (zaa zal (zaa zal (zaa zal zaf)))))))
 (zaj (zaJ (i:=2) (nq Hcd) rfl (lq Hcd 2) (pdf d_bs hr (gq Hcd 8) (zaa (zac (pq Hcd 1)) zaf)))
 (zaj (zch (i:=3) (nq Hcd) rfl (lq Hcd 3) (zc3 zaf))
 (zaj (zbx Qq rfl (zcr (gq Hcd 2) T.b_enumerate (zaa (zaz zba (zbs (zaa (pdf d_bk hr (gq Hcd 1) (zaa (zac (pq Hcd 0)) (zaa zal zaf))) zaf)) (zcb (zac (pq Hcd 0)) (zbL zal) (zbL zal))) zaf)) (zbp rfl (zar (zan (zam (i:=4) (nq Hcd) rfl (lq Hcd 4))) (zar (zan (zam (i:=5) (nq Hcd) rfl (lq Hcd 5))) zbo)))
 (zaj (zaJ (i:=6) (nq Hcd) rfl (lq Hcd 6) (pdf d_bq hr (gq Hcd 7) (zaa (zac (pq Hcd 1)) (zaa (zac (pq Hcd 5)) (zaa (zaz zba zal (zac (pq Hcd 4))) zaf)))))
 (zaj (zaJ (i:=7) (nq Hcd) rfl (lq Hcd 7) (zaA (zji hu hgd) (gq Hcd 0) T.b_repr zdx (zaa (zac (pq Hcd 6)) zaf)))
 (zaj (zaJ (i:=8) (nq Hcd) rfl (lq Hcd 8) (pdf d_bj hr (gq Hcd 6) (zaa (zac (pq Hcd 2)) (zaa (zac (pq Hcd 6)) zaf))))
 (zaj (zbk (PW.pt (zcn (za8 (zbf (pdf d_cc hr (gq Hcd 5) (zaa (zac (pq Hcd 1)) (zaa (pdf d_bx hr (gq Hcd 4) (zaa (zac (pq Hcd 1)) (zaa (zac (pq Hcd 6)) zaf))) (zaa (zac (pq Hcd 8)) zaf)))))) (zbP (zbb (B_ne hu) (zaA (zji hu hgd) (gq Hcd 0) T.b_repr zdx (zaa (zac (pq Hcd 6)) zaf)) (zac (pq Hcd 7)) (za4 _)))))
 (zao (zau zbn))
 zaX)
 (zaj (zbk (zbb B_ge (zaA (zlo rfl) (gq Hcd 3) T.b_max boot_max (zaa (zaz zba (zcP (zas (pq Hcd 8) zal (λ_ _=>rfl)) zal (λ_ _=>rfl)) (zcP (zas (pq Hcd 8) zal (λ_ _=>rfl)) zal (λ_ _=>rfl))) zaf)) (zaz zqP zal zal) (za4 _))
 (zao (zau zbn))
 zaX)
 (zao (zdL (pq Hcd 3) (zbJ (zaa (zac (pq Hcd 8)) (zaa (zaA (zji hu hgd) (gq Hcd 0) T.b_repr zdx (zaa (zac (pq Hcd 8)) zaf)) zaf)))))))))))
 (zaj (zbx Qq rfl (zbr (zac (pq Hcd 3))) (zbp rfl (zar (zan (zam (i:=8) (nq Hcd) rfl (lq Hcd 8))) (zar (zan (zam (i:=7) (nq Hcd) rfl (lq Hcd 7))) zbo)))
 (zao (zbk (zbb (B_ne hu) (zaA (zji hu hgd) (gq Hcd 0) T.b_repr zdx (zaa (zac (pq Hcd 8)) zaf)) (zac (pq Hcd 7)) (za4 _))
 (zao (zau zbn))
 zaX)))
 (zao (zau (zin (B_eq hu) (pq Hcd 2) (zac (pq Hcd 1)) (za4 _)))))))))
end
theorem zay:recsOf q0=zhz p0 ixL:=by
 show recsOf (PySem.W.view PySem.Challenge.pw_wishdeal_k41_a_best_dealing zeN)=zhz PySem.Challenge.pw_wishdeal_k41_a_best_dealing ixL;rw[PySem.W.Fast.te3399658132070893891,PySem.W.Fast.te14258967140297658108]
 kernel_rfl
theorem zdp:(["all", "bool", "enumerate", "int", "isinstance", "len", "list", "max", "min", "range", "repr", "set", "sorted", "str", "sum", "tuple", "zip"]:List Str).all (znU q0 (PySem.W.looseW q0 []))=true:=by
 show List.all _ (znU (PySem.W.view PySem.Challenge.pw_wishdeal_k41_a_best_dealing zeN) (PySem.W.looseW (PySem.W.view PySem.Challenge.pw_wishdeal_k41_a_best_dealing zeN) []))=true
 k_qdec
theorem zfH:valOf q0 "MOST_ASKERS" = some (.int 7):=by
 show valOf (PySem.W.view PySem.Challenge.pw_wishdeal_k41_a_best_dealing zeN) _=_;rw[Jy,PySem.W.Fast.te14258967140297658108]
 kernel_rfl
theorem zfI:valOf q0 "MOST_COPIES" = some (.int 7):=by
 show valOf (PySem.W.view PySem.Challenge.pw_wishdeal_k41_a_best_dealing zeN) _=_;rw[Jy,PySem.W.Fast.te14258967140297658108]
 kernel_rfl
theorem zgH:valOf q0 "MOST_RANKS" = some (.int 5):=by
 show valOf (PySem.W.view PySem.Challenge.pw_wishdeal_k41_a_best_dealing zeN) _=_;rw[Jy,PySem.W.Fast.te14258967140297658108]
 kernel_rfl
theorem zfJ:valOf q0 "MOST_THINGS" = some (.int 6):=by
 show valOf (PySem.W.view PySem.Challenge.pw_wishdeal_k41_a_best_dealing zeN) _=_;rw[Jy,PySem.W.Fast.te14258967140297658108]
 kernel_rfl
theorem zmt:tupStrsOf q0 "ORDERS" = some (["firsts", "full", "lasts"]:List Str):=by
 show tupStrsOf (PySem.W.view PySem.Challenge.pw_wishdeal_k41_a_best_dealing zeN) _=_;rw[PySem.W.Fast.te14491516231548247274,PySem.W.Fast.te14258967140297658108]
 kernel_rfl
theorem zrk{l:PySem.W.OpenLaw}{w:World}{s0:Shared}{mg mb:Str->Option Value}{fa:Addr}{h:Heap}{XP:(Str->Option Value)->Heap->Prop}(G:PySem.W.Ground q0 [] [] XP w s0 mg mb h)(hfa:mg "law" = some (.ref fa)) :
  ∃fd:FuncData,(∀(s:Shared)(v:Value),BindsTo s fd ⟨[v],[]⟩ [("_law_script", v)])/\∀base:Heap,FnOk l.prog w (whole h) mg base CX0 13 fa fd ["_law_script"] (spD (whole h) 1 F_cd):=by
 have T:Txt (whole h) mg:=⟨zbT G.T zdp (.head _),zbT G.T zdp (.tail _ (.head _)),zbT G.T zdp (.tail _ (.tail _ (.head _))),zbT G.T zdp (.tail _ (.tail _ (.tail _ (.head _)))),zbT G.T zdp (.tail _ (.tail _ (.tail _ (.tail _ (.head _))))),zbT G.T zdp (.tail _ (.tail _ (.tail _ (.tail _ (.tail _ (.head _)))))),zbT G.T zdp (.tail _ (.tail _ (.tail _ (.tail _ (.tail _ (.tail _ (.head _))))))),zbT G.T zdp (.tail _ (.tail _ (.tail _ (.tail _ (.tail _ (.tail _ (.tail _ (.head _)))))))),zbT G.T zdp (.tail _ (.tail _ (.tail _ (.tail _ (.tail _ (.tail _ (.tail _ (.tail _ (.head _))))))))),zbT G.T zdp (.tail _ (.tail _ (.tail _ (.tail _ (.tail _ (.tail _ (.tail _ (.tail _ (.tail _ (.head _)))))))))),zbT G.T zdp (.tail _ (.tail _ (.tail _ (.tail _ (.tail _ (.tail _ (.tail _ (.tail _ (.tail _ (.tail _ (.head _))))))))))),zbT G.T zdp (.tail _ (.tail _ (.tail _ (.tail _ (.tail _ (.tail _ (.tail _ (.tail _ (.tail _ (.tail _ (.tail _ (.head _)))))))))))),zbT G.T zdp (.tail _ (.tail _ (.tail _ (.tail _ (.tail _ (.tail _ (.tail _ (.tail _ (.tail _ (.tail _ (.tail _ (.tail _ (.head _))))))))))))),zbT G.T zdp (.tail _ (.tail _ (.tail _ (.tail _ (.tail _ (.tail _ (.tail _ (.tail _ (.tail _ (.tail _ (.tail _ (.tail _ (.tail _ (.head _)))))))))))))),zbT G.T zdp (.tail _ (.tail _ (.tail _ (.tail _ (.tail _ (.tail _ (.tail _ (.tail _ (.tail _ (.tail _ (.tail _ (.tail _ (.tail _ (.tail _ (.head _))))))))))))))),zbT G.T zdp (.tail _ (.tail _ (.tail _ (.tail _ (.tail _ (.tail _ (.tail _ (.tail _ (.tail _ (.tail _ (.tail _ (.tail _ (.tail _ (.tail _ (.tail _ (.head _)))))))))))))))),zbT G.T zdp (.tail _ (.tail _ (.tail _ (.tail _ (.tail _ (.tail _ (.tail _ (.tail _ (.tail _ (.tail _ (.tail _ (.tail _ (.tail _ (.tail _ (.tail _ (.tail _ (.head _))))))))))))))))),zd8 G.T zfH,zd8 G.T zfI,zd8 G.T zgH,zd8 G.T zfJ,zlU G.B zmt (by decide)⟩
 refine zsk G.T zay 74 "law" rfl rfl hfa (λ_ _ _ _ _ _ _=>rfl) λbase=>?_
 have d_bk:=zbd l.prog w base G.T zay 55 "_law_cell_at" rfl rfl (λF=>Kbk T  F) λ_ _ _ _ _ _ us hl=>bz2 (us:=us) hl λ_ _=>rfl
 have d_bp:=zbd l.prog w base G.T zay 60 "_law_wished" rfl rfl (λF=>Kbp T  F) λ_ _ _ _ _ _ us hl=>bz2 (us:=us) hl λ_ _=>rfl
 have d_bv:=zbd l.prog w base G.T zay 66 "_law_wishes_of" rfl rfl (λF=>Kbv T d_bp F) λ_ _ _ _ _ _ us hl=>bz1 (us:=us) hl λ_=>rfl
 have d_bn:=zbd l.prog w base G.T zay 58 "_law_rank" rfl rfl (λF=>Kbn T  F) λ_ _ _ _ _ _ us hl=>bz3 (us:=us) hl λ_ _ _=>rfl
 have d_bo:=zbd l.prog w base G.T zay 59 "_law_longest" rfl rfl (λF=>Kbo T  F) λ_ _ _ _ _ _ us hl=>bz1 (us:=us) hl λ_=>rfl
 have d_br:=zbd l.prog w base G.T zay 62 "_law_worth" rfl rfl (λF=>Kbr T d_bn d_bo F) λ_ _ _ _ _ _ us hl=>bz4 (us:=us) hl λ_ _ _ _=>rfl
 have d_bx:=zbd l.prog w base G.T zay 68 "_law_worths" rfl rfl (λF=>Kbx T d_bv d_br F) λ_ _ _ _ _ _ us hl=>bz2 (us:=us) hl λ_ _=>rfl
 have d_ca:=zbd l.prog w base G.T zay 71 "_law_claim" rfl rfl (λF=>Kca T  F) λ_ _ _ _ _ _ us hl=>bz2 (us:=us) hl λ_ _=>rfl
 have d_by:=zbd l.prog w base G.T zay 69 "_law_sum" rfl rfl (λF=>Kby T  F) λ_ _ _ _ _ _ us hl=>bz2 (us:=us) hl λ_ _=>rfl
 have d_bt:=zbd l.prog w base G.T zay 64 "_law_is_number" rfl rfl (λF=>Kbt T  F) λ_ _ _ _ _ _ us hl=>bz1 (us:=us) hl λ_=>rfl
 have d_bw:=zbd l.prog w base G.T zay 67 "_law_is_dealing" rfl rfl (λF=>Kbw T d_bt d_bp F) λ_ _ _ _ _ _ us hl=>bz2 (us:=us) hl λ_ _=>rfl
 have d_bu:=zbd l.prog w base G.T zay 65 "_law_is_row" rfl rfl (λF=>Kbu T d_bt F) λ_ _ _ _ _ _ us hl=>bz2 (us:=us) hl λ_ _=>rfl
 have d_bz:=zbd l.prog w base G.T zay 70 "_law_lets" rfl rfl (λF=>Kbz T d_bu d_bt F) λ_ _ _ _ _ _ us hl=>bz3 (us:=us) hl λ_ _ _=>rfl
 have d_cb:=zbd l.prog w base G.T zay 72 "_law_shows_best" rfl rfl (λF=>Kcb T d_ca d_by d_bw d_bz F) λ_ _ _ _ _ _ us hl=>bz4 (us:=us) hl λ_ _ _ _=>rfl
 have d_cc:=zbd l.prog w base G.T zay 73 "_law_is_told_best" rfl rfl (λF=>Kcc T d_cb F) λ_ _ _ _ _ _ us hl=>bz3 (us:=us) hl λ_ _ _=>rfl
 have d_bh:=zbd l.prog w base G.T zay 50 "asks_beyond" rfl rfl (λF=>Kbh T  F) λ_ _ _ _ _ _ us hl=>bz3 (us:=us) hl λ_ _ _=>rfl
 have d_aw:=zbd l.prog w base G.T zay 39 "place_of" rfl rfl (λF=>Kaw T  F) λ_ _ _ _ _ _ us hl=>bz2 (us:=us) hl λ_ _=>rfl
 have d_ax:=zbd l.prog w base G.T zay 40 "steps_of_askers" rfl rfl (λF=>Kax T d_aw F) λ_ _ _ _ _ _ us hl=>bz3 (us:=us) hl λ_ _ _=>rfl
 have d_aa:=zbd l.prog w base G.T zay 1 "is_whole" rfl rfl (λF=>Kaa T  F) λ_ _ _ _ _ _ us hl=>bz1 (us:=us) hl λ_=>rfl
 have d_ab:=zbd l.prog w base G.T zay 2 "is_number_below" rfl rfl (λF=>Kab T d_aa F) λ_ _ _ _ _ _ us hl=>bz2 (us:=us) hl λ_ _=>rfl
 have d_ad:=zbd l.prog w base G.T zay 13 "is_rank" rfl rfl (λF=>Kad T d_ab F) λ_ _ _ _ _ _ us hl=>bz2 (us:=us) hl λ_ _=>rfl
 have d_ae:=zbd l.prog w base G.T zay 14 "is_asker_list" rfl rfl (λF=>Kae T d_ad F) λ_ _ _ _ _ _ us hl=>bz2 (us:=us) hl λ_ _=>rfl
 have d_af:=zbd l.prog w base G.T zay 15 "look_at_lists" rfl rfl (λF=>Kaf T d_ae F) λ_ _ _ _ _ _ us hl=>bz2 (us:=us) hl λ_ _=>rfl
 have d_ac:=zbd l.prog w base G.T zay 12 "look_at_copies" rfl rfl (λF=>Kac T d_ab F) λ_ _ _ _ _ _ us hl=>bz1 (us:=us) hl λ_=>rfl
 have d_ag:=zbd l.prog w base G.T zay 16 "look_at_wishes" rfl rfl (λF=>Kag T d_af d_ac F) λ_ _ _ _ _ _ us hl=>bz1 (us:=us) hl λ_=>rfl
 have d_ak:=zbd l.prog w base G.T zay 21 "copies_left" rfl rfl (λF=>Kak T d_ag F) λ_ _ _ _ _ _ us hl=>bz2 (us:=us) hl λ_ _=>rfl
 have d_ay:=zbd l.prog w base G.T zay 41 "steps_of_copies" rfl rfl (λF=>Kay T d_ak F) λ_ _ _ _ _ _ us hl=>bz2 (us:=us) hl λ_ _=>rfl
 have d_az:=zbd l.prog w base G.T zay 42 "all_steps" rfl rfl (λF=>Kaz T d_ax d_ay F) λ_ _ _ _ _ _ us hl=>bz3 (us:=us) hl λ_ _ _=>rfl
 have d_ba:=zbd l.prog w base G.T zay 43 "longer_walks" rfl rfl (λF=>Kba T  F) λ_ _ _ _ _ _ us hl=>bz2 (us:=us) hl λ_ _=>rfl
 have d_bb:=zbd l.prog w base G.T zay 44 "widest_walks" rfl rfl (λF=>Kbb T d_ba F) λ_ _ _ _ _ _ us hl=>bz2 (us:=us) hl λ_ _=>rfl
 have d_bg:=zbd l.prog w base G.T zay 49 "prices_for" rfl rfl (λF=>Kbg T d_az d_bb F) λ_ _ _ _ _ _ us hl=>bz3 (us:=us) hl λ_ _ _=>rfl
 have d_bi:=zbd l.prog w base G.T zay 51 "paper_for" rfl rfl (λF=>Kbi T d_bh d_bg F) λ_ _ _ _ _ _ us hl=>bz3 (us:=us) hl λ_ _ _=>rfl
 have d_bc:=zbd l.prog w base G.T zay 45 "round_within" rfl rfl (λF=>Kbc T  F) λ_ _ _ _ _ _ us hl=>bz1 (us:=us) hl λ_=>rfl
 have d_bd:=zbd l.prog w base G.T zay 46 "way_round" rfl rfl (λF=>Kbd T  F) λ_ _ _ _ _ _ us hl=>bz2 (us:=us) hl λ_ _=>rfl
 have d_be:=zbd l.prog w base G.T zay 47 "gaining_way" rfl rfl (λF=>Kbe T d_az d_bb d_bc d_bd F) λ_ _ _ _ _ _ us hl=>bz3 (us:=us) hl λ_ _ _=>rfl
 have d_av:=zbd l.prog w base G.T zay 37 "behind_way" rfl rfl (λF=>Kav T  F) λ_ _ _ _ _ _ us hl=>bz2 (us:=us) hl λ_ _=>rfl
 have d_bf:=zbd l.prog w base G.T zay 48 "best_by" rfl rfl (λF=>Kbf T d_be d_av F) λ_ _ _ _ _ _ us hl=>bz2 (us:=us) hl λ_ _=>rfl
 have d_aj:=zbd l.prog w base G.T zay 19 "all_wishes" rfl rfl (λF=>Kaj T d_ag F) λ_ _ _ _ _ _ us hl=>bz1 (us:=us) hl λ_=>rfl
 have d_aq:=zbd l.prog w base G.T zay 31 "power" rfl rfl (λF=>Kaq T  F) λ_ _ _ _ _ _ us hl=>bz2 (us:=us) hl λ_ _=>rfl
 have d_as:=zbd l.prog w base G.T zay 33 "worth_by_turns" rfl rfl (λF=>Kas T d_aq F) λ_ _ _ _ _ _ us hl=>bz4 (us:=us) hl λ_ _ _ _=>rfl
 have d_ar:=zbd l.prog w base G.T zay 32 "worth_by_order" rfl rfl (λF=>Kar T d_aq F) λ_ _ _ _ _ _ us hl=>bz4 (us:=us) hl λ_ _ _ _=>rfl
 have d_ah:=zbd l.prog w base G.T zay 17 "rank_in" rfl rfl (λF=>Kah T  F) λ_ _ _ _ _ _ us hl=>bz2 (us:=us) hl λ_ _=>rfl
 have d_at:=zbd l.prog w base G.T zay 34 "worth_by_aim" rfl rfl (λF=>Kat T d_aq d_as d_ar d_ah F) λ_ _ _ _ _ _ us hl=>bz5 (us:=us) hl λ_ _ _ _ _=>rfl
 have d_ai:=zbd l.prog w base G.T zay 18 "longest" rfl rfl (λF=>Kai T d_ag F) λ_ _ _ _ _ _ us hl=>bz1 (us:=us) hl λ_=>rfl
 have d_ao:=zbd l.prog w base G.T zay 28 "is_turns" rfl rfl (λF=>Kao T d_ab F) λ_ _ _ _ _ _ us hl=>bz2 (us:=us) hl λ_ _=>rfl
 have d_an:=zbd l.prog w base G.T zay 27 "is_old" rfl rfl (λF=>Kan T d_ab F) λ_ _ _ _ _ _ us hl=>bz3 (us:=us) hl λ_ _ _=>rfl
 have d_al:=zbd l.prog w base G.T zay 24 "is_order" rfl rfl (λF=>Kal T  F) λ_ _ _ _ _ _ us hl=>bz1 (us:=us) hl λ_=>rfl
 have d_am:=zbd l.prog w base G.T zay 25 "look_at_order" rfl rfl (λF=>Kam T d_al F) λ_ _ _ _ _ _ us hl=>bz1 (us:=us) hl λ_=>rfl
 have d_ap:=zbd l.prog w base G.T zay 29 "look_at_aim" rfl rfl (λF=>Kap T d_ao d_an d_am d_ag F) λ_ _ _ _ _ _ us hl=>bz2 (us:=us) hl λ_ _=>rfl
 have d_au:=zbd l.prog w base G.T zay 35 "all_worths" rfl rfl (λF=>Kau T d_aj d_at d_ai d_ap F) λ_ _ _ _ _ _ us hl=>bz2 (us:=us) hl λ_ _=>rfl
 have d_bj:=zbd l.prog w base G.T zay 53 "best_dealing" rfl rfl (λF=>Kbj T d_bi d_bf d_au F) λ_ _ _ _ _ _ us hl=>bz2 (us:=us) hl λ_ _=>rfl
 have d_bl:=zbd l.prog w base G.T zay 56 "_law_numbers" rfl rfl (λF=>Kbl T  F) λ_ _ _ _ _ _ us hl=>bz3 (us:=us) hl λ_ _ _=>rfl
 have d_bq:=zbd l.prog w base G.T zay 61 "_law_aim" rfl rfl (λF=>Kbq T d_bl F) λ_ _ _ _ _ _ us hl=>bz3 (us:=us) hl λ_ _ _=>rfl
 have d_bs:=zbd l.prog w base G.T zay 63 "_law_copy" rfl rfl (λF=>Kbs T  F) λ_ _ _ _ _ _ us hl=>bz1 (us:=us) hl λ_=>rfl
 have d_bm:=zbd l.prog w base G.T zay 57 "_law_wishes" rfl rfl (λF=>Kbm T d_bl d_bk F) λ_ _ _ _ _ _ us hl=>bz5 (us:=us) hl λ_ _ _ _ _=>rfl
 exact λ{_ _} F=>Kcd T d_bk d_bx d_cc d_bj d_bq d_bs d_bm F
abbrev d_cd:DefRec:=⟨"law", zek Scd,zdh Scd,zak Scd,zsj Scd⟩
theorem walk{YP:World->Heap->Prop}{XP:(Str->Option Value)->Heap->Prop}(hlaw:∀ns:List Int,ns.length<=63->F_cd [.list (ns.map int)]=some (.bool true)):PySem.W.WalkO q0 [] XP YP (PySem.Challenge.rw_wishdeal_k41_a_best_dealing).row.toRowW d_cd [] (λf vs=>PySem.call f vs) :=
 znV (n:=63) (k:=13) (x := "_law_script") rfl (by decide) rfl ⟨rfl,by decide,by decide,rfl⟩ (λ_ _ _ _ _ _ G hm=>zrk G hm) hlaw
theorem asm{α:Type}{a b:α}(h:a=b):a=b:=h
theorem zrl{i:Nat}{x:Option Sl}{Z Z':DEnv}(h:Z.set i x=Z'):Z.set i x=Z':=h
theorem zrm{i:Nat}{Z:DEnv}{x:Option (Option Sl)}(h:Z[i]?=x):Z[i]?=x:=h
theorem asmN{ds:List D}{n:Nat}(h:ds.length<n):ds.length<n:=h
theorem zsn{ds:List D}{n:Nat}(h:ds.length<=n):ds.length<=n:=h
theorem zrn{i:Nat}{Z:DEnv}(h:i<Z.length):i<Z.length:=h
local macro_rules | `(tactic| walk_at "set")=>`(tactic| first | (simp only [List.set_cons_succ,List.set_cons_zero];done) | (simp only [List.set_cons_succ,List.set_cons_zero];rfl) | rfl)
local macro_rules | `(tactic| walk_at "side")=>`(tactic| first | assumption | omega | (simp only [List.length_cons,List.length_nil,List.length_map,List.length_append];omega))
local macro_rules | `(tactic| walk_at "st1")=>`(tactic| first
 | with_reducible apply zaS
 | with_reducible apply zbB
 | ((with_reducible apply zd1);exact rfl)
 | with_reducible apply zeH
 | with_reducible apply zfm
 | with_reducible apply zc7
 | with_reducible exact st_nx)
local macro_rules | `(tactic| walk_at "ev1")=>`(tactic| first
 | with_reducible exact zag
 | with_reducible exact zai
 | ((with_reducible apply zad);exact rfl)
 | with_reducible apply zap
 | with_reducible apply zab
 | with_reducible apply zd3
 | with_reducible apply zoL
 | ((with_reducible apply ev_listO);exact rfl)
 | with_reducible apply zaQ
 | ((with_reducible apply zbE);exact rfl)
 | ((with_reducible apply zi6);exact rfl)
 | with_reducible apply ev_join
 | with_reducible apply zaK
 | ((with_reducible apply za6);exact rfl)
 | with_reducible apply zaV
 | with_reducible apply zhk
 | ((with_reducible apply zbc);exact rfl)
 | ((with_reducible apply zlv);exact rfl)
 | with_reducible apply zc6
 | with_reducible apply zlw
 | with_reducible apply ev_rng3
 | with_reducible apply zi7
 | with_reducible apply zgr
 | with_reducible apply zjb
 | with_reducible apply zck
 | with_reducible apply ev_iter
 | with_reducible apply ev_sl
 | with_reducible apply zb9
 | with_reducible apply zbY
 | with_reducible apply zbj
 | with_reducible apply zcd
 | with_reducible apply zbN
 | with_reducible apply zc5
 | ((with_reducible apply zbD);exact rfl;walk_at "set")
 | ((with_reducible apply zdZ);exact rfl)
 | with_reducible apply zav
 | ((with_reducible apply asm);(with_reducible assumption))
 | with_reducible exact zaN
 | with_reducible exact zbZ
 | with_reducible exact zq7
 | with_reducible exact zlB
 | with_reducible exact vop_min
 | with_reducible exact zaM
 | with_reducible exact zgu
 | with_reducible exact vop_sl
 | with_reducible exact zcu
 | with_reducible exact zbm
 | with_reducible exact vop_itT
 | with_reducible exact vop_itS
 | with_reducible exact vop_inS
 | with_reducible exact vop_ninS
 | with_reducible exact vop_iter
 | with_reducible exact zb4
 | with_reducible exact zhm
 | with_reducible exact zc9
 | with_reducible exact zeT
 | with_reducible exact vop_neT
 | with_reducible exact vop_eqT
 | with_reducible exact zcl
 | ((with_reducible apply zlz);walk_at "side")
 | ((with_reducible apply zpD) <;> walk_at "side")
 | ((with_reducible apply zcI) <;> walk_at "side")
 | ((with_reducible apply zd0) <;> walk_at "side")
 | ((with_reducible apply zb3);walk_at "side")
 | ((with_reducible apply zrn);exact of_decide_eq_true rfl)
 | ((with_reducible apply zaq);walk_at "st1")
 | ((with_reducible apply zbl);walk_at "st1")
 | walk_at "st1"
 | ((with_reducible apply zrm);exact rfl)
 | ((with_reducible apply asmN);walk_at "side")
 | ((with_reducible apply zsn);walk_at "side")
 | with_reducible apply zaD
 | ((with_reducible apply zrl);walk_at "set")
 | ((with_reducible apply zrn);exact of_decide_eq_true rfl)
 | with_reducible apply tg_N
 | with_reducible exact tg_0
 | with_reducible apply tg_C
 | ((with_reducible apply tg_T);exact rfl)
 | ((with_reducible apply asmE);exact rfl))
local macro_rules | `(tactic| walk_at "ev")=>`(tactic| repeat' walk_at "ev1")
theorem zf1{sizes found:List Int}{z d:Int}(h:∀(j:Nat) d z,found[j]?=some d->sizes[j]?=some z->0<=d/\d<z)(hz:sizes[found.length]?=some z)(h0:0<=d/\d<z) :
  ∀(j:Nat) d' z',(found++[d])[j]?=some d'->sizes[j]?=some z'->0<=d'/\d'<z':=by
 intro j d' z' e1 e2
 by_cases hj:j<found.length
 ·rw[Qv hj] at e1
  exact h j d' z' e1 e2
 ·by_cases hj2:j=found.length
  ·subst hj2
   rw[hz] at e2;cases e2;rw[Qw (Qs _),Nat.sub_self,List.getElem?_cons_zero] at e1;cases e1;exact h0
  ·rw[Jf (by rw[Ql,Ja];omega)] at e1
   cases e1
def inv(c s:Int)(sizes:List Int)(n:Int)(i:Nat)(Z:DEnv):Prop:=∃left found x6 x7,Z=[some (Sl.pub (.int c)),some (.pub (.int s)),some (.pub (.list (sizes.map .int))),some (.pub (.int n)),some (.pub (.int left)),some (.own ((found:List Int).map .int)),x6,x7] /\
 found.length=i/\∀(j:Nat) d z,found[j]?=some d->sizes[j]?=some z->0<=d/\d<z
theorem zmu{c s n:Int}{sizes:List Int}(hs:∀x∈sizes,0<x/\x<18446744073709551616)(hl:sizes.length<=1000){i:Nat}{d:D}{Z:DEnv}{Q:Out->Prop}(hi:(zbW 0 sizes.length)[i]?=some d)(h:inv c s sizes n i Z) :
  ∃Z2,gN 6 d Z=some Z2/\Ho ziB Z2 (zj4 (inv c s sizes n (i+1)) Q):=by
 obtain ⟨left,found,x6,x7,rfl,hf,hfd⟩:=h;obtain ⟨rfl,hlt⟩:=zcc hi;obtain ⟨z,hz⟩:∃z,sizes[i]?=some z:=⟨sizes[i]'(by omega),Qf _⟩
 obtain ⟨z1,z2⟩:=hs z (Qp hz)
 have hix:oIx (.list (sizes.map int)) (.int (0+(i:Int)))=some (.int z):=by
  rw[J7];exact za0 (by rw[Qe,hz];rfl)
 generalize hk:(0:Int)+(i:Int)=k at hix ⊢;have hk1:k<18446744073709551616:=by omega
 have hk2 : -18446744073709551616<k:=by omega
 have hlen:(found.map int).length<1000000:=by rw[Qb];omega
 have pw:oPow (.int 10) (.int 18)=some (.int 1000000000000000000):=by rw[zlA (by decide)];rfl
 refine ⟨_,tg_N (Qa rfl) (by walk_at "set"),?_⟩
 unfold ziB;apply za9
 case h1=>
  apply zq6
  case h1=>walk_at "ev"
  case h2=>intro _;walk_at "ev"
 case h2=>
  intro _
  walk_at "ev"
  refine zaW ?_;exact ⟨_,found++[left % z],_,_,by rw[QF];rfl,by rw[Ql,hf];rfl,zf1 hfd (by rw[hf];exact hz) ⟨Int.emod_nonneg _ (by omega),Int.emod_lt_of_pos _ z1⟩⟩
 case h3=>
  intro _
  walk_at "ev"
  refine zaW ?_;exact ⟨_,found++[_ % z],_,_,by rw[QF];rfl,by rw[Ql,hf];rfl,zf1 hfd (by rw[hf];exact hz) ⟨Int.emod_nonneg _ (by omega),Int.emod_lt_of_pos _ z1⟩⟩
theorem zdq(c s:Int){sizes:List Int}(hs:∀x∈sizes,0<x/\x<18446744073709551616)(hl:sizes.length<=1000) :
  ∃r,F_bl [.int c,.int s,.list (sizes.map int)]=some r/\∃ds:List Int,r=.list (ds.map .int)/\ds.length=sizes.length/\∀(j:Nat) d z,ds[j]?=some d->sizes[j]?=some z->0<=d/\d<z:=by
 refine zeI (Z:=[some (.pub (.int c)),some (.pub (.int s)),some (.pub (.list (sizes.map int))),none,none,none,none,none]) rfl ?_;unfold g_bl
 walk_at "ev"
 apply zaG;apply zby (ds:=zbW 0 sizes.length) (inv c s sizes (if -1-c > c then -1-c else c))
 case h1=>
  walk_at "ev"
  rw[Qb];exact zct (by omega) (by omega)
 case h0=>exact ⟨_,[],none,none,rfl,rfl,λj d z e=>by cases e⟩
 case hst=>exact λi d Z e h=>zmu hs hl e h
 case hend=>
  rintro Z ⟨left,found,x6,x7,rfl,hf,hfd⟩;refine zat ?_
  walk_at "ev"
  rw[za7] at hf;exact ⟨_,rfl,found,rfl,by omega,hfd⟩
mutual
theorem zgI:∀(d:PyData),d.canLay0=true->PyData.eqv d d=true
 |.none,_=>rfl
 |.bool b,_=>by cases b <;> rfl
 |.int i,_=>by simp[PyData.eqv]
 |.str s,_=>by simp[PyData.eqv]
 |.list xs,h=>eqvAll_refl xs h
 |.tuple xs,h=>eqvAll_refl xs h
 |.dict _,h=>by cases h
theorem eqvAll_refl:∀(xs:List PyData),PyData.canLayAll0 xs=true->PyData.eqvAll xs xs=true
 |[],_=>rfl
 |x::r,h=>by
  have h:(PyData.canLay0 x&&PyData.canLayAll0 r)=true:=h;rw[Jm] at h;show (PyData.eqv x x&&PyData.eqvAll r r)=true;rw[zgI x h.1,eqvAll_refl r h.2];rfl
end
theorem zb1:∀{xs:List D},(∀x∈xs,PyData.canLay0 x=true)->PyData.canLayAll0 xs=true
 |[],_=>rfl
 |x::r,h=>by
  show (PyData.canLay0 x&&PyData.canLayAll0 r)=true;rw[h x Qm,zb1 λy hy=>h y (Qk _ hy)];rfl
theorem zb2{n:Nat}:∀{xs:List D},(∀x∈xs,PyData.depth x<=n)->PyData.depthAll xs<=n
 |[],_=>by simp[PyData.depthAll]
 |x::r,h=>by
  have h1:=h x Qm;have h2:=zb2 (n:=n) λy hy=>h y (Qk _ hy);simp only[PyData.depthAll];omega
def zbH(r:List Int):D:=.list (r.map int)
def zaC(rs:List (List Int)):D:=.list (rs.map zbH)
def zaw(cs:List Int)(ls:L3):D:=.tuple [.list (cs.map int),.list (ls.map zaC)]
structure zcq(n:Nat)(rs:List (List Int)):Prop where
 few:rs.length<=5
 some:∀r∈rs,r≠[]
 there:∀r∈rs,∀t∈r,0<=t/\t<n
 once:rs.flatten.Nodup
structure Good(cs:List Int)(ls:L3):Prop where
 c1:1<=cs.length
 c6:cs.length<=6
 c7:∀c∈cs,0<=c/\c<8
 l1:1<=ls.length
 l7:ls.length<=7
 rk:∀rs∈ls,zcq cs.length rs
theorem zgJ(r:List Int):(zbH r).canLay0=true:=zb1 λx hx=>by obtain ⟨y,_,rfl⟩:=Qt.mp hx;rfl
theorem zmv(rs:List (List Int)):(zaC rs).canLay0=true:=zb1 λx hx=>by obtain ⟨y,_,rfl⟩:=Qt.mp hx;exact zgJ y
theorem zn4(cs:List Int)(ls:L3):(zaw cs ls).canLay0=true:=zb1 λx hx=>by
 have hx:x=.list (cs.map int)∨x=.list (ls.map zaC):=by simpa using hx
 rcases hx with rfl|rfl
 ·exact zgJ cs
 ·exact zb1 λx hx=>by obtain ⟨y,_,rfl⟩:=Qt.mp hx;exact zmv y
theorem zmw(i:Int):(int i).depth<=1:=by simp[PyData.depth]
theorem zet{n:Nat}{xs:List D}(h:PyData.depthAll xs<=n):(PyData.list xs).depth<=n+1:=by simp only[PyData.depth];omega
theorem zgK(r:List Int):(zbH r).depth<=2:=zet (zb2 λx hx=>by obtain ⟨y,_,rfl⟩:=Qt.mp hx;exact zmw y)
theorem zmx(rs:List (List Int)):(zaC rs).depth<=3:=zet (zb2 λx hx=>by obtain ⟨y,_,rfl⟩:=Qt.mp hx;exact zgK y)
theorem zn5(cs:List Int)(ls:L3):(zaw cs ls).depth<=60:=by
 have h:PyData.depthAll [.list (cs.map int),.list (ls.map zaC)]<=4:=zb2 λx hx=>by
  have hx:x=.list (cs.map int)∨x=.list (ls.map zaC):=by simpa using hx
  rcases hx with rfl|rfl
  ·have:=zgK cs;unfold zbH at this;omega
  ·exact zet (zb2 λx hx=>by obtain ⟨y,_,rfl⟩:=Qt.mp hx;exact zmx y)
 unfold zaw;simp only[PyData.depth] at h ⊢;omega
theorem zmy(i:Int):F_aa [.int i]=some (.bool true):=by
 refine za3 (Z:=[some (.pub (.int i))]) rfl ?_;unfold g_aa;exact zaD (zgs (zaK (zad rfl)) (λ_=>zlx (zaK (zad rfl)))) rfl
theorem zea{i m:Int}(h0:0<=i)(h1:i<m):F_ab [.int i,.int m]=some (.bool true):=by
 refine za3 (Z:=[some (.pub (.int i)),some (.pub (.int m))]) rfl ?_;unfold g_ab;have hb:(decide (0<=i)&&decide (i<m))=true:=by simp[h0,h1]
 refine zaD (zgs (t:=true) (u:=true) (zav (zab (zad rfl) zai) rfl (zmy i)) (λ_=>?_)) rfl;rw[←hb];exact zaK (zgt zag (zad rfl) rfl (λ_=>zad rfl) (λ_=>rfl))
theorem zeb{α:Type}(l:List α):oAll [.list (l.map λ_=>.bool true)]=some (.bool true):=by
 have:(l.map λ_=>PyData.bool true)=(l.map λ_=>true).map PyData.bool:=by rw[Q5];rfl
 rw[this,zlD]
 congr 2
 rw[List.all_map]
 induction l with
 |nil=>rfl
 |cons x r ih=>simpa using ih
theorem zkg{r:List Int}{n:Int}(hne:r≠[])(hl:r.length<=1000)(h:∀t∈r,0<=t/\t<n):F_ad [zbH r,.int n]=some (.bool true):=by
 refine za3 (Z:=[some (.pub (zbH r)),some (.pub (.int n))]) rfl ?_;unfold g_ad;apply zaG;have hlen:oLen [zbH r]=some (.int r.length):=by unfold zbH;rw[zaM,Qb]
 have hp:0<r.length:=List.length_pos_iff.mpr hne;apply za9
 case h1=>exact zcp (Z1:=[some (.pub (zbH r)),some (.pub (.int n))]) (zcJ (zad rfl) rfl) (zap (zbc rfl hlen) zag zcl)
 case h2=>
       intro hh;have:(r.length:Int)=0:=by simpa using hh
       omega
 case h3=>
  intro _;refine zbh (zat ?_)
  have hc:zbG (gN 2) (zah true) (dFun 2 F_ab (zae (dVar 2) (zae (dVar 1) (mNil)))) (r.map int) (zaP [some (.pub (zbH r)),some (.pub (.int n))]++replicate 1 none) []=some (r.map λ_=>.bool true):=by
   rw[zcS (λ_=>true) (λ_=>.bool true) (λZ=>∃x,Z=[some (.pub (zbH r)),some (.pub (.int n)),x])]
   ·rw[J8.mpr (λ_ _=>rfl),Jp,Q5];rfl
   ·rintro d hm Z ⟨x,rfl⟩
    obtain ⟨t,ht,rfl⟩:=Qt.mp hm;exact ⟨_,tg_N (Qa rfl) rfl,rfl,λ_=>zav (zab (zad rfl) (zab (zad rfl) zai)) rfl (zea (h t ht).1 (h t ht).2),_,rfl⟩
   ·exact ⟨none,rfl⟩
   ·rw[Qb,QE];omega
  exact zaD (zaV (zab (zaK (zbw (zaQ (zad rfl) rfl) hc)) zai) (zeb r)) rfl
theorem zhC{a b c x3:Option Sl}(ha:zff a=a)(hb:zff b=b)(hc:zff c=c)(hx:zff x3=x3):∀(ds es:List D)(x4:Option Sl),es.length+ds.length<=1000000 ->
  ∃y,zco (gN 4) (zah true) (dVar 4) ds [a,b,c,x3,x4] es=some (es++ds,[a,b,c,x3,y])
 |[],es,x4,_=>⟨x4,by rw[zco,Jb]⟩
 |d::r,es,x4,h=>by
  rw[QK] at h;obtain ⟨y,e⟩:=zhC ha hb hc hx r (es++[d]) (some (.pub d)) (by rw[Ql,Ja];omega)
  refine ⟨y,?_⟩;rw[zco];have h1:gN 4 d [a,b,c,x3,x4]=some [a,b,c,x3,some (.pub d)]:=tg_N (Qa rfl) rfl;rw[h1];dsimp only[zah];rw[Qn rfl];have h2:dVar 4 [a,b,c,x3,some (.pub d)]=.ok d [a,b,c,x3,some (.pub d)]:=zad rfl;rw[h2];dsimp only;rw[Qn (by omega)]
  have h3:zaP [a,b,c,x3,some (.pub d)]=[a,b,c,x3,some (.pub d)]:=by
   unfold zaP;simp only[QB,Uc,ha,hb,hc,hx]
   rfl
  rw[h3,e,Q8];rfl
theorem zfv{a b:D}:∀(rs:List (List Int))(es:List D)(x3 x4:Option Sl),es.length+rs.flatten.length<=1000000 ->
  zdj (gN 3) (zah true) (zaY (dVar 3)) (gN 4) (zah true) (dVar 4) (rs.map zbH) [some (.pub a),some (.pub b),none,x3,x4] es=some (es++rs.flatten.map int)
 |[],es,_,_,_=>by rw[List.map_nil,zdj];simp
 |r::rs,es,x3,x4,h=>by
  rw[QO,Ql] at h;rw[QB,zdj];have h1:gN 3 (zbH r) [some (.pub a),some (.pub b),none,x3,x4]=some [some (.pub a),some (.pub b),none,some (.pub (zbH r)),x4]:=tg_N (Qa rfl) rfl;rw[h1];dsimp only[zah];rw[Qn rfl];have h2:zaY (dVar 3) [some (.pub a),some (.pub b),none,some (.pub (zbH r)),x4]=.ok (r.map int) [some (.pub a),some (.pub b),none,some (.pub (zbH r)),x4]:=zaQ (zad rfl) rfl;rw[h2];dsimp only;have h3:zaP [some (.pub a),some (.pub b),none,some (.pub (zbH r)),x4]=[some (.pub a),some (.pub b),none,some (.pub (zbH r)),zff x4]:=rfl;rw[h3];obtain ⟨y,e⟩:=zhC (a:=some (.pub a)) (b:=some (.pub b)) (c:=none) (x3:=some (.pub (zbH r))) rfl rfl rfl rfl (r.map int) es (zff x4) (by rw[Qb];omega)
  rw[e];dsimp only;have ih:=zfv (a:=a) (b:=b) rs (es++r.map int) (some (.pub (zbH r))) y (by rw[Ql,Qb];omega)
  refine Eq.trans ih ?_;rw[QO,QF,Q8]
theorem zf2{ns:List Int}(h:ns.Nodup):zfj ns=ns.length:=by
 unfold zfj
 have:∀i,i<=ns.length->(PyProof.Rows.firstMet (λi=>ns.getD i 0) i).length=i:=by
  intro i
  induction i with
  |zero=>intro _;rfl
  |succ i ih=>
   intro hi;rw[PyProof.Rows.firstMet_succ]
   have hany:(PyProof.Rows.firstMet (λi=>ns.getD i 0) i).any (· == ns.getD i 0)=false:=by
    rw[PyProof.Rows.firstMet_any,List.any_eq_false];intro x hx;obtain ⟨j,hj,rfl⟩:=Qt.mp hx;have hj:=Q6.mp hj;intro e;have e:ns.getD j 0=ns.getD i 0:=by simpa using e
    have l1:j<ns.length:=by omega
    have l2:i<ns.length:=by omega
    simp only[List.getD,Qf l1,Qf l2,JS] at e;exact absurd ((List.getElem_inj h).mp e) (by omega)
   unfold PyProof.Rows.step_dedup;rw[hany];rw[QA (by decide),Ql,ih (by omega)];rfl
 exact this ns.length (Qs _)
theorem ziE{rs:List (List Int)}{n:Nat}(g:zcq n rs)(hn:n<=6)(hf:rs.flatten.length<=1000):F_ae [zaC rs,.int n]=some (.bool true):=by
 refine za3 (Z:=[some (.pub (zaC rs)),some (.pub (.int n)),none]) rfl ?_;unfold g_ae;have hlen:oLen [zaC rs]=some (.int rs.length):=by unfold zaC;rw[zaM,Qb]
 have h5:=g.few;have hrl:∀r∈rs,r.length<=1000:=λr hr=>QH (List.Sublist.length_le (List.sublist_flatten_of_mem hr)) hf;apply zaG;apply za9
 case h1=>exact zcp (Z1:=[some (.pub (zaC rs)),some (.pub (.int n)),none]) (zcJ (zad rfl) rfl) (zap (zbc rfl hlen) zag rfl)
 case h2=>
       intro hh;have:(5:Int)<(rs.length:Int):=by simpa using hh
       omega
 case h3=>
  intro _;refine zbh (zat ?_)
  have hc:zbG (gN 3) (zah true) (dFun 2 F_ad (zae (dVar 3) (zae (dVar 1) (mNil)))) (rs.map zbH) (zaP [some (.pub (zaC rs)),some (.pub (.int n)),none]++replicate 1 none) []=some (rs.map λ_=>.bool true):=by
   rw[zcS (λ_=>true) (λ_=>.bool true) (λZ=>∃x,Z=[some (.pub (zaC rs)),some (.pub (.int n)),none,x])]
   ·rw[J8.mpr (λ_ _=>rfl),Jp,Q5];rfl
   ·rintro d hm Z ⟨x,rfl⟩
    obtain ⟨r,hr,rfl⟩:=Qt.mp hm;exact ⟨_,tg_N (Qa rfl) rfl,rfl,λ_=>zav (zab (zad rfl) (zab (zad rfl) zai)) rfl (zkg (g.some r hr) (hrl r hr) (g.there r hr)),_,rfl⟩
   ·exact ⟨none,rfl⟩
   ·rw[Qb,QE];omega
  apply zaG;apply za9
  case h1=>exact zbY (zbj (zaV (zab (zaK (zbw (zaQ (zad rfl) rfl) hc)) zai) (zeb rs)))
  case h2=>intro hh;cases hh
  case h3=>
   intro _;refine zbh (zat ?_)
   have h2:zg9 (zaY (dVar 0)) 2 (gN 3) (zah true) (zaY (dVar 3)) (gN 4) (zah true) (dVar 4) [some (.pub (zaC rs)),some (.pub (.int n)),none]=.ok (rs.flatten.map int) [some (.pub (zaC rs)),some (.pub (.int n)),none]:=by
    unfold zg9;have e1:zaY (dVar 0) [some (.pub (zaC rs)),some (.pub (.int n)),none]=.ok (rs.map zbH) [some (.pub (zaC rs)),some (.pub (.int n)),none]:=zaQ (zad rfl) rfl;rw[e1];dsimp only;have e2:=zfv (a:=zaC rs) (b:=.int n) rs [] none none (by rw[QE];omega)
    have e3:zdj (gN 3) (zah true) (zaY (dVar 3)) (gN 4) (zah true) (dVar 4) (rs.map zbH) (zaP [some (.pub (zaC rs)),some (.pub (.int n)),none]++replicate 2 none) []=some ([]++rs.flatten.map int):=e2;rw[e3]
    rfl
   refine zaq (zbB h2 (Qa rfl) rfl) ?_
   have hls:zc4 [.list (rs.flatten.map int)]=some (.int rs.flatten.length):=by
    unfold zc4;dsimp only;rw[zcj];dsimp only;rw[Qn (by omega),zf2 g.once]
   refine zaD (zaK (zap (zaV (zab (zbD rfl rfl) zai) hls) (zbc rfl zaM) zcl)) ?_;rw[Qb];simp
theorem zbO{d:D}:∀{xs:List D}{k i:Nat},(zcO k xs)[i]?=some d->∃x,xs[i]?=some x/\d=.tuple [.int ((k+i:Nat):Int),x]
 |[],k,i,h=>by cases h
 |x::r,k,0,h=>by
  cases h;exact ⟨x,rfl,rfl⟩
 |x::r,k,i+1,h=>by
  obtain ⟨y,e,q⟩:=zbO (xs:=r) (k:=k+1) (i:=i) h;exact ⟨y,e,by rw[q];congr 4;omega⟩
theorem zdy:∀(n:Nat)(l:List Int),l.Nodup->(∀x∈l,0<=x/\x<n)->l.length<=n
 |0,[],_,_=>Qs _
 |0,x::r,_,h=>by have:=h x Qm;omega
 |n+1,l,hn,h=>by
  by_cases hm:(n:Int)∈l
  ·have:=zdy n (l.erase (n:Int)) (hn.erase _) λx hx=>by
    have h1:=(List.Nodup.mem_erase_iff hn).mp hx;have h2:=h x h1.2;have h3:=h1.1;omega
   rw[List.length_erase_of_mem hm] at this;omega
  ·have:=zdy n l hn λx hx=>by
    have h2:=h x hx;have h3:x≠(n:Int):=λe=>hm (e ▸ hx);omega
   omega
theorem zeU{n:Nat}{rs:List (List Int)}(g:zcq n rs):rs.flatten.length<=n:=zdy n _ g.once λx hx=>by
 obtain ⟨r,hr,hxr⟩:=Uf.mp hx;exact g.there r hr x hxr
theorem zmz{cs:List Int}(h1:1<=cs.length)(h6:cs.length<=6)(h:∀c∈cs,0<=c/\c<8):F_ac [.list (cs.map int)]=some .none:=by
 refine zhl (Z:=[some (.pub (.list (cs.map int))),none,none]) rfl ?_;unfold g_ac;have hlen:oLen [.list (cs.map int)]=some (.int cs.length):=by rw[zaM,Qb]
 apply zaG;apply za9
 case h1=>exact zcp (Z1:=[some (.pub (.list (cs.map int))),none,none]) (zcJ (zad rfl) rfl) (zbY (zgt zag (zbc rfl hlen) rfl (λ_=>zag) (λ_=>rfl)))
 case h2=>
  intro hh;have a1:(1:Int)<=(cs.length:Int):=by omega
  have a2:(cs.length:Int)<=6:=by omega
  simp[a1,a2] at hh
 case h3=>
  intro _;refine zbh (zat ?_);apply zby (λ_ Z=>∃x1 x2,Z=[some (.pub (.list (cs.map int))),x1,x2])
  case h1=>exact zck (zab (zad rfl) zai) zb4
  case h0=>exact ⟨_,_,rfl⟩
  case hst=>
   rintro i d Z hi ⟨x1,x2,rfl⟩;obtain ⟨x,hx,rfl⟩:=zbO hi;obtain ⟨c,hc,rfl⟩:=Qt.mp (Qp hx);refine ⟨_,tg_T rfl (tg_C (tg_N (Qa rfl) rfl) (tg_C (tg_N (Qa rfl) rfl) tg_0)),?_⟩;unfold zme;apply za9
   case h1=>exact zbY (zbj (zav (zab (zad rfl) (zab (zap zag zag zaN) zai)) rfl (zea (h c hc).1 (by have:=(h c hc).2;omega))))
   case h2=>intro hh;cases hh
   case h3=>exact λ_=>zbh (zaW ⟨_,_,rfl⟩)
  case hend=>exact λZ ⟨x1,x2,e⟩=>⟨_,rfl⟩
theorem zn6{ls:L3}{n:Nat}(hn:n<=6)(h1:1<=ls.length)(h7:ls.length<=7)(h:∀rs∈ls,zcq n rs):F_af [.list (ls.map zaC),.int n]=some .none:=by
 refine zhl (Z:=[some (.pub (.list (ls.map zaC))),some (.pub (.int n)),none,none]) rfl ?_;unfold g_af;have hlen:oLen [.list (ls.map zaC)]=some (.int ls.length):=by rw[zaM,Qb]
 apply zaG;apply za9
 case h1=>exact zcp (Z1:=[some (.pub (.list (ls.map zaC))),some (.pub (.int n)),none,none]) (zcJ (zad rfl) rfl) (zbY (zgt zag (zbc rfl hlen) rfl (λ_=>zag) (λ_=>rfl)))
 case h2=>
  intro hh;have a1:(1:Int)<=(ls.length:Int):=by omega
  have a2:(ls.length:Int)<=7:=by omega
  simp[a1,a2] at hh
 case h3=>
  intro _;refine zbh (zat ?_);apply zby (λ_ Z=>∃x2 x3,Z=[some (.pub (.list (ls.map zaC))),some (.pub (.int n)),x2,x3])
  case h1=>exact zck (zab (zad rfl) zai) zb4
  case h0=>exact ⟨_,_,rfl⟩
  case hst=>
   rintro i d Z hi ⟨x1,x2,rfl⟩;obtain ⟨x,hx,rfl⟩:=zbO hi;obtain ⟨rs,hrs,rfl⟩:=Qt.mp (Qp hx);refine ⟨_,tg_T rfl (tg_C (tg_N (Qa rfl) rfl) (tg_C (tg_N (Qa rfl) rfl) tg_0)),?_⟩;unfold zmd;have hfl:=zeU (h rs hrs);apply za9
   case h1=>exact zbY (zbj (zav (zab (zad rfl) (zab (zad rfl) zai)) rfl (ziE (h rs hrs) hn (by omega))))
   case h2=>intro hh;cases hh
   case h3=>exact λ_=>zbh (zaW ⟨_,_,rfl⟩)
  case hend=>exact λZ ⟨x1,x2,e⟩=>⟨_,rfl⟩
theorem zec{cs:List Int}{ls:L3}(g:Good cs ls):F_ag [zaw cs ls]=some .none:=by
 refine zhl (Z:=[some (.pub (zaw cs ls)),none,none]) rfl ?_;unfold g_ag;apply zaG;apply za9
 case h1=>exact zcp (Z1:=[some (.pub (zaw cs ls)),none,none]) (zcJ (zad rfl) rfl) (zap (zbc rfl rfl) zag zc9)
 case h2=>intro hh;cases hh
 case h3=>
  intro _;refine zbh (zat ?_);have hlen:oLen [.list (cs.map int)]=some (.int (cs.length:Nat)):=by rw[zaM,Qb]
  refine zaq (zeH (zad rfl) (tg_T rfl (tg_C (tg_N (Qa rfl) rfl) (tg_C (tg_N (Qa rfl) rfl) tg_0)))) ?_;refine zaq (zc7 (zav (zab (zad rfl) zai) rfl (zmz g.c1 g.c6 g.c7))) ?_;exact zbl (zc7 (zav (zab (zad rfl) (zab (zbc rfl hlen) zai)) rfl (zn6 g.c6 g.l1 g.l7 g.rk))) ⟨_,rfl⟩
theorem zjo:∀(xs ys:List Int),PyData.eqvAll (xs.map int) (ys.map int)=decide (xs=ys)
 |[],[]=>rfl
 |[],y::ys=>by simp[PyData.eqvAll]
 |x::xs,[]=>by simp[PyData.eqvAll]
 |x::xs,y::ys=>by
  have ih:=zjo xs ys;show (PyData.eqv (.int x) (.int y)&&PyData.eqvAll (xs.map int) (ys.map int))=_;rw[ih]
  have:PyData.eqv (.int x) (.int y)=decide (x=y):=rfl
  rw[this,Bool.eq_iff_iff];simp
theorem zmA{xs:List Int}:oNe (.list (xs.map int)) (.list [])=some (!decide (xs=[])):=by
 unfold oNe;have h1:(PyData.list (xs.map int)).canLay0=true:=zgJ xs;have h3:(PyData.list (xs.map int)).depth<=60:=by have:=zgK xs;unfold zbH at this;omega
 rw[Qn ⟨h1,rfl,h3⟩]
 congr 2
 exact zjo xs []
theorem zmB{xs:List D}{x:D}(h:xs.getLast?=some x):oIx (.list xs) (.int (-1))=some x:=by
 unfold oIx atI;have hl:xs≠[]:=by rintro rfl;cases h
 have hp:0<xs.length:=List.length_pos_iff.mpr hl;rw[List.getLast?_eq_getElem?] at h;show (ixN xs.length (-1)).bind _=_;unfold ixN;rw[QA (by decide),Qn (by omega)]
 have e2:(-1+(xs.length:Int)).toNat=xs.length-1:=by omega
 simp only[Option.bind_some];rw[e2];exact h
theorem ziF{xs:List Int}{k:Nat}(h:k<xs.length):oIx (.list (xs.map int)) (.int k)=some (.int (xs.getD k 0)):=by
 refine za0 ?_;rw[Qe,Qf h];simp[List.getD,List.getElem?_eq_getElem h]
theorem zdr(ns:List Int)(k:Nat)(hl:ns.length<=1000):∃v,F_bk [.list (ns.map int),.int k]=some (.int v):=by
 have hlen:oLen [.list (ns.map int)]=some (.int ns.length):=by rw[zaM,Qb]
 by_cases h:k<ns.length
 ·refine ⟨ns.getD k 0,za3 (Z:=[some (.pub (.list (ns.map int))),some (.pub (.int k))]) rfl ?_⟩
  unfold g_bk;apply zaG;apply za9
  case h1=>exact zbE rfl (zbc rfl hlen) rfl
  case h2=>exact λ_=>zaD (za6 rfl (zad rfl) (ziF h)) (zc8 rfl)
  case h3=>
        intro hh;have:¬(k:Int)<(ns.length:Int):=by simpa using hh
        omega
 ·refine ⟨0,za3 (Z:=[some (.pub (.list (ns.map int))),some (.pub (.int k))]) rfl ?_⟩
  unfold g_bk;apply zaG;apply za9
  case h1=>exact zbE rfl (zbc rfl hlen) rfl
  case h2=>
        intro hh;have:(k:Int)<(ns.length:Int):=by simpa using hh
        omega
  case h3=>exact λ_=>zbh (zat (zaD zag rfl))
def sz6:List Int:=6::7::replicate 6 11
def szP:List Int:=replicate 6 6++[2]
theorem zro:∀x∈sz6,0<x/\x<18446744073709551616:=by decide
theorem zrp:∀x∈szP,0<x/\x<18446744073709551616:=by decide
def tab:List Int:=[1,1,2,0,3,7,1,4,5,6,1]
theorem zoP{z:Int}(h0:0<=z)(h1:z<11):oIx (.list (tab.map int)) (.int z)=some (.int (tab.getD z.toNat 0))/\0<=tab.getD z.toNat 0/\tab.getD z.toNat 0<8:=by
 have e:z=0∨z=1∨z=2∨z=3∨z=4∨z=5∨z=6∨z=7∨z=8∨z=9∨z=10:=by omega
 rcases e with rfl|rfl|rfl|rfl|rfl|rfl|rfl|rfl|rfl|rfl|rfl <;> exact ⟨rfl,by decide,by decide⟩
structure zed(n:Nat)(pl:List Int)(j:Nat)(rs:List (List Int)):Prop where
 few:rs.length<=j
 some:∀r∈rs,r≠[]
 there:∀r∈rs,∀t∈r,(0<=t/\t<n)/\pl.getD t.toNat 0<1+(j:Int)
 once:rs.flatten.Nodup
def zhD(n:Nat)(pl:List Int)(r:Int):List Int:=((List.range n).filter λk=>decide (pl.getD k 0=r)).map λk:Nat=>(k:Int)
theorem ziG(n:Nat)(pl:List Int)(r:Int):(zhD n pl r).Nodup:=by
 unfold zhD;refine List.Pairwise.map _ (λa b h e=>h (by omega)) ((List.nodup_range).filter _)
theorem zhE{n:Nat}{pl:List Int}{r t:Int}(h:t∈zhD n pl r):(0<=t/\t<n)/\pl.getD t.toNat 0=r:=by
 unfold zhD at h;obtain ⟨k,hk,rfl⟩:=Qt.mp h;have hk:=List.mem_filter.mp hk;have h1:=Q6.mp hk.1;have h2:pl.getD k 0=r:=by simpa using hk.2
 exact ⟨⟨by omega,by omega⟩,by rw[Qz];exact h2⟩
theorem zed.add{n:Nat}{pl:List Int}{j:Nat}{rs:List (List Int)}{row:List Int}(g:zed n pl j rs)(hne:row≠[])(hm:∀t∈row,t∈zhD n pl (1+(j:Int)))(hn:row.Nodup):zed n pl (j+1) (rs++[row]) where
 few:=by rw[Ql,Ja];have:=g.few;omega
 some:=λr hr=>by
  rcases QS.mp hr with z|z
  ·exact g.some r z
  ·rw[Q0.mp z];exact hne
 there:=λr hr t ht=>by
  rcases QS.mp hr with z|z
  ·have:=g.there r z t ht;exact ⟨this.1,by omega⟩
  ·rw[Q0.mp z] at ht
   have:=zhE (hm t ht)
   exact ⟨this.1,by omega⟩
 once:=by
  rw[List.flatten_append,List.flatten_singleton];refine List.nodup_append.mpr ⟨g.once,hn,λa ha b hb e=>?_⟩;subst e;obtain ⟨r,hr,har⟩:=Uf.mp ha;have h1:=(g.there r hr a har).2;have h2:=(zhE (hm a hb)).2;omega
theorem zed.next{n:Nat}{pl:List Int}{j:Nat}{rs:List (List Int)}(g:zed n pl j rs):zed n pl (j+1) rs :=
 ⟨by have:=g.few;omega,g.some,λr hr t ht=>⟨(g.there r hr t ht).1,by have:=(g.there r hr t ht).2;omega⟩,g.once⟩
theorem zed.good{n:Nat}{pl:List Int}{rs:List (List Int)}(g:zed n pl 5 rs):zcq n rs:=⟨g.few,g.some,λr hr t ht=>(g.there r hr t ht).1,g.once⟩
def invK(S dz sz:D)(at_ n:Nat)(cs pl:List Int)(ls:L3)(x9 x10:Option Sl)(j:Nat)(Z:DEnv):Prop:=∃(rs:List (List Int))(x13 x14:Option Sl),
 Z=[some (.pub S),some (.pub (.int at_)),some (.pub (.int 6)),some (.pub (.int 7)),some (.pub (.int 5)),some (.pub sz),some (.pub dz),some (.own (cs.map int)),some (.own (ls.map zaC)),x9,x10,some (.pub (.list (pl.map int))),some (.own (rs.map zbH)),x13,x14]/\zed n pl j rs
theorem zmC{S dz sz:D}{at_ n:Nat}{cs pl:List Int}{ls:L3}{v9 v10:D}{j:Nat}{d:D}{Z:DEnv}{Q:Out->Prop}(hcs:cs.length=n)(hn:n<=6)(hpl:pl.length=7)(hlast:pl.getD 6 0=0∨pl.getD 6 0=1)
  (hj:(zbW 1 (5+1))[j]?=some d) (h:invK S dz sz at_ n cs pl ls (some (.pub v9)) (some (.pub v10)) j Z) :
  ∃Z2,gN 13 d Z=some Z2/\Ho ziC Z2 (zj4 (invK S dz sz at_ n cs pl ls (some (.pub v9)) (some (.pub v10)) (j+1)) Q):=by
 obtain ⟨rs,x13,x14,rfl,g⟩:=h;obtain ⟨rfl,hlt⟩:=zcc hj;have hj5:j<5:=by omega
 refine ⟨_,tg_N (Qa rfl) (by walk_at "set"),?_⟩
 unfold ziC
 have hrd:zbW 0 ((n:Nat):Int)=(List.range n).map λk=>.int (k:Int):=by
  unfold zbW
  have:((n:Int)-0).toNat=n:=by omega
  rw[this];apply List.map_congr_left;intro k _;rw[J7]
 have hc:zbG (gN 15) (dBin oEq (dIxN 11 (dVar 15)) (dVar 13)) (dVar 15) (zbW 0 ((n:Nat):Int)) (zaP [some (.pub S),some (.pub (.int at_)),some (.pub (.int 6)),some (.pub (.int 7)),some (.pub (.int 5)),some (.pub sz),some (.pub dz),some (.own (cs.map int)),some (.own (ls.map zaC)),some (.pub v9),some (.pub v10),some (.pub (.list (pl.map int))),some (.own (rs.map zbH)),some (.pub (.int (1+(j:Int)))),x14]++replicate 1 none) []=some ((zhD n pl (1+(j:Int))).map int):=by
  rw[hrd,zcS (λd=>match d with | .int k=>decide (pl.getD k.toNat 0=1+(j:Int))|_=>false) (λd=>d) (λZ=>∃x,Z=[some (.pub S),some (.pub (.int at_)),some (.pub (.int 6)),some (.pub (.int 7)),some (.pub (.int 5)),some (.pub sz),some (.pub dz),none,none,some (.pub v9),some (.pub v10),some (.pub (.list (pl.map int))),none,some (.pub (.int (1+(j:Int)))),zff x14,x])]
  ·rw[Jp,List.map_id',List.filter_map]
   unfold zhD;rw[Q5]
   rfl
  ·rintro d hm Z ⟨x,rfl⟩
   obtain ⟨k,hk,rfl⟩:=Qt.mp hm;have hk:=Q6.mp hk;refine ⟨_,tg_N (Qa rfl) rfl,zap (za6 rfl (zad rfl) (ziF (by omega))) (zad rfl) zcl,λ_=>zad rfl,some (.pub (.int k)),?_⟩
   unfold zaP
   cases x14 with
   |none=>rfl
   |some sl=>cases sl <;> rfl
  ·exact ⟨none,rfl⟩
  ·rw[Qb,Qu,QE];omega
 have hlen:(cs.map int).length=n:=by rw[Qb,hcs]
 refine zaq (zbB (zbw (zc6 (zab (zlv rfl) zai) (by rw[hlen];exact zct (by omega) (by omega))) hc) (Qa rfl) rfl) ?_
 generalize hrow:zhD n pl (1+(j:Int))=row;apply za9
 case h1=>exact zi6 rfl (zbN zai (by decide)) rfl zmA
 case h2=>
  intro hh;have hne:row≠[]:=by simpa using hh
  have hlx:oIx (.list (pl.map int)) (.int (-1))=some (.int (pl.getD 6 0)):=zmB (by
   rw[List.getLast?_eq_getElem?,Qb,hpl,Qe,Qf (show 7-1<pl.length by omega)]
   simp[List.getD,List.getElem?_eq_getElem (show 6<pl.length by omega)])
  obtain ⟨row',hix,hrow'⟩:∃row':List Int,oIx (.list [.list (row.map int),.list (row.map int).reverse]) (.int (pl.getD 6 0))=some (zbH row')/\(row'=row∨row'=row.reverse):=by
   rcases hlast with e|e
   ·rw[e];exact ⟨row,rfl,.inl rfl⟩
   ·rw[e];exact ⟨row.reverse,by show some (PyData.list (row.map int).reverse)=_;unfold zbH;rw[List.map_reverse],.inr rfl⟩
  have hrl:(rs.map zbH).length<1000000:=by rw[Qb];have:=g.few;omega
  refine zbl (zd1 rfl (zap (zbN (zab (zbD rfl rfl) (zab (zq8 (zad rfl) zag zag (zb9 (zhk zag))) zai)) (Qa rfl)) (za6 rfl (zhk zag) hlx) hix) rfl hrl rfl) ?_;refine zaW ⟨rs++[row'],some (.pub (.int (1+(j:Int)))),some (.pub (.list (row.map int))),by rw[QF];rfl,g.add ?_ ?_ ?_⟩
  ·rcases hrow' with e|e <;> rw[e]
   ·exact hne
   ·exact λz=>hne (List.reverse_eq_nil_iff.mp z)
  ·intro t ht
   rw[hrow];rcases hrow' with e|e <;> rw[e] at ht
   ·exact ht
   ·exact List.mem_reverse.mp ht
  ·have hnd:=ziG n pl (1+(j:Int))
   rw[hrow] at hnd;rcases hrow' with e|e <;> rw[e]
   ·exact hnd
   ·exact (List.reverse_perm row).nodup_iff.mpr hnd
 case h3=>exact λ_=>zbh (zaW ⟨rs,_,_,rfl,g.next⟩)
def invA(S dz sz:D)(at_ n:Nat)(cs:List Int)(i:Nat)(Z:DEnv):Prop:=∃(ls:L3)(x9 x10 x11 x12 x13 x14:Option Sl),
 Z=[some (.pub S),some (.pub (.int at_)),some (.pub (.int 6)),some (.pub (.int 7)),some (.pub (.int 5)),some (.pub sz),some (.pub dz),some (.own (cs.map int)),some (.own (ls.map zaC)),x9,x10,x11,x12,x13,x14]/\ls.length=i/\∀rs∈ls,zcq n rs
theorem zkh{ns:List Int}{dz sz:D}{at_ n:Nat}{cs:List Int}{i:Nat}{m:Int}{d:D}{Z:DEnv}{Q:Out->Prop}(hns:ns.length<=1000)(hcs:cs.length=n)(hn:n<=6)(hm:m<=100)
  (hi:(zbW 0 m)[i]?=some d) (h:invA (.list (ns.map int)) dz sz at_ n cs i Z) :
  ∃Z2,gN 9 d Z=some Z2/\Ho ziD Z2 (zj4 (invA (.list (ns.map int)) dz sz at_ n cs (i+1)) Q):=by
 obtain ⟨ls,x9,x10,x11,x12,x13,x14,rfl,hl,hg⟩:=h;obtain ⟨rfl,hlt⟩:=zcc hi
 refine ⟨_,tg_N (Qa rfl) (by walk_at "set"),?_⟩
 unfold ziD;obtain ⟨v,hv⟩:=zdr ns (at_+1+i) hns;have ev:((at_:Int)+1+(0+(i:Int)))=((at_+1+i:Nat):Int):=by omega
 rw[←ev] at hv;refine zaq (zaS (zav (zab (zad rfl) (zab (zap (zap (zad rfl) zag zaN) (zad rfl) zaN) zai)) rfl hv) (Qa rfl) rfl) ?_;obtain ⟨r,hF,pl,rfl,hpl,hpb⟩:=zdq v (11*(at_:Int)+3*(0+(i:Int))+1) (sizes:=szP) zrp (by decide)
 have hpl7:pl.length=7:=hpl;have hmul:oMul (.list [.int (5+1)]) (.int 6)=some (.list ((replicate 6 6).map int)):=zdv (by decide)
 have hadd:oAdd (.list ((replicate 6 6).map int)) (.list [.int 2])=some (.list (szP.map int)):=zb3 (by decide)
 refine zaq (zaS (zav (zab (zad rfl) (zab (zap (zap (zap zag (zad rfl) (zd0 (by decide) (by decide))) (zap zag (zad rfl) (zd0 (by decide) (by decide))) zaN) zag zaN) (zab (zap (zap (zbN (zab (zap (zad rfl) zag zaN) zai) (Qa rfl)) (zad rfl) hmul) (zbN (zab zag zai) (Qa rfl)) hadd) zai))) rfl hF) (Qa rfl) rfl) ?_
 refine zaq (zbB (zc5 zai (Qa rfl)) (Qa rfl) rfl) ?_
 have hlast:pl.getD 6 0=0∨pl.getD 6 0=1:=by
  have e:pl[6]?=some pl[6]:=Qf (by omega)
  have:=hpb 6 pl[6] 2 e rfl
  have e2:pl.getD 6 0=pl[6]:=by simp[List.getD,e]
  rw[e2];omega
 apply zaG;apply zby (invK (.list (ns.map int)) dz sz at_ n cs pl ls (some (.pub (.int (0+(i:Int))))) (some (.pub (.int v))))
 case h1=>exact zlw (zab zag (zab (zap (zad rfl) zag zaN) zai)) (znO (by decide) (by decide) (by decide) (by decide))
 case h0=>exact ⟨[],x13,x14,rfl,⟨Qs _,λ_ h=>(by cases h),λ_ h=>(by cases h),List.nodup_nil⟩⟩
 case hst=>exact λj d Z e h=>zmC hcs hn hpl7 hlast e h
 case hend=>
  rintro Z ⟨rs,y13,y14,rfl,g⟩;refine zat ?_;have hl5:(zbW 1 (5+1)).length=5:=rfl;rw[hl5] at g;have hll:(ls.map zaC).length<1000000:=by rw[Qb];omega
  refine zbl (zd1 rfl (zbD rfl rfl) rfl hll rfl) ?_;refine zaW ⟨ls++[rs],some (.pub (.int (0+(i:Int)))),some (.pub (.int v)),some (.pub (.list (pl.map int))),some (.pub (.list (rs.map zbH))),y13,y14,by rw[QF];rfl,by rw[Ql,hl];rfl,λx hx=>?_⟩
  rcases QS.mp hx with z|z
  ·exact hg x z
  ·rw[Q0.mp z];exact g.good
theorem ziH{ns:List Int}(hns:ns.length<=1000)(at_:Nat):∃r,F_bm [.list (ns.map int),.int at_,.int 6,.int 7,.int 5]=some r/\∃cs ls,r=zaw cs ls/\Good cs ls:=by
 obtain ⟨v,hv⟩:=zdr ns at_ hns;obtain ⟨r,hF,ds,rfl,hl,hd⟩:=zdq v at_ (sizes:=sz6) zro (by decide)
 have hl8:ds.length=8:=hl
 have at':∀(j:Nat)(k z:Int),k=j->sz6[j]?=some z->∃d,oIx (.list (ds.map int)) (.int k)=some (.int d)/\ds[j]?=some d/\0<=d/\d<z:=λj k z hk hz=>by
  subst hk;have hj:j<ds.length:=by rw[hl];exact (Qg.mp hz).1
  have e:ds[j]?=some ds[j]:=Qf hj;obtain ⟨p0,p1⟩:=hd j ds[j] z e hz;exact ⟨ds[j],za0 (by rw[Qe,e];rfl),e,p0,p1⟩
 obtain ⟨d0,x0,e0,p0,q0⟩:=at' 0 0 6 rfl rfl;obtain ⟨d1,x1,e1,p1,q1⟩:=at' 1 1 7 rfl rfl;have hmul:oMul (.list [.int 11]) (.int 6)=some (.list ((replicate 6 11).map int)):=zdv (by decide)
 have hadd:oAdd (.list [.int 6,.int 7]) (.list ((replicate 6 11).map int))=some (.list (sz6.map int)):=zb3 (by decide)
 obtain ⟨n,hn⟩:∃n:Nat,1+d0=n:=⟨(1+d0).toNat,by omega⟩
 refine zeI (Z:=[some (.pub (.list (ns.map int))),some (.pub (.int at_)),some (.pub (.int 6)),some (.pub (.int 7)),some (.pub (.int 5)),none,none,none,none,none,none,none,none,none,none]) rfl ?_;unfold g_bm;refine zaq (zaS (zap (zbN (zab (zad rfl) (zab (zad rfl) zai)) (Qa rfl)) (zap (zbN (zab zag zai) (Qa rfl)) (zad rfl) hmul) hadd) (Qa rfl) rfl) ?_;refine zaq (zaS (zav (zab (zav (zab (zad rfl) (zab (zad rfl) zai)) rfl hv) (zab (zad rfl) (zab (zad rfl) zai))) rfl hF) (Qa rfl) rfl) ?_
 have hcut:DL.cutD (ds.map int) (some 2) (some (3+d0))=((ds.drop 2).take n).map int:=by
  rw[zgy (by decide) (by omega) (by omega)]
  have:(3+d0).toNat-(2:Int).toNat=n:=by omega
  rw[this];rfl
 have hrowl:((ds.drop 2).take n).length=n:=by rw[QP,Ji,hl8];omega
 have each:∀z∈(ds.drop 2).take n,0<=z/\z<11:=λz hz=>by
  have hz:=J5 hz;obtain ⟨k,hk,e⟩:=List.getElem_of_mem hz;rw[Ji,hl8] at hk;rw[List.getElem_drop] at e;have e2:ds[2+k]?=some z:=by rw[←e];exact Qf _
  refine hd (2+k) z 11 e2 ?_
  have:k=0∨k=1∨k=2∨k=3∨k=4∨k=5:=by omega
  rcases this with rfl|rfl|rfl|rfl|rfl|rfl <;> rfl
 let cs:List Int:=((ds.drop 2).take n).map λz=>tab.getD z.toNat 0
 have hcl:cs.length=n:=by show (List.map _ _).length=n;rw[Qb,hrowl]
 have hc:∀xs:List (Option Sl),zaP xs=xs->xs.length=15->zbG (gN 15) (zah true) (dBin oIx (mLst (zae (zah (.int 1)) (zae (zah (.int 1)) (zae (zah (.int 2)) (zae (zah (.int 0)) (zae (zah (.int 3)) (zae (zah (.int 7)) (zae (zah (.int 1)) (zae (zah (.int 4)) (zae (zah (.int 5)) (zae (zah (.int 6)) (zae (zah (.int 1)) (mNil))))))))))))) (dVar 15)) (((ds.drop 2).take n).map int) (zaP xs++replicate 1 none) []=some (cs.map int):=by
  intro xs hx hxl;rw[hx,zcS (λ_=>true) (λd=>match d with | .int z=>.int (tab.getD z.toNat 0)|_=>.none) (λZ=>∃x,Z=xs++[x])]
  ·rw[J8.mpr (λ_ _=>rfl),Jp,Q5]
   show _=some ((((ds.drop 2).take n).map λz=>tab.getD z.toNat 0).map int);rw[Q5]
   rfl
  ·rintro d hm Z ⟨x,rfl⟩
   obtain ⟨z,hz,rfl⟩:=Qt.mp hm;have ht:=zoP (each z hz).1 (each z hz).2
   have hset:(xs++[x]).set 15 (some (Sl.pub (.int z)))=xs++[some (.pub (.int z))]:=by
    rw[List.set_append_right _ _ (by omega),hxl];rfl
   have hget:(xs++[some (Sl.pub (.int z))])[15]?=some (some (Sl.pub (.int z))):=by
    rw[Qw (by omega),hxl];rfl
   refine ⟨_,tg_N (by rw[Ql,hxl];exact Qa rfl) hset,rfl,λ_=>?_,some (.pub (.int z)),?_⟩
   ·exact zap (zbN (zab zag (zab zag (zab zag (zab zag (zab zag (zab zag (zab zag (zab zag (zab zag (zab zag (zab zag zai))))))))))) (Qa rfl)) (zad hget) ht.1
   ·unfold zaP at hx ⊢
    rw[QF,hx];rfl
  ·exact ⟨none,rfl⟩
  ·rw[Qb,hrowl,QE];omega
 refine zaq (zbB (zbw (zaQ (zd3 (zad rfl) (zb9 zag) (zb9 (zap zag (za6 rfl zag x0) zaN)) (by rw[zcu,hcut])) zbm) (hc _ rfl rfl)) (Qa rfl) rfl) ?_
 refine zaq (zbB (zc5 zai (Qa rfl)) (Qa rfl) rfl) ?_;apply zaG;apply zby (invA (.list (ns.map int)) (.list (ds.map int)) (.list (sz6.map int)) at_ n cs)
 case h1=>exact zc6 (zab (zap zag (za6 rfl zag x1) zaN) zai) (zct (by omega) (by omega))
 case h0=>exact ⟨[],_,_,_,_,_,_,rfl,rfl,λ_ h=>by cases h⟩
 case hst=>exact λi d Z e h=>zkh hns hcl (by omega) (by omega) e h
 case hend=>
  rintro Z ⟨ls,y9,y10,y11,y12,y13,y14,rfl,hll,hg⟩;rw[za7] at hll;refine zat (zaD (zcd (zab (zbD rfl rfl) (zab (zbD rfl rfl) zai)) (Qa rfl)) ⟨_,rfl,cs,ls,rfl,?_⟩)
  exact ⟨by omega,by omega,λc hc=>by
   obtain ⟨z,hz,rfl⟩:=Qt.mp hc;exact (zoP (each z hz).1 (each z hz).2).2,by omega,by omega,λrs hrs=>by rw[hcl];exact hg rs hrs⟩
theorem zmD{x:D}{m:Nat}(h:m<=1000):oMul (.list [x]) (.int m)=some (.list (replicate m x)):=by
 rw[zdv ⟨by omega,by omega,by rw[Qz];show 1*m<=_;omega⟩,Qz]
 congr 2
 induction m with
 |zero=>rfl
 |succ m ih=>rw[Q2,QO,ih (by omega)];rfl
def zbg(t:Int)(rs:List (List Int)):Nat:=if rs.findIdx (λr=>r.contains t)<rs.length then rs.findIdx (λr=>r.contains t)+1 else 0
theorem zpQ(a b:Int):PyData.eqv (.int a) (.int b)=(a==b):=by simp[PyData.eqv]
theorem ziI(t:Int)(r:List Int):oIn (.int t) (zbH r)=some (r.contains t):=by
 have h1:PyData.canLayAll0 (r.map int)=true:=by
  induction r with
  |nil=>rfl
  |cons x r ih=>rw[QB];unfold PyData.canLayAll0;rw[ih];rfl
 unfold oIn zbH;dsimp only;rw[Qn ⟨rfl,h1,JG _⟩]
 congr 1
 rw[List.any_map];clear h1
 induction r with
 |nil=>rfl
 |cons x r ih=>
  rw[List.any_cons,ih,List.contains_cons]
  congr 1
  show PyData.eqv (.int x) (.int t)=(t==x);rw[zpQ];exact Bool.eq_iff_iff.2 ⟨λh=>beq_iff_eq.2 (beq_iff_eq.1 h).symm,λh=>beq_iff_eq.2 (beq_iff_eq.1 h).symm⟩
theorem zhF{t:Int}{rs:List (List Int)}{i:Nat}{r:List Int}(hr:rs[i]?=some r)(h:r.contains t=true)(hb:∀j r,j<i->rs[j]?=some r->r.contains t=false):zbg t rs=1+i:=by
 obtain ⟨hi,e⟩:=List.getElem?_eq_some_iff.1 hr;have hf:rs.findIdx (λr=>r.contains t)=i:=(List.findIdx_eq hi).2 ⟨by rw[e];exact h,λj hj=>hb j _ hj (Qf (Nat.lt_trans hj hi))⟩
 unfold zbg;rw[hf,Qn hi,Nat.add_comm]
theorem zhG{t:Int}{rs:List (List Int)}(hb:∀j r,j<rs.length->rs[j]?=some r->r.contains t=false):zbg t rs=0:=by
 have hf:rs.findIdx (λr=>r.contains t)=rs.length:=List.findIdx_eq_length.2 λr hr=>by
  obtain ⟨j,hj,e⟩:=List.mem_iff_getElem.1 hr;exact hb j r hj (by rw[Qf hj,e])
 unfold zbg;rw[hf,QA (Jv _)]
theorem zki(t:Int)(rs:List (List Int)):F_ah [zaC rs,.int t]=some (.int (zbg t rs:Nat)):=by
 refine za3 (Z:=[some (.pub (zaC rs)),some (.pub (.int t)),none,none]) rfl ?_;unfold g_ah;apply zaG;apply zby (λi Z=>(∃x2 x3,Z=[some (.pub (zaC rs)),some (.pub (.int t)),x2,x3])/\∀j r,j<i->rs[j]?=some r->r.contains t=false)
 case h1=>exact zi7 (zab (zad rfl) zai) zhm
 case h0=>exact ⟨⟨_,_,rfl⟩,λj r h=>absurd h (JX _)⟩
 case hst=>
  rintro i d Z hi ⟨⟨x2,x3,rfl⟩,hb⟩;obtain ⟨x,hx,rfl⟩:=zbO hi;rw[Qe] at hx
  cases hr:rs[i]? with
  |none=>rw[hr] at hx;cases hx
  |some r=>
   rw[hr] at hx;cases hx;refine ⟨_,tg_T rfl (tg_C (tg_N (Qa rfl) rfl) (tg_C (tg_N (Qa rfl) rfl) tg_0)),?_⟩;unfold zmo;apply za9
   case h1=>exact zbE rfl (zad rfl) (ziI t r)
   case h2=>
    intro hh;refine zaD (zad rfl) (zd2 ?_);rw[zhF hr hh hb];exact ⟨rfl⟩
   case h3=>
    intro hh;refine zbh (zaW ⟨⟨_,_,rfl⟩,λj r' hj hr'=>?_⟩);rcases Nat.lt_succ_iff_lt_or_eq.1 hj with h|rfl
    ·exact hb j r' h hr'
    ·rw[hr] at hr';cases hr';exact hh
 case hend=>
  rintro Z ⟨⟨x2,x3,rfl⟩,hb⟩;rw[zaF,Qb] at hb;refine zat ?_;rw[zhG hb];exact zaD zag rfl
def optD:Option Int->D
 |none=>.none
 |some t=>.int t
def zaU(ws:LO):D:=.list (ws.map optD)
structure Deal(cs:List Int)(ls:L3)(ws:LO):Prop where
 len:ws.length=ls.length
 wish:∀(i:Nat) t rs,ws[i]?=some (some t)->ls[i]?=some rs->t∈rs.flatten
 cop:∀(k:Nat) c,cs[k]?=some c->((ws.count (some (k:Int)):Nat):Int)<=c
theorem zf3{t:Int}{rs:List (List Int)}(h:t∈rs.flatten):zbg t rs≠0:=by
 obtain ⟨r,hr,ht⟩:=Uf.mp h
 have:rs.findIdx (λr=>r.contains t)<rs.length:=List.findIdx_lt_length_of_exists ⟨r,hr,by simpa using ht⟩
 unfold zbg;rw[Qn this];omega
theorem zjp(ws:LO):PyData.canLayAll0 (ws.map optD)=true:=zb1 λx hx=>by
 obtain ⟨y,_,rfl⟩:=Qt.mp hx
 cases y <;> rfl
theorem ziJ(a b:Option Int):PyData.eqv (optD a) (optD b)=decide (a=b):=by
 rw[Bool.eq_iff_iff]
 cases a <;> cases b <;> simp[optD,PyData.eqv]
theorem zf4{ws:LO}{k:Int}:zdl (zaU ws) (.int k)=some (.int (ws.count (some k):Nat)):=by
 unfold zaU zdl;dsimp only;rw[if_pos ⟨rfl,zjp ws,by simp[PyData.depth]⟩]
 congr 3
 induction ws with
 |nil=>rfl
 |cons w r ih=>
  rw[QB,List.countP_cons,JM,ih]
  congr 1
  have:=ziJ w (some k)
  have e:optD (some k)=.int k:=rfl;rw[e] at this;rw[this]
  cases w with
  |none=>simp
  |some z=>simp
theorem zhH{cs:List Int}{ls:L3}{rs:List (List Int)}{i:Nat}(hi:ls[i]?=some rs)(hl:rs.flatten.length<64):F_bp [zaw cs ls,.int i]=some (.list ((zcB rs.flatten).map int)):=by
 refine za3 (Z:=[some (.pub (zaw cs ls)),some (.pub (.int i))]) rfl ?_;unfold g_bp;have i1:oIx (zaw cs ls) (.int 1)=some (.list (ls.map zaC)):=za0 (j:=1) rfl;have i2:oIx (.list (ls.map zaC)) (.int i)=some (zaC rs):=za0 (by rw[Qe,hi];rfl)
 have hs:zj1 [zaC rs,.list []]=some (.list (rs.flatten.map int)):=by
  have e:zaC rs=.list ((rs.map λr=>r.map int).map PyData.list):=by unfold zaC;rw[Q5];rfl
  have e2:(rs.map λr=>r.map int).flatten=rs.flatten.map int:=by rw[List.map_flatten]
  rw[e];unfold zj1;dsimp only;rw[zj0];dsimp only;rw[e2,Qn (by rw[Qb];omega)]
 exact zaD (zaV (zab (zaV (zab (zap (za6 rfl zag i1) (zad rfl) i2) (zab (zbN zai (Qa rfl)) zai)) hs) zai) (zfZ hl)) rfl
theorem zoQ{os:LO}{k:Nat}(h:k<os.length):oIx (.list (os.map optD)) (.int k)=some (optD os[k]):=za0 (by rw[Qe,Qf h];rfl)
theorem zn7(ws:LO):(zaU ws).depth<=2:=zet (zb2 λx hx=>by
 obtain ⟨y,_,rfl⟩:=Qt.mp hx
 cases y <;> simp[optD,PyData.depth])
theorem zbv{s:D->DEnv->Option DEnv}{t:M Bool}{g:M D}(I:DEnv->Prop):∀(ds qs:List D)(Z:DEnv)(es:List D),qs.length=ds.length ->
  (∀(i:Nat) d e,ds[i]?=some d->qs[i]?=some e->∀Z,I Z->∃Z1,s d Z=some Z1/\t Z1=.ok true Z1/\g Z1=.ok e Z1/\I (zaP Z1))->I Z->es.length+ds.length<=1000000->zbG s t g ds Z es=some (es++qs)
 |[],[],Z,es,_,_,_,_=>by rw[zbG,Jb]
 |d::r,e::q,Z,es,hl,st,h0,hz=>by
  obtain ⟨Z1,e1,e2,e3,h1⟩:=st 0 d e rfl rfl Z h0;rw[QK] at hz;rw[zbG,e1];dsimp only;rw[e2];dsimp only;rw[Qn rfl,e3];dsimp only;rw[if_pos (by omega),zbv I r q (zaP Z1) (es++[e]) (by simpa using hl) (λi d' e' x y=>st (i+1) d' e' (by simpa using x) (by simpa using y)) h1 (by rw[List.length_append,List.length_singleton];omega),List.append_assoc]
  rfl
def lng(ls:L3):Nat:=(most (ls.map λrs=>(rs.length:Int))).toNat
def zee(cs:List Int)(ws:LO):List Int:=(List.range cs.length).map λk:Nat=>cs.getD k 0-((ws.count (some (k:Int)):Nat):Int)
theorem ziK{ls:L3}(h:1<=ls.length):most (ls.map λrs=>(rs.length:Int))=(lng ls:Nat):=by
 have hm:most (ls.map λrs=>(rs.length:Int))∈ls.map λrs=>(rs.length:Int):=zdX (by rw[Qb];omega)
 obtain ⟨rs,_,e⟩:=Qt.mp hm;unfold lng;omega
theorem zoR{ls:L3}{rs:List (List Int)}(h:rs∈ls):rs.length<=lng ls:=by
 have h1:((rs.length:Nat):Int)<=most (ls.map λrs=>(rs.length:Int)):=ziu (Qt.mpr ⟨rs,h,rfl⟩);have h2:=ziK (ls:=ls) (JV h);omega
theorem zmE{ls:L3}{n:Nat}(h1:1<=ls.length)(h:∀rs∈ls,rs.length<=n):lng ls<=n:=by
 have hm:most (ls.map λrs=>(rs.length:Int))∈ls.map λrs=>(rs.length:Int):=zdX (by rw[Qb];omega)
 obtain ⟨rs,hr,e⟩:=Qt.mp hm
 have:=h rs hr
 unfold lng;omega
theorem zfw(t:Int)(rs:List (List Int)):zbg t rs<=rs.length:=by
 unfold zbg
 split <;> omega
section
variable{cs:List Int}{ls:L3}{ws:LO}
theorem zfK:oIx (zaw cs ls) (.int 0)=some (.list (cs.map int)):=za0 (j:=0) rfl
theorem zeu:oIx (zaw cs ls) (.int 1)=some (.list (ls.map zaC)):=za0 (j:=1) rfl
theorem zrq{i:Nat}{rs:List (List Int)}(h:ls[i]?=some rs):oIx (.list (ls.map zaC)) (.int i)=some (zaC rs):=za0 (by rw[Qe,h];rfl)
theorem zhI(rs:List (List Int)):oLen [zaC rs]=some (.int rs.length):=by unfold zaC;rw[zaM,Qb]
theorem zkj(g:Good cs ls):F_ai [zaw cs ls]=some (.int (lng ls:Nat)):=by
 refine za3 (Z:=[some (.pub (zaw cs ls))]) rfl ?_;unfold g_ai;have hw:=zec g
 have hc:zbG (gN 1) (zah true) (zbQ 1) (ls.map zaC) (zaP [some (.pub (zaw cs ls))]++replicate 1 none) []=some ((ls.map λrs=>(rs.length:Int)).map int):=by
  refine zbv (λZ=>∃x,Z=[some (.pub (zaw cs ls)),x]) _ _ _ _ (by rw[Qb,Qb,Qb]) ?_ ⟨none,rfl⟩ (by rw[Qb,QE];have:=g.l7;omega)
  rintro i d e hd he Z ⟨x,rfl⟩;rw[Qe] at hd;rw[Qe,Qe] at he
  cases hl:ls[i]? with
  |none=>rw[hl] at hd;cases hd
  |some rs=>
  rw[hl] at hd he;cases hd;cases he;exact ⟨_,tg_N (Qa rfl) rfl,rfl,zbc rfl (zhI rs),_,rfl⟩
 refine zaq (zc7 (zav (zab (zad rfl) zai) rfl hw)) ?_;refine zaD (zaV (zab (zaK (zbw (zaQ (za6 rfl zag zeu) zbm) hc)) zai) (zgp (by rw[Qb];have:=g.l1;omega))) ?_
 rw[ziK g.l1]
theorem zfL(g:Good cs ls):F_ak [zaw cs ls,zaU ws]=some (.list ((zee cs ws).map int)):=by
 refine za3 (Z:=[some (.pub (zaw cs ls)),some (.pub (zaU ws))]) rfl ?_;unfold g_ak;have hw:=zec g
 have hc:zbG (gT 2 (gNC (gN 2) (gNC (gN 3) (gN0)))) (zah true) (dBin oSub (dVar 3) (zfV (dVar 1) (zae (dVar 2) (mNil)))) (zcO 0 (cs.map int)) (zaP [some (.pub (zaw cs ls)),some (.pub (zaU ws))]++replicate 2 none) []=some ((zee cs ws).map int):=by
  refine zbv (λZ=>∃x y,Z=[some (.pub (zaw cs ls)),some (.pub (zaU ws)),x,y]) _ _ _ _ (by unfold zee;rw[Qb,Qb,Qu,zaF,Qb]) ?_ ⟨none,none,rfl⟩ (by rw[zaF,Qb,QE];have:=g.c6;omega)
  rintro i d e hd he Z ⟨x,y,rfl⟩;obtain ⟨z,hz,rfl⟩:=zbO hd;rw[Qe] at hz
  cases hci:cs[i]? with
  |none=>rw[hci] at hz;cases hz
  |some c=>
  rw[hci] at hz;cases hz;have hil:i<cs.length:=(Qg.mp hci).1;unfold zee at he;rw[Qe,Qe,Qf (by rw[Qu];exact hil),List.getElem_range] at he
  cases he;rw[Q4];have e:cs.getD i 0=c:=by simp[List.getD,hci]
  dsimp only;rw[e];exact ⟨_,tg_T rfl (tg_C (tg_N (Qa rfl) rfl) (tg_C (tg_N (Qa rfl) rfl) tg_0)),rfl,zap (zad rfl) (zgr (zad rfl) (zab (zad rfl) zai) zf4) zbZ,_,_,rfl⟩
 refine zaq (zc7 (zav (zab (zad rfl) zai) rfl hw)) ?_;exact zaD (zaK (zbw (zck (zab (za6 rfl zag zfK) zai) zb4) hc)) rfl
end
theorem zmF{d:D}(h1:d.canLay0=true)(h2:d.depth<=60):oNe d d=some false:=by
 unfold oNe;rw[Qn ⟨h1,h1,h2⟩,zgI _ h1];rfl
theorem zmG{a b:Option Int}:oEq (optD a) (optD b)=some (decide (a=b)):=by
 unfold oEq;rw[if_pos ⟨by cases a <;> rfl,by cases b <;> rfl,by cases a <;> simp[optD,PyData.depth]⟩,ziJ]
theorem zrr{a b:Option Int}:oNe (optD a) (optD b)=some (!decide (a=b)):=by
 unfold oNe;rw[if_pos ⟨by cases a <;> rfl,by cases b <;> rfl,by cases a <;> simp[optD,PyData.depth]⟩,ziJ]
section
variable{cs:List Int}{ls:L3}{ws:LO}{a:Nat}{o had:Option Int}{rs:List (List Int)}{t:Int}
end
theorem zrs{xs:List D}{a:Nat}(h:a<=xs.length):DL.cutD xs none (some (a:Int))=xs.take a:=by
 unfold DL.cutD HT.sIx;dsimp only;rw[QA (by omega),Qz]
 have:min a xs.length=a:=by omega
 rw[this];simp
theorem zn8{xs:List D}{a:Nat}(h:a<=xs.length):DL.cutD xs (some (a:Int)) none=xs.drop a:=by
 unfold DL.cutD HT.sIx;dsimp only;rw[QA (by omega),Qz]
 have:min a xs.length=a:=by omega
 rw[this,List.take_of_length_le (by rw[Ji];omega)]
theorem zf5{s:D->DEnv->Option DEnv}{t:M Bool}{g:M D}(I:DEnv->Prop):∀(ds qs:List D)(Z:DEnv)(es:List D),qs.length=ds.length ->
  (∀(i:Nat) d e,ds[i]?=some d->qs[i]?=some e->∀Z,I Z->∃Z1,s d Z=some Z1/\t Z1=.ok true Z1/\g Z1=.ok e Z1/\I (zaP Z1))->I Z->es.length+ds.length<=1000000->∃Z',zco s t g ds Z es=some (es++qs,Z')/\I Z'
 |[],[],Z,es,_,_,h0,_=>⟨Z,by rw[zco,Jb],h0⟩
 |d::r,e::q,Z,es,hl,st,h0,hz=>by
  obtain ⟨Z1,e1,e2,e3,h1⟩:=st 0 d e rfl rfl Z h0;rw[QK] at hz;obtain ⟨Z',e',h'⟩:=zf5 I r q (zaP Z1) (es++[e]) (by simpa using hl) (λi d' e' x y=>st (i+1) d' e' (by simpa using x) (by simpa using y)) h1 (by rw[List.length_append,List.length_singleton];omega)
  refine ⟨Z',?_,h'⟩;rw[zco,e1];dsimp only;rw[e2];dsimp only;rw[Qn rfl,e3];dsimp only;rw[Qn (by omega),e',Q8]
  rfl
theorem zev{s:D->DEnv->Option DEnv}{t:M Bool}{f:M (List D)}{Rd:List D->DEnv->List D->Option (List D×DEnv)}(I:DEnv->Prop):∀(ds:List D)(qs:List (List D))(Z:DEnv)(es:List D),qs.length=ds.length ->
  (∀(i:Nat) d q,ds[i]?=some d->qs[i]?=some q->∀Z es,I Z->es.length+q.length<=1000000->∃Z1 xs Z2 Z3,s d Z=some Z1/\t Z1=.ok true Z1/\f Z1=.ok xs Z2/\Rd xs (zaP Z2) es=some (es++q,Z3)/\I Z3)->I Z->es.length+qs.flatten.length<=1000000->∃Z',zcH s t f Rd ds Z es=some (es++qs.flatten,Z')/\I Z'
 |[],[],Z,es,_,_,h0,_=>⟨Z,by rw[zcH,List.flatten_nil,Jb],h0⟩
 |d::r,q::qr,Z,es,hl,st,h0,hz=>by
  rw[QO,Ql] at hz;obtain ⟨Z1,xs,Z2,Z3,e1,e2,e3,e4,h1⟩:=st 0 d q rfl rfl Z es h0 (by omega)
  obtain ⟨Z',e',h'⟩:=zev I r qr Z3 (es++q) (by simpa using hl) (λi d' e' x y=>st (i+1) d' e' (by simpa using x) (by simpa using y)) h1 (by rw[List.length_append];omega)
  refine ⟨Z',?_,h'⟩;rw[zcH,e1];dsimp only;rw[e2];dsimp only;rw[Qn rfl,e3];dsimp only;rw[e4];dsimp only;rw[e',QO,Q8]
def zfM(i:Nat)(rs:List (List Int)):LP:=rs.flatten.map λt=>((i:Int),t)
def rawW(k:Nat):L3->LP
 |[]=>[]
 |rs::ls=>zfM k rs++rawW (k+1) ls
def allW(k:Nat):L3->LP
 |[]=>[]
 |rs::ls=>(zcB rs.flatten).map (λt=>((k:Int),t))++allW (k+1) ls
theorem zcC:∀(ls:L3)(k:Nat),(allW k ls).Perm (rawW k ls)
 |[],_=>.nil
 |rs::ls,k=>((zbI rs.flatten).map _).append (zcC ls (k+1))
theorem zgL:∀(ls:L3)(k:Nat),∀q∈allW k ls,(k:Int)<=q.1
 |[],_,q,h=>by cases h
 |rs::ls,k,q,h=>by
  rcases QS.mp h with h|h
  ·obtain ⟨t,_,rfl⟩:=Qt.mp h;exact QT _
  ·have:=zgL ls (k+1) q h;omega
theorem zcw:∀{ls:L3}{k:Nat}{q:Int×Int},q∈allW k ls->∃i rs,ls[i]?=some rs/\q.1=((k+i:Nat):Int)/\q.2∈rs.flatten
 |[],_,q,h=>by cases h
 |rs::ls,k,q,h=>by
  rcases QS.mp h with h|h
  ·obtain ⟨t,ht,rfl⟩:=Qt.mp h
   exact ⟨0,rs,rfl,rfl,(zbI _).mem_iff.mp ht⟩
  ·obtain ⟨i,rs',h1,h2,h3⟩:=zcw h
   exact ⟨i+1,rs',by simpa using h1,by rw[h2];congr 1;omega,h3⟩
theorem zjq:∀{ls:L3}{k i:Nat}{rs:List (List Int)}{t:Int},ls[i]?=some rs->t∈rs.flatten->(((k+i:Nat):Int),t)∈allW k ls
 |rs::ls,k,0,rs',t,h,ht=>by
  cases h;exact Q7 _ (Qt.mpr ⟨t,(zbI _).mem_iff.mpr ht,rfl⟩)
 |rs::ls,k,i+1,rs',t,h,ht=>by
  have:=zjq (ls:=ls) (k:=k+1) (i:=i) (by simpa using h) ht
  rw[show k+1+i=k+(i+1) by omega] at this
  exact QJ _ this
theorem zjr{n:Nat}(hn:n<=6):∀(ls:L3)(k:Nat),(∀rs∈ls,∀t∈rs.flatten,0<=t/\t<n)->(allW k ls).Pairwise λx y=>keyP x<=keyP y
 |[],_,_=>.nil
 |rs::ls,k,h=>by
  refine List.pairwise_append.mpr ⟨?_,zjr hn ls (k+1) λrs' hr=>h rs' (Qk _ hr),λx hx y hy=>?_⟩
  ·rw[List.pairwise_map]
   refine (zhg rs.flatten).imp λ{a b} hab=>?_
   unfold keyP;dsimp only;omega
  ·obtain ⟨t,ht,rfl⟩:=Qt.mp hx
   have h1:=zgL ls (k+1) y hy;have h2:=h rs Qm t ((zbI _).mem_iff.mp ht);obtain ⟨i,rs',g1,g2,g3⟩:=zcw hy;have h3:=h rs' (Qk _ (Qp g1)) y.2 g3;unfold keyP;dsimp only;omega
theorem zcq.flat{n:Nat}{rs:List (List Int)}(g:zcq n rs):∀t∈rs.flatten,0<=t/\t<n:=λt ht=>by
 obtain ⟨r,h1,h2⟩:=Uf.mp ht;exact g.there r h1 t h2
section
variable{cs:List Int}{ls:L3}
theorem zgM(n:Nat):∀(ls:L3)(k:Nat),(∀rs∈ls,rs.flatten.length<=n)->(rawW k ls).length<=ls.length*n
 |[],_,_=>by simp[rawW]
 |rs::ls,k,h=>by
  have h1:=zgM n ls (k+1) λr hr=>h r (Qk _ hr);have h2:=h rs Qm;show (zfM k rs++rawW (k+1) ls).length<=_;rw[Ql,QK,Nat.succ_mul];unfold zfM;rw[Qb];omega
theorem zkk(g:Good cs ls):zgB (rawW 0 ls)=allW 0 ls:=by
 have hf:∀rs∈ls,∀t∈rs.flatten,0<=t/\t<cs.length:=λrs hr=>(g.rk rs hr).flat
 have ok:∀q∈allW 0 ls,okP q:=λq hq=>by
  obtain ⟨i,rs,h1,h2,h3⟩:=zcw hq
  have:=hf rs (Qp h1) q.2 h3
  have:=g.c6
  exact ⟨by omega,by omega⟩
 exact (zgC ok ((zcC ls 0).trans (zfY _).symm) (zjr g.c6 ls 0 hf) (zht _)).symm
theorem zrt(g:Good cs ls):∀q∈rawW 0 ls,okP q:=λq hq=>by
 obtain ⟨i,rs,h1,h2,h3⟩:=zcw ((zcC ls 0).mem_iff.mpr hq)
 have:=(g.rk rs (Qp h1)).flat q.2 h3
 have:=g.c6
 exact ⟨by omega,by omega⟩
theorem zfx(g:Good cs ls):(rawW 0 ls).length<=42:=by
 have h:=zgM 6 ls 0 λrs hr=>QH (zeU (g.rk rs hr)) g.c6
 have:=g.l7
 omega
theorem ziL:∀(ls:L3)(k:Nat),((ls.zipIdx k).map λp=>(zfM p.2 p.1).map duoD).flatten=(rawW k ls).map duoD
 |[],_=>rfl
 |rs::ls,k=>by
  rw[List.zipIdx_cons,QB,QO,ziL ls (k+1)];show _=(zfM k rs++rawW (k+1) ls).map duoD;rw[QF]
theorem zgN(g:Good cs ls):F_aj [zaw cs ls]=some (.list ((allW 0 ls).map duoD)):=by
 refine za3 (Z:=[some (.pub (zaw cs ls))]) rfl ?_;unfold g_aj;refine zaq (zc7 (zav (zab (zad rfl) zai) rfl (zec g))) ?_
 have hc:∃Z',zcH (gT 2 (gNC (gN 1) (gNC (gN 2) (gN0)))) (zah true) (zaY (dVar 2)) (zcH (gN 3) (zah true) (zaY (dVar 3)) (zco (gN 4) (zah true) (mTup (zae (dVar 1) (zae (dVar 4) (mNil)))))) (zcO 0 (ls.map zaC)) (zaP [some (.pub (zaw cs ls))]++replicate 4 none) []=some ((rawW 0 ls).map duoD,Z'):=by
  have key:=zev (s:=gT 2 (gNC (gN 1) (gNC (gN 2) (gN0)))) (t:=zah true) (f:=zaY (dVar 2)) (Rd:=zcH (gN 3) (zah true) (zaY (dVar 3)) (zco (gN 4) (zah true) (mTup (zae (dVar 1) (zae (dVar 4) (mNil))))))
   (λZ=>∃x1 x2 x3 x4,Z=[some (.pub (zaw cs ls)),x1,x2,x3,x4]) (zcO 0 (ls.map zaC)) ((ls.zipIdx 0).map λp=>(zfM p.2 p.1).map duoD) (zaP [some (.pub (zaw cs ls))]++replicate 4 none) [] (by rw[Qb,List.length_zipIdx,zaF,Qb]) ?_ ⟨none,none,none,none,rfl⟩ (by
    rw[ziL,Qb,QE];have:=zfx g;omega)
  ·obtain ⟨Z',e,_⟩:=key
   rw[ziL,Jp] at e;exact ⟨Z',e⟩
  rintro i d q hd hq Z es ⟨x1,x2,x3,x4,rfl⟩ hlen;obtain ⟨z,hz,rfl⟩:=zbO hd;rw[Qe] at hz;rw[Qe,List.getElem?_zipIdx] at hq
  cases hls:ls[i]? with
  |none=>rw[hls] at hz;cases hz
  |some rs=>
  rw[hls] at hz hq;cases hz;cases hq;rw[Q4] at *;dsimp only at hlen ⊢
  have inner:=zev (s:=gN 3) (t:=zah true) (f:=zaY (dVar 3)) (Rd:=zco (gN 4) (zah true) (mTup (zae (dVar 1) (zae (dVar 4) (mNil)))))
   (λZ=>∃x3 x4,Z=[some (.pub (zaw cs ls)),some (.pub (.int i)),some (.pub (zaC rs)),x3,x4]) (rs.map zbH) (rs.map λr=>r.map λt=>duoD ((i:Int),t)) (zaP [some (.pub (zaw cs ls)),some (.pub (.int i)),some (.pub (zaC rs)),x3,x4]) es (by rw[Qb,Qb]) ?_ ⟨zff x3,zff x4,rfl⟩ ?_
  ·obtain ⟨Z3,e3,y3,y4,h3⟩:=inner
   have ef:(rs.map λr=>r.map λt=>duoD ((i:Int),t)).flatten=(zfM i rs).map duoD:=by
    unfold zfM;rw[Q5,List.map_flatten];rfl
   rw[ef] at e3;exact ⟨_,_,_,Z3,tg_T rfl (tg_C (tg_N (Qa rfl) rfl) (tg_C (tg_N (Qa rfl) rfl) tg_0)),rfl,zaQ (zad rfl) rfl,e3,_,_,_,_,h3⟩
  ·rintro j d q hd hq Z es' ⟨y3,y4,rfl⟩ hlen'
   rw[Qe] at hd hq
   cases hr:rs[j]? with
   |none=>rw[hr] at hd;cases hd
   |some r=>
   rw[hr] at hd hq;cases hd;cases hq
   obtain ⟨Z3,e3,z4,h3⟩:=zf5 (s:=gN 4) (t:=zah true) (g:=mTup (zae (dVar 1) (zae (dVar 4) (mNil)))) (λZ=>∃x4,Z=[some (.pub (zaw cs ls)),some (.pub (.int i)),some (.pub (zaC rs)),some (.pub (zbH r)),x4]) (r.map int) (r.map λt=>duoD ((i:Int),t)) (zaP [some (.pub (zaw cs ls)),some (.pub (.int i)),some (.pub (zaC rs)),some (.pub (zbH r)),y4]) es' (by rw[Qb,Qb]) (by
    rintro m d e hd he Z ⟨x4,rfl⟩;rw[Qe] at hd he
    cases hm:r[m]? with
    |none=>rw[hm] at hd;cases hd
    |some t=>
    rw[hm] at hd he;cases hd;cases he;exact ⟨_,tg_N (Qa rfl) rfl,rfl,zcd (zab (zad rfl) (zab (zad rfl) zai)) (Qa rfl),_,rfl⟩) ⟨zff y4,rfl⟩ (by rw[Qb] at hlen' ⊢;exact hlen')
   exact ⟨_,_,_,Z3,tg_N (Qa rfl) rfl,rfl,zaQ (zad rfl) rfl,e3,_,_,h3⟩
  ·have ef:(rs.map λr=>r.map λt=>duoD ((i:Int),t)).flatten=(zfM i rs).map duoD:=by
    unfold zfM;rw[Q5,List.map_flatten];rfl
   rw[ef];exact hlen
 obtain ⟨Z',hc⟩:=hc;have hs:=zlN (qs:=rawW 0 ls) (by have:=zfx g;omega) (zrt g)
 rw[zkk g] at hs;exact zaD (zaV (zab (zaK (znC (zck (zab (za6 rfl zag zeu) zai) zb4) hc)) zai) hs) rfl
end
inductive Ord where|firsts|full|lasts
def Ord.tx:Ord->Str
 |.firsts=> "firsts" | .full=> "full" | .lasts=> "lasts"
def Ord.isF:Ord->Bool
 |.firsts=>true|_=>false
def Ord.isU:Ord->Bool
 |.full=>true|_=>false
theorem zru(o:Ord):oEq (.str o.tx) (.str "firsts")=some o.isF:=by cases o <;> decide +kernel
theorem zoS(o:Ord):oEq (.str o.tx) (.str "full")=some o.isU:=by cases o <;> decide +kernel
theorem zgO(o:Ord):F_al [.str o.tx]=some (.bool true):=by
 refine za3 (Z:=[some (.pub (.str o.tx))]) rfl ?_;unfold g_al
 have h:oIn (.str o.tx) (.tuple ((["firsts", "full", "lasts"]:List Str).map PyData.str))=some true:=by cases o <;> decide +kernel
 exact zaD (zgs (zaK (k:=λd=>PyData.bool (isTy d "str")) (zad rfl)) (λ_=>zaK (zbE rfl zag h))) rfl
theorem zmH(o:Ord):F_am [.str o.tx]=some .none:=by
 refine zhl (Z:=[some (.pub (.str o.tx))]) rfl ?_;unfold g_am;apply za9
 case h1=>exact zbY (zbj (zav (zab (zad rfl) zai) rfl (zgO o)))
 case h2=>intro h;cases h
 case h3=>exact λ_=>zbh ⟨_,rfl⟩
def oldD:Option LO->D
 |none=>.none
 |some ws=>zaU ws
def aimD(o:Ord)(old:Option LO)(ts:List Int):D:=.tuple [.str o.tx,oldD old,.list (ts.map int)]
structure zbK(n m:Nat)(old:Option LO)(ts:List Int):Prop where
 len:∀ws,old=some ws->ws.length=m
 old:∀ws t,old=some ws->some t∈ws->0<=t/\t<n
 once:ts.Nodup
 there:∀a∈ts,0<=a/\a<m
theorem zbK.few{n m:Nat}{old:Option LO}{ts:List Int}(g:zbK n m old ts):ts.length<=m:=zdy m ts g.once g.there
theorem zmI{n m:Nat}{old:Option LO}(h1:∀ws,old=some ws->ws.length=m)(h2:∀ws t,old=some ws->some t∈ws->0<=t/\t<n)(hm:m<=1000):F_an [oldD old,.int m,.int n]=some (.bool true):=by
 refine za3 (Z:=[some (.pub (oldD old)),some (.pub (.int m)),some (.pub (.int n))]) rfl ?_;unfold g_an;apply zaG
 cases old with
 |none=>
  apply za9
  case h1=>exact zaK (zad rfl)
  case h2=>exact λ_=>zaD zag (zc8 rfl)
  case h3=>intro hh;cases hh
 |some ws=>
  have hl:=h1 ws rfl;have hlen:oLen [zaU ws]=some (.int m):=by unfold zaU;rw[zaM,Qb,hl]
  apply za9
  case h1=>exact zaK (zad rfl)
  case h2=>intro hh;cases hh
  case h3=>
   intro _;refine zbh (zat ?_);apply zaG;apply za9
   case h1=>exact zcp (Z1:=[some (.pub (zaU ws)),some (.pub (.int m)),some (.pub (.int n))]) (zcJ (zad rfl) rfl) (zap (zbc rfl hlen) (zad rfl) zc9)
   case h2=>intro hh;simp at hh
   case h3=>
    intro _;refine zbh (zat ?_)
    have hc:zbG (gN 3) (zah true) (mOrV (mMap (λd=>.bool (isNon d)) (dVar 3)) (dFun 2 F_ab (zae (dVar 3) (zae (dVar 2) (mNil))))) (ws.map optD) (zaP [some (.pub (zaU ws)),some (.pub (.int m)),some (.pub (.int n))]++replicate 1 none) []=some (ws.map λ_=>.bool true):=by
     refine zbv (λZ=>∃x,Z=[some (.pub (zaU ws)),some (.pub (.int m)),some (.pub (.int n)),x]) _ _ _ _ (by simp only[Qb]) ?_ ⟨none,rfl⟩ (by rw[Qb,QE];omega)
     rintro i d e hd he Z ⟨x,rfl⟩;rw[Qe] at hd he
     cases hw:ws[i]? with
     |none=>rw[hw] at hd;cases hd
     |some o=>
     rw[hw] at hd he;cases hd;cases he;refine ⟨_,tg_N (Qa rfl) rfl,rfl,?_,_,rfl⟩
     cases o with
     |none=>exact zoJ (t:=true) (u:=true) (zaK (k:=λd=>PyData.bool (isNon d)) (x:=.none) (zad rfl)) (λh=>nomatch h)
     |some t=>
      have hb:=h2 ws t rfl (Qp hw);exact zoJ (t:=false) (u:=true) (zaK (k:=λd=>PyData.bool (isNon d)) (x:=.int t) (zad rfl)) (λ_=>zav (zab (zad rfl) (zab (zad rfl) zai)) rfl (zea hb.1 hb.2))
    exact zaD (zaV (zab (zaK (zbw (zaQ (zad rfl) rfl) hc)) zai) (zeb ws)) rfl
theorem ziM{m:Nat}{ts:List Int}(h1:ts.Nodup)(h2:∀a∈ts,0<=a/\a<m)(hm:m<=1000):F_ao [.list (ts.map int),.int m]=some (.bool true):=by
 refine za3 (Z:=[some (.pub (.list (ts.map int))),some (.pub (.int m))]) rfl ?_;unfold g_ao;have hl:=zdy m ts h1 h2;apply zaG
 have hc:zbG (gN 2) (zah true) (dFun 2 F_ab (zae (dVar 2) (zae (dVar 1) (mNil)))) (ts.map int) (zaP [some (.pub (.list (ts.map int))),some (.pub (.int m))]++replicate 1 none) []=some (ts.map λ_=>.bool true):=by
  refine zbv (λZ=>∃x,Z=[some (.pub (.list (ts.map int))),some (.pub (.int m)),x]) _ _ _ _ (by simp only[Qb]) ?_ ⟨none,rfl⟩ (by rw[Qb,QE];omega)
  rintro i d e hd he Z ⟨x,rfl⟩;rw[Qe] at hd he
  cases hw:ts[i]? with
  |none=>rw[hw] at hd;cases hd
  |some t=>
  rw[hw] at hd he;cases hd;cases he;have hb:=h2 t (Qp hw);exact ⟨_,tg_N (Qa rfl) rfl,rfl,zav (zab (zad rfl) (zab (zad rfl) zai)) rfl (zea hb.1 hb.2),_,rfl⟩
 apply za9
 case h1=>exact zcp (Z1:=[some (.pub (.list (ts.map int))),some (.pub (.int m))]) (zcJ (zad rfl) rfl) (zbY (zbj (zaV (zab (zaK (zbw (zaQ (zad rfl) zbm) hc)) zai) (zeb ts))))
 case h2=>intro hh;cases hh
 case h3=>
  intro _;refine zbh (zat ?_)
  have hs:zc4 [.list (ts.map int)]=some (.int ts.length):=by
   unfold zc4;dsimp only;rw[zcj];dsimp only;rw[Qn (by omega),zf2 h1]
  have hlen:oLen [.list (ts.map int)]=some (.int ts.length):=by rw[zaM,Qb]
  refine zaD (zaK (zap (zaV (zab (zad rfl) zai) hs) (zbc rfl hlen) zcl)) ?_;simp
section
variable{cs:List Int}{ls:L3}{o:Ord}{old:Option LO}{ts:List Int}
theorem zrv(g:Good cs ls)(ga:zbK cs.length ls.length old ts):F_ap [zaw cs ls,aimD o old ts]=some .none:=by
 refine zhl (Z:=[some (.pub (zaw cs ls)),some (.pub (aimD o old ts)),none,none,none,none,none]) rfl ?_;unfold g_ap;have l7:=g.l7;have c6:=g.c6;have hll:oLen [.list (ls.map zaC)]=some (.int ls.length):=by rw[zaM,Qb]
 have hlc:oLen [.list (cs.map int)]=some (.int cs.length):=by rw[zaM,Qb]
 refine zaq (zc7 (zav (zab (zad rfl) zai) rfl (zec g))) ?_;apply zaG;apply za9
 case h1=>exact zcp (Z1:=[some (.pub (zaw cs ls)),some (.pub (aimD o old ts)),none,none,none,none,none]) (zcJ (zad rfl) rfl) (zap (zbc rfl (show oLen [aimD o old ts]=some (.int 3) from rfl)) zag zc9)
 case h2=>intro hh;simp at hh
 case h3=>
  intro _;refine zbh (zat ?_);refine zaq (zeH (zad rfl) (tg_T rfl (tg_C (tg_N (Qa rfl) rfl) (tg_C (tg_N (Qa rfl) rfl) tg_0)))) ?_;refine zaq (zeH (zad rfl) (tg_T rfl (tg_C (tg_N (Qa rfl) rfl) (tg_C (tg_N (Qa rfl) rfl) (tg_C (tg_N (Qa rfl) rfl) tg_0))))) ?_;refine zaq (zc7 (zav (zab (zad rfl) zai) rfl (zmH o))) ?_;apply zaG;apply za9
  case h1=>exact zbY (zbj (zav (zab (zad rfl) (zab (zbc rfl hll) (zab (zbc rfl hlc) zai))) rfl (zmI ga.len ga.old (by omega))))
  case h2=>intro hh;cases hh
  case h3=>
   intro _;refine zbh (zat ?_);apply za9
   case h1=>exact zbY (zbj (zav (zab (zad rfl) (zab (zbc rfl hll) zai)) rfl (ziM ga.once ga.there (by omega))))
   case h2=>intro hh;cases hh
   case h3=>exact λ_=>zbh ⟨_,rfl⟩
end
theorem zgP{t:Int}{r:List Int}:oIn (.int t) (.list (r.map int))=some (r.contains t):=ziI t r
theorem zf6{c s w sz dg x6:Option Sl}{m:Nat}{T:List Int}(hm:0<m):∀(k fuel d:Nat),(∀j,j<k->(((d+j) % m:Nat):Int)∈T)->(((d+k) % m:Nat):Int)∉T->d<m->k<fuel ->
  zcK (zj9 oIn (dVar 8) 7) zgG fuel [w,c,s,some (.pub (.int m)),sz,dg,x6,some (.own (T.map int)),some (.pub (.int d))]=.nx [w,c,s,some (.pub (.int m)),sz,dg,x6,some (.own (T.map int)),some (.pub (.int (((d+k) % m:Nat):Int)))]
 |0,fuel+1,d,_,hn,hd,_=>by
  have e0:(d+0) % m=d:=by rw[Ue];exact Nat.mod_eq_of_lt hd
  rw[e0] at hn ⊢;have e:(T.contains (d:Int))=false:=by simpa using hn
  rw[zcK,zjk (r:=false) (zad rfl) rfl (by rw[zgP,e])]
  rfl
 |k+1,fuel+1,d,hj,hn,hd,hf=>by
  have h0:=hj 0 (by omega)
  rw[Ue,Nat.mod_eq_of_lt hd] at h0;have e:(T.contains (d:Int))=true:=by simpa using h0
  rw[zcK,zjk (r:=true) (zad rfl) rfl (by rw[zgP,e])]
  dsimp only;rw[Qn rfl]
  have hst:zgG [w,c,s,some (.pub (.int m)),sz,dg,x6,some (.own (T.map int)),some (.pub (.int d))]=.nx [w,c,s,some (.pub (.int m)),sz,dg,x6,some (.own (T.map int)),some (.pub (.int (((d+1) % m:Nat):Int)))]:=by
   unfold zgG;refine zaS (zap (zap (zad rfl) zag zaN) (zad rfl) (zlz (by omega))) (Qa rfl) ?_
   have e1:((d+1:Nat):Int)=(d:Int)+1:=by omega
   have:((d:Int)+1) % (m:Int)=(((d+1) % m:Nat):Int):=by rw[Int.natCast_emod,e1]
   rw[this];rfl
  rw[hst];dsimp only;have e2:∀j,((d+1) % m+j) % m=(d+(j+1)) % m:=λj=>by rw[Nat.mod_add_mod];congr 1;omega
  have:=zf6 (c:=c) (s:=s) (w:=w) (sz:=sz) (dg:=dg) (x6:=x6) (T:=T) hm k fuel ((d+1) % m) (λj hjk=>by rw[e2];exact hj (j+1) (by omega)) (by rw[e2];exact hn) (Nat.mod_lt _ hm) (by omega)
  rw[e2] at this;exact this
theorem zhJ:∀(a b:List Int),a.Nodup->(∀x∈a,x∈b)->a.length<=b.length
 |[],_,_,_=>JG _
 |x::a,b,hn,h=>by
  have hx:=h x Qm;have hn':=List.nodup_cons.mp hn
  have:=zhJ a (b.erase x) hn'.2 λy hy=>by
   have hne:y≠x:=λe=>hn'.1 (e ▸ hy);exact (List.mem_erase_of_ne hne).mpr (h y (Qk _ hy))
  rw[List.length_erase_of_mem hx] at this;have hp:=JV hx;rw[QK];omega
theorem zkl{m:Nat}{T:List Int}(d:Nat)(hl:T.length<m)(hn:T.Nodup):∃k,k<m/\(∀j,j<k->(((d+j) % m:Nat):Int)∈T)/\(((d+k) % m:Nat):Int)∉T:=by
 have ex:∃k,k<m/\(((d+k) % m:Nat):Int)∉T:=by
  refine Classical.byContradiction λhno=>?_;have all:∀k,k<m->(((d+k) % m:Nat):Int)∈T:=λk hk=>Classical.byContradiction λz=>hno ⟨k,hk,z⟩
  have hsub:∀x:Nat,x<m->((x:Nat):Int)∈T:=λx hx=>by
   have h1:=all ((x+m-d % m) % m) (Nat.mod_lt _ (by omega))
   have e:(d+(x+m-d % m) % m) % m=x:=by
    have hdm:d % m<m:=Nat.mod_lt _ (by omega)
    rw[Nat.add_mod_mod,←Nat.mod_add_mod];rw[show d % m+(x+m-d % m)=x+m by omega,Nat.add_mod_right,Nat.mod_eq_of_lt hx]
   rw[e] at h1;exact h1
  have:=zhJ ((List.range m).map λx:Nat=>(x:Int)) T (List.Pairwise.map _ (λa b h e=>h (by omega)) List.nodup_range) (λt ht=>by
   obtain ⟨x,hx,rfl⟩:=Qt.mp ht;exact hsub x (Q6.mp hx))
  rw[Qb,Qu] at this;omega
 obtain ⟨k,hk,hkn⟩:=ex
 induction k using Nat.strongRecOn with
 |_ k ih=>
  by_cases h:∀j,j<k->(((d+j) % m:Nat):Int)∈T
  ·exact ⟨k,hk,h,hkn⟩
  ·obtain ⟨j,hj⟩:=Classical.not_forall.mp h
   obtain ⟨hj1,hj2⟩:=Classical.not_imp.mp hj;exact ih j hj1 (by omega) hj2
theorem zoT{x:D}{m:Nat}(h:m<=1000):oMul (.list [x]) (.int m)=some (.list (replicate m x)):=by
 rw[zdv ⟨by omega,by omega,by show 1*_<=_;omega⟩]
 congr 2
 rw[Qz];clear h
 induction m with
 |zero=>rfl
 |succ n ih=>rw[Q2,QO,ih,Q2];rfl
def szA(n m:Nat):List Int:=[3,2,(m:Int)+1]++replicate m ((n:Int)+1)++replicate m (m:Int)
theorem zmJ(n m:Nat):(szA n m).length=3+m+m:=by unfold szA;rw[Ql,Ql,QI,QI];rfl
theorem zpR{n m j:Nat}(h:j<m):(szA n m)[3+j]?=some ((n:Int)+1):=by
 unfold szA;rw[Qv (by rw[Ql,QI];show 3+j<3+m;omega),Qw (by show 3<=3+j;omega)]
 show (replicate m ((n:Int)+1))[3+j-3]?=_;rw[Nat.add_sub_cancel_left,Qy,Qn h]
theorem zn9{n m j:Nat}(h:j<m):(szA n m)[3+m+j]?=some (m:Int):=by
 unfold szA;have e:([3,2,(m:Int)+1]++replicate m ((n:Int)+1)).length=3+m:=by rw[Ql,QI];rfl
 rw[Qw (by rw[e];omega),e,Nat.add_sub_cancel_left,Qy,Qn h]
section
variable{cs:List Int}{ls:L3}
def zmK(d:Int):Option Int:=if 0<d then some (d-1) else none
theorem zoa(d:Int):oIx (.list [.none,.int (d-1)]) (.int (if decide (0<d)=true then 1 else 0))=some (optD (zmK d)):=by
 unfold zmK
 by_cases h:0<d
 ·rw[Q9 h,Qn rfl,Qn h];exact za0 (j:=1) rfl
 ·rw[QQ h,QA (by decide),QA h];exact za0 (j:=0) rfl
theorem zob(g:Good cs ls)(c s:Int):∃r,F_bq [zaw cs ls,.int c,.int s]=some r/\∃o old ts,r=aimD o old ts/\zbK cs.length ls.length old ts:=by
 refine zeI (Z:=[some (.pub (zaw cs ls)),some (.pub (.int c)),some (.pub (.int s)),none,none,none,none,none,none]) rfl ?_;unfold g_bq;have l7:=g.l7;have l1:=g.l1;have c6:=g.c6;have c1:=g.c1;have hll:oLen [.list (ls.map zaC)]=some (.int ls.length):=by rw[zaM,Qb]
 have hlc:oLen [.list (cs.map int)]=some (.int cs.length):=by rw[zaM,Qb]
 generalize hm:ls.length=m at *;generalize hn:cs.length=n at *;refine zaq (zaS (zaV (zab (za6 rfl zag zeu) zai) hll) (Qa rfl) rfl) ?_
 have s1:oAdd (.list [.int 3,.int 2,.int ((m:Int)+1)]) (.list (replicate m (.int ((n:Int)+1))))=some (.list (([3,2,(m:Int)+1]++replicate m ((n:Int)+1)).map int)):=by
  rw[zb3 (by rw[QI];show 3+m<=_;omega),QF,List.map_replicate];rfl
 refine zaq (zaS (zap (zbN (zab zag (zab zag (zab (zap (zad rfl) zag zaN) zai))) (Qa rfl)) (zap (zbN (zab (zap (zaV (zab (za6 rfl zag zfK) zai) hlc) zag zaN) zai) (Qa rfl)) (zad rfl) (zoT (by omega))) s1) (Qa rfl) rfl) ?_
 have s2:oAdd (.list (([3,2,(m:Int)+1]++replicate m ((n:Int)+1)).map int)) (.list (replicate m (.int (m:Int))))=some (.list ((szA n m).map int)):=by
  rw[zb3 (by rw[Qb,Ql,QI,QI];show 3+m+m<=_;omega)]
  unfold szA;rw[QF (l₂:=replicate m (m:Int)),List.map_replicate (n:=m) (a:=(m:Int))]
 obtain ⟨r,hF,dg,rfl,hdl,hdb⟩:=zdq c s (sizes:=szA n m) (λx hx=>by
  unfold szA at hx;rcases QS.mp hx with hx|hx
  ·rcases QS.mp hx with hx|hx
   ·have hx:x=3∨x=2∨x=(m:Int)+1:=by simpa using hx
    omega
   ·rw[(List.mem_replicate.mp hx).2];omega
  ·rw[(List.mem_replicate.mp hx).2];omega) (by rw[zmJ];omega)
 rw[zmJ] at hdl;refine zaq (zaS (zav (zab (zad rfl) (zab (zad rfl) (zab (zap (zad rfl) (zap (zbN (zab (zad rfl) zai) (Qa rfl)) (zad rfl) (zoT (by omega))) s2) zai))) rfl hF) (Qa rfl) rfl) ?_
 have get:∀j,j<3+m+m->∃d,dg[j]?=some d:=λj hj=>⟨dg[j]'(by omega),Qf _⟩
 obtain ⟨d0,e0⟩:=get 0 (by omega)
 obtain ⟨d1,e1⟩:=get 1 (by omega)
 obtain ⟨d2,e2⟩:=get 2 (by omega)
 have b0:=hdb 0 d0 3 e0 rfl;have b1:=hdb 1 d1 2 e1 rfl;have b2:=hdb 2 d2 ((m:Int)+1) e2 rfl;have i0:oIx (.list (dg.map int)) (.int 0)=some (.int d0):=za0 (j:=0) (by rw[Qe,e0];rfl)
 have i1:oIx (.list (dg.map int)) (.int 1)=some (.int d1):=za0 (j:=1) (by rw[Qe,e1];rfl)
 have i2:oIx (.list (dg.map int)) (.int 2)=some (.int d2):=za0 (j:=2) (by rw[Qe,e2];rfl)
 refine zaq (zaS zag (Qa rfl) rfl) ?_
 let ol:List Int:=(dg.drop 3).take m
 have oll:ol.length=m:=by show ((dg.drop 3).take m).length=m;rw[QP,Ji];omega
 have olb:∀d∈ol,0<=d/\d<(n:Int)+1:=λd hd=>by
  obtain ⟨j,hj,e⟩:=List.mem_iff_getElem.mp hd;have hjm:j<m:=by omega
  refine hdb (3+j) d _ ?_ (zpR hjm)
  have:ol[j]?=some d:=by rw[Qf hj,e]
  show dg[3+j]?=_;rw[←this];show _=((dg.drop 3).take m)[j]?;rw[List.getElem?_take,Qn hjm,List.getElem?_drop]
 have hcut:DL.cutD (dg.map int) (some 3) (some (3+(m:Int)))=ol.map int:=by
  rw[zgy (by decide) (by omega) (by omega)]
  have t1:(3:Int).toNat=3:=rfl;have t2:(3+(m:Int)).toNat-(3:Int).toNat=m:=by omega
  rw[t2,t1]
 have step:Ho (sIf (dBin oEq (dIxN 5 (zah (.int 1))) (zah (.int 1))) (zbU 6 (zci (zaY (dSlA (dVar 5) (zax (zah (.int 3)) λx=>mOpt (zde x)) (zax (dBin oAdd (zah (.int 3)) (dVar 3)) λx=>mOpt (zde x)))) 1 (gN 9) (zah true) (dBin oIx (mLst (zae (zah .none) (zae (dBin oSub (dVar 9) (zah (.int 1))) (mNil)))) (zbu zlg (zae (mMap PyData.bool (zce (oIB λi j=>decide (j<i)) 9 (zah (.int 0)))) (mNil)))))) (sNx))
   [some (.pub (zaw cs ls)),some (.pub (.int c)),some (.pub (.int s)),some (.pub (.int m)),some (.pub (.list (([3,2,(m:Int)+1]++replicate m ((n:Int)+1)).map int))),some (.pub (.list (dg.map int))),some (.pub .none),none,none]
   (λr=>∃old x6,r=.nx [some (.pub (zaw cs ls)),some (.pub (.int c)),some (.pub (.int s)),some (.pub (.int m)),some (.pub (.list (([3,2,(m:Int)+1]++replicate m ((n:Int)+1)).map int))),some (.pub (.list (dg.map int))),x6,none,none] /\
    (x6=some (.pub (oldD old)) ∨ ∃ws,old=some ws/\x6=some (.own (ws.map optD)))/\(∀ws,old=some ws->ws.length=m)/\∀ws t,old=some ws->some t∈ws->0<=t/\t<n):=by
  have hc:∀a b:Option Sl,zbG (gN 9) (zah true) (dBin oIx (mLst (zae (zah .none) (zae (dBin oSub (dVar 9) (zah (.int 1))) (mNil)))) (zbu zlg (zae (mMap PyData.bool (zce (oIB λi j=>decide (j<i)) 9 (zah (.int 0)))) (mNil)))) (ol.map int) (zaP [some (.pub (zaw cs ls)),some (.pub (.int c)),some (.pub (.int s)),some (.pub (.int m)),some (.pub (.list (([3,2,(m:Int)+1]++replicate m ((n:Int)+1)).map int))),some (.pub (.list (dg.map int))),some (.pub .none),none,none]++replicate 1 none) []=some ((ol.map zmK).map optD):=λ_ _=>by
   refine zbv (λZ=>∃x,Z=[some (.pub (zaw cs ls)),some (.pub (.int c)),some (.pub (.int s)),some (.pub (.int m)),some (.pub (.list (([3,2,(m:Int)+1]++replicate m ((n:Int)+1)).map int))),some (.pub (.list (dg.map int))),some (.pub .none),none,none,x]) _ _ _ _ (by simp only[Qb]) ?_ ⟨none,rfl⟩ (by rw[Qb,QE];omega)
   rintro i d e hd he Z ⟨x,rfl⟩;rw[Qe] at hd;rw[Qe,Qe] at he
   cases hw:ol[i]? with
   |none=>rw[hw] at hd;cases hd
   |some z=>
   rw[hw] at hd he;cases hd;cases he;exact ⟨_,tg_N (Qa rfl) rfl,rfl,zap (zbN (zab zag (zab (zap (zad rfl) zag zbZ) zai)) (Qa rfl)) (zaV (zab (zaK (zbE rfl zag rfl)) zai) rfl) (zoa z),_,rfl⟩
  apply za9
  case h1=>exact zap (za6 rfl zag i1) zag zcl
  case h2=>
   intro _;refine zbl (zbB (zbw (zaQ (zd3 (zad rfl) (zb9 zag) (zb9 (zap zag (zad rfl) zaN)) (by rw[zcu,hcut])) zbm) (hc none none)) (Qa rfl) rfl) ?_
   refine ⟨some (ol.map zmK),_,rfl,.inr ⟨_,rfl,rfl⟩,λws e=>?_,λws t e ht=>?_⟩
   ·cases e;rw[Qb];exact oll
   ·cases e
    obtain ⟨d,hd,e⟩:=Qt.mp ht
    have:=olb d hd
    unfold zmK at e
    split at e
    ·cases e;omega
    ·cases e
  case h3=>exact λ_=>zbh ⟨none,_,rfl,.inl rfl,(λws e=>by cases e),(λws t e=>by cases e)⟩
 refine zaG (zlC step λr hr=>?_);obtain ⟨old,x6,rfl,hx6,hol,hob⟩:=hr;refine zat ?_;refine zaq (zbB (zc5 zai (Qa rfl)) (Qa rfl) rfl) ?_;obtain ⟨k2,rfl⟩:∃k:Nat,d2=k:=⟨d2.toNat,by omega⟩
 let tl:List Int:=(dg.drop (3+m)).take k2
 have tll:tl.length=k2:=by show ((dg.drop (3+m)).take k2).length=k2;rw[QP,Ji];omega
 have tlb:∀j d,tl[j]?=some d->0<=d/\d<(m:Int):=λj d hj=>by
  have hjl:j<k2:=by have:=(Qg.mp hj).1;omega
  refine hdb (3+m+j) d _ ?_ (zn9 (by omega))
  rw[←hj];show _=((dg.drop (3+m)).take k2)[j]?;rw[List.getElem?_take,Qn hjl,List.getElem?_drop]
 have hcut2:DL.cutD (dg.map int) (some (3+(m:Int))) (some (3+(m:Int)+(k2:Int)))=tl.map int:=by
  rw[zgy (by omega) (by omega) (by omega)]
  have t1:(3+(m:Int)).toNat=3+m:=by omega
  have t2:(3+(m:Int)+(k2:Int)).toNat-(3+(m:Int)).toNat=k2:=by omega
  rw[t2,t1]
 apply zaG;apply zby (λi Z=>∃(T:List Int)(x8:Option Sl),Z=[some (.pub (zaw cs ls)),some (.pub (.int c)),some (.pub (.int s)),some (.pub (.int m)),some (.pub (.list (([3,2,(m:Int)+1]++replicate m ((n:Int)+1)).map int))),some (.pub (.list (dg.map int))),x6,some (.own (T.map int)),x8]/\T.length=i/\T.Nodup/\∀a∈T,0<=a/\a<(m:Int))
 case h1=>exact zaQ (zd3 (zad rfl) (zb9 (zap zag (zad rfl) zaN)) (zb9 (zap (zap zag (zad rfl) zaN) (za6 rfl zag i2) zaN)) (by rw[zcu,hcut2])) zbm
 case h0=>exact ⟨[],_,rfl,rfl,List.nodup_nil,λ_ h=>by cases h⟩
 case hst=>
  rintro i d Z hi ⟨T,x8,rfl,hT,hTn,hTb⟩;rw[Qe] at hi
  cases hw:tl[i]? with
  |none=>rw[hw] at hi;cases hi
  |some z=>
  rw[hw] at hi;cases hi;have hz:=tlb i z hw;have hil:i<k2:=by have:=(Qg.mp hw).1;omega
  obtain ⟨zz,rfl⟩:∃k:Nat,z=k:=⟨z.toNat,by omega⟩
  refine ⟨_,tg_N (Qa rfl) (by walk_at "set"),?_⟩
  unfold zmp;obtain ⟨k,hk,hk1,hk2⟩:=zkl (m:=m) (T:=T) zz (by omega) hTn
  refine zaq (zf6 (by omega) k 1000 zz hk1 hk2 (by omega) (by omega)) ?_
  refine zbl (zd1 rfl (zad rfl) rfl (by rw[Qb];omega) rfl) ?_
  refine zaW ⟨T++[(((zz+k) % m:Nat):Int)],_,by rw[QF (l₁:=T) (f:=int)];rfl,by rw[Ql,hT];rfl,?_,λa ha=>?_⟩
  ·refine List.nodup_append.mpr ⟨hTn,List.nodup_cons.mpr ⟨(by simp),List.nodup_nil⟩,λa ha b hb e=>?_⟩
   rw[Q0.mp hb] at e;exact hk2 (e ▸ ha)
  ·rcases QS.mp ha with h|h
   ·exact hTb a h
   ·rw[Q0.mp h]
    have:=Nat.mod_lt (zz+k) (show 0<m by omega)
    exact ⟨by omega,by omega⟩
 case hend=>
  rintro Z ⟨T,x8,rfl,hT,hTn,hTb⟩;refine zat ?_
  obtain ⟨o,ho⟩:∃o:Ord,oIx (.list [.str "firsts", .str "full", .str "lasts"]) (.int d0)=some (.str o.tx):=by
   have:d0=0∨d0=1∨d0=2:=by omega
   rcases this with rfl|rfl|rfl
   ·exact ⟨.firsts,za0 (j:=0) rfl⟩
   ·exact ⟨.full,za0 (j:=1) rfl⟩
   ·exact ⟨.lasts,za0 (j:=2) rfl⟩
  have ga:zbK n m old T:=⟨hol,hob,hTn,hTb⟩;rcases hx6 with rfl|⟨ws,rfl,rfl⟩
  ·exact zaD (zcd (zab (zap (zbN (zab zag (zab zag (zab zag zai))) (Qa rfl)) (za6 rfl zag i0) ho) (zab (zad rfl) (zab (zbD rfl rfl) zai))) (Qa rfl)) ⟨_,rfl,o,_,T,rfl,ga⟩
  ·exact zaD (zcd (zab (zap (zbN (zab zag (zab zag (zab zag zai))) (Qa rfl)) (za6 rfl zag i0) ho) (zab (zbD rfl rfl) (zab (zbD rfl rfl) zai))) (Qa rfl)) ⟨_,rfl,o,some ws,T,rfl,ga⟩
end
theorem zpS{op:Int->Int->Option D}{j:Nat}{f:M D}{Z Z1 Z':DEnv}{a b:Int}{d:D}(h0:Z[j]?=some (some (.pub (.int a))))(h1:f Z=.ok (.int b) Z1)(h2:op a b=some d)(h3:j<Z1.length)(h4:Z1.set j (some (.pub d))=Z'):sAug op j f Z=.nx Z':=by
 unfold sAug;rw[h0];dsimp only[sB];rw[h1];dsimp only;rw[h2];dsimp only;rw[Qn h3,h4]
theorem mulN{i j:Int}(h : -1000<j/\j<1000):gMul i j=some (.int (i*j)):=by unfold gMul;exact Qn (.inr ⟨by omega,by omega⟩)
theorem zef{b n:Int}(hb : -1000<b/\b<1000)(hn : -1000<=n/\n<=1000):F_aq [.int b,.int n]=some (.int (b ^ n.toNat)):=by
 refine za3 (Z:=[some (.pub (.int b)),some (.pub (.int n)),none,none]) rfl ?_;unfold g_aq;refine zaq (zaS zag (Qa rfl) rfl) ?_;apply zaG;apply zby (λi Z=>∃x3,Z=[some (.pub (.int b)),some (.pub (.int n)),some (.pub (.int (b ^ i))),x3])
 case h1=>exact zc6 (zab (zad rfl) zai) (zct (by omega) (by omega))
 case h0=>exact ⟨_,by rw[Int.pow_zero];rfl⟩
 case hst=>
  rintro i d Z hi ⟨x3,rfl⟩
  refine ⟨_,tg_N (Qa rfl) (by walk_at "set"),?_⟩
  unfold zmn;refine zbl (zpS rfl (zad rfl) (mulN hb) (Qa rfl) rfl) ?_;exact zaW ⟨_,by rw[Int.pow_succ];rfl⟩
 case hend=>
  rintro Z ⟨x3,rfl⟩;refine zat (zaD (zad rfl) ?_);rw[za7]
  congr 4
  omega
def ordW:Ord->Int->Int->Int->Int
 |.firsts,b,M,r=>b ^ (M-r).toNat
 |.full,b,M,r=>b ^ M.toNat+b ^ (M-r).toNat
 |.lasts,b,M,r=>b ^ M.toNat-b ^ (r-1).toNat
theorem ziN(o:Ord){b M r:Int}(hb : -1000<b/\b<1000)(hM:0<=M/\M<=100)(hr:0<=r/\r<=100):F_ar [.str o.tx,.int b,.int M,.int r]=some (.int (ordW o b M r)):=by
 refine za3 (Z:=[some (.pub (.str o.tx)),some (.pub (.int b)),some (.pub (.int M)),some (.pub (.int r))]) rfl ?_;unfold g_ar;have p1:F_aq [.int b,.int (M-r)]=some (.int (b ^ (M-r).toNat)):=zef hb ⟨by omega,by omega⟩
 have p2:F_aq [.int b,.int M]=some (.int (b ^ M.toNat)):=zef hb ⟨by omega,by omega⟩
 have p3:F_aq [.int b,.int (r-1)]=some (.int (b ^ (r-1).toNat)):=zef hb ⟨by omega,by omega⟩
 apply zaG;apply za9
 case h1=>exact zbE rfl zag (zru o)
 case h2=>
  intro h
  cases o with
  |firsts=>exact zaD (zav (zab (zad rfl) (zab (zap (zad rfl) (zad rfl) zbZ) zai)) rfl p1) (zc8 rfl)
  |full=>cases h
  |lasts=>cases h
 case h3=>
  intro h;refine zbh (zat ?_);apply zaG;apply za9
  case h1=>exact zbE rfl zag (zoS o)
  case h2=>
   intro h'
   cases o with
   |full=>exact zaD (zap (zav (zab (zad rfl) (zab (zad rfl) zai)) rfl p2) (zav (zab (zad rfl) (zab (zap (zad rfl) (zad rfl) zbZ) zai)) rfl p1) zaN) (zc8 rfl)
   |firsts=>cases h
   |lasts=>cases h'
  case h3=>
   intro h';refine zbh (zat ?_)
   cases o with
   |firsts=>cases h
   |full=>cases h'
   |lasts=>exact zaD (zap (zav (zab (zad rfl) (zab (zad rfl) zai)) rfl p2) (zav (zab (zad rfl) (zab (zap (zad rfl) zag zbZ) zai)) rfl p3) zbZ) rfl
def zeg(ts:List Int)(b i r:Int):Int:=if i∈ts then (b-r)*b ^ (ts.length-1-ts.idxOf i) else 0
theorem zeK{n:Nat}:∀{xs:List D},(∀x∈xs,PyData.weight x<=n)->PyData.weightAll xs<=xs.length*(n+1)
 |[],_=>by simp[PyData.weightAll]
 |x::xs,h=>by
  have h1:=h x Qm;have h2:=zeK (xs:=xs) λy hy=>h y (Qk _ hy);rw[PyData.weightAll,QK,Nat.succ_mul];omega
theorem zkm{i:Int}(h:0<=i/\i<1000):(int i).weight<=10:=by
 simp only[PyData.weight];split
 ·omega
 ·rename_i hne
  have h0:i.natAbs≠0:=by intro e;exact hne (by simpa using e)
  have:=(Nat.log2_lt h0 (k:=10)).mpr (by omega)
  omega
theorem zhK{ts:List Int}(h:∀a∈ts,0<=a/\a<1000)(hl:ts.length<=1000):PyData.layable0 (.list (ts.map int))=true:=by
 unfold PyData.layable0;have h1:(PyData.list (ts.map int)).canLay0=true:=zb1 λx hx=>by obtain ⟨y,_,rfl⟩:=Qt.mp hx;rfl
 have h2:(PyData.list (ts.map int)).depth<=64:=QH (zet (n:=1) (zb2 λx hx=>by obtain ⟨y,_,rfl⟩:=Qt.mp hx;exact zmw y)) (by decide)
 have h3:(PyData.list (ts.map int)).weight<=2 ^ 20:=by
  have:=zeK (n:=10) (xs:=ts.map int) λx hx=>by obtain ⟨y,hy,rfl⟩:=Qt.mp hx;exact zkm (h y hy)
  rw[Qb] at this;simp only[PyData.weight];omega
 rw[h1,Q9 h2,Q9 h3]
 rfl
theorem zoc{ts:List Int}{k:Int}(hb:∀a∈ts,0<=a/\a<1000)(hl:ts.length<=1000)(h:k∈ts):zep (.list (ts.map int)) [.int k]=some (.int (ts.idxOf k:Nat)):=by
 unfold zep;dsimp only;rw[zcj];dsimp only;exact Qn ⟨zhK hb hl,h⟩
theorem zod{t:Int}{r:List Int}:oNin (.int t) (.list (r.map int))=some (!r.contains t):=by
 unfold oNin;rw[zgP]
 rfl
theorem ziO{ts:List Int}{b i r:Int}(hb : -1000<b/\b<1000)(hr : -1000<r/\r<1000)(hl:ts.length<=100)(ht:∀a∈ts,0<=a/\a<1000):F_as [.list (ts.map int),.int b,.int i,.int r]=some (.int (zeg ts b i r)):=by
 refine za3 (Z:=[some (.pub (.list (ts.map int))),some (.pub (.int b)),some (.pub (.int i)),some (.pub (.int r)),none]) rfl ?_;unfold g_as zeg;apply zaG;apply za9
 case h1=>exact zbE rfl (zad rfl) zod
 case h2=>
  intro h
  have:¬i∈ts:=by simpa using h
  rw[QA this];exact zaD zag (zc8 rfl)
 case h3=>
  intro h;have hm:i∈ts:=by simpa using h
  rw[Qn hm];refine zbh (zat ?_);have hi:=List.idxOf_lt_length_of_mem hm;have hlen:oLen [.list (ts.map int)]=some (.int ts.length):=by rw[zaM,Qb]
  refine zaq (zaS (zap (zap (zbc rfl hlen) zag zbZ) (zjb (zad rfl) (zab (zad rfl) zai) (zoc ht (by omega) hm)) zbZ) (Qa rfl) rfl) ?_
  have hp:=zef (b:=b) (n:=(ts.length:Int)-1-(ts.idxOf i:Nat)) hb ⟨by omega,by omega⟩
  have e:((ts.length:Int)-1-(ts.idxOf i:Nat)).toNat=ts.length-1-ts.idxOf i:=by omega
  rw[e] at hp;exact zaD (zap (zap (zad rfl) (zad rfl) zbZ) (zav (zab (zad rfl) (zab (zad rfl) zai)) rfl hp) (zd0 (by omega) (by omega))) rfl
def zds(old:Option LO)(i:Nat)(t:Int):Int:=match old with
 |none=>0
 |some ws=>if ws[i]?=some (some t) then 1 else 0
section
variable{cs:List Int}{ls:L3}{o:Ord}{old:Option LO}{ts:List Int}
def worW(ls:L3)(o:Ord)(old:Option LO)(ts:List Int)(i:Nat)(rs:List (List Int))(t:Int):Int :=
 (ordW o (ls.length+1) (lng ls) (zbg t rs)*(ls.length+1)+zds old i t)*((lng ls:Int)+1) ^ ts.length+zeg ts (lng ls+1) i (zbg t rs)
theorem zhL{b:Int}(h0:0<=b)(h:b<=8):∀{n k:Nat},n<=k->b ^ n<=8 ^ k:=λ{n k} hk=>by
 have e:b=((b.toNat:Nat):Int):=by omega
 rw[e];have h1:b.toNat ^ n<=8 ^ n:=Nat.pow_le_pow_left (by omega) n
 have h2:8 ^ n<=8 ^ k:=Nat.pow_le_pow_right (by omega) hk
 have h3:((b.toNat ^ n:Nat):Int)<=((8 ^ k:Nat):Int):=by omega
 rw[Int.natCast_pow,Int.natCast_pow] at h3;exact h3
theorem zmL(g:Good cs ls)(ga:zbK cs.length ls.length old ts){i:Nat}{rs:List (List Int)}(hi:ls[i]?=some rs)(t:Int):F_at [zaw cs ls,aimD o old ts,.int (lng ls:Nat),.int i,.int t]=some (.int (worW ls o old ts i rs t)):=by
 have l7:=g.l7;have l1:=g.l1;have hL:lng ls<=5:=zmE l1 λrs h=>(g.rk rs h).few;have hrk:zbg t rs<=5:=by have:=zfw t rs;have:=(g.rk rs (Qp hi)).few;omega
 have htl:=ga.few;have hlt:i<ls.length:=(Qg.mp hi).1;refine za3 (Z:=[some (.pub (zaw cs ls)),some (.pub (aimD o old ts)),some (.pub (.int (lng ls:Nat))),some (.pub (.int i)),some (.pub (.int t)),none,none,none,none,none,none,none,none]) rfl ?_;unfold g_at worW;refine zaq (zeH (zad rfl) (tg_T rfl (tg_C (tg_N (Qa rfl) rfl) (tg_C (tg_N (Qa rfl) rfl) (tg_C (tg_N (Qa rfl) rfl) tg_0))))) ?_;refine zaq (zaS (za6 rfl zag zeu) (Qa rfl) rfl) ?_;refine zaq (zaS (zav (zab (za6 rfl (zad rfl) (zrq hi)) (zab (zad rfl) zai)) rfl (zki t rs)) (Qa rfl) rfl) ?_;have hll:oLen [.list (ls.map zaC)]=some (.int ls.length):=by rw[zaM,Qb]
 have htl':oLen [.list (ts.map int)]=some (.int ts.length):=by rw[zaM,Qb]
 refine zaq (zaS (zap (zbc rfl hll) zag zaN) (Qa rfl) rfl) ?_
 have hk:∀Z:DEnv,Z[6]?=some (some (.pub (oldD old)))->Z[3]?=some (some (.pub (.int i)))->Z[4]?=some (some (.pub (.int t))) ->
   mIf (mAnd (mMap (λd=>!isNon d) (dVar 6)) (dBin oEq (dIxN 6 (dVar 3)) (dVar 4))) (zah (int 1)) (zah (.int 0)) Z=.ok (.int (zds old i t)) Z:=λZ r6 r3 r4=>by
  cases old with
  |none=>
   exact zly (zgv (zaK (zad r6))) zag
  |some ws=>
   have hw:ws.length=ls.length:=ga.len ws rfl;have hwi:ws[i]?=some ws[i]:=Qf (by omega)
   have hx:oIx (.list (ws.map optD)) (.int i)=some (optD ws[i]):=zoQ (by omega)
   have ht:(mAnd (mMap (λd=>!isNon d) (dVar 6)) (dBin oEq (dIxN 6 (dVar 3)) (dVar 4))) Z=.ok (decide (ws[i]=some t)) Z :=
    zgw (zaK (zad r6)) (zap (za6 r6 (zad r3) hx) (zad r4) (zmG (b:=some t)))
   rw[zse ht zag zag]
   congr 1
   unfold zds;dsimp only;rw[hwi]
   by_cases h:ws[i]=some t
   ·rw[Q9 h,Qn rfl,Qn (by rw[h])]
   ·rw[QQ h,QA (by decide),QA (λe=>h (QY e))]
 refine zaq (zaS (hk _ rfl rfl rfl) (Qa rfl) rfl) ?_;have h1:=ziN o (b:=(ls.length:Int)+1) (M:=(lng ls:Nat)) (r:=(zbg t rs:Nat)) ⟨by omega,by omega⟩ ⟨by omega,by omega⟩ ⟨by omega,by omega⟩
 have h2:=zef (b:=(lng ls:Int)+1) (n:=(ts.length:Nat)) ⟨by omega,by omega⟩ ⟨by omega,by omega⟩
 have h3:=ziO (ts:=ts) (b:=(lng ls:Int)+1) (i:=i) (r:=(zbg t rs:Nat)) ⟨by omega,by omega⟩ ⟨by omega,by omega⟩ (by omega) (λa ha=>by have:=ga.there a ha;omega)
 rw[Qz] at h2;refine zaq (zaS (zap (zap (zav (zab (zad rfl) (zab (zad rfl) (zab (zad rfl) (zab (zad rfl) zai)))) rfl h1) (zad rfl) (zcI (by omega) (by omega))) (zad rfl) zaN) (Qa rfl) rfl) ?_
 have hp:((lng ls:Int)+1) ^ ts.length<=8 ^ 7:=zhL (by omega) (by omega) (by omega)
 have hp0:0<=((lng ls:Int)+1) ^ ts.length:=Int.pow_nonneg (by omega)
 exact zaD (zap (zap (zad rfl) (zav (zab (zap (zad rfl) zag zaN) (zab (zbc rfl htl') zai)) rfl h2) (zcI (by omega) (by omega))) (zav (zab (zad rfl) (zab (zap (zad rfl) zag zaN) (zab (zad rfl) (zab (zad rfl) zai)))) rfl h3) zaN) rfl
end
theorem zeh{s:D->DEnv->Option DEnv}{t:M Bool}{g:M D}(I:DEnv->Prop):∀(ds:List D)(qs:List (Option D))(Z:DEnv)(es:List D),qs.length=ds.length ->
  (∀(i:Nat) d e,ds[i]?=some d->qs[i]?=some e->∀Z,I Z->∃Z1,s d Z=some Z1/\t Z1=.ok e.isSome Z1/\(∀x,e=some x->g Z1=.ok x Z1)/\I (zaP Z1))->I Z->es.length+ds.length<=1000000->zbG s t g ds Z es=some (es++qs.filterMap id)
 |[],[],Z,es,_,_,_,_=>by rw[zbG];simp
 |d::r,e::q,Z,es,hl,st,h0,hz=>by
  obtain ⟨Z1,e1,e2,e3,h1⟩:=st 0 d e rfl rfl Z h0;rw[QK] at hz;have ih:=λes' hz'=>zeh I r q (zaP Z1) es' (by simpa using hl) (λi d' e' x y=>st (i+1) d' e' (by simpa using x) (by simpa using y)) h1 hz'
  rw[zbG,e1];dsimp only;rw[e2];dsimp only
  cases e with
  |none=>
   rw[if_neg (show ¬(none:Option D).isSome=true by simp),ih es (by omega)]
   rfl
  |some x=>
   rw[Qn (show (some x).isSome=true from rfl),e3 x rfl]
   dsimp only;rw[Qn (by omega),ih (es++[x]) (by rw[Ql,Ja];omega),Q8]
   rfl
def gotW(W:Nat->List (List Int)->Int->Int):Nat->L3->LO->LO
 |k,rs::ls,o::r=>(o.map (W k rs))::gotW W (k+1) ls r
 |_,_,_=>[]
def sumO(l:LO):Int:=(l.filterMap id).sum
theorem zhM{o:Option Int}{l:LO}:sumO (o::l)=o.getD 0+sumO l:=by
 cases o with
 |none=>show sumO l=0+sumO l;omega
 |some x=>show (x::l.filterMap id).sum=_;rw[Ua];rfl
section
variable{cs:List Int}{ls:L3}{o:Ord}{old:Option LO}{ts:List Int}{ws:LO}
def worV(ls:L3)(o:Ord)(old:Option LO)(ts:List Int)(a t:Int):Int:=worW ls o old ts a.toNat (ls.getD a.toNat []) t
def zbV(V:Int->Int->Int)(q:Int×Int):D:=.tuple [.int q.1,.int q.2,.int (V q.1 q.2)]
theorem zgQ(g:Good cs ls)(ga:zbK cs.length ls.length old ts):F_au [zaw cs ls,aimD o old ts]=some (.list ((allW 0 ls).map (zbV (worV ls o old ts)))):=by
 refine za3 (Z:=[some (.pub (zaw cs ls)),some (.pub (aimD o old ts)),none]) rfl ?_;unfold g_au;refine zaq (zc7 (zav (zab (zad rfl) (zab (zad rfl) zai)) rfl (zrv g ga))) ?_;refine zaq (zaS (zav (zab (zad rfl) zai) rfl (zkj g)) (Qa rfl) rfl) ?_;have few:(allW 0 ls).length<=42:=by rw[(zcC ls 0).length_eq];exact zfx g
 have hc:zbG (gT 2 (gNC (gN 3) (gNC (gN 4) (gN0)))) (zah true) (mTup (zae (dVar 3) (zae (dVar 4) (zae (dFun 5 F_at (zae (dVar 0) (zae (dVar 1) (zae (dVar 2) (zae (dVar 3) (zae (dVar 4) (mNil))))))) (mNil))))) ((allW 0 ls).map duoD) (zaP [some (.pub (zaw cs ls)),some (.pub (aimD o old ts)),some (.pub (.int (lng ls:Nat)))]++replicate 2 none) []=some ((allW 0 ls).map (zbV (worV ls o old ts))):=by
  refine zbv (λZ=>∃x y,Z=[some (.pub (zaw cs ls)),some (.pub (aimD o old ts)),some (.pub (.int (lng ls:Nat))),x,y]) _ _ _ _ (by simp only[Qb]) ?_ ⟨none,none,rfl⟩ (by rw[Qb,QE];omega)
  rintro i d e hd he Z ⟨x,y,rfl⟩;rw[Qe] at hd he
  cases hw:(allW 0 ls)[i]? with
  |none=>rw[hw] at hd;cases hd
  |some q=>
  rw[hw] at hd he;cases hd;cases he;obtain ⟨a,t⟩:=q;obtain ⟨j,rs,hj,ha,ht⟩:=zcw (Qp hw);have ha:a=(j:Int):=by rw[Q4] at ha;exact ha
  subst ha;have hv:worV ls o old ts j t=worW ls o old ts j rs t:=by unfold worV;rw[Qz,Qr,hj];rfl
  refine ⟨_,tg_T rfl (tg_C (tg_N (Qa rfl) rfl) (tg_C (tg_N (Qa rfl) rfl) tg_0)),rfl,?_,_,_,rfl⟩;unfold zbV;dsimp only;rw[hv];exact zcd (zab (zad rfl) (zab (zad rfl) (zab (zav (zab (zad rfl) (zab (zad rfl) (zab (zad rfl) (zab (zad rfl) (zab (zad rfl) zai))))) rfl (zmL g ga hj t)) zai))) (Qa rfl)
 exact zaD (zaK (zbw (zaQ (zav (zab (zad rfl) zai) rfl (zgN g)) zbm) hc)) rfl
end
theorem zcD{B:Nat}:∀{xs:List D},(∀x∈xs,PyData.leavesShort B x=true)->PyData.leavesShortAll B xs=true
 |[],_=>rfl
 |x::xs,h=>by rw[PyData.leavesShortAll,h x Qm,zcD λy hy=>h y (Qk _ hy)];rfl
theorem zcU:∀{xs:List D},(∀x∈xs,PyData.showable x=true)->PyData.showableAll xs=true
 |[],_=>rfl
 |x::xs,h=>by rw[PyData.showableAll,h x Qm,zcU λy hy=>h y (Qk _ hy)];rfl
theorem zcV{n:Nat}:∀{xs:List D},(∀x∈xs,PyData.bulk x<=n)->PyData.bulkAll xs<=xs.length*(n+1)
 |[],_=>by simp[PyData.bulkAll]
 |x::xs,h=>by
  have h1:=h x Qm;have h2:=zcV (xs:=xs) λy hy=>h y (Qk _ hy);rw[PyData.bulkAll,QK,Nat.succ_mul];omega
theorem ten{i:Int}(h:0<=i/\i<10):(int i).leavesShort 8=true/\(int i).showable=true:=by
 have:i=0∨i=1∨i=2∨i=3∨i=4∨i=5∨i=6∨i=7∨i=8∨i=9:=by omega
 rcases this with rfl|rfl|rfl|rfl|rfl|rfl|rfl|rfl|rfl|rfl <;> decide +kernel
def Easy(d:D):Prop:=d.canLay0=true/\d.leavesShort 8=true/\d.showable=true/\d.depth<=2/\d.bulk<=20
theorem zhN{ws:LO}(h:∀t,some t∈ws->0<=t/\t<10)(hl:ws.length<=20):Easy (zaU ws):=by
 refine ⟨zjp ws,zcD λx hx=>?_,zcU λx hx=>?_,zn7 ws,?_⟩
 ·obtain ⟨o,ho,rfl⟩:=Qt.mp hx
  cases o with
  |none=>rfl
  |some t=>exact (ten (h t ho)).1
 ·obtain ⟨o,ho,rfl⟩:=Qt.mp hx
  cases o with
  |none=>rfl
  |some t=>exact (ten (h t ho)).2
 ·have:=zcV (n:=0) (xs:=ws.map optD) λx hx=>by
   obtain ⟨o,ho,rfl⟩:=Qt.mp hx
   cases o <;> exact Qs 0
  rw[Qb] at this;show PyData.bulkAll (ws.map optD)<=20;omega
theorem zoe{n m:Nat}{o:Ord}{old:Option LO}{ts:List Int}(ga:zbK n m old ts)(hn:n<=6)(hm:m<=7):zfq [aimD o old ts]=some (.str (aimD o old ts).shown):=by
 have e1:Easy (oldD old):=by
  cases old with
  |none=>exact ⟨rfl,rfl,rfl,by decide,by decide⟩
  |some ws=>exact zhN (λt h=>by have:=ga.old ws t rfl h;omega) (by have:=ga.len ws rfl;omega)
 have e2:Easy (.list (ts.map int)):=by
  have:=zhN (ws:=ts.map some) (λt h=>by
   obtain ⟨x,hx,e⟩:=Qt.mp h;cases e
   have:=ga.there t hx
   omega) (by rw[Qb];have:=ga.few;omega)
  unfold zaU at this;rw[Q5] at this;exact this
 obtain ⟨a1,a2,a3,a4,a5⟩:=e1;obtain ⟨b1,b2,b3,b4,b5⟩:=e2;have s1:(PyData.str o.tx).canLay0=true:=by cases o <;> decide +kernel
 have s2:(PyData.str o.tx).leavesShort 8=true:=by cases o <;> decide +kernel
 have s5:(PyData.str o.tx).bulk<=6:=by cases o <;> decide +kernel
 have all:∀{P:D->Prop},P (.str o.tx)->P (oldD old)->P (.list (ts.map int))->∀x∈[PyData.str o.tx,oldD old,.list (ts.map int)],P x:=λh1 h2 h3 x hx=>by
  have hx:x=.str o.tx∨x=oldD old∨x=.list (ts.map int):=by simpa using hx
  rcases hx with rfl|rfl|rfl
  ·exact h1
  ·exact h2
  ·exact h3
 have hc:(aimD o old ts).canLay0=true:=zb1 (all s1 a1 b1);have hs:(aimD o old ts).leavesShort 8=true:=zcD (all s2 a2 b2)
 have hb:(aimD o old ts).bulk<=100:=by
  have:=zcV (n:=20) (all (P:=λx=>PyData.bulk x<=20) (by omega) a5 b5)
  exact QH this (show 3*21<=100 by decide)
 refine zjj ⟨hc,zcU (all rfl a3 b3),PyData.hasDict_of_canLay _ hc,?_,?_⟩
 ·have:=zb2 (n:=2) (all (P:=λx=>PyData.depth x<=2) (by simp[PyData.depth]) a4 b4)
  show (PyData.tuple _).depth<=50;simp only[PyData.depth];omega
 ·have:=PyData.shown_le_bulk 8 (by decide) _ hs
  omega
section
variable{cs:List Int}{ls:L3}
theorem zpT(g:Good cs ls):F_bs [zaw cs ls]=some (zaw cs ls):=by
 refine za3 (Z:=[some (.pub (zaw cs ls)),none,none]) rfl ?_;unfold g_bs;have l7:=g.l7;refine zaq (zbB (zc5 zai (Qa rfl)) (Qa rfl) rfl) ?_;apply zaG;apply zby (λi Z=>∃x2,Z=[some (.pub (zaw cs ls)),some (.own ((ls.take i).map zaC)),x2])
 case h1=>exact zaQ (za6 rfl zag zeu) zbm
 case h0=>exact ⟨_,rfl⟩
 case hst=>
  rintro i d Z hi ⟨x2,rfl⟩;rw[Qe] at hi
  cases hw:ls[i]? with
  |none=>rw[hw] at hi;cases hi
  |some rs=>
  rw[hw] at hi;cases hi;have hrs:rs.length<=5:=(g.rk rs (Qp hw)).few
  refine ⟨_,tg_N (Qa rfl) (by walk_at "set"),?_⟩
  unfold zmq
  have hc:∀x1:Option Sl,zbG (gN 3) (zah true) (mMap PyData.list (zeG 3)) (rs.map zbH) (zaP [some (.pub (zaw cs ls)),x1,some (.pub (zaC rs))]++replicate 1 none) []=some (rs.map zbH):=λx1=>by
   refine zbv (λZ=>∃a x,Z=[some (.pub (zaw cs ls)),a,some (.pub (zaC rs)),x]) _ _ _ _ rfl ?_ ⟨_,none,rfl⟩ (by rw[Qb,QE];omega)
   rintro j d e hd he Z ⟨a,x,rfl⟩;rw[hd] at he;cases he;rw[Qe] at hd
   cases hwj:rs[j]? with
   |none=>rw[hwj] at hd;cases hd
   |some r=>
   rw[hwj] at hd;cases hd;exact ⟨_,tg_N (Qa rfl) rfl,rfl,zaK (zgx rfl (show zeQ [zbH r]=some (r.map int) from rfl)),_,_,rfl⟩
  refine zbl (zd1 rfl (zaK (zbw (zaQ (zad rfl) zbm) (hc _))) rfl (by rw[Qb,QP];omega) rfl) ?_
  refine zaW ⟨some (.pub (zaC rs)),?_⟩;rw[JH,hw,QF]
  rfl
 case hend=>
  rintro Z ⟨x2,rfl⟩;rw[Qb,Jz];exact zat (zaD (zcd (zab (zaK (zaB (zab (za6 rfl zag zfK) zai) (zbX (show zeQ [.list (cs.map int)]=some (cs.map int) from rfl)))) (zab (zbD rfl rfl) zai)) (Qa rfl)) rfl)
end
theorem zaH{a b:Str}(h1:PyData.strOk a=true)(h2:PyData.strOk b=true):PyData.strOk (a++b)=true:=by
 unfold PyData.strOk at *;rw[PySem.Str.cps_append,Array.all_append,h1,h2];rfl
theorem zfy:∀(ts:List Str)(k:Nat)(acc:Str),PyData.strOk acc=true->(∀t∈ts,PyData.strOk t=true)->PyData.strOk (textFrom k acc ts)=true
 |[],k,acc,h,_=>h
 |t::r,k,acc,h,ht=>by
  refine zfy r (k+1) _ (zaH (zaH h ?_) (ht t Qm)) λx hx=>ht x (Qk _ hx)
  split <;> decide +kernel
theorem zeL:∀{xs:List D}{t:Str},t∈PyData.shownAll xs->∃x∈xs,t=x.shown
 |[],t,h=>by cases h
 |x::xs,t,h=>by
  rw[PyData.shownAll] at h;rcases QR.mp h with h|h
  ·exact ⟨x,Qm,h⟩
  ·obtain ⟨y,hy,e⟩:=zeL h
   exact ⟨y,Qk _ hy,e⟩
theorem zdb{xs:List D}(h:∀x∈xs,PyData.strOk x.shown=true):PyData.strOk (PyData.list xs).shown=true:=by
 show PyData.strOk (textFrom 0 "[" (PyData.shownAll xs) ++ "]")=true
 exact zaH (zfy _ _ _ (by decide +kernel) λt ht=>by obtain ⟨x,hx,rfl⟩:=zeL ht;exact h x hx) (by decide +kernel)
theorem zoU{i:Int}(h:0<=i/\i<10):PyData.strOk (int i).shown=true:=by
 have:i=0∨i=1∨i=2∨i=3∨i=4∨i=5∨i=6∨i=7∨i=8∨i=9:=by omega
 rcases this with rfl|rfl|rfl|rfl|rfl|rfl|rfl|rfl|rfl|rfl <;> decide +kernel
theorem zpU{ws:LO}(h:∀t,some t∈ws->0<=t/\t<10):PyData.strOk (zaU ws).shown=true:=zdb λx hx=>by
 obtain ⟨o,ho,rfl⟩:=Qt.mp hx
 cases o with
 |none=>decide +kernel
 |some t=>exact zoU (h t ho)
theorem ziP{n m:Nat}{o:Ord}{old:Option LO}{ts:List Int}(ga:zbK n m old ts)(hn:n<=6)(hm:m<=7):PyData.strOk (aimD o old ts).shown=true:=by
 have e1:PyData.strOk (oldD old).shown=true:=by
  cases old with
  |none=>decide +kernel
  |some ws=>exact zpU λt h=>by have:=ga.old ws t rfl h;omega
 have e2:PyData.strOk (PyData.list (ts.map int)).shown=true:=zdb λx hx=>by
  obtain ⟨y,hy,rfl⟩:=Qt.mp hx;exact zoU (by have:=ga.there y hy;omega)
 have e0:PyData.strOk (PyData.str o.tx).shown=true:=by cases o <;> decide +kernel
 show PyData.strOk (("(" : Str)++(_ ++ ", " ++ (_ ++ ", " ++ _)) ++ ")")=true
 exact zaH (zaH (by decide +kernel) (zaH (zaH e0 (by decide +kernel)) (zaH (zaH e1 (by decide +kernel)) e2))) (by decide +kernel)
section
variable{cs:List Int}{ls:L3}{ws:LO}
theorem zfN(g:Good cs ls):F_bo [zaw cs ls]=some (.int (lng ls:Nat)):=by
 refine za3 (Z:=[some (.pub (zaw cs ls))]) rfl ?_;unfold g_bo
 have hc:zbG (gN 1) (zah true) (zbQ 1) (ls.map zaC) (zaP [some (.pub (zaw cs ls))]++replicate 1 none) []=some ((ls.map λrs=>(rs.length:Int)).map int):=by
  refine zbv (λZ=>∃x,Z=[some (.pub (zaw cs ls)),x]) _ _ _ _ (by rw[Qb,Qb,Qb]) ?_ ⟨none,rfl⟩ (by rw[Qb,QE];have:=g.l7;omega)
  rintro i d e hd he Z ⟨x,rfl⟩;rw[Qe] at hd;rw[Qe,Qe] at he
  cases hl:ls[i]? with
  |none=>rw[hl] at hd;cases hd
  |some rs=>
  rw[hl] at hd he;cases hd;cases he;exact ⟨_,tg_N (Qa rfl) rfl,rfl,zbc rfl (zhI rs),_,rfl⟩
 refine zaD (zaV (zab (zaK (zbw (zaQ (za6 rfl zag zeu) zbm) hc)) zai) (zgp (by rw[Qb];have:=g.l1;omega))) ?_
 rw[ziK g.l1]
theorem ziQ{i:Nat}{rs:List (List Int)}(h:ls[i]?=some rs)(t:Int):F_bn [zaw cs ls,.int i,.int t]=some (.int (zbg t rs:Nat)):=by
 refine za3 (Z:=[some (.pub (zaw cs ls)),some (.pub (.int i)),some (.pub (.int t)),none,none]) rfl ?_;unfold g_bn;apply zaG;apply zby (λi' Z=>(∃x2 x3,Z=[some (.pub (zaw cs ls)),some (.pub (.int i)),some (.pub (.int t)),x2,x3])/\∀j r,j<i'->rs[j]?=some r->r.contains t=false)
 case h1=>exact zck (zab (zap (za6 rfl zag zeu) (zad rfl) (zrq h)) zai) zb4
 case h0=>exact ⟨⟨_,_,rfl⟩,λj r h=>absurd h (JX _)⟩
 case hst=>
  rintro k d Z hi ⟨⟨x2,x3,rfl⟩,hb⟩;obtain ⟨x,hx,rfl⟩:=zbO hi;rw[Qe] at hx
  cases hr:rs[k]? with
  |none=>rw[hr] at hx;cases hx
  |some r=>
   rw[hr] at hx;cases hx;refine ⟨_,tg_T rfl (tg_C (tg_N (Qa rfl) rfl) (tg_C (tg_N (Qa rfl) rfl) tg_0)),?_⟩;unfold zl6;apply za9
   case h1=>exact zbE rfl (zad rfl) (ziI t r)
   case h2=>
    intro hh;refine zaD (zap (zad rfl) zag zaN) (zd2 ?_);rw[zhF hr hh hb];refine ⟨?_⟩
    congr 2
    omega
   case h3=>
    intro hh;refine zbh (zaW ⟨⟨_,_,rfl⟩,λj r' hj e=>?_⟩);rcases JP.mp hj with hj|rfl
    ·exact hb j r' hj e
    ·rw[hr] at e;cases e;exact hh
 case hend=>
  rintro Z ⟨⟨x2,x3,rfl⟩,hb⟩;refine zat (zaD zag ?_);rw[zhG (λj r hj e=>hb j r (by rw[zaF,Qb];exact hj) e)]
  rfl
end
section
variable{cs:List Int}{ls:L3}{ws us:LO}
theorem ix_c{t:Int}(h0:0<=t)(h:t<cs.length):oIx (.list (cs.map int)) (.int t)=some (.int (cs.getD t.toNat 0)):=by
 have e:t=((t.toNat:Nat):Int):=by omega
 rw[e];refine za0 ?_;rw[Qe,Qf (by omega),Qr,Qz,Qf (by omega)]
 rfl
theorem zkn{t:Int}{fl:List Int}:oNin (.int t) (.list ((zcB fl).map int))=some (!fl.contains t):=by
 have e:(zcB fl).contains t=fl.contains t:=by
  rw[Bool.eq_iff_iff];simp only[List.contains_iff_mem];exact (zbI fl).mem_iff
 unfold oNin;rw[zgP,e]
 rfl
theorem zdc(i:Int):F_bt [.int i]=some (.bool true):=by
 refine za3 (Z:=[some (.pub (.int i))]) rfl ?_;unfold g_bt
 exact zaD (zgs (zaK (k:=λd=>PyData.bool (isTy d "int")) (zad rfl)) (λ_=>zlx (zaK (k:=λd=>PyData.bool (isTy d "bool")) (zad rfl)))) rfl
end
theorem zof{xs:List D}{a b:Option Int}:(DL.cutD xs a b).length<=xs.length:=by
 unfold DL.cutD;rw[QP,Ji];omega
theorem zog{xs:List D}{a b:Option Int}{x:D}(h:x∈DL.cutD xs a b):x∈xs:=by
 unfold DL.cutD at h;exact List.mem_of_mem_drop (J5 h)
theorem zmM{ns:List Int}{n:Int}{a b:Option Int}{i:Nat}{x:D}(h:(int n::DL.cutD (ns.map int) a b)[i]?=some x):∃c:Int,x=.int c:=by
 have hm:=Qp h;rcases QR.mp hm with rfl|hm
 ·exact ⟨n,rfl⟩
 ·obtain ⟨c,_,rfl⟩:=Qt.mp (zog hm)
  exact ⟨c,rfl⟩
theorem zmN{ns:List Int}{n:Int}{a b:Option Int}(h:ns.length<=1000):oAdd (.list [.int n]) (.list (DL.cutD (ns.map int) a b))=some (.list (int n::DL.cutD (ns.map int) a b)):=zb3 (by
 have:=zof (xs:=ns.map int) (a:=a) (b:=b)
 rw[Qb] at this;show 1+_<=_
 omega)
theorem zpV{d:D}(h1:d.canLay0=true)(h2:d.depth<=60):oEq d d=some true:=by
 unfold oEq;rw[Qn ⟨h1,h1,h2⟩,zgI _ h1]
theorem zpW{j:Nat}{f:M (List D)}{Z Z1 Z':DEnv}{ds0 ds es:List D}(h0:Z[j]?=some (some (.own ds0)))(h1:f Z=.ok es Z1)(h2:Z1[j]?=some (some (.own ds)))(h3:ds.length+es.length<=1000000)(h4:Z1.set j (some (.own (ds++es)))=Z'):sExt j f Z=.nx Z':=by
 unfold sExt;rw[zi9 h0];dsimp only;unfold sB;rw[h1];dsimp only;rw[zi9 h2];dsimp only;rw[Qn h3,h4]
theorem zjs:∀(a b:L3)(k:Nat),allW k (a++b)=allW k a++allW (k+a.length) b
 |[],b,k=>rfl
 |rs::a,b,k=>by
  show _++allW (k+1) (a++b)=_;rw[zjs a b (k+1)];show _=(_++allW (k+1) a)++allW (k+(a.length+1)) b;rw[Q8,show k+1+a.length=k+(a.length+1) by omega]
theorem zoh{n:Nat}(ls:L3)(k:Nat)(h:∀rs∈ls,rs.flatten.length<=n):(allW k ls).length<=ls.length*n:=by
 rw[(zcC ls k).length_eq];exact zgM n ls k h
section
variable{cs:List Int}{ls:L3}{o:Ord}{old:Option LO}{ts:List Int}
theorem zhO(g:Good cs ls):F_bv [zaw cs ls]=some (.list ((allW 0 ls).map duoD)):=by
 have l7:=g.l7;have c6:=g.c6;refine za3 (Z:=[some (.pub (zaw cs ls)),none,none]) rfl ?_;unfold g_bv;refine zaq (zbB (zc5 zai (Qa rfl)) (Qa rfl) rfl) ?_;apply zaG;apply zby (λi Z=>∃x2,Z=[some (.pub (zaw cs ls)),some (.own ((allW 0 (ls.take i)).map duoD)),x2])
 case h1=>exact zc6 (zab (zaV (zab (za6 rfl zag zeu) zai) zaM) zai) (zct (by rw[Qb];omega) (by omega))
 case h0=>exact ⟨_,rfl⟩
 case hst=>
  rintro i d Z hi ⟨x2,rfl⟩;obtain ⟨rfl,hlt⟩:=zcc hi;rw[Qb] at hlt;have hls:ls[i]?=some ls[i]:=Qf (by omega)
  have gr:=g.rk _ (Qp hls);have hfl:=zeU gr
  refine ⟨_,tg_N (Qa rfl) (by walk_at "set"),?_⟩
  unfold zl5;rw[J7];have hw:=zhH (cs:=cs) hls (by omega)
  have hc:zbG (gN 3) (zah true) (mTup (zae (dVar 2) (zae (dVar 3) (mNil)))) ((zcB ls[i].flatten).map int) (zaP [some (.pub (zaw cs ls)),some (.own ((allW 0 (ls.take i)).map duoD)),some (.pub (.int i))]++replicate 1 none) []=some ((zcB ls[i].flatten).map λt=>duoD ((i:Int),t)):=by
   have hsl:(zcB ls[i].flatten).length<=6:=by rw[(zbI _).length_eq];omega
   refine (zbv (λZ=>∃x,Z=[some (Sl.pub (zaw cs ls)),none,some (Sl.pub (.int i)),x]) _ ((zcB ls[i].flatten).map λt=>duoD ((i:Int),t)) _ _ (by rw[Qb,Qb]) ?_ ⟨none,rfl⟩ (by rw[Qb,QE];omega)).trans (by rw[Jp])
   rintro j d e hd he Z ⟨x,rfl⟩;rw[Qe] at hd he
   cases z:(zcB ls[i].flatten)[j]? with
   |none=>rw[z] at hd;cases hd
   |some t=>
    rw[z] at hd he;cases hd;cases he;exact ⟨_,tg_N (Qa rfl) rfl,rfl,zcd (zab (zad rfl) (zab (zad rfl) zai)) (Qa rfl),_,rfl⟩
  have ha:(allW 0 (ls.take i)).length<=42:=by
   have:=zoh (n:=6) (ls.take i) 0 λrs hrs=>by have:=zeU (g.rk rs (J5 hrs));omega
   rw[QP] at this
   have:min i ls.length<=7:=by omega
   omega
  refine zbl (zpW rfl (zbw (zaQ (zav (zab (zad rfl) (zab (zad rfl) zai)) rfl hw) zbm) hc) rfl ?_ rfl) (zaW ⟨some (.pub (.int i)),?_⟩)
  ·rw[Qb,Qb,(zbI _).length_eq];omega
  ·have e:allW 0 (ls.take (i+1))=allW 0 (ls.take i)++(zcB ls[i].flatten).map λt=>((i:Int),t):=by
    rw[List.take_succ_eq_append_getElem (by omega),zjs,QP,Nat.min_eq_left (by omega),Q4]
    show _++((zcB ls[i].flatten).map (λt=>((i:Int),t))++[])=_;rw[Jb]
   rw[e,QF,Q5]
   rfl
 case hend=>
  rintro Z ⟨x2,rfl⟩;rw[za7,Qb];refine zat (zaD (zbD rfl rfl) ?_);rw[show ((ls.length:Int)-0).toNat=ls.length by omega,Jz]
theorem zf7{ts:List Int}{b a r x:Int}(hn:(ts++[x]).Nodup):zeg (ts++[x]) b a r=zeg ts b a r*b+if x=a then b-r else 0:=by
 have hx:x∉ts:=λz=>(List.nodup_append.mp hn).2.2 x z x (List.mem_singleton.mpr rfl) rfl;unfold zeg
 by_cases h:a∈ts
 ·have hxa:¬x=a:=λe=>hx (e ▸ h)
  have hlt:=List.idxOf_lt_length_of_mem h;rw[Qn (Q7 _ h),Qn h,QA hxa,List.idxOf_append,Qn h,Ql,Ja,show ts.length+1-1-ts.idxOf a=(ts.length-1-ts.idxOf a)+1 by omega,Int.pow_succ,Int.add_zero,Int.mul_assoc]
 ·rw[QA h,Int.zero_mul,J7]
  by_cases e:x=a
  ·subst e
   rw[if_pos (by simp),if_pos rfl,List.idxOf_append,if_neg h,List.length_append,List.length_singleton,List.idxOf_cons_self,show ts.length+1-1-(0+ts.length)=0 by omega,Int.pow_zero,Int.mul_one]
  ·rw[if_neg (by simp[h];exact λz=>e z.symm),if_neg e]
def pwL(b:Int)(n:Nat):List Int:=(List.range (n+1)).map λj:Nat=>b ^ j
theorem zmO{b:Int}{n j:Nat}(h:j<=n):(pwL b n)[j]?=some (b ^ j):=by
 unfold pwL;rw[Qe,QX (by omega)]
 rfl
theorem zmP{b:Int}{n:Nat}:(pwL b n).length=n+1:=by unfold pwL;rw[Qb,Qu]
theorem zoi{b:Int}{n:Nat}:pwL b (n+1)=pwL b n++[b ^ n*b]:=by
 unfold pwL;rw[List.range_succ,QF,←Int.pow_succ]
 rfl
theorem zmQ{b:Int}{n:Nat}{k:Int}(h0:0<=k)(h:k<=n):oIx (.list ((pwL b n).map int)) (.int k)=some (.int (b ^ k.toNat)):=by
 have e:k=((k.toNat:Nat):Int):=by omega
 rw[e];refine za0 ?_;rw[Qe,zmO (by omega)]
 rfl
theorem zoj{ws:LO}{i:Nat}{t:Int}(h:i<ws.length):oEq (optD ws[i]) (.int t)=some (decide (ws[i]=some t)):=zmG (b:=some t)
def Ord.isL:Ord->Bool
 |.lasts=>true
 |_=>false
theorem zrw(o:Ord):oEq (.str o.tx) (.str "lasts")=some o.isL:=by cases o <;> decide +kernel
theorem zhP(g:Good cs ls)(ga:zbK cs.length ls.length old ts){i:Nat}{rs:List (List Int)}(hi:ls[i]?=some rs){t:Int}(ht:t∈rs.flatten):F_br [zaw cs ls,aimD o old ts,.int i,.int t]=some (.int (worW ls o old ts i rs t)):=by
 have l7:=g.l7;have l1:=g.l1;have hL:lng ls<=5:=zmE l1 λrs h=>(g.rk rs h).few;have hrs:rs∈ls:=Qp hi;have hrl:=zoR hrs;have hrk:zbg t rs<=lng ls:=by have:=zfw t rs;omega
 have hrp:1<=zbg t rs:=by have:=zf3 ht;omega
 have htl:=ga.few;have hlt:i<ls.length:=(Qg.mp hi).1;refine za3 (Z:=[some (.pub (zaw cs ls)),some (.pub (aimD o old ts)),some (.pub (.int i)),some (.pub (.int t)),none,none,none,none,none,none,none,none,none,none,none]) rfl ?_;unfold g_br;refine zaq (zeH (zad rfl) (tg_T rfl (tg_C (tg_N (Qa rfl) rfl) (tg_C (tg_N (Qa rfl) rfl) (tg_C (tg_N (Qa rfl) rfl) tg_0))))) ?_;have hll:oLen [.list (ls.map zaC)]=some (.int ls.length):=by rw[zaM,Qb]
 refine zaq (zaS (zap (zaV (zab (za6 rfl zag zeu) zai) hll) zag zaN) (Qa rfl) rfl) ?_;refine zaq (zaS (zav (zab (zad rfl) zai) rfl (zfN g)) (Qa rfl) rfl) ?_;refine zaq (zaS (zav (zab (zad rfl) (zab (zad rfl) (zab (zad rfl) zai))) rfl (ziQ hi t)) (Qa rfl) rfl) ?_;refine zaq (zbB (zc5 (zab zag zai) (Qa rfl)) (Qa rfl) rfl) ?_
 let S0:Option Sl:=some (.pub (zaw cs ls))
 let S1:Option Sl:=some (.pub (aimD o old ts))
 let S2:Option Sl:=some (.pub (.int i))
 let S3:Option Sl:=some (.pub (.int t))
 let S4:Option Sl:=some (.pub (.str o.tx))
 let S5:Option Sl:=some (.pub (oldD old))
 let S6:Option Sl:=some (.pub (.list (ts.map int)))
 let b:Int:=(ls.length:Int)+1
 let M:Nat:=lng ls
 let r:Nat:=zbg t rs
 let S7:Option Sl:=some (.pub (.int b))
 let S8:Option Sl:=some (.pub (.int (M:Int)))
 let S9:Option Sl:=some (.pub (.int (r:Int)))
 apply zaG;apply zby (λj Z=>∃x11,Z=[S0,S1,S2,S3,S4,S5,S6,S7,S8,S9,some (.own ((pwL b j).map int)),x11,none,none,none])
 case h1=>exact zc6 (zab (zad rfl) zai) (zct (by omega) (by omega))
 case h0=>exact ⟨_,rfl⟩
 case hst=>
  rintro j d Z hj ⟨x11,rfl⟩
  refine ⟨_,tg_N (Qa rfl) (by walk_at "set"),?_⟩
  unfold zl7;obtain ⟨_,hjl⟩:=zcc hj
  have hlast:oIx (.list ((pwL b j).map int)) (.int (-1))=some (.int (b ^ j)):=zmB (by
   rw[List.getLast?_eq_getElem?,Qb,zmP,Qe,Nat.add_sub_cancel,zmO (Qs j)]
   rfl)
  refine zbl (zd1 rfl (zap (zdZ rfl (zhk zag) rfl hlast) (zad rfl) (zcI (by omega) (by omega))) rfl (by rw[Qb,zmP];omega) rfl) (zaW ⟨some (.pub d),?_⟩)
  rw[zoi,QF]
  rfl
 case hend=>
  rintro Z ⟨x11,rfl⟩;have er:(zbW 0 (M:Int)).length=M:=by rw[za7];omega
  rw[er];refine zat ?_
  let S10:Option Sl:=some (.own ((pwL b M).map int))
  have e1:((M:Int)-(r:Int)).toNat=M-r:=by omega
  have p1:oIx (.list ((pwL b M).map int)) (.int ((M:Int)-(r:Int)))=some (.int (b ^ (M-r))):=by rw[zmQ (by omega) (by omega),e1]
  have p2:oIx (.list ((pwL b M).map int)) (.int (M:Int))=some (.int (b ^ M)):=by rw[zmQ (by omega) (by omega)];rfl
  have p3:oIx (.list ((pwL b M).map int)) (.int ((r:Int)-1))=some (.int (b ^ (r-1))):=by rw[zmQ (by omega) (by omega),show ((r:Int)-1).toNat=r-1 by omega]
  refine zaq (Z1:=[S0,S1,S2,S3,S4,S5,S6,S7,S8,S9,S10,x11,some (.pub (.int (b ^ (M-r)))),none,none]) (zaS (zdZ rfl (zap (zad rfl) (zad rfl) zbZ) rfl p1) (Qa rfl) rfl) ?_
  have eo:ordW o b M r=match o with | .firsts=>b ^ (M-r) | .full=>b ^ (M-r)+b ^ M | .lasts=>b ^ M-b ^ (r-1):=by
   cases o with
   |firsts=>show b ^ ((M:Int)-(r:Int)).toNat=_;rw[e1]
   |full=>show b ^ ((M:Int)).toNat+b ^ ((M:Int)-(r:Int)).toNat=_;rw[e1,Int.add_comm];rfl
   |lasts=>show b ^ ((M:Int)).toNat-b ^ ((r:Int)-1).toNat=_;rw[show ((r:Int)-1).toNat=r-1 by omega];rfl
  have done:∀w:Int,w=ordW o b M r->Ho (sSeq (sSet 12 (dBin oMul (dVar 12) (dVar 7)))
    (sSeq (sIf (mAnd (mMap (λd=>!isNon d) (dVar 5)) (dBin oEq (dIxN 5 (dVar 2)) (dVar 3)))
    (sSet 12 (dBin oAdd (dVar 12) (zah (.int 1))))
    (sNx))
    (sSeq (sSet 13 (zah (.int 0)))
    (sSeq (sFor (zaY (dVar 6)) (gN 14) zgE)
    (sRet (dBin oAdd (dVar 12) (dVar 13))))))) [S0,S1,S2,S3,S4,S5,S6,S7,S8,S9,S10,x11,some (.pub (.int w)),none,none] (λo'=>o'=.rt (.int (worW ls o old ts i rs t))):=by
   rintro w rfl;refine zaq (Z1:=[S0,S1,S2,S3,S4,S5,S6,S7,S8,S9,S10,x11,some (.pub (.int (ordW o b M r*b))),none,none]) (zaS (zap (zad rfl) (zad rfl) (zcI (by omega) (by omega))) (Qa rfl) rfl) ?_
   have rest:∀v:Int,v=ordW o b M r*b+zds old i t->Ho (sSeq (sSet 13 (zah (.int 0)))
    (sSeq (sFor (zaY (dVar 6)) (gN 14) zgE)
    (sRet (dBin oAdd (dVar 12) (dVar 13))))) [S0,S1,S2,S3,S4,S5,S6,S7,S8,S9,S10,x11,some (.pub (.int v)),none,none] (λo'=>o'=.rt (.int (worW ls o old ts i rs t))):=by
    intro v hv;refine zaq (zaS zag (Qa rfl) rfl) ?_;apply zaG;apply zby (λj Z=>∃x14,Z=[S0,S1,S2,S3,S4,S5,S6,S7,S8,S9,S10,x11,some (.pub (.int (v*((M:Int)+1) ^ j))),some (.pub (.int (zeg (ts.take j) ((M:Int)+1) i r))),x14])
    case h1=>exact zaQ (zad rfl) zbm
    case h0=>exact ⟨none,by rw[Int.pow_zero,Int.mul_one];rfl⟩
    case hst=>
     rintro j d Z hj ⟨x14,rfl⟩;rw[Qe] at hj
     cases hz:ts[j]? with
     |none=>rw[hz] at hj;cases hj
     |some a=>
     rw[hz] at hj;cases hj;have hjl:j<ts.length:=(Qg.mp hz).1;have ha:ts[j]=a:=(Qg.mp hz).2;have hts:ts.take (j+1)=ts.take j++[a]:=by rw[List.take_succ_eq_append_getElem hjl,ha]
     have hnd:(ts.take j++[a]).Nodup:=by rw[←hts];exact List.Nodup.sublist (List.take_sublist _ _) ga.once
     refine ⟨_,tg_N (Qa rfl) (by walk_at "set"),?_⟩
     unfold zgE;refine zaq (Z1:=[S0,S1,S2,S3,S4,S5,S6,S7,S8,S9,S10,x11,some (.pub (.int (v*((M:Int)+1) ^ (j+1)))),some (.pub (.int (zeg (ts.take j) ((M:Int)+1) i r))),some (.pub (.int a))]) (zaS (zap (zad rfl) (zap (zad rfl) zag zaN) (zcI (by omega) (by omega))) (Qa rfl) (by rw[Int.mul_assoc,←Int.pow_succ];rfl)) ?_
     refine zaq (Z1:=[S0,S1,S2,S3,S4,S5,S6,S7,S8,S9,S10,x11,some (.pub (.int (v*((M:Int)+1) ^ (j+1)))),some (.pub (.int (zeg (ts.take j) ((M:Int)+1) i r*((M:Int)+1)))),some (.pub (.int a))]) (zaS (zap (zad rfl) (zap (zad rfl) zag zaN) (zcI (by omega) (by omega))) (Qa rfl) rfl) ?_
     refine za9 (zbE rfl (zad rfl) zcl) (λhh=>?_) (λhh=>?_)
     ·have e:a=(i:Int):=by simpa using hh
      refine zbl (zaS (zap (zap (zap (zad rfl) (zad rfl) zaN) zag zaN) (zad rfl) zbZ) (Qa rfl) rfl) (zaW ⟨some (.pub (.int a)),?_⟩);rw[hts,zf7 hnd,Qn e]
      have:zeg (ts.take j) ((M:Int)+1) i r*((M:Int)+1)+(M:Int)+1-(r:Int)=zeg (ts.take j) ((M:Int)+1) i r*((M:Int)+1)+((M:Int)+1-(r:Int)):=by omega
      rw[←this]
      rfl
     ·have e:¬a=(i:Int):=by simpa using hh
      refine zbh (zaW ⟨some (.pub (.int a)),?_⟩);rw[hts,zf7 hnd,QA e,Int.add_zero]
    case hend=>
     rintro Z ⟨x14,rfl⟩;refine zat (zaD (zap (zad rfl) (zad rfl) zaN) ?_);rw[Qb,Jz,hv]
     rfl
   have hkk:mAnd (mMap (λd=>!isNon d) (dVar 5)) (dBin oEq (dIxN 5 (dVar 2)) (dVar 3)) [S0,S1,S2,S3,S4,S5,S6,S7,S8,S9,S10,x11,some (.pub (.int (ordW o b M r*b))),none,none]=.ok (decide (zds old i t=1)) [S0,S1,S2,S3,S4,S5,S6,S7,S8,S9,S10,x11,some (.pub (.int (ordW o b M r*b))),none,none]:=by
    cases old with
    |none=>exact zgv (zaK (k:=λd=>!isNon d) (x:=PyData.none) (zad rfl))
    |some ws=>
     have hw:ws.length=ls.length:=ga.len ws rfl;have hwi:ws[i]?=some ws[i]:=Qf (by omega)
     have hx:oIx (.list (ws.map optD)) (.int i)=some (optD ws[i]):=zoQ (by omega)
     have e:decide (zds (some ws) i t=1)=decide (ws[i]=some t):=by
      refine decide_eq_decide.mpr ?_;show (if ws[i]?=some (some t) then (1:Int) else 0)=1 ↔ _;rw[hwi]
      by_cases z:ws[i]=some t
      ·rw[if_pos (by rw[z])];simp[z]
      ·rw[if_neg (λy=>z (Option.some.inj y))];simp[z]
     rw[e];exact zgw (zaK (k:=λd=>!isNon d) (x:=oldD (some ws)) (zad rfl)) (zap (za6 rfl (zad rfl) hx) (zad rfl) (zoj (by omega)))
   apply zaG;refine za9 hkk (λhh=>?_) (λhh=>?_)
   ·have e:zds old i t=1:=by simpa using hh
    exact zbl (zaS (zap (zad rfl) zag zaN) (Qa rfl) rfl) (zat (rest _ (by rw[e])))
   ·have e:zds old i t=0:=by
     have hn:¬zds old i t=1:=by simpa using hh
     unfold zds at hn ⊢
     split at hn
     ·rfl
     ·split at hn
      ·exact absurd rfl hn
      ·rename_i hz;rw[QA hz]
    exact zbh (zat (rest _ (by rw[e,Int.add_zero])))
  have f2:=zrw o;apply zaG;refine za9 (zbE rfl zag (zoS o)) (λhh=>?_) (λhh=>?_)
  ·cases o with
   |full=>
    refine zbl (zaS (zap (zad rfl) (zdZ rfl (zad rfl) rfl p2) zaN) (Qa rfl) rfl) (zat ?_);apply zaG;exact za9 (b:=false) (zbE rfl zag f2) (λz=>by cases z) λ_=>zbh (zat (done _ eo.symm))
   |firsts=>cases hh
   |lasts=>cases hh
  ·refine zbh (zat ?_)
   apply zaG;refine za9 (zbE rfl zag f2) (λh2=>?_) (λh2=>?_)
   ·cases o with
    |lasts=>exact zbl (zaS (zap (zdZ rfl (zad rfl) rfl p2) (zdZ rfl (zap (zad rfl) zag zbZ) rfl p3) zbZ) (Qa rfl) rfl) (zat (done _ eo.symm))
    |firsts=>cases h2
    |full=>cases h2
   ·cases o with
    |firsts=>exact zbh (zat (done _ eo.symm))
    |full=>cases hh
    |lasts=>cases h2
end
theorem zf8{α β:Type}{f:α->β}(hf:∀a b,f a=f b->a=b){l:List α}(h:l.Nodup):(l.map f).Nodup:=by
 unfold List.Nodup at h ⊢;rw[List.pairwise_map];exact h.imp λhne e=>hne (hf _ _ e)
def pk(q:Int×Int):List Key:=[.inl q.1,.inl q.2]
theorem zoV{a b:Int×Int}(h:pk a=pk b):a=b:=by
 unfold pk at h;injection h with h1 h2;injection h2 with h2 _;injection h1 with h1;injection h2 with h2;exact Prod.ext h1 h2
theorem zjt{i1 i2:Nat}{g:M D}{V:Int×Int->D}(I:DEnv->Prop):∀(qs:LP)(acc:List (List Key×D))(Z:DEnv),I Z ->
  (∀q∈qs,∀Z,I Z->∃Z',g ((Z.set i1 (some (.pub (.int q.1)))).set i2 (some (.pub (.int q.2))))=.ok (V q) Z'/\zdn Z'=true/\I Z')->acc.length+qs.length<=1000000->(acc.map (·.1)++qs.map pk).Nodup ->
  zfs i1 i2 g (qs.map duoD) acc Z=some (acc++qs.map λq=>(pk q,V q))
 |[],acc,Z,_,_,_,_=>by rw[Uc,zfs,Uc,Jb]
 |q::r,acc,Z,h0,st,hl,hn=>by
  obtain ⟨Z',e1,e2,e3⟩:=st q Qm Z h0;rw[QK] at hl
  have hk:zlY acc (pk q)=true:=by
   unfold zlY;rw[QW];intro p hp;refine Q9 λz=>?_;exact (List.nodup_append.mp hn).2.2 p.1 (Qt.mpr ⟨p,hp,rfl⟩) (pk q) (Qt.mpr ⟨q,Qm,rfl⟩) z
  have ih:=zjt I r (acc++[(pk q,V q)]) Z' e3 (λq' hq=>st q' (Qk _ hq)) (by rw[Ql,Ja];omega) (by rw[QF,Q8];exact hn)
  rw[QB];show zfs i1 i2 g (.tuple [.int q.1,.int q.2]::r.map duoD) acc Z=_;rw[zfs]
  show (match g ((Z.set i1 (some (.pub (.int q.1)))).set i2 (some (.pub (.int q.2)))) with
   |.ok v Z'=>if acc.length<1000000/\zlY acc (pk q)=true/\zdn Z'=true then zfs i1 i2 g (r.map duoD) (acc++[(pk q,v)]) Z' else none
   |.bad=>none)=_
  rw[e1];dsimp only;rw[Qn ⟨by omega,hk,e2⟩,ih,Q8]
  rfl
def wtD(V:Int->Int->Int)(qs:LP):D:=prsD (qs.map λq=>(pk q,.int (V q.1 q.2)))
theorem zoW(V:Int->Int->Int)(qs:LP):wtD V qs=.dict ((.bool true,.none)::qs.map λq=>(duoD q,.int (V q.1 q.2))):=by
 unfold wtD prsD pdD
 congr 2
 rw[Q5,Q5,Q5,List.zip_map',List.map_congr_left];intro q _
 rfl
theorem zpX{V:Int->Int->Int}{qs:LP}:zlW (wtD V qs)=some (qs.map duoD):=by
 rw[zoW];show some ((qs.map λq=>(duoD q,int (V q.1 q.2))).map (·.1))=_;rw[Q5]
 rfl
theorem zoX{V:Int->Int->Int}{qs:LP}{q:Int×Int}(h:q∈qs):zke (wtD V qs) (duoD q)=some (.int (V q.1 q.2)):=by
 rw[zoW];show ((qs.map λq=>(duoD q,int (V q.1 q.2))).find? λp=>decide (kOf p.1=some (pk q))).map (·.2)=_
 have key:∀(l:LP),q∈l->(l.map λq=>(duoD q,int (V q.1 q.2))).find? (λp=>decide (kOf p.1=some (pk q)))=some (duoD q,.int (V q.1 q.2)):=by
  intro l
  induction l with
  |nil=>intro h;cases h
  |cons a r ih=>
   intro h;rw[QB]
   by_cases e:a=q
   ·subst e
    exact List.find?_cons_of_pos (Q9 rfl)
   ·rw[List.find?_cons_of_neg (by
     intro z;have z:kOf (duoD a)=some (pk q):=Qa z;have z:some (pk a)=some (pk q):=z;exact e (zoV (QY z)))]
    exact ih ((QR.mp h).resolve_left λz=>e z.symm)
 rw[key qs h]
 rfl
theorem zpY{f:M D}{Z Z1:DEnv}{x:D}{r:List D}(h1:f Z=.ok x Z1)(h2:zlW x=some r):znZ f Z=.ok r Z1:=by unfold znZ;exact zaB h1 (zbX h2)
theorem zew:∀(ls:L3)(k:Nat),(∀rs∈ls,rs.flatten.Nodup)->(allW k ls).Nodup
 |[],_,_=>List.nodup_nil
 |rs::ls,k,h=>by
  show ((zcB rs.flatten).map (λt=>((k:Int),t))++allW (k+1) ls).Nodup;rw[List.nodup_append];refine ⟨?_,zew ls (k+1) λr hr=>h r (Qk _ hr),λa ha b hb e=>?_⟩
  ·exact zf8 (λx y e=>(Prod.mk.inj e).2) ((zbI _).nodup_iff.mpr (h rs Qm))
  ·subst e
   obtain ⟨t,_,rfl⟩:=Qt.mp ha
   have:=zgL ls (k+1) _ hb
   simp at this;omega
section
variable{cs:List Int}{ls:L3}{o:Ord}{old:Option LO}{ts:List Int}
theorem zpZ(g:Good cs ls):(allW 0 ls).length<=42:=by rw[(zcC ls 0).length_eq];exact zfx g
theorem zgR(g:Good cs ls)(ga:zbK cs.length ls.length old ts):F_bx [zaw cs ls,aimD o old ts]=some (wtD (worV ls o old ts) (allW 0 ls)):=by
 refine za3 (Z:=[some (.pub (zaw cs ls)),some (.pub (aimD o old ts)),none,none,none]) rfl ?_;unfold g_bx;constructor;have hf:zaY (dFun 1 F_bv (zae (dVar 0) (mNil))) [some (.pub (zaw cs ls)),some (.pub (aimD o old ts)),none,none,none]=.ok ((allW 0 ls).map duoD) [some (.pub (zaw cs ls)),some (.pub (aimD o old ts)),none,none,none]:=zaQ (zav (zab (zad rfl) zai) rfl (zhO g)) zbm;have h42:=zpZ g
 have hp:=zjt (i1:=3) (i2:=4) (g:=dFun 4 F_br (zae (dVar 0) (zae (dVar 1) (zae (dVar 3) (zae (dVar 4) (mNil)))))) (V:=λq=>.int (worV ls o old ts q.1 q.2))
  (λZ=>∃x y,Z=[some (.pub (zaw cs ls)),some (.pub (aimD o old ts)),none,x,y]) (allW 0 ls) [] [some (.pub (zaw cs ls)),some (.pub (aimD o old ts)),none,none,none] ⟨_,_,rfl⟩ (λq hq Z ⟨x,y,e⟩=>by
   subst e;obtain ⟨i,rs,h1,h2,h3⟩:=zcw hq;rw[Q4] at h2;refine ⟨[some (.pub (zaw cs ls)),some (.pub (aimD o old ts)),none,some (.pub (.int q.1)),some (.pub (.int q.2))],?_,rfl,_,_,rfl⟩;have hw:=zhP (o:=o) g ga h1 h3
   have e:worV ls o old ts q.1 q.2=worW ls o old ts i rs q.2:=by
    unfold worV;rw[h2,Qz]
    congr 1
    simp[List.getD,h1]
   rw[e];refine zav (zab (zad rfl) (zab (zad rfl) (zab (zad rfl) (zab (zad rfl) zai)))) rfl ?_;rw[h2];exact hw) (by rw[QE];omega) (by
   show ((allW 0 ls).map pk).Nodup;exact zf8 (λa b e=>zoV e) (zew ls 0 λrs hrs=>(g.rk rs hrs).once))
 unfold sPrs;rw[Qn ⟨rfl,rfl,Qa rfl,Qa rfl⟩,hf];dsimp only;rw[Qn (show zdn _=true from rfl),hp]
 rfl
end
def papD(tm:Int)(as ps:List Int):D:=.tuple [.int tm,.list (as.map int),.list (ps.map int)]
def zhQ(ps cs:List Int):List Int:=(ps.zip cs).map λp=>p.1*p.2
theorem zf9:∀(ps cs:List Int),zhQ ps cs=zhQ cs ps
 |[],cs=>by cases cs <;> rfl
 |_::_,[]=>rfl
 |p::ps,c::cs=>by
  have ih:=zf9 ps cs;unfold zhQ at ih ⊢;rw[JW,JW,QB,QB,ih,Int.mul_comm]
def zfz(cs as ps:List Int):Int:=as.sum+(zhQ ps cs).sum
section
variable{cs:List Int}{ls:L3}{tm:Int}{as ps:List Int}
theorem zso:oIx (papD tm as ps) (.int 1)=some (.list (as.map int)):=za0 (j:=1) rfl
theorem zsp:oIx (papD tm as ps) (.int 2)=some (.list (ps.map int)):=za0 (j:=2) rfl
end
theorem zmR{cs:List Int}{ls:L3}(g:Good cs ls):∀q∈allW 0 ls,(0<=q.1/\q.1<ls.length)/\0<=q.2/\q.2<cs.length:=λq hq=>by
 obtain ⟨i,rs,h1,h2,h3⟩:=zcw hq
 have:=(g.rk rs (Qp h1)).flat q.2 h3
 have:=(Qg.mp h1).1
 omega
theorem zmS{ns:List Int}{k:Int}(h0:0<=k)(h1:k<ns.length):oIx (.list (ns.map int)) (.int k)=some (.int (ns.getD k.toNat 0)):=by
 obtain ⟨j,rfl⟩:∃j:Nat,k=j:=⟨k.toNat,by omega⟩
 rw[Qz];exact ziF (by omega)
section
variable{cs:List Int}{ls:L3}{o:Ord}{old:Option LO}{ts:List Int}
theorem zeV(g:Good cs ls)(ga:zbK cs.length ls.length old ts){q:Int×Int}(hq:q∈allW 0 ls):0<=worV ls o old ts q.1 q.2/\worV ls o old ts q.1 q.2<18446744073709551616:=by
 obtain ⟨i,rs,h1,h2,h3⟩:=zcw hq;have l7:=g.l7;have l1:=g.l1;have hL:lng ls<=5:=zmE l1 λrs h=>(g.rk rs h).few;have hrl:=zoR (Qp h1);have hr1:1<=zbg q.2 rs:=by have:=zf3 h3;omega
 have hr2:zbg q.2 rs<=lng ls:=by have:=zfw q.2 rs;omega
 have htl:=ga.few
 have e:worV ls o old ts q.1 q.2=worW ls o old ts i rs q.2:=by
  unfold worV;rw[h2,Q4,Qz]
  congr 1
  simp[List.getD,h1]
 rw[e];unfold worW;have pw:∀{b:Int}{n k:Nat},1<=b->b<=8->n<=k->1<=b ^ n/\b ^ n<=8 ^ k:=λ{b n k} h0 h8 hk=>⟨Int.pow_pos h0,zhL (by omega) h8 hk⟩
 have hb1:(1:Int)<=(ls.length:Int)+1:=by omega
 have hb8:(ls.length:Int)+1<=8:=by omega
 have hM1:(1:Int)<=(lng ls:Int)+1:=by omega
 have hM8:(lng ls:Int)+1<=8:=by omega
 have a1:=pw hb1 hb8 (n:=lng ls) (k:=5) hL;have a2:=pw hb1 hb8 (n:=((lng ls:Int)-(zbg q.2 rs:Nat)).toNat) (k:=5) (by omega)
 have a3:=pw hb1 hb8 (n:=((zbg q.2 rs:Nat)-1:Int).toNat) (k:=5) (by omega)
 have a4:((ls.length:Int)+1) ^ ((zbg q.2 rs:Nat)-1:Int).toNat<=((ls.length:Int)+1) ^ lng ls:=by
  have:((zbg q.2 rs:Nat)-1:Int).toNat<=lng ls:=by omega
  obtain ⟨k,hk⟩:=Nat.exists_eq_add_of_le this;rw[hk,Int.pow_add]
  have:=(pw hb1 hb8 (n:=k) (k:=5) (by omega)).1
  have hm:=Int.mul_le_mul_of_nonneg_left this (show 0<=((ls.length:Int)+1) ^ ((zbg q.2 rs:Nat)-1:Int).toNat by omega)
  rw[Int.mul_one] at hm;exact hm
 have b1:0<=ordW o (ls.length+1) (lng ls) (zbg q.2 rs)/\ordW o (ls.length+1) (lng ls) (zbg q.2 rs)<=65536:=by
  cases o with
  |firsts=>show 0<=_ ^ _/\_ ^ _<=65536;omega
  |full=>
   show 0<=_ ^ ((lng ls:Int)).toNat+_ ^ _/\_ ^ ((lng ls:Int)).toNat+_ ^ _<=65536;rw[Qz];omega
  |lasts=>
   show 0<=_ ^ ((lng ls:Int)).toNat-_ ^ _/\_ ^ ((lng ls:Int)).toNat-_ ^ _<=65536;rw[Qz];omega
 have b2:0<=zds old i q.2/\zds old i q.2<=1:=by
  unfold zds;split
  ·omega
  ·split <;> omega
 have b3:=pw hM1 hM8 (n:=ts.length) (k:=7) (by omega)
 have b4:0<=zeg ts ((lng ls:Int)+1) i (zbg q.2 rs)/\zeg ts ((lng ls:Int)+1) i (zbg q.2 rs)<=8*8 ^ 7:=by
  unfold zeg;split
  ·have b5:=pw hM1 hM8 (n:=ts.length-1-ts.idxOf (i:Int)) (k:=7) (by omega)
   refine ⟨Int.mul_nonneg (by omega) (by omega),?_⟩
   exact Int.mul_le_mul (by omega) b5.2 (by omega) (by decide)
  ·exact ⟨by omega,by decide⟩
 have c1:0<=ordW o (ls.length+1) (lng ls) (zbg q.2 rs)*(ls.length+1)+zds old i q.2/\ordW o (ls.length+1) (lng ls) (zbg q.2 rs)*(ls.length+1)+zds old i q.2<=600000:=by
  have d1:0<=ordW o (ls.length+1) (lng ls) (zbg q.2 rs)*((ls.length:Int)+1):=Int.mul_nonneg b1.1 (by omega)
  have d2:ordW o (ls.length+1) (lng ls) (zbg q.2 rs)*((ls.length:Int)+1)<=65536*8:=Int.mul_le_mul b1.2 hb8 (by omega) (by decide)
  omega
 have d3:0<=(ordW o (ls.length+1) (lng ls) (zbg q.2 rs)*(ls.length+1)+zds old i q.2)*((lng ls:Int)+1) ^ ts.length:=Int.mul_nonneg c1.1 (by omega)
 have d4:(ordW o (ls.length+1) (lng ls) (zbg q.2 rs)*(ls.length+1)+zds old i q.2)*((lng ls:Int)+1) ^ ts.length<=600000*8 ^ 7:=Int.mul_le_mul c1.2 b3.2 (by omega) (by decide)
 omega
end
structure OkP(n m:Nat)(V:Int->Int->Int)(qs:LP)(tm:Int)(as ps:List Int):Prop where
 t0:0<=tm
 la:as.length=m
 lp:ps.length=n
 aa:∀a∈as,0<=a
 pp:∀p∈ps,0<=p
 le:∀q∈qs,tm*V q.1 q.2<=as.getD q.1.toNat 0+ps.getD q.2.toNat 0
theorem zhR{cs:List Int}{ls:L3}{tm:Int}{as ps:List Int}(g:Good cs ls):F_ca [zaw cs ls,papD tm as ps]=some (.int (zfz cs as ps)):=by
 refine za3 (Z:=[some (.pub (zaw cs ls)),some (.pub (papD tm as ps))]) rfl ?_;unfold g_ca;have c6:=g.c6
 have hc:zbG (gT 2 (gNC (gN 2) (gNC (gN 3) (gN0)))) (zah true) (dBin oMul (dVar 2) (dVar 3)) (zipD (cs.map int) (ps.map int)) (zaP [some (.pub (zaw cs ls)),some (.pub (papD tm as ps))]++replicate 2 none) []=some ((zhQ cs ps).map int):=by
  rw[zlE,zcS (λ_=>true) (λd=>match d with | .tuple [.int a,.int b]=>.int (a*b)|_=>.none) (λZ=>∃x y,Z=[some (.pub (zaw cs ls)),some (.pub (papD tm as ps)),x,y])]
  ·rw[J8.mpr (λ_ _=>rfl),Jp,Q5]
   unfold zhQ;rw[Q5]
   rfl
  ·rintro d hm Z ⟨x,y,rfl⟩
   obtain ⟨p,hp,rfl⟩:=Qt.mp hm
   have:=g.c7 p.1 (List.of_mem_zip hp).1
   exact ⟨_,tg_T rfl (tg_C (tg_N (Qa rfl) rfl) (tg_C (tg_N (Qa rfl) rfl) tg_0)),rfl,λ_=>zap (zad rfl) (zad rfl) (zd0 (by omega) (by omega)),_,_,rfl⟩
  ·exact ⟨none,none,rfl⟩
  ·rw[Qb,QE,JK];omega
 refine zaD (zap (zaV (zab (za6 rfl zag zso) zai) zeT) (zaV (zab (zaK (zbw (zoL (zab (za6 rfl zag zfK) (zab (za6 rfl zag zsp) zai)) rfl) hc)) zai) zeT) zaN) ?_;unfold zfz;rw[zf9]
def pairsOf:Nat->LO->LP
 |_,[]=>[]
 |k,some t::r=>((k:Int),t)::pairsOf (k+1) r
 |k,none::r=>pairsOf (k+1) r
def zcW:Nat->LO->List (Option D)
 |_,[]=>[]
 |k,o::r=>(o.map λt=>duoD ((k:Int),t))::zcW (k+1) r
theorem zdz:∀(k:Nat)(ws:LO),(zcW k ws).filterMap id=(pairsOf k ws).map duoD
 |_,[]=>rfl
 |k,some t::r=>by
  have ih:=zdz (k+1) r;show (some (duoD ((k:Int),t))::zcW (k+1) r).filterMap id=_;rw[Jn];show _::_=_;rw[ih]
  rfl
 |k,none::r=>by
  have ih:=zdz (k+1) r;show ((none:Option D)::zcW (k+1) r).filterMap id=_;rw[Jn];exact ih
theorem zex:∀(k:Nat)(ws:LO),(zcW k ws).length=ws.length
 |_,[]=>rfl
 |k,_::r=>by rw[zcW,QK,QK,zex]
theorem zga:∀(k i:Nat)(ws:LO),(zcW k ws)[i]?=ws[i]?.map λo=>o.map λt=>duoD (((k+i:Nat):Int),t)
 |_,_,[]=>by simp[zcW]
 |k,0,o::r=>by simp[zcW]
 |k,i+1,o::r=>by
  rw[zcW,JR,JR,zga (k+1) i r,show k+1+i=k+(i+1) by omega]
theorem zdO:∀{k:Nat}{ws:LO}{q:Int×Int},q∈pairsOf k ws->∃i:Nat,ws[i]?=some (some q.2)/\q.1=((k+i:Nat):Int)
 |k,some t::r,q,h=>by
  rcases QR.mp h with rfl|h
  ·exact ⟨0,rfl,rfl⟩
  ·obtain ⟨i,h1,h2⟩:=zdO (k:=k+1) h
   exact ⟨i+1,by simpa using h1,by rw[h2];congr 1;omega⟩
 |k,none::r,q,h=>by
  obtain ⟨i,h1,h2⟩:=zdO (k:=k+1) h;exact ⟨i+1,by simpa using h1,by rw[h2];congr 1;omega⟩
theorem zhS{W:Nat->List (List Int)->Int->Int}{V:Int->Int->Int}:∀(ls:L3)(ws:LO)(k:Nat),ws.length=ls.length->(∀(i:Nat) rs t,ls[i]?=some rs->V (((k+i:Nat):Int)) t=W (k+i) rs t)->((pairsOf k ws).map λq=>V q.1 q.2).sum=sumO (gotW W k ls ws)
 |[],[],_,_,_=>rfl
 |rs::ls,o::ws,k,hl,h=>by
  have ih:=zhS (W:=W) (V:=V) ls ws (k+1) (by simpa using hl) (λi rs' t e=>by
   have:=h (i+1) rs' t (by simpa using e)
   rw[show k+(i+1)=k+1+i by omega] at this
   exact this)
  rw[gotW,zhM,←ih]
  cases o with
  |none=>show ((pairsOf (k+1) ws).map λq=>V q.1 q.2).sum=0+_;omega
  |some t=>
   show (V (k:Int) t::(pairsOf (k+1) ws).map λq=>V q.1 q.2).sum=W k rs t+_;rw[Ua]
   have:=h 0 rs t rfl
   rw[Ue] at this;rw[this]
def pz(ps:List Int)(ws:LO):Int:=(ws.map λo=>match o with|some t=>ps.getD t.toNat 0|none=>0).sum
def sumF(n:Nat)(f:Nat->Int):Int:=((List.range n).map f).sum
theorem zcE{n:Nat}{f:Nat->Int}:sumF (n+1) f=sumF n f+f n:=by
 unfold sumF;rw[List.range_succ,QF,List.sum_append];simp
theorem zju{f h:Nat->Int}:∀(n:Nat),sumF n (λk=>f k+h k)=sumF n f+sumF n h
 |0=>rfl
 |n+1=>by rw[zcE,zcE,zcE,zju n];omega
theorem ziR{f h:Nat->Int}:∀(n:Nat),(∀k,k<n->f k<=h k)->sumF n f<=sumF n h
 |0,_=>QT _
 |n+1,e=>by
  have h1:=ziR n λk hk=>e k (by omega)
  have h2:=e n (by omega)
  rw[zcE,zcE];omega
theorem zfA:∀(n:Nat)(f:Nat->Int),(∀k,k<n->f k=0)->sumF n f=0
 |0,_,_=>rfl
 |n+1,f,e=>by rw[zcE,zfA n f λk hk=>e k (by omega),e n (by omega)];rfl
theorem zjv{p:Nat->Int}{j:Nat}:∀(n:Nat),j<n->sumF n (λk=>if k=j then p k else 0)=p j
 |n+1,h=>by
  rw[zcE]
  by_cases e:n=j
  ·subst e
   rw[Qn rfl,zfA n _ λk hk=>QA (by omega)]
   omega
  ·rw[QA e,zjv n (by omega)]
   omega
theorem zey{f h:Nat->Int}{n:Nat}(e:∀k,k<n->f k=h k):sumF n f=sumF n h:=JL (ziR n λk hk=>by rw[e k hk];exact QT _) (ziR n λk hk=>by rw[e k hk];exact QT _)
theorem zhT{ps:List Int}{n:Nat}:∀(ws:LO),(∀t,some t∈ws->0<=t/\t<n)->pz ps ws=sumF n λk=>((ws.count (some (k:Int)):Nat):Int)*ps.getD k 0
 |[],_=>by
  rw[zfA n _ λk _=>by simp]
  rfl
 |o::ws,h=>by
  have ih:=zhT (ps:=ps) ws λt ht=>h t (Qk _ ht)
  cases o with
  |none=>
   show ((0:Int)::(ws.map λo=>match o with|some t=>ps.getD t.toNat 0|none=>0)).sum=_
   rw[Ua];unfold pz at ih;rw[ih,J7];exact zey λk _=>by rw[List.count_cons];simp
  |some t=>
   have ht:=h t Qm;show (ps.getD t.toNat 0::(ws.map λo=>match o with|some t=>ps.getD t.toNat 0|none=>0)).sum=_
   rw[Ua];unfold pz at ih;rw[ih,←zjv (p:=λk=>ps.getD k 0) (j:=t.toNat) n (by omega),←zju]
   refine zey λk _=>?_;rw[JM]
   by_cases e:k=t.toNat
   ·subst e
    have:(some t==some ((t.toNat:Nat):Int))=true:=by simp;omega
    rw[Qn rfl,Qn this,Int.natCast_add,Int.add_mul];omega
   ·have:¬(some t==some ((k:Nat):Int))=true:=by simp;omega
    rw[QA e,QA this,J7,Ue]
theorem zko:∀(ps cs:List Int),ps.length=cs.length->(zhQ ps cs).sum=sumF cs.length λk=>cs.getD k 0*ps.getD k 0
 |ps,cs,h=>by
  unfold sumF zhQ
  congr 1
  apply List.ext_getElem?;intro i;rw[Qe,Qe]
  by_cases hi:i<cs.length
  ·rw[QX hi]
   have h1:ps[i]?=some ps[i]:=Qf (by omega)
   have h2:cs[i]?=some cs[i]:=Qf hi;have hz:(ps.zip cs)[i]?=some (ps[i],cs[i]):=List.getElem?_zip_eq_some.mpr ⟨h1,h2⟩;rw[hz];simp only[Option.map_some,Qr,h1,h2,JS,Int.mul_comm]
  ·rw[Jf (l:=ps.zip cs) (by rw[JK];omega),Jf (l:=List.range cs.length) (by rw[Qu];omega)]
   rfl
section
variable{cs:List Int}{ls:L3}{o:Ord}{old:Option LO}{ts:List Int}{ws:LO}
theorem zkp(g:Good cs ls)(dl:Deal cs ls ws):F_by [wtD (worV ls o old ts) (allW 0 ls),zaU ws]=some (.int (sumO (gotW (worW ls o old ts) 0 ls ws))):=by
 refine za3 (Z:=[some (.pub (wtD (worV ls o old ts) (allW 0 ls))),some (.pub (zaU ws)),none]) rfl ?_;unfold g_by
 have hwl:ws.length<=7:=by have:=dl.len;have:=g.l7;omega
 let S0:Option Sl:=some (.pub (wtD (worV ls o old ts) (allW 0 ls)))
 let S1:Option Sl:=some (.pub (zaU ws))
 have hc:zbG (gT 2 (gNC (gN 3) (gNC (gN 4) (gN0)))) (mMap (λd=>!isNon d) (dVar 4)) (mTup (zae (dVar 3) (zae (dVar 4) (mNil)))) (zcO 0 (ws.map optD)) (zaP [S0,S1,none]++replicate 2 none) []=some ((pairsOf 0 ws).map duoD):=by
  rw[←zdz];refine (zeh (λZ=>∃x y,Z=[S0,S1,none,x,y]) _ (zcW 0 ws) _ _ (by rw[zex,zaF,Qb]) ?_ ⟨none,none,rfl⟩ (by rw[zaF,Qb,QE];omega)).trans (by rw[Jp])
  rintro i d e hd he Z ⟨x,y,rfl⟩;obtain ⟨z,hz,rfl⟩:=zbO hd;rw[Qe] at hz;rw[zga] at he
  cases hwi:ws[i]? with
  |none=>rw[hwi] at hz;cases hz
  |some w=>
  rw[hwi] at hz he;cases hz;cases he;refine ⟨_,tg_T rfl (tg_C (tg_N (Qa rfl) rfl) (tg_C (tg_N (Qa rfl) rfl) tg_0)),?_,?_,_,_,rfl⟩
  ·cases w with
   |none=>exact zaK (k:=λd=>!isNon d) (x:=PyData.none) (zad rfl)
   |some t=>exact zaK (k:=λd=>!isNon d) (x:=int t) (zad rfl)
  ·intro v hv
   cases w with
   |none=>cases hv
   |some t=>
    cases hv;exact zcd (zab (zad rfl) (zab (zad rfl) zai)) (Qa rfl)
 refine zaq (Z1:=[S0,S1,some (.own ((pairsOf 0 ws).map duoD))]) (zbB (zbw (zck (zab (zad rfl) zai) rfl) hc) (Qa rfl) rfl) ?_
 have hpl:(pairsOf 0 ws).length<=7:=by
  have:((zcW 0 ws).filterMap id).length<=(zcW 0 ws).length:=Jd _ _
  rw[zdz,zex,Qb] at this;omega
 have hc2:zbG (gN 3) (zah true) (dBin zke (dVar 0) (dVar 3)) ((pairsOf 0 ws).map duoD) (zaP [S0,S1,some (.pub (.list ((pairsOf 0 ws).map duoD)))]++replicate 1 none) []=some (((pairsOf 0 ws).map λq=>worV ls o old ts q.1 q.2).map int):=by
  refine (zbv (λZ=>∃x,Z=[S0,S1,some (.pub (.list ((pairsOf 0 ws).map duoD))),x]) _ (((pairsOf 0 ws).map λq=>worV ls o old ts q.1 q.2).map int) _ _ (by rw[Qb,Qb,Qb]) ?_ ⟨none,rfl⟩ (by rw[Qb,QE];omega)).trans (by rw[Jp])
  rintro i d e hd he Z ⟨x,rfl⟩;rw[Qe] at hd he;rw[Qe] at he
  cases hz:(pairsOf 0 ws)[i]? with
  |none=>rw[hz] at hd;cases hd
  |some q=>
  rw[hz] at hd he;cases hd;cases he;have hq:=Qp hz;obtain ⟨j,h1,h2⟩:=zdO hq;have hjl:j<ls.length:=by have:=(Qg.mp h1).1;have:=dl.len;omega
  have hj:ls[j]?=some ls[j]:=Qf hjl
  have hm:q∈allW 0 ls:=by
   have:=zjq (k:=0) hj (dl.wish j q.2 _ h1 hj)
   rw[←h2] at this;exact this
  exact ⟨_,tg_N (Qa rfl) rfl,rfl,zap (zad rfl) (zad rfl) (zoX hm),_,rfl⟩
 refine zaD (zaV (zab (zaK (zbw (zaQ (zbD rfl rfl) zbm) hc2)) zai) zeT) ?_
 rw[zhS (W:=worW ls o old ts) ls ws 0 dl.len λi rs t e=>by
  unfold worV;rw[Qz,Q4]
  congr 1
  simp[List.getD,e]]
end
structure Stp where
 a:Nat
 b:Nat
 g:Int
 w:Option Nat
abbrev Tab:=List (Int×List Stp)
def ent(T:Tab)(p:Nat):Int×List Stp:=T.getD p (0,[])
def zdd(W T:Tab)(s:Stp):Tab:=if (ent T s.b).1<(ent W s.a).1+s.g then T.set s.b ((ent W s.a).1+s.g,(ent W s.a).2++[s]) else T
def zjw(W:Tab)(S:List Stp):Tab:=S.foldl (zdd W) W
def zaR(n:Nat)(S:List Stp):Nat->Tab
 |0=>replicate n (0,[])
 |t+1=>zjw (zaR n S t) S
theorem zhU{T:Tab}{p:Nat}{x:Int×List Stp}(h:p<T.length):ent (T.set p x) p=x:=by
 unfold ent;rw[Qr,QC h];rfl
theorem zez{T:Tab}{p q:Nat}{x:Int×List Stp}(h:p≠q):ent (T.set p x) q=ent T q:=by
 unfold ent;rw[Qr,Qo h,←Qr]
theorem zmT(W T:Tab)(s:Stp):(zdd W T s).length=T.length:=by
 unfold zdd;split
 ·rw[Q3]
 ·rfl
structure zgb(W T:Tab)(S:List Stp):Prop where
 len:T.length=W.length
 up:∀p,(ent W p).1<=(ent T p).1
 how:∀p,ent T p=ent W p ∨ ∃s∈S,s.b=p/\ent T p=((ent W s.a).1+s.g,(ent W s.a).2++[s])/\(ent W p).1<(ent T p).1
theorem zhV{W T:Tab}{S:List Stp}{s:Stp}(hs:s∈S)(hb:s.b<W.length)(k:zgb W T S):zgb W (zdd W T s) S/\(∀p,(ent T p).1<=(ent (zdd W T s) p).1)/\(ent W s.a).1+s.g<=(ent (zdd W T s) s.b).1:=by
 have hbT:s.b<T.length:=by rw[k.len];exact hb
 unfold zdd;split
 ·rename_i h
  have self:=zhU (x:=((ent W s.a).1+s.g,(ent W s.a).2++[s])) hbT;refine ⟨⟨by rw[Q3];exact k.len,λp=>?_,λp=>?_⟩,λp=>?_,by rw[self];exact QT _⟩
  ·by_cases z:s.b=p
   ·subst z;rw[self];have:=k.up s.b;show _<=(ent W s.a).1+s.g;omega
   ·rw[zez z];exact k.up p
  ·by_cases z:s.b=p
   ·subst z;right;exact ⟨s,hs,rfl,self,by rw[self];have:=k.up s.b;show _<(ent W s.a).1+s.g;omega⟩
   ·rw[zez z];exact k.how p
  ·by_cases z:s.b=p
   ·subst z;rw[self];show _<=(ent W s.a).1+s.g;omega
   ·rw[zez z];exact QT _
 ·rename_i h
  exact ⟨k,λp=>QT _,by omega⟩
theorem zfB{W:Tab}{S:List Stp}(hS:∀s∈S,s.b<W.length):∀(R:List Stp)(T:Tab),(∀s∈R,s∈S)->zgb W T S->zgb W (R.foldl (zdd W) T) S/\(∀p,(ent T p).1<=(ent (R.foldl (zdd W) T) p).1)/\∀s∈R,(ent W s.a).1+s.g<=(ent (R.foldl (zdd W) T) s.b).1
 |[],T,_,k=>⟨k,λ_=>QT _,λs h=>by cases h⟩
 |s::R,T,hR,k=>by
  obtain ⟨k1,u1,c1⟩:=zhV (hR s Qm) (hS s (hR s Qm)) k;obtain ⟨k2,u2,c2⟩:=zfB hS R (zdd W T s) (λx hx=>hR x (Qk _ hx)) k1;refine ⟨k2,λp=>JO (u1 p) (u2 p),λx hx=>?_⟩;rcases QR.mp hx with rfl|hx
  ·exact JO c1 (u2 x.b)
  ·exact c2 x hx
theorem zei{W:Tab}{S:List Stp}(hS:∀s∈S,s.b<W.length):zgb W (zjw W S) S/\∀s∈S,(ent W s.a).1+s.g<=(ent (zjw W S) s.b).1:=by
 obtain ⟨k,_,c⟩:=zfB hS S W (λ_ h=>h) ⟨rfl,λ_=>QT _,λ_=>.inl rfl⟩;exact ⟨k,c⟩
section
variable{n:Nat}{S:List Stp}(hS:∀s∈S,s.a<n/\s.b<n)
include hS
theorem zcy:∀t,(zaR n S t).length=n
 |0=>by unfold zaR;rw[QI]
 |t+1=>by
  unfold zaR;rw[(zei (λs h=>by rw[zcy t];exact (hS s h).2)).1.len,zcy t]
theorem zca(t:Nat):zgb (zaR n S t) (zaR n S (t+1)) S/\∀s∈S,(ent (zaR n S t) s.a).1+s.g<=(ent (zaR n S (t+1)) s.b).1 :=
 zei (λs h=>by rw[zcy hS t];exact (hS s h).2)
theorem zdA(p:Nat):ent (zaR n S 0) p=(0,[]):=by
 unfold ent zaR;rw[Qr,Qy]
 split <;> rfl
theorem zcX:∀t,(∀p,(ent (zaR n S t) p).2.length<=t)/\(∀p,0<t->ent (zaR n S t) p≠ent (zaR n S (t-1)) p->(ent (zaR n S t) p).2.length=t)
 |0=>⟨λp=>by rw[zdA hS];exact Qs _,λp h=>absurd h (Jv _)⟩
 |t+1=>by
  obtain ⟨h1,h2⟩:=zcX t;obtain ⟨k,c⟩:=zca hS t
  have key:∀p,ent (zaR n S (t+1)) p≠ent (zaR n S t) p->(ent (zaR n S (t+1)) p).2.length=t+1:=λp hne=>by
   rcases k.how p with e|⟨s,hs,hb,e,lt⟩
   ·exact absurd e hne
   ·rw[e,Ql,Ja]
    congr 1
    cases t with
    |zero=>rw[zdA hS];rfl
    |succ t=>
     refine h2 s.a (Ud t) λz=>?_;obtain ⟨k0,c0⟩:=zca hS t
     have:=c0 s hs
     rw[Nat.add_sub_cancel] at z;rw[e,z,←hb] at lt;exact absurd lt (by show ¬_<(ent (zaR n S t) s.a).1+s.g;omega)
  refine ⟨λp=>?_,λp _ hne=>key p (by rw[Nat.add_sub_cancel] at hne;exact hne)⟩
  by_cases z:ent (zaR n S (t+1)) p=ent (zaR n S t) p
  ·rw[z];exact Nat.le_succ_of_le (h1 p)
  ·rw[key p z];exact Qs _
end
inductive Walk(S:List Stp):Nat->List Stp->Prop where
 |nil (p:Nat):Walk S p []
 |snoc {w:List Stp} {s:Stp} (hs:s∈S) (h:Walk S s.a w):Walk S s.b (w++[s])
def gain(w:List Stp):Int:=(w.map Stp.g).sum
theorem zjx:gain []=0:=rfl
theorem zbF(u v:List Stp):gain (u++v)=gain u+gain v:=by unfold gain;rw[QF,List.sum_append]
theorem zdB(s:Stp):gain [s]=s.g:=by unfold gain;simp
section
variable{n:Nat}{S:List Stp}(hS:∀s∈S,s.a<n/\s.b<n)
include hS
theorem zcY:∀t p,Walk S p (ent (zaR n S t) p).2/\gain (ent (zaR n S t) p).2=(ent (zaR n S t) p).1
 |0,p=>by rw[zdA hS];exact ⟨.nil p,rfl⟩
 |t+1,p=>by
  rcases (zca hS t).1.how p with e|⟨s,hs,hb,e,_⟩
  ·rw[e];exact zcY t p
  ·obtain ⟨h1,h2⟩:=zcY t s.a
   rw[e,←hb];exact ⟨.snoc hs h1,by rw[zbF,zdB,h2]⟩
theorem zfC{t u:Nat}(h:t<=u)(p:Nat):(ent (zaR n S t) p).1<=(ent (zaR n S u) p).1:=by
 induction h with
 |refl=>exact QT _
 |step _ ih=>exact JO ih ((zca hS _).1.up p)
theorem zmU{p:Nat}{w:List Stp}(h:Walk S p w):∀(t:Nat),w.length<=t->gain w<=(ent (zaR n S t) p).1:=by
 induction h with
 |nil p=>
  intro t _
  have:=zfC hS (JG t) p
  rw[zdA hS] at this;exact this
 |@snoc w s hs h ih=>
  intro t hl;rw[Ql,Ja] at hl;obtain ⟨u,rfl⟩:∃u,t=u+1:=⟨t-1,by omega⟩
  have:=ih u (by omega)
  have:=(zca hS u).2 s hs
  rw[zbF,zdB];omega
theorem zkq{t:Nat}(h0:0<t)(h:∀p,p<n->(ent (zaR n S t) p).2.length≠t):∀s∈S,(ent (zaR n S t) s.a).1+s.g<=(ent (zaR n S t) s.b).1:=λs hs=>by
 obtain ⟨u,rfl⟩:∃u,t=u+1:=⟨t-1,by omega⟩
 have e:ent (zaR n S (u+1)) s.a=ent (zaR n S u) s.a:=Classical.byContradiction λz=>h s.a (hS s hs).1 ((zcX hS (u+1)).2 s.a h0 z);rw[e];exact (zca hS u).2 s hs
end
inductive Path(S:List Stp):Nat->List Stp->Nat->Prop where
 |nil (p:Nat):Path S p [] p
 |cons {s:Stp} {w:List Stp} {p:Nat} (hs:s∈S) (h:Path S s.b w p):Path S s.a (s::w) p
section
variable{S:List Stp}
theorem Path.append{q m p:Nat}{u v:List Stp}(h1:Path S q u m)(h2:Path S m v p):Path S q (u++v) p:=by
 induction h1 with
 |nil p=>exact h2
 |cons hs h ih=>exact .cons hs (ih h2)
theorem Path.split{p:Nat}{v:List Stp}:∀{u:List Stp}{q:Nat},Path S q (u++v) p->∃m,Path S q u m/\Path S m v p
 |[],q,h=>⟨q,.nil q,h⟩
 |s::u,q,h=>by
  cases h with
  |cons hs h=>
   obtain ⟨m,h1,h2⟩:=Path.split (u:=u) h;exact ⟨m,.cons hs h1,h2⟩
theorem Path.mem{q p:Nat}{w:List Stp}(h:Path S q w p):∀s∈w,s∈S:=by
 induction h with
 |nil p=>intro s h;cases h
 |cons hs h ih=>
  intro s hm;rcases QR.mp hm with rfl|hm
  ·exact hs
  ·exact ih s hm
theorem Walk.path{p:Nat}{w:List Stp}(h:Walk S p w):∃q,Path S q w p:=by
 induction h with
 |nil p=>exact ⟨p,.nil p⟩
 |snoc hs h ih=>
  obtain ⟨q,hq⟩:=ih;exact ⟨q,hq.append (.cons hs (.nil _))⟩
theorem Path.walk{p:Nat}:∀{w:List Stp}{q:Nat},Path S q w p->∀{u:List Stp},Walk S q u->Walk S p (u++w)
 |[],q,h,u,hu=>by cases h;rw[Jb];exact hu
 |s::w,q,h,u,hu=>by
  cases h with
  |cons hs h=>
   have:=Path.walk h (Walk.snoc hs hu)
   rw[Q8] at this;exact this
theorem Path.head{q p:Nat}{s:Stp}{w:List Stp}(h:Path S q (s::w) p):q=s.a:=by cases h;rfl
theorem Path.step{q p:Nat}{s:Stp}{w:List Stp}(h:Path S q (s::w) p):s∈S/\Path S s.b w p:=by cases h with|cons hs h=>exact ⟨hs,h⟩
theorem Path.at{q p:Nat}{w:List Stp}(h:Path S q w p){i:Nat}{s:Stp}(hi:w[i]?=some s):Path S q (w.take i) s.a/\Path S q (w.take (i+1)) s.b/\Path S s.b (w.drop (i+1)) p:=by
 have hl:i<w.length:=(Qg.mp hi).1
 have e:w.drop i=s::w.drop (i+1):=by
  rw[Jj hl]
  congr 1
  exact (Qg.mp hi).2
 have h':Path S q (w.take i++w.drop i) p:=by rw[JZ];exact h
 obtain ⟨m,h1,h2⟩:=h'.split;rw[e] at h2;have hm:=h2.head;subst hm;obtain ⟨hs,h3⟩:=h2.step;refine ⟨h1,?_,h3⟩;rw[JH,hi];exact h1.append (.cons hs (.nil _))
theorem Path.next{q p:Nat}{w:List Stp}(h:Path S q w p){i:Nat}{s t:Stp}(hi:w[i]?=some s)(hj:w[i+1]?=some t):t.a=s.b:=by
 obtain ⟨_,_,h3⟩:=h.at hi;have hl:i+1<w.length:=(Qg.mp hj).1;rw[Jj hl] at h3;rw[←(Qg.mp hj).2];exact h3.head.symm
structure ziS(w:List Stp)(i j:Nat):Prop where
 ij:i<=j
 jl:j<w.length
 same:∀s t,w[i]?=some s->w[j]?=some t->s.a=t.b
 first:∀j'<j,∀i' ≤ j',∀s t,w[i']?=some s->w[j']?=some t->s.a≠t.b
def zmV(w:List Stp):Prop:=∀j<w.length,∀i ≤ j,∀s t,w[i]?=some s->w[j]?=some t->s.a≠t.b
theorem zok{n:Nat}(hS:∀s∈S,s.a<n/\s.b<n){q p:Nat}{w:List Stp}(h:Path S q w p)(hl:n<=w.length)(h0:0<n):¬zmV w:=λhn=>by
 obtain ⟨s0,w0,rfl⟩:∃s0 w0,w=s0::w0:=by
  cases w with
  |nil=>rw[QE] at hl;omega
  |cons a b=>exact ⟨a,b,rfl⟩
 let P:List Nat:=s0.a::(s0::w0).map Stp.b
 have key:∀k l:Nat,k<l->∀x y:Nat,P[k]?=some x->P[l]?=some y->x≠y:=λk l hkl x y hx hy=>by
  obtain ⟨l,rfl⟩:∃m,l=m+1:=⟨l-1,by omega⟩
  have hy:((s0::w0).map Stp.b)[l]?=some y:=hy;rw[Qe] at hy
  cases ht:(s0::w0)[l]? with
  |none=>rw[ht] at hy;cases hy
  |some t=>
  rw[ht] at hy;cases hy;have hll:l<(s0::w0).length:=(Qg.mp ht).1;obtain ⟨s,hs⟩:∃s,(s0::w0)[k]?=some s:=⟨_,Qf (by omega)⟩
  have hxs:x=s.a:=by
   cases k with
   |zero=>cases hs;cases hx;rfl
   |succ k=>
    have hx:((s0::w0).map Stp.b)[k]?=some x:=hx;rw[Qe] at hx;obtain ⟨r,hr⟩:∃r,(s0::w0)[k]?=some r:=⟨_,Qf (by omega)⟩
    rw[hr] at hx;cases hx;exact (h.next hr hs).symm
  rw[hxs];exact hn l hll k (by omega) s t hs ht
 have nd:P.Nodup:=by
  rw[List.nodup_iff_pairwise_ne,List.pairwise_iff_getElem];intro k l hk hl2 hkl;exact key k l hkl _ _ (Qf hk) (Qf hl2)
 have bound:∀x∈P,x<n:=λx hx=>by
  rcases QR.mp hx with rfl|hx
  ·exact (hS s0 h.step.1).1
  ·obtain ⟨s,hs,rfl⟩:=Qt.mp hx
   exact (hS s (h.mem s hs)).2
 have le:P.length<=n:=by
  have:=List.Nodup.length_le_of_subset nd (l₂:=List.range n) λx hx=>Q6.mpr (bound x hx)
  rwa[Qu] at this
 have:P.length=(s0::w0).length+1:=by show ((s0::w0).map Stp.b).length+1=_;rw[Qb]
 omega
theorem zkr{n:Nat}(hS:∀s∈S,s.a<n/\s.b<n)(h0:0<n){p:Nat}(hw:(ent (zaR n S n) p).2.length=n){i j:Nat}(r:ziS (ent (zaR n S n) p).2 i j) :
  ∃x,Path S x (((ent (zaR n S n) p).2.take (j+1)).drop i) x/\0<gain (((ent (zaR n S n) p).2.take (j+1)).drop i):=by
 obtain ⟨hwk,hg⟩:=zcY hS n p;generalize hW:(ent (zaR n S n) p).2=w at hw r hwk hg ⊢;obtain ⟨q,hp⟩:=hwk.path;have hij:=r.ij;have hjl:=r.jl;obtain ⟨s,hs⟩:∃s,w[i]?=some s:=⟨_,Qf (by omega)⟩
 obtain ⟨t,ht⟩:∃t,w[j]?=some t:=⟨_,Qf hjl⟩;have hst:=r.same s t hs ht;obtain ⟨a1,a2,a3⟩:=hp.at hs;obtain ⟨b1,b2,b3⟩:=hp.at ht
 have e1:w.take (j+1)=w.take i++(w.take (j+1)).drop i:=by
  have:=(JZ i (w.take (j+1))).symm
  rw[List.take_take,Nat.min_eq_left (by omega)] at this
  exact this
 rw[e1] at b2;obtain ⟨m,c1,c2⟩:=b2.split
 have hm:m=s.a:=by
  have e2:(w.take (j+1)).drop i=s::(w.take (j+1)).drop (i+1):=by
   rw[Jj (by rw[QP];omega)]
   congr 1
   rw[List.getElem_take];exact (Qg.mp hs).2
  rw[e2] at c2;exact c2.head
 subst hm;rw[←hst] at c2 b3;refine ⟨s.a,c2,?_⟩;have hsh:Path S q (w.take i++w.drop (j+1)) p:=a1.append b3;have hshw:=hsh.walk (u:=[]) (.nil q);rw[Jp] at hshw;have hlen:(w.take i++w.drop (j+1)).length<=n-1:=by rw[Ql,QP,Ji];omega
 have most:=zmU hS hshw (n-1) hlen
 have hgw:gain w=gain (w.take i)+gain ((w.take (j+1)).drop i)+gain (w.drop (j+1)):=by
  rw[←zbF,←e1,←zbF,JZ]
 rw[zbF] at most
 have lt:(ent (zaR n S (n-1)) p).1<(ent (zaR n S n) p).1:=by
  obtain ⟨k,_⟩:=zca hS (n-1);rw[Nat.sub_add_cancel h0] at k;rcases k.how p with e|⟨_,_,_,_,lt⟩
  ·have:=(zcX hS (n-1)).1 p
   rw[←e,hW,hw] at this;omega
  ·exact lt
 omega
theorem ziT{q p:Nat}{w:List Stp}(h:Path S q w p){i j:Nat}(r:ziS w i j):(((w.take (j+1)).drop i).map Stp.a).Nodup:=by
 rw[List.nodup_iff_pairwise_ne,List.pairwise_iff_getElem];intro k l hk hl hkl;have hij:=r.ij;have hjl:=r.jl;simp only[Qb,Ji,QP] at hk hl;simp only[JT,List.getElem_drop,List.getElem_take];obtain ⟨m,rfl⟩:∃m,l=m+1:=⟨l-1,by omega⟩
 have e1:w[i+m]?=some w[i+m]:=Qf (by omega)
 have e2:w[i+m+1]?=some w[i+(m+1)]:=Qf (by omega)
 have e3:w[i+k]?=some w[i+k]:=Qf (by omega)
 rw[h.next e1 e2];exact r.first (i+m) (by omega) (i+k) (by omega) _ _ e3 e1
end
def hadO(f:Int×Int->Int)(i:Nat):Option Int->Int
 |none=>0
 |some t=>f ((i:Int),t)
def plF(n:Nat):Option Int->Nat
 |none=>n
 |some t=>t.toNat
def unpl(n b:Nat):Option Int:=if b=n then none else some (b:Int)
def totF(f:Int×Int->Int)(k:Nat):LO->Int
 |[]=>0
 |o::r=>hadO f k o+totF f (k+1) r
theorem zjy(f:Int×Int->Int){o':Option Int}:∀{d:LO}{k i:Nat}{o:Option Int},d[i]?=some o->totF f k (d.set i o')=totF f k d+hadO f (k+i) o'-hadO f (k+i) o
 |[],_,_,_,h=>by cases h
 |x::d,k,0,o,h=>by
  cases h;show hadO f k o'+totF f (k+1) d=hadO f k x+totF f (k+1) d+hadO f k o'-hadO f k x
  omega
 |x::d,k,i+1,o,h=>by
  rw[List.set_cons_succ];unfold totF;rw[zjy f (d:=d) (k:=k+1) (i:=i) (o:=o) (by simpa using h),show k+1+i=k+(i+1) by omega]
  omega
theorem zhW{o' x:Option Int}:∀{d:LO}{i:Nat}{o:Option Int},d[i]?=some o->(((d.set i o').count x:Nat):Int)=(d.count x:Nat)+(if o'=x then 1 else 0)-(if o=x then 1 else 0)
 |[],_,_,h=>by cases h
 |y::d,0,o,h=>by
  cases h;rw[List.set_cons_zero,JM,JM]
  by_cases h1:o'=x <;> by_cases h2:y=x <;> simp[h1,h2] <;> omega
 |y::d,i+1,o,h=>by
  have ih:=zhW (o':=o') (x:=x) (d:=d) (i:=i) (o:=o) (by simpa using h)
  rw[List.set_cons_succ,JM,JM];omega
structure zcF(cs:List Int)(qs:LP)(m:Nat)(ws:LO):Prop where
 len:ws.length=m
 wish:∀(i:Nat) t,ws[i]?=some (some t)->((i:Int),t)∈qs
 cop:∀(k:Nat) c,cs[k]?=some c->((ws.count (some (k:Int)):Nat):Int)<=c
structure zdg(n m:Nat)(qs:LP):Prop where
 nd:qs.Nodup
 lo:∀q∈qs,0<=q.1/\q.1<m/\0<=q.2/\q.2<n
inductive IsSt(cs:List Int)(f:Int×Int->Int)(qs:LP)(ws:LO):Stp->Prop where
 |mv {i:Nat} {o o':Option Int} (h:ws[i]?=some o) (hne:o'≠o) (hq:∀t,o'=some t->((i:Int),t)∈qs):IsSt cs f qs ws ⟨plF cs.length o,plF cs.length o',hadO f i o'-hadO f i o,some i⟩
 |left {t:Nat} {c:Int} (h:cs[t]?=some c) (hl:((ws.count (some (t:Int)):Nat):Int)<c):IsSt cs f qs ws ⟨t,cs.length,0,none⟩
 |give {t:Nat} (h:t<cs.length):IsSt cs f qs ws ⟨cs.length,t,0,none⟩
def app(n:Nat)(d:LO)(s:Stp):LO:=match s.w with
 |some i=>d.set i (unpl n s.b)
 |none=>d
def nIn(t:Nat)(R:List Stp):Nat:=(R.filter λs=>s.w.isSome&&s.b==t).length
def nOut(t:Nat)(R:List Stp):Nat:=(R.filter λs=>s.w.isSome&&s.a==t).length
section
variable{cs:List Int}{f:Int×Int->Int}{qs:LP}{m:Nat}{ws:LO}
theorem zsq(hp:zdg cs.length m qs){i:Nat}{o:Option Int}(h:∀t,o=some t->((i:Int),t)∈qs):unpl cs.length (plF cs.length o)=o:=by
 cases o with
 |none=>unfold unpl plF;rw[Qn rfl]
 |some t=>
  have:=hp.lo _ (h t rfl)
  show (if t.toNat=cs.length then none else some ((t.toNat:Nat):Int))=some t;rw[QA (by omega)]
  congr 1
  omega
theorem zjz(hp:zdg cs.length m qs){i:Nat}{o:Option Int}{t:Nat}(ht:t<cs.length)(h:∀t,o=some t->((i:Int),t)∈qs):plF cs.length o=t ↔ o=some (t:Int):=by
 cases o with
 |none=>exact ⟨λe=>by have e:cs.length=t:=e;omega,λe=>by cases e⟩
 |some u=>
  have:=hp.lo _ (h u rfl)
  show u.toNat=t ↔ _;constructor
  ·intro e;congr 1;omega
  ·intro e;cases e;omega
theorem zeW(hp:zdg cs.length m qs)(hd:zcF cs qs m ws):∀(R:List Stp)(d:LO),(∀s∈R,IsSt cs f qs ws s)->(R.map Stp.a).Nodup->(∀s∈R,∀i,s.w=some i->d[i]?=ws[i]?)->d.length=ws.length->(∀(i:Nat) t,d[i]?=some (some t)->((i:Int),t)∈qs) ->
  totF f 0 (R.foldl (app cs.length) d)=totF f 0 d+gain R/\(R.foldl (app cs.length) d).length=ws.length/\(∀(i:Nat) t,(R.foldl (app cs.length) d)[i]?=some (some t)->((i:Int),t)∈qs) /\
  ∀t,t<cs.length->(((R.foldl (app cs.length) d).count (some (t:Int)):Nat):Int)=(d.count (some (t:Int)):Nat)+(nIn t R:Nat)-(nOut t R:Nat)
 |[],d,_,_,_,hl,hq=>⟨by show _=_+gain [];rw[zjx];show totF f 0 d=_;omega,hl,hq,λt _=>by show ((d.count _:Nat):Int)=_+((0:Nat):Int)-((0:Nat):Int);omega⟩
 |s::R,d,hR,hn,ha,hl,hq=>by
  rw[QB,List.nodup_cons] at hn;have hgc:gain (s::R)=s.g+gain R:=by show gain ([s]++R)=_;rw[zbF,zdB]
  rw[JJ,hgc]
  cases hR s Qm with
  |@mv i o o' h hne hq'=>
   have hdi:d[i]?=some o:=(ha _ Qm i rfl).trans h;have ho:∀t,o=some t->((i:Int),t)∈qs:=λt e=>hd.wish i t (by rw[h,e])
   have hil:i<d.length:=(Qg.mp hdi).1
   have eapp:app cs.length d ⟨plF cs.length o,plF cs.length o',hadO f i o'-hadO f i o,some i⟩=d.set i o':=by
    show d.set i (unpl cs.length (plF cs.length o'))=_;rw[zsq hp hq']
   rw[eapp]
   obtain ⟨k1,k2,k3,k4⟩:=zeW hp hd R (d.set i o') (λs hs=>hR s (Qk _ hs)) hn.2 (λs hs j hj=>by
    have hji:i≠j:=λz=>by
     subst z
     cases hR s (Qk _ hs) with
     |@mv i2 o2 o2' h2 _ _=>
      cases hj;rw[h] at h2
      cases h2;exact hn.1 (Qt.mpr ⟨_,hs,rfl⟩)
     |left _ _=>cases hj
     |give _=>cases hj
    rw[Qo hji];exact ha s (Qk _ hs) j hj) (by rw[Q3];exact hl) (λj t e=>by
    by_cases z:i=j
    ·subst z
     rw[QC hil] at e;cases e;exact hq' t rfl
    ·rw[Qo z] at e;exact hq j t e)
   refine ⟨?_,k2,k3,λt ht=>?_⟩
   ·rw[k1,zjy f hdi,Q4]
    show _=totF f 0 d+((hadO f i o'-hadO f i o)+gain R);omega
   ·rw[k4 t ht,zhW hdi]
    have e1:(if o'=some (t:Int) then (1:Int) else 0)=if plF cs.length o'=t then 1 else 0:=by
     by_cases z:o'=some (t:Int)
     ·rw[Qn z,Qn ((zjz hp ht hq').mpr z)]
     ·rw[QA z,QA (λy=>z ((zjz hp ht hq').mp y))]
    have e2:(if o=some (t:Int) then (1:Int) else 0)=if plF cs.length o=t then 1 else 0:=by
     by_cases z:o=some (t:Int)
     ·rw[Qn z,Qn ((zjz hp ht ho).mpr z)]
     ·rw[QA z,QA (λy=>z ((zjz hp ht ho).mp y))]
    have e3:∀(x:Nat),((nIn t (⟨plF cs.length o,plF cs.length o',hadO f i o'-hadO f i o,some i⟩::R):Nat):Int)=(if plF cs.length o'=t then 1 else 0)+(nIn t R:Nat):=λx=>by
     unfold nIn;rw[List.filter_cons]
     by_cases z:plF cs.length o'=t
     ·rw[if_pos z,if_pos (by simp[z]),List.length_cons];omega
     ·rw[if_neg z,if_neg (by simp[z])];omega
    have e4:∀(x:Nat),((nOut t (⟨plF cs.length o,plF cs.length o',hadO f i o'-hadO f i o,some i⟩::R):Nat):Int)=(if plF cs.length o=t then 1 else 0)+(nOut t R:Nat):=λx=>by
     unfold nOut;rw[List.filter_cons]
     by_cases z:plF cs.length o=t
     ·rw[if_pos z,if_pos (by simp[z]),List.length_cons];omega
     ·rw[if_neg z,if_neg (by simp[z])];omega
    rw[e1,e2,e3 0,e4 0];omega
  |left _ _=>
   obtain ⟨k1,k2,k3,k4⟩:=zeW hp hd R d (λs hs=>hR s (Qk _ hs)) hn.2 (λs hs=>ha s (Qk _ hs)) hl hq;refine ⟨?_,k2,k3,k4⟩;show totF f 0 (R.foldl _ d)=totF f 0 d+(0+gain R);rw[k1];omega
  |give _=>
   obtain ⟨k1,k2,k3,k4⟩:=zeW hp hd R d (λs hs=>hR s (Qk _ hs)) hn.2 (λs hs=>ha s (Qk _ hs)) hl hq;refine ⟨?_,k2,k3,k4⟩;show totF f 0 (R.foldl _ d)=totF f 0 d+(0+gain R);rw[k1];omega
theorem zoY(t:Nat):∀R:List Stp,nIn t R<=(R.map Stp.b).count t
 |[]=>Qs _
 |s::R=>by
  have ih:=zoY t R;unfold nIn at ih ⊢;rw[List.filter_cons,QB,JM];split
  ·rename_i h
   rw[Jm] at h;rw[QK,Qn h.2];omega
  ·omega
theorem zol(hp:zdg cs.length m qs)(hd:zcF cs qs m ws){R:List Stp}(hR:∀s∈R,IsSt cs f qs ws s)(hn:(R.map Stp.a).Nodup)(hb:(R.map Stp.b).Perm (R.map Stp.a)):zcF cs qs m (R.foldl (app cs.length) ws)/\totF f 0 (R.foldl (app cs.length) ws)=totF f 0 ws+gain R:=by
 obtain ⟨k1,k2,k3,k4⟩:=zeW hp hd R ws hR hn (λs hs i e=>rfl) rfl hd.wish;refine ⟨⟨by rw[k2];exact hd.len,k3,λt c hc=>?_⟩,k1⟩
 have ht:t<cs.length:=(Qg.mp hc).1;rw[k4 t ht];have h0:=hd.cop t c hc;have h1:(R.map Stp.a).count t<=1:=List.nodup_iff_count.mp hn t;have h2:=zoY t R;rw[hb.count_eq] at h2
 by_cases z:nIn t R=0
 ·omega
 ·have hin:nIn t R=1:=by omega
  have hmem:t∈R.map Stp.a:=List.count_pos_iff.mp (by omega)
  obtain ⟨s,hs,hst⟩:=Qt.mp hmem
  cases hR s hs with
  |@mv i o o' h hne hq'=>
   have:1<=nOut t R:=by
    unfold nOut;exact List.length_pos_iff.mpr (List.ne_nil_of_mem (List.mem_filter.mpr ⟨hs,by simpa using hst⟩))
   omega
  |@left u c' h hl=>
   have hst:u=t:=hst;subst hst;rw[h] at hc;cases hc;omega
  |@give u h=>
   have hst:cs.length=t:=hst;omega
end
theorem zp0{S:List Stp}{q p:Nat}{w:List Stp}(h:Path S q w p):w.map Stp.a++[p]=q::w.map Stp.b:=by
 induction h with
 |nil p=>rfl
 |cons hs h ih=>rw[QB,QB,List.cons_append,ih]
theorem zks{S:List Stp}{x:Nat}{w:List Stp}(h:Path S x w x):(w.map Stp.b).Perm (w.map Stp.a):=by
 have e:=zp0 h;have p1:(w.map Stp.a++[x]).Perm (x::w.map Stp.a):=List.perm_append_comm;rw[e] at p1;exact List.Perm.cons_inv p1
def zcm(f:Int×Int->Int)(V:Nat->Int)(qs:LP)(i:Int):Int:=qs.foldl (λa q=>if q.1=i then max a (f q-V q.2.toNat) else a) 0
theorem zdC(f:Int×Int->Int)(V:Nat->Int)(i:Int):∀(qs:LP)(a:Int),a<=qs.foldl (λa q=>if q.1=i then max a (f q-V q.2.toNat) else a) a /\
  (∀q∈qs,q.1=i->f q-V q.2.toNat<=qs.foldl (λa q=>if q.1=i then max a (f q-V q.2.toNat) else a) a) /\
  ∀B,a<=B->(∀q∈qs,q.1=i->f q-V q.2.toNat<=B)->qs.foldl (λa q=>if q.1=i then max a (f q-V q.2.toNat) else a) a<=B
 |[],a=>⟨QT _,(λq h=>by cases h),λB h _=>h⟩
 |q::qs,a=>by
  rw[JJ];obtain ⟨h1,h2,h3⟩:=zdC f V i qs (if q.1=i then max a (f q-V q.2.toNat) else a);have hb:a<=(if q.1=i then max a (f q-V q.2.toNat) else a):=by split <;> omega
  refine ⟨JO hb h1,λp hp e=>?_,λB ha hB=>h3 B ?_ λp hp=>hB p (Qk _ hp)⟩
  ·rcases QR.mp hp with rfl|hp
   ·rw[Qn e] at h1 ⊢
    omega
   ·exact h2 p hp e
  ·have:=hB q Qm
   split
   ·rename_i e
    have:=this e
    omega
   ·exact ha
theorem zhX{f:Int×Int->Int}{ps:List Int}:∀(ws:LO)(k:Nat)(A:Nat->Int),(∀(j:Nat) o,ws[j]?=some o->A (k+j)=hadO f (k+j) o-(match o with|some t=>ps.getD t.toNat 0|none=>0))->((List.range' k ws.length).map A).sum=totF f k ws-pz ps ws
 |[],k,A,_=>by show (0:Int)=0-0;omega
 |o::ws,k,A,h=>by
  rw[QK,List.range'_succ,QB,Ua,zhX ws (k+1) A λj o' e=>by
   have:=h (j+1) o' (by simpa using e)
   rw[show k+1+j=k+(j+1) by omega]
   exact this]
  have h0:=h 0 o rfl;rw[Ue] at h0;rw[h0]
  cases o with
  |none=>show hadO f k none-0+(totF f (k+1) ws-pz ps ws)=hadO f k none+totF f (k+1) ws-(0+pz ps ws);omega
  |some t=>show hadO f k (some t)-ps.getD t.toNat 0+(totF f (k+1) ws-pz ps ws)=hadO f k (some t)+totF f (k+1) ws-(ps.getD t.toNat 0+pz ps ws);omega
section
variable{cs:List Int}{f:Int×Int->Int}{qs:LP}{m:Nat}{ws:LO}{S:List Stp}
theorem IsSt.lt(hp:zdg cs.length m qs)(hd:zcF cs qs m ws){s:Stp}(h:IsSt cs f qs ws s):s.a<cs.length+1/\s.b<cs.length+1:=by
 have key:∀{i:Nat}{o:Option Int},(∀t,o=some t->((i:Int),t)∈qs)->plF cs.length o<cs.length+1:=λ{i o} h=>by
  cases o with
  |none=>exact J6 _
  |some t=>have:=hp.lo _ (h t rfl);show t.toNat<_;omega
 cases h with
 |mv h hne hq=>exact ⟨key λt e=>hd.wish _ t (by rw[h,e]),key hq⟩
 |left h hl=>have:=(Qg.mp h).1;exact ⟨J0 this,J6 _⟩
 |give h=>exact ⟨J6 _,J0 h⟩
theorem zom{V:Nat->Int}(still:∀s∈S,V s.a+s.g<=V s.b){q p:Nat}{w:List Stp}(h:Path S q w p):V q+gain w<=V p:=by
 induction h with
 |nil p=>rw[zjx];omega
 |@cons s w p hs h ih=>
  have:=still s hs
  have e:gain (s::w)=s.g+gain w:=by show gain ([s]++w)=_;rw[zbF,zdB]
  omega
theorem zon(hp:zdg cs.length m qs)(hd:zcF cs qs m ws)(hin:∀s∈S,IsSt cs f qs ws s)(hall:∀s,IsSt cs f qs ws s->s∈S){V:Nat->Int}(hV:∀p,V p=(ent (zaR (cs.length+1) S (cs.length+1)) p).1)
  (still:∀p,p<cs.length+1->(ent (zaR (cs.length+1) S (cs.length+1)) p).2.length≠cs.length+1) :
  OkP cs.length m (λa b=>f (a,b)) qs 1 ((List.range m).map λi:Nat=>zcm f V qs (i:Int)) ((List.range cs.length).map V)/\zfz cs ((List.range m).map λi:Nat=>zcm f V qs (i:Int)) ((List.range cs.length).map V)=totF f 0 ws:=by
 have hS:∀s∈S,s.a<cs.length+1/\s.b<cs.length+1:=λs hs=>(hin s hs).lt hp hd;have st:∀s∈S,V s.a+s.g<=V s.b:=λs hs=>by rw[hV,hV];exact zkq hS (Ud _) still s hs
 have v0:∀p,0<=V p:=λp=>by
  have:=zfC hS (JG (cs.length+1)) p
  rw[zdA hS] at this;rw[hV];exact this
 have vn:V cs.length=0:=by
  obtain ⟨hw,hg⟩:=zcY hS (cs.length+1) cs.length;obtain ⟨q,hq⟩:=hw.path;have h1:=zom st hq;rw[hg,←hV] at h1;have h2:=v0 q
  by_cases z:q=cs.length
  ·rw[z] at h1 h2;omega
  ·have hql:q<cs.length:=by
    cases hw2:(ent (zaR (cs.length+1) S (cs.length+1)) cs.length).2 with
    |nil=>rw[hw2] at hq;cases hq;exact absurd rfl z
    |cons s w=>
     rw[hw2] at hq
     have:=(hS s hq.step.1).1
     rw[←hq.head] at this;omega
   have h3:=st _ (hall _ (.give hql));have h3:V cs.length+0<=V q:=h3
   have:=v0 cs.length
   omega
 have psD:∀k,k<cs.length->((List.range cs.length).map V).getD k 0=V k:=λk hk=>by
  rw[Qr,Qe,QX hk]
  rfl
 have ask:∀(i:Nat) o,ws[i]?=some o->zcm f V qs (i:Int)=hadO f i o-(match o with|some t=>((List.range cs.length).map V).getD t.toNat 0|none=>0):=λi o h=>by
  obtain ⟨a1,a2,a3⟩:=zdC f V (i:Int) qs 0
  cases o with
  |none=>
   have:zcm f V qs (i:Int)<=0:=a3 0 (QT _) λq hq e=>by
    have h1:=st _ (hall _ (.mv (f:=f) h (o':=some q.2) (by intro z;cases z) λt et=>by cases et;rw[←e];exact hq))
    have h1:V cs.length+(f ((i:Int),q.2)-0)<=V q.2.toNat:=h1;rw[←e] at h1
    have:f (q.1,q.2)=f q:=rfl
    omega
   show zcm f V qs (i:Int)=0-0
   have:0<=zcm f V qs (i:Int):=a1
   omega
  |some t=>
   have hq:=hd.wish i t h;have hb:=hp.lo _ hq;have hup:=st _ (hall _ (.mv (f:=f) h (o':=none) (by intro z;cases z) λt et=>by cases et))
   have hup:V t.toNat+(0-f ((i:Int),t))<=V cs.length:=hup;show zcm f V qs (i:Int)=f ((i:Int),t)-((List.range cs.length).map V).getD t.toNat 0;rw[psD t.toNat (by omega)]
   have lo:f ((i:Int),t)-V t.toNat<=zcm f V qs (i:Int):=a2 _ hq rfl
   have hi:zcm f V qs (i:Int)<=f ((i:Int),t)-V t.toNat:=a3 _ (by omega) λq hq e=>by
    by_cases z:q.2=t
    ·have:q=((i:Int),t):=by rw[←e,←z]
     rw[this];exact QT _
    ·have h1:=st _ (hall _ (.mv (f:=f) h (o':=some q.2) (by intro y;cases y;exact z rfl) λt et=>by cases et;rw[←e];exact hq))
     have h1:V t.toNat+(f ((i:Int),q.2)-f ((i:Int),t))<=V q.2.toNat:=h1
     have:f (((i:Int)),q.2)=f q:=by rw[←e]
     omega
   omega
 refine ⟨⟨by decide,by rw[Qb,Qu],by rw[Qb,Qu],λa ha=>?_,λp hp'=>?_,λq hq=>?_⟩,?_⟩
 ·obtain ⟨i,_,rfl⟩:=Qt.mp ha
  exact (zdC f V (i:Int) qs 0).1
 ·obtain ⟨i,_,rfl⟩:=Qt.mp hp'
  exact v0 i
 ·have hb:=hp.lo q hq
  rw[psD q.2.toNat (by omega),Qr,Qe,QX (by omega)]
  have h2:=(zdC f V q.1 qs 0).2.1 q hq rfl;show 1*f q<=zcm f V qs ((q.1.toNat:Nat):Int)+V q.2.toNat;have e:((q.1.toNat:Nat):Int)=q.1:=by omega
  rw[e];have h2:f q-V q.2.toNat<=zcm f V qs q.1:=h2;omega
 ·unfold zfz
  rw[List.range_eq_range' (n:=m),←hd.len,zhX (f:=f) (ps:=(List.range cs.length).map V) ws 0 (λi:Nat=>zcm f V qs (i:Int)) λj o e=>by rw[Q4];exact ask j o e]
  have hth:∀t,some t∈ws->0<=t/\t<cs.length:=λt ht=>by
   obtain ⟨i,hi⟩:=List.mem_iff_getElem?.mp ht
   have:=hp.lo _ (hd.wish i t hi)
   exact ⟨this.2.2.1,this.2.2.2⟩
  rw[zhT ws hth,zko _ _ (by rw[Qb,Qu])]
  have e:sumF cs.length (λk=>cs.getD k 0*((List.range cs.length).map V).getD k 0)=sumF cs.length λk=>((ws.count (some (k:Int)):Nat):Int)*((List.range cs.length).map V).getD k 0:=zey λk hk=>by
   rw[psD k hk];have hc:cs[k]?=some (cs.getD k 0):=by rw[Qr,Qf hk];rfl
   have hle:=hd.cop k _ hc
   by_cases z:((ws.count (some (k:Int)):Nat):Int)=cs.getD k 0
   ·rw[z]
   ·have h1:=st _ (hall _ (.left (f:=f) (qs:=qs) hc (by omega)))
    have h1:V k+0<=V cs.length:=h1
    have:=v0 k
    have hz:V k=0:=by omega
    rw[hz,Int.mul_zero,Int.mul_zero]
  rw[e];omega
end
def askD:Option Nat->D
 |some i=>.int i
 |none=>.none
def stpD(s:Stp):D:=.tuple [.int s.a,.int s.b,.int s.g,askD s.w]
def zcx(x:Int×List Stp):D:=.tuple [.int x.1,.list (x.2.map stpD)]
def uncV(V:Int->Int->Int)(q:Int×Int):Int:=V q.1 q.2
def stA1(n:Nat)(f:Int×Int->Int)(ws:LO):List Stp:=(List.range ws.length).filterMap λi=>match ws.getD i none with
 |none=>none
 |some t=>some ⟨t.toNat,n, -(hadO f i (some t)),some i⟩
def stA2(n:Nat)(f:Int×Int->Int)(qs:LP)(ws:LO):List Stp:=qs.filterMap λq=>if ws.getD q.1.toNat none≠some q.2 then some ⟨plF n (ws.getD q.1.toNat none),q.2.toNat,f q-hadO f q.1.toNat (ws.getD q.1.toNat none),some q.1.toNat⟩ else none
def stC1(cs:List Int)(ws:LO):List Stp:=(List.range cs.length).filterMap λt=>if 0<cs.getD t 0-((ws.count (some (t:Int)):Nat):Int) then some ⟨t,cs.length,0,none⟩ else none
def stC2(n:Nat):List Stp:=(List.range n).map λt=>⟨n,t,0,none⟩
def zdt(cs:List Int)(f:Int×Int->Int)(qs:LP)(ws:LO):List Stp:=stA1 cs.length f ws++stA2 cs.length f qs ws++(stC1 cs ws++stC2 cs.length)
theorem zmW{m j:Nat}{h h':Nat->Int}(hj:j<m)(e:∀i,i≠j->h' i=h i):(((List.range m).map h).map int).set j (.int (h' j))=((List.range m).map h').map int:=by
 apply List.ext_getElem?;intro i
 by_cases z:j=i
 ·subst z
  rw[QC (by rw[Qb,Qb,Qu];exact hj),Qe,Qe,QX hj]
  rfl
 ·rw[Qo z,Qe,Qe,Qe,Qe]
  by_cases hi:i<m
  ·rw[QX hi]
   show some (int (h i))=some (int (h' i));rw[e i λy=>z y.symm]
  ·rw[Jf (by rw[Qu];omega)]
   rfl
theorem zjA{m:Nat}{h:Nat->Int}{j:Nat}(hj:j<m):oIx (.list (((List.range m).map h).map int)) (.int (j:Int))=some (.int (h j)):=za0 (by rw[Qe,Qe,QX hj];rfl)
section
variable{cs:List Int}{ls:L3}{ws:LO}{V:Int->Int->Int}{qs:LP}
theorem ziU{n:Nat}{o:Option Int}(h:∀t,o=some t->0<=t):F_aw [.int n,optD o]=some (.int (plF n o)):=by
 refine za3 (Z:=[some (.pub (.int n)),some (.pub (optD o))]) rfl ?_;unfold g_aw
 cases o with
 |none=>exact zaD (zoK (zaK (k:=isNon) (x:=PyData.none) (zad rfl)) (zad rfl)) rfl
 |some t=>
  refine zaD (zly (zaK (k:=isNon) (x:=int t) (zad rfl)) (zad rfl)) ?_
  have:=h t rfl
  show Out.rt (.int t)=Out.rt (.int ((t.toNat:Nat):Int));rw[show ((t.toNat:Nat):Int)=t by omega]
def zcG(V:Int->Int->Int)(ws:LO)(qs:LP)(i:Nat):Int:=match ws.getD i none with
 |none=>0
 |some t=>if ((i:Int),t)∈qs then V i t else 0
theorem ziV{k:Int}(h0:0<=k)(h1:k<ws.length):oIx (zaU ws) (.int k)=some (optD (ws.getD k.toNat none)):=by
 obtain ⟨j,rfl⟩:∃j:Nat,k=j:=⟨k.toNat,by omega⟩
 refine za0 ?_;rw[Qe,Qz,Qr,Qf (by omega)]
 rfl
theorem zjB{i:Nat}{o:Option Int}(h:ws[i]?=some o):ws.getD i none=o:=by rw[Qr,h];rfl
theorem zmX(hp:zdg cs.length ws.length qs)(hd:zcF cs qs ws.length ws)(hm:ws.length<=1000)(hq1:qs.length<=1000):F_ax [.int (cs.length:Nat),.list (qs.map (zbV V)),zaU ws]=some (.list ((stA1 cs.length (uncV V) ws++stA2 cs.length (uncV V) qs ws).map stpD)):=by
 refine za3 (Z:=[some (.pub (.int (cs.length:Nat))),some (.pub (.list (qs.map (zbV V)))),some (.pub (zaU ws)),none,none,none,none,none]) rfl ?_;unfold g_ax;have hlen:oLen [zaU ws]=some (.int ws.length):=by show oLen [.list (ws.map optD)]=_;rw[zaM,Qb]
 have pos:∀i t,ws.getD i none=some t->i<ws.length/\((i:Int),t)∈qs:=λi t e=>by
  by_cases hi:i<ws.length
  ·rw[Qr,Qf hi] at e
   exact ⟨hi,hd.wish i t (by rw[Qf hi];exact congrArg some e)⟩
  ·rw[Qr,Jf (by omega)] at e;cases e
 refine zaq (zbB (zlR (n:=ws.length) (zbN (zab zag zai) (Qa rfl)) (zbc rfl hlen) hm) (Qa rfl) rfl) ?_;apply zaG;apply zby (λk Z=>∃x4 x5 x6,Z=[some (.pub (.int (cs.length:Nat))),some (.pub (.list (qs.map (zbV V)))),some (.pub (zaU ws)),some (.own (((List.range ws.length).map (zcG V ws (qs.take k))).map int)),x4,x5,x6,none])
 case h1=>exact zaQ (zad rfl) zbm
 case h0=>
  refine ⟨none,none,none,?_⟩
  have e:((List.range ws.length).map (zcG V ws (qs.take 0))).map int=replicate ws.length (.int 0):=by
   rw[List.eq_replicate_iff];refine ⟨by rw[Qb,Qb,Qu],λb hb=>?_⟩
   obtain ⟨x,hx,rfl⟩:=Qt.mp hb;obtain ⟨i,_,rfl⟩:=Qt.mp hx;unfold zcG;split
   ·rfl
   ·rw[if_neg (by rw[List.take_zero];simp)]
  rw[e]
  rfl
 case hst=>
  rintro k d Z hk ⟨x4,x5,x6,rfl⟩;rw[Qe] at hk
  cases hq:qs[k]? with
  |none=>rw[hq] at hk;cases hk
  |some q=>
  rw[hq] at hk;cases hk;have hb:=hp.lo q (Qp hq);refine ⟨_,tg_T rfl (tg_C (tg_N (Qa rfl) rfl) (tg_C (tg_N (Qa rfl) rfl) (tg_C (tg_N (Qa rfl) rfl) tg_0))),?_⟩;unfold zmc;have hta:qs.take (k+1)=qs.take k++[q]:=by rw[JH,hq];rfl
  apply za9
  case h1=>exact zap (za6 rfl (zad rfl) (ziV hb.1 hb.2.1)) (zad rfl) (zmG (b:=some q.2))
  case h2=>
   intro hh;have hh:ws.getD q.1.toNat none=some q.2:=Qa hh;refine zbl (zfm (zad rfl) rfl (zad rfl) rfl ⟨hb.1,by rw[Qb,Qb,Qu];exact hb.2.1⟩ rfl) (zaW ⟨some (.pub (.int q.1)),some (.pub (.int q.2)),some (.pub (.int (V q.1 q.2))),?_⟩)
   have e:=zmW (m:=ws.length) (j:=q.1.toNat) (h:=zcG V ws (qs.take k)) (h':=zcG V ws (qs.take (k+1))) (by omega) λi hne=>by
    unfold zcG
    cases ws.getD i none with
    |none=>rfl
    |some t=>
     dsimp only;rw[hta]
     by_cases z:((i:Int),t)∈qs.take k
     ·rw[Qn z,Qn (Q7 _ z)]
     ·rw[QA z,QA]
      intro y;rcases QS.mp y with y|y
      ·exact z y
      ·have:=Q0.mp y
       rw[←this] at hne;exact hne (by show i=((i:Int)).toNat;rw[Qz])
   have ev:zcG V ws (qs.take (k+1)) q.1.toNat=V q.1 q.2:=by
    unfold zcG;rw[hh];have ei:((q.1.toNat:Nat):Int)=q.1:=by omega
    dsimp only;rw[ei,if_pos (by rw[hta];exact List.mem_append_right _ (by simp))]
   rw[ev] at e;rw[←e]
   rfl
  case h3=>
   intro hh;have hh:¬ws.getD q.1.toNat none=some q.2:=Jl hh;refine zbh (zaW ⟨some (.pub (.int q.1)),some (.pub (.int q.2)),some (.pub (.int (V q.1 q.2))),?_⟩)
   have e:(List.range ws.length).map (zcG V ws (qs.take (k+1)))=(List.range ws.length).map (zcG V ws (qs.take k)):=List.map_congr_left λi _=>by
    unfold zcG
    cases hw:ws.getD i none with
    |none=>rfl
    |some t=>
     dsimp only;rw[hta]
     by_cases z:((i:Int),t)∈qs.take k
     ·rw[Qn z,Qn (Q7 _ z)]
     ·rw[QA z,QA]
      intro y;rcases QS.mp y with y|y
      ·exact z y
      ·have y:=Q0.mp y
       rw[←y] at hh;exact hh (by show ws.getD ((i:Int)).toNat none=some t;rw[Qz];exact hw)
   rw[e]
   rfl
 case hend=>
  rintro Z ⟨x4,x5,x6,rfl⟩;refine zat ?_;have hth:qs.take (qs.map (zbV V)).length=qs:=by rw[Qb,Jz]
  rw[hth]
  have hadE:∀i,zcG V ws qs i=hadO (uncV V) i (ws.getD i none):=λi=>by
   unfold zcG
   cases hw:ws.getD i none with
   |none=>rfl
   |some t=>exact Qn (pos i t hw).2
  have hc:∀y4 y5 y6 y7:Option Sl,zbG (gT 2 (gNC (gN 8) (gNC (gN 9) (gN0)))) (mMap (λd=>!isNon d) (dVar 9)) (mTup (zae (dVar 9) (zae (dVar 0) (zae (dNeg (dIxN 3 (dVar 8))) (zae (dVar 8) (mNil)))))) (zcO 0 (ws.map optD)) ([some (.pub (.int (cs.length:Nat))),some (.pub (.list (qs.map (zbV V)))),some (.pub (zaU ws)),some (.pub (.list (((List.range ws.length).map (zcG V ws qs)).map int))),y4,y5,y6,y7]++replicate 2 none) []=some ((stA1 cs.length (uncV V) ws).map stpD):=by
   intro y4 y5 y6 y7
   have em:(stA1 cs.length (uncV V) ws).map stpD=((List.range ws.length).map λi=>(match ws.getD i none with|none=>none|some t=>some (stpD ⟨t.toNat,cs.length, -(hadO (uncV V) i (some t)),some i⟩):Option D)).filterMap id:=by
    unfold stA1;rw[List.map_filterMap,List.filterMap_map]
    congr 1
    funext i
    dsimp only[Function.comp,id]
    cases ws.getD i none <;> rfl
   rw[em];refine zeh (λZ=>∃z4 z5 z6 z7 x y,Z=[some (.pub (.int (cs.length:Nat))),some (.pub (.list (qs.map (zbV V)))),some (.pub (zaU ws)),some (.pub (.list (((List.range ws.length).map (zcG V ws qs)).map int))),z4,z5,z6,z7,x,y]) _ _ _ _ (by rw[Qb,Qu,zaF,Qb]) ?_ ⟨y4,y5,y6,y7,none,none,rfl⟩ (by rw[zaF,Qb,QE];omega)
   rintro i d e hdd he Z ⟨z4,z5,z6,z7,x,y,rfl⟩;obtain ⟨z,hz,rfl⟩:=zbO hdd;rw[Qe] at hz
   cases hw:ws[i]? with
   |none=>rw[hw] at hz;cases hz
   |some o=>
   rw[hw] at hz;cases hz;have hil:i<ws.length:=(Qg.mp hw).1;have hg:=zjB hw;rw[Qe,QX hil] at he;have he:some (match ws.getD i none with|none=>none|some t=>some (stpD ⟨t.toNat,cs.length, -(hadO (uncV V) i (some t)),some i⟩):Option D)=some e:=he
   rw[hg] at he;cases he;rw[Q4];refine ⟨_,tg_T rfl (tg_C (tg_N (Qa rfl) rfl) (tg_C (tg_N (Qa rfl) rfl) tg_0)),?_,?_,_,_,_,_,_,_,rfl⟩
   ·cases o with
    |none=>exact zaK (k:=λd=>!isNon d) (x:=PyData.none) (zad rfl)
    |some t=>exact zaK (k:=λd=>!isNon d) (x:=int t) (zad rfl)
   ·intro v hv
    cases o with
    |none=>cases hv
    |some t=>
     cases hv;have hb:=hp.lo _ (pos i t hg).2
     have et:((t.toNat:Nat):Int)=t:=by have:=hb.2.2.1;omega
     show _=Res.ok (PyData.tuple [.int ((t.toNat:Nat):Int),.int ((cs.length:Nat):Int),.int (-(hadO (uncV V) i (some t))),.int (i:Nat)]) _;rw[et,show hadO (uncV V) i (some t)=zcG V ws qs i by rw[hadE,hg]]
     exact zcd (zab (zad rfl) (zab (zad rfl) (zab (zhk (za6 rfl (zad rfl) (zjA hil))) (zab (zad rfl) zai)))) (Qa rfl)
  have nlS:∀S:List Stp,(S.map stpD).all nl0=true:=λS=>QW.mpr λd hd=>by
   obtain ⟨s,_,rfl⟩:=Qt.mp hd;obtain ⟨a,b,g,w⟩:=s
   cases w <;> rfl
  have hcl:∀x4 x5 x6:Option Sl,zdN (zci (zdH (zae (dVar 2) (mNil))) 2 (gT 2 (gNC (gN 8) (gNC (gN 9) (gN0)))) (mMap (λd=>!isNon d) (dVar 9)) (mTup (zae (dVar 9) (zae (dVar 0) (zae (dNeg (dIxN 3 (dVar 8))) (zae (dVar 8) (mNil))))))) [some (.pub (.int (cs.length:Nat))),some (.pub (.list (qs.map (zbV V)))),some (.pub (zaU ws)),some (.own (((List.range ws.length).map (zcG V ws qs)).map int)),x4,x5,x6,none]=.ok ((stA1 cs.length (uncV V) ws).map stpD) [some (.pub (.int (cs.length:Nat))),some (.pub (.list (qs.map (zbV V)))),some (.pub (zaU ws)),some (.own (((List.range ws.length).map (zcG V ws qs)).map int)),x4,x5,x6,none]:=λx4 x5 x6=>
   zn3 (Z':=zcA [some (.pub (.int (cs.length:Nat))),some (.pub (.list (qs.map (zbV V)))),some (.pub (zaU ws)),some (.own (((List.range ws.length).map (zcG V ws qs)).map int)),x4,x5,x6,none]) (zbw (zck (zab (zad rfl) zai) zb4) (hc _ _ _ _)) (nlS _)
  refine zaq (zbB (hcl _ _ _) (Qa rfl) rfl) ?_;apply zaG;apply zby (λk Z=>∃x4 x5 x6,Z=[some (.pub (.int (cs.length:Nat))),some (.pub (.list (qs.map (zbV V)))),some (.pub (zaU ws)),some (.own (((List.range ws.length).map (zcG V ws qs)).map int)),x4,x5,x6,some (.own ((stA1 cs.length (uncV V) ws++stA2 cs.length (uncV V) (qs.take k) ws).map stpD))])
  case h1=>exact zaQ (zad rfl) zbm
  case h0=>exact ⟨_,_,_,by rw[J4];show _=[_,_,_,_,_,_,_,some (Sl.own ((stA1 cs.length (uncV V) ws++[]).map stpD))];rw[Jb];rfl⟩
  case hst=>
   rintro k d Z hk ⟨x4,x5,x6,rfl⟩;rw[Qe] at hk
   cases hq:qs[k]? with
   |none=>rw[hq] at hk;cases hk
   |some q=>
   rw[hq] at hk;cases hk;have hb:=hp.lo q (Qp hq);have hta:qs.take (k+1)=qs.take k++[q]:=by rw[JH,hq];rfl
   have hkl:k<qs.length:=(Qg.mp hq).1
   have hsz:((stA1 cs.length (uncV V) ws++stA2 cs.length (uncV V) (qs.take k) ws).map stpD).length<1000000:=by
    rw[Qb,Ql];have h1:(stA1 cs.length (uncV V) ws).length<=ws.length:=by unfold stA1;have:=Jd (λi=>match ws.getD i none with|none=>none|some t=>some (⟨t.toNat,cs.length, -(hadO (uncV V) i (some t)),some i⟩:Stp)) (List.range ws.length);rw[Qu] at this;exact this
    have h2:(stA2 cs.length (uncV V) (qs.take k) ws).length<=qs.length:=by unfold stA2;refine QH (Jd _ _) ?_;rw[QP];omega
    omega
   refine ⟨_,tg_T rfl (tg_C (tg_N (Qa rfl) rfl) (tg_C (tg_N (Qa rfl) rfl) (tg_C (tg_N (Qa rfl) rfl) tg_0))),?_⟩;unfold zmb;have e2:∀r:List Stp,stA2 cs.length (uncV V) [q] ws=r->stA2 cs.length (uncV V) (qs.take (k+1)) ws=stA2 cs.length (uncV V) (qs.take k) ws++r:=λr hr=>by rw[hta];unfold stA2 at hr ⊢;rw[List.filterMap_append,hr]
   apply za9
   case h1=>exact zap (za6 rfl (zad rfl) (ziV hb.1 hb.2.1)) (zad rfl) (zrr (b:=some q.2))
   case h2=>
    intro hh;have hh:¬ws.getD q.1.toNat none=some q.2:=by simpa using hh
    have hpl:F_aw [.int (cs.length:Nat),optD (ws.getD q.1.toNat none)]=some (.int (plF cs.length (ws.getD q.1.toNat none))):=ziU λt e=>by have:=hp.lo _ (pos _ t e).2;exact this.2.2.1
    refine zbl (zd1 rfl (zcd (zab (zav (zab (zad rfl) (zab (za6 rfl (zad rfl) (ziV hb.1 hb.2.1)) zai)) rfl hpl) (zab (zad rfl) (zab (zap (zad rfl) (zdZ rfl (zad rfl) rfl (show oIx _ (.int q.1)=some (.int (zcG V ws qs q.1.toNat)) from by have:=zjA (m:=ws.length) (h:=zcG V ws qs) (j:=q.1.toNat) (by omega);rw[show ((q.1.toNat:Nat):Int)=q.1 by omega] at this;exact this)) zbZ) (zab (zad rfl) zai)))) (Qa rfl)) rfl hsz rfl) (zaW ⟨some (.pub (.int q.1)),some (.pub (.int q.2)),some (.pub (.int (V q.1 q.2))),?_⟩)
    have er:stA2 cs.length (uncV V) [q] ws=[⟨plF cs.length (ws.getD q.1.toNat none),q.2.toNat,uncV V q-hadO (uncV V) q.1.toNat (ws.getD q.1.toNat none),some q.1.toNat⟩]:=by
     unfold stA2;rw[Jn,Qn hh]
     rfl
    rw[e2 _ er,←Q8,QF (l₂:=[_])];show _=[_,_,_,_,_,_,_,some (Sl.own (_++[PyData.tuple [_,.int ((q.2.toNat:Nat):Int),.int (uncV V q-hadO (uncV V) q.1.toNat (ws.getD q.1.toNat none)),.int ((q.1.toNat:Nat):Int)]]))];rw[show ((q.2.toNat:Nat):Int)=q.2 by omega,show ((q.1.toNat:Nat):Int)=q.1 by omega,←hadE]
    rfl
   case h3=>
    intro hh;have hh:ws.getD q.1.toNat none=some q.2:=by simpa using hh
    refine zbh (zaW ⟨some (.pub (.int q.1)),some (.pub (.int q.2)),some (.pub (.int (V q.1 q.2))),?_⟩)
    have er:stA2 cs.length (uncV V) [q] ws=[]:=by
     unfold stA2;rw[List.filterMap_cons,if_neg (by rw[hh];simp)]
     rfl
    rw[e2 _ er,Jb]
    rfl
  case hend=>
   rintro Z ⟨x4,x5,x6,rfl⟩;rw[hth];exact zat (zaD (zbD rfl rfl) rfl)
end
section
variable{cs:List Int}{ls:L3}{ws:LO}{V:Int->Int->Int}{qs:LP}
theorem zmY(g:Good cs ls)(hm:ws.length=ls.length):F_ay [zaw cs ls,zaU ws]=some (.list ((stC1 cs ws++stC2 cs.length).map stpD)):=by
 refine za3 (Z:=[some (.pub (zaw cs ls)),some (.pub (zaU ws)),none,none,none]) rfl ?_;unfold g_ay;have c6:=g.c6;have hlc:oLen [.list (cs.map int)]=some (.int cs.length):=by rw[zaM,Qb]
 refine zaq (zaS (zaV (zab (za6 rfl zag zfK) zai) hlc) (Qa rfl) rfl) ?_;refine zaq (zaS (zav (zab (zad rfl) (zab (zad rfl) zai)) rfl (zfL g)) (Qa rfl) rfl) ?_;have hll:(zee cs ws).length=cs.length:=by unfold zee;rw[Qb,Qu]
 have hc:zbG (gT 2 (gNC (gN 5) (gNC (gN 6) (gN0)))) (zce (oIB λi j=>decide (j<i)) 6 (zah (.int 0))) (mTup (zae (dVar 5) (zae (dVar 2) (zae (zah (.int 0)) (zae (zah .none) (mNil)))))) (zcO 0 ((zee cs ws).map int)) (zaP [some (.pub (zaw cs ls)),some (.pub (zaU ws)),some (.pub (.int cs.length)),some (.pub (.list ((zee cs ws).map int))),none]++replicate 2 none) []=some ((stC1 cs ws).map stpD):=by
  have em:(stC1 cs ws).map stpD=((List.range cs.length).map λt=>(if 0<cs.getD t 0-((ws.count (some (t:Int)):Nat):Int) then some (stpD ⟨t,cs.length,0,none⟩) else none:Option D)).filterMap id:=by
   unfold stC1;rw[List.map_filterMap,List.filterMap_map]
   congr 1
   funext i
   dsimp only[Function.comp,id]
   split <;> rfl
  rw[em];refine zeh (λZ=>∃x y,Z=[some (.pub (zaw cs ls)),some (.pub (zaU ws)),some (.pub (.int cs.length)),some (.pub (.list ((zee cs ws).map int))),none,x,y]) _ _ _ _ (by rw[Qb,Qu,zaF,Qb,hll]) ?_ ⟨none,none,rfl⟩ (by rw[zaF,Qb,hll,QE];omega)
  rintro i d e hd he Z ⟨x,y,rfl⟩;obtain ⟨z,hz,rfl⟩:=zbO hd;rw[Qe] at hz
  have hil:i<cs.length:=by
   rw[←hll]
   cases hw:(zee cs ws)[i]? with
   |none=>rw[hw] at hz;cases hz
   |some v=>exact (Qg.mp hw).1
  have hlv:(zee cs ws)[i]?=some (cs.getD i 0-((ws.count (some (i:Int)):Nat):Int)):=by unfold zee;rw[Qe,QX hil];rfl
  rw[hlv] at hz;cases hz;rw[Qe,QX hil] at he;cases he;rw[Q4];refine ⟨_,tg_T rfl (tg_C (tg_N (Qa rfl) rfl) (tg_C (tg_N (Qa rfl) rfl) tg_0)),?_,?_,_,_,rfl⟩
  ·have e:(if 0<cs.getD i 0-((ws.count (some (i:Int)):Nat):Int) then some (stpD ⟨i,cs.length,0,none⟩) else none:Option D).isSome=decide (0<cs.getD i 0-((ws.count (some (i:Int)):Nat):Int)):=by
    by_cases h:0<cs.getD i 0-((ws.count (some (i:Int)):Nat):Int)
    ·rw[Qn h,Q9 h];rfl
    ·rw[QA h,QQ h];rfl
   rw[e];exact zbE rfl zag rfl
  ·intro v hv
   dsimp only at hv
   split at hv
   ·cases hv
    exact zcd (zab (zad rfl) (zab (zad rfl) (zab zag (zab zag zai)))) (Qa rfl)
   ·cases hv
 refine zaq (zbB (zbw (zck (zab (zad rfl) zai) zb4) hc) (Qa rfl) rfl) ?_;have hrl:(zbW 0 (cs.length:Int)).length=cs.length:=by rw[za7];omega
 have hc2:∀x4:Option Sl,zbG (gN 5) (zah true) (mTup (zae (dVar 2) (zae (dVar 5) (zae (zah (.int 0)) (zae (zah .none) (mNil)))))) (zbW 0 (cs.length:Int)) (zaP [some (.pub (zaw cs ls)),some (.pub (zaU ws)),some (.pub (.int cs.length)),some (.pub (.list ((zee cs ws).map int))),x4]++replicate 1 none) []=some ((stC2 cs.length).map stpD):=λx4=>by
  refine zbv (λZ=>∃z x,Z=[some (.pub (zaw cs ls)),some (.pub (zaU ws)),some (.pub (.int cs.length)),some (.pub (.list ((zee cs ws).map int))),z,x]) _ _ _ _ (by unfold stC2;rw[Qb,Qb,Qu,hrl]) ?_ ⟨_,none,rfl⟩ (by rw[hrl,QE];omega)
  rintro i d e hd he Z ⟨z,x,rfl⟩;obtain ⟨rfl,hlt⟩:=zcc hd;unfold stC2 at he;rw[Qe,Qe,QX (by omega)] at he
  cases he;rw[J7];exact ⟨_,tg_N (Qa rfl) rfl,rfl,zcd (zab (zad rfl) (zab (zad rfl) (zab zag (zab zag zai)))) (Qa rfl),_,_,rfl⟩
 have h1:(stC1 cs ws).length<=cs.length:=by unfold stC1;have:=Jd (λt=>if 0<cs.getD t 0-((ws.count (some (t:Int)):Nat):Int) then some (⟨t,cs.length,0,none⟩:Stp) else none) (List.range cs.length);rw[Qu] at this;exact this
 have h2:(stC2 cs.length).length=cs.length:=by unfold stC2;rw[Qb,Qu]
 refine zaD (zap (zbD rfl rfl) (zaK (zbw (zc6 (zab (zad rfl) zai) (zct (by omega) (by omega))) (hc2 _))) (zb3 (by rw[Qb,Qb];omega))) ?_
 rw[QF]
theorem zeM(g:Good cs ls)(hm:ws.length=ls.length)(hp:zdg cs.length ws.length qs)(hd:zcF cs qs ws.length ws)(hq1:qs.length<=1000):F_az [zaw cs ls,.list (qs.map (zbV V)),zaU ws]=some (.list ((zdt cs (uncV V) qs ws).map stpD)):=by
 refine za3 (Z:=[some (.pub (zaw cs ls)),some (.pub (.list (qs.map (zbV V)))),some (.pub (zaU ws))]) rfl ?_;unfold g_az;have c6:=g.c6;have l7:=g.l7;have hlc:oLen [.list (cs.map int)]=some (.int (cs.length:Nat)):=by rw[zaM,Qb]
 have h1:(stA1 cs.length (uncV V) ws).length<=ws.length:=by unfold stA1;have:=Jd (λi=>match ws.getD i none with|none=>none|some t=>some (⟨t.toNat,cs.length, -(hadO (uncV V) i (some t)),some i⟩:Stp)) (List.range ws.length);rw[Qu] at this;exact this
 have h2:(stA2 cs.length (uncV V) qs ws).length<=qs.length:=by unfold stA2;exact Jd _ _
 have h3:(stC1 cs ws).length<=cs.length:=by unfold stC1;have:=Jd (λt=>if 0<cs.getD t 0-((ws.count (some (t:Int)):Nat):Int) then some (⟨t,cs.length,0,none⟩:Stp) else none) (List.range cs.length);rw[Qu] at this;exact this
 have h4:(stC2 cs.length).length=cs.length:=by unfold stC2;rw[Qb,Qu]
 refine zaD (zap (zav (zab (zaV (zab (za6 rfl zag zfK) zai) hlc) (zab (zad rfl) (zab (zad rfl) zai))) rfl (zmX hp hd (by omega) hq1)) (zav (zab (zad rfl) (zab (zad rfl) zai)) rfl (zmY g hm)) (zb3 (by rw[Qb,Qb,Ql,Ql];omega))) ?_
 unfold zdt;rw[QF (l₁:=stA1 cs.length (uncV V) ws++stA2 cs.length (uncV V) qs ws)]
theorem zdD{m:Nat}{f:Int×Int->Int}(hp:zdg cs.length m qs)(hd:zcF cs qs m ws):∀s∈zdt cs f qs ws,IsSt cs f qs ws s:=λs hs=>by
 have gt:∀{i:Nat}{o:Option Int},i<ws.length->ws.getD i none=o->ws[i]?=some o:=λ{i o} hi e=>by
  rw[Qr,Qf hi] at e;rw[Qf hi];exact congrArg some e
 unfold zdt at hs;rcases QS.mp hs with hs|hs
 ·rcases QS.mp hs with hs|hs
  ·unfold stA1 at hs
   obtain ⟨i,hi,e⟩:=Jo.mp hs;have hi:=Q6.mp hi
   cases hw:ws.getD i none with
   |none=>rw[hw] at e;cases e
   |some t=>
    rw[hw] at e;have e:=QY e;subst e
    have:=IsSt.mv (cs:=cs) (f:=f) (qs:=qs) (gt hi hw) (o':=none) (by intro z;cases z) (λt e=>by cases e)
    have e2:hadO f i none-hadO f i (some t) = -(hadO f i (some t)):=by show 0-_=_;omega
    rw[e2] at this;exact this
  ·unfold stA2 at hs
   obtain ⟨q,hq,e⟩:=Jo.mp hs;have hb:=hp.lo q hq
   split at e
   ·rename_i hne
    have e:=QY e;subst e;have hi:q.1.toNat<ws.length:=by rw[hd.len];omega
    have ei:((q.1.toNat:Nat):Int)=q.1:=by omega
    have:=IsSt.mv (cs:=cs) (f:=f) (qs:=qs) (gt hi rfl) (o':=some q.2) (λz=>hne z.symm) (λt e=>by cases e;rw[ei];exact hq)
    have e2:hadO f q.1.toNat (some q.2)=f q:=by show f (((q.1.toNat:Nat):Int),q.2)=_;rw[ei]
    rw[e2] at this;exact this
   ·cases e
 ·rcases QS.mp hs with hs|hs
  ·unfold stC1 at hs
   obtain ⟨t,ht,e⟩:=Jo.mp hs;have ht:=Q6.mp ht
   split at e
   ·rename_i hl
    have e:=QY e;subst e;exact .left (c:=cs.getD t 0) (by rw[Qr,Qf ht];rfl) (by omega)
   ·cases e
  ·unfold stC2 at hs
   obtain ⟨t,ht,rfl⟩:=Qt.mp hs;exact .give (Q6.mp ht)
theorem zmZ{m:Nat}{f:Int×Int->Int}(hp:zdg cs.length m qs)(hd:zcF cs qs m ws):∀s,IsSt cs f qs ws s->s∈zdt cs f qs ws:=λs hs=>by
 unfold zdt
 cases hs with
 |@mv i o o' h hne hq=>
  have hi:i<ws.length:=(Qg.mp h).1;have hg:=zjB h;refine Q7 _ ?_
  cases o' with
  |none=>
   refine Q7 _ ?_
   cases o with
   |none=>exact absurd rfl hne
   |some t=>
    unfold stA1;refine Jo.mpr ⟨i,Q6.mpr hi,?_⟩;rw[hg];show some (⟨t.toNat,cs.length, -(hadO f i (some t)),some i⟩:Stp)=some ⟨t.toNat,cs.length,0-hadO f i (some t),some i⟩;rw[show (0:Int)-hadO f i (some t) = -(hadO f i (some t)) by omega]
  |some t=>
   refine QJ _ ?_;have hqt:=hq t rfl;have hb:=hp.lo _ hqt;unfold stA2;refine Jo.mpr ⟨((i:Int),t),hqt,?_⟩;dsimp only;rw[Qz,hg,Qn (λz=>hne z.symm)]
   rfl
 |@left t c h hl=>
  refine QJ _ (Q7 _ ?_);have ht:t<cs.length:=(Qg.mp h).1;unfold stC1;refine Jo.mpr ⟨t,Q6.mpr ht,?_⟩;have e:cs.getD t 0=c:=by rw[Qr,h];rfl
  rw[e,Qn (by omega)]
 |@give t h=>
  refine QJ _ (QJ _ ?_);unfold stC2;exact Qt.mpr ⟨t,Q6.mpr h,rfl⟩
end
theorem zm0{W:Tab}{p:Nat}(h:p<W.length):oIx (.list (W.map zcx)) (.int (p:Int))=some (zcx (ent W p)):=by
 refine za0 ?_;unfold ent;rw[Qe,Qr,Qf h]
 rfl
theorem zm1{W:Tab}{S:List Stp}(hS:∀s∈S,s.a<W.length/\s.b<W.length)(hW:∀p,(ent W p).2.length<=1000)(hl:W.length<=1000):F_ba [.list (W.map zcx),.list (S.map stpD)]=some (.list ((zjw W S).map zcx)):=by
 refine za3 (Z:=[some (.pub (.list (W.map zcx))),some (.pub (.list (S.map stpD))),none,none,none,none,none,none,none,none]) rfl ?_;unfold g_ba;refine zaq (zbB (zgx rfl (show zeQ [.list (W.map zcx)]=some (W.map zcx) from rfl)) (Qa rfl) rfl) ?_
 apply zaG;apply zby (λk Z=>∃x3 x4 x5 x6 x7 x8 x9,Z=[some (.pub (.list (W.map zcx))),some (.pub (.list (S.map stpD))),some (.own (((S.take k).foldl (zdd W) W).map zcx)),x3,x4,x5,x6,x7,x8,x9])
 case h1=>exact zaQ (zad rfl) zbm
 case h0=>exact ⟨_,_,_,_,_,_,_,rfl⟩
 case hst=>
  rintro k d Z hk ⟨x3,x4,x5,x6,x7,x8,x9,rfl⟩;rw[Qe] at hk
  cases hq:S[k]? with
  |none=>rw[hq] at hk;cases hk
  |some s=>
  rw[hq] at hk;cases hk;have hs:=hS s (Qp hq);have hta:S.take (k+1)=S.take k++[s]:=by rw[JH,hq];rfl
  have hfl:(S.take (k+1)).foldl (zdd W) W=zdd W ((S.take k).foldl (zdd W) W) s:=by rw[hta,List.foldl_append];rfl
  have hTl:∀(R:List Stp)(T:Tab),(R.foldl (zdd W) T).length=T.length:=λR=>by
   induction R with
   |nil=>intro T;rfl
   |cons x R ih=>intro T;rw[JJ,ih,zmT]
  generalize hT:(S.take k).foldl (zdd W) W=T at hfl ⊢;have hTlen:T.length=W.length:=by rw[←hT,hTl]
  refine ⟨_,tg_N (Qa rfl) rfl,?_⟩;unfold zmf;refine zaq (zeH (zad rfl) (tg_T rfl (tg_C (tg_N (Qa rfl) rfl) (tg_C (tg_N (Qa rfl) rfl) (tg_C (tg_N (Qa rfl) rfl) (tg_C (tg_N (Qa rfl) rfl) tg_0)))))) ?_;refine zaq (zeH (za6 rfl (zad rfl) (zm0 hs.1)) (tg_T rfl (tg_C (tg_N (Qa rfl) rfl) (tg_C (tg_N (Qa rfl) rfl) tg_0)))) ?_;have i0:oIx (zcx (ent T s.b)) (.int 0)=some (.int (ent T s.b).1):=za0 (j:=0) rfl;apply za9
  case h1=>exact zap (zap (zad rfl) (zad rfl) zaN) (zap (zdZ rfl (zad rfl) rfl (zm0 (by rw[hTlen];exact hs.2))) zag i0) rfl
  case h2=>
   intro hh;have hh:(ent T s.b).1<(ent W s.a).1+s.g:=Qa hh
   have hadd:oAdd (.list ((ent W s.a).2.map stpD)) (.list [stpD s])=some (.list (((ent W s.a).2++[s]).map stpD)):=by
    rw[zb3 (by rw[Qb];have:=hW s.a;show _+1<=_;omega),QF];rfl
   refine zbl (zfm (zcd (zab (zap (zad rfl) (zad rfl) zaN) (zab (zap (zad rfl) (zbN (zab (zad rfl) zai) (Qa rfl)) hadd) zai)) (Qa rfl)) rfl (zad rfl) rfl ⟨Int.natCast_nonneg _,by rw[Qb,hTlen];have:=hs.2;omega⟩ rfl) (zaW ⟨some (.pub (stpD s)),some (.pub (.int s.a)),some (.pub (.int s.b)),some (.pub (.int s.g)),some (.pub (askD s.w)),some (.pub (.int (ent W s.a).1)),some (.pub (.list ((ent W s.a).2.map stpD))),?_⟩)
   rw[hfl];unfold zdd;rw[Qn hh,List.map_set];show [_,_,some (Sl.own ((T.map zcx).set ((s.b:Int)).toNat _)),_,_,_,_,_,_,_]=_;rw[Qz]
   rfl
  case h3=>
   intro hh;have hh:¬(ent T s.b).1<(ent W s.a).1+s.g:=Jl hh;refine zbh (zaW ⟨some (.pub (stpD s)),some (.pub (.int s.a)),some (.pub (.int s.b)),some (.pub (.int s.g)),some (.pub (askD s.w)),some (.pub (.int (ent W s.a).1)),some (.pub (.list ((ent W s.a).2.map stpD))),?_⟩);rw[hfl];unfold zdd;rw[QA hh]
   rfl
 case hend=>
  rintro Z ⟨x3,x4,x5,x6,x7,x8,x9,rfl⟩;refine zat (zaD (zbD rfl rfl) ?_);rw[Qb,Jz]
  rfl
theorem zhY{n:Nat}{S:List Stp}(hS:∀s∈S,s.a<n/\s.b<n)(hn:n<=100):F_bb [.int (n:Nat),.list (S.map stpD)]=some (.list ((zaR n S n).map zcx)):=by
 refine za3 (Z:=[some (.pub (.int (n:Nat))),some (.pub (.list (S.map stpD))),none,none]) rfl ?_;unfold g_bb
 have hmul:oMul (.list [.tuple [.int 0,.list []]]) (.int (n:Nat))=some (.list ((zaR n S 0).map zcx)):=by
  rw[zmD (by omega)]
  unfold zaR;rw[List.map_replicate]
  rfl
 refine zaq (zaS (zap (zbN (zab (zcd (zab zag (zab (zbN zai (Qa rfl)) zai)) (Qa rfl)) zai) (Qa rfl)) (zad rfl) hmul) (Qa rfl) rfl) ?_;apply zaG;apply zby (λk Z=>k<=n/\∃x3,Z=[some (.pub (.int (n:Nat))),some (.pub (.list (S.map stpD))),some (.pub (.list ((zaR n S k).map zcx))),x3])
 case h1=>exact zc6 (zab (zad rfl) zai) (zct (by omega) (by omega))
 case h0=>exact ⟨JG _,_,rfl⟩
 case hst=>
  rintro k d Z hk ⟨_,x3,rfl⟩;obtain ⟨rfl,hlt⟩:=zcc hk;refine ⟨_,tg_N (Qa rfl) rfl,?_⟩;unfold zmg;have hl:=zcy hS k;have hlo:=zm1 (W:=zaR n S k) (S:=S) (by rw[hl];exact hS) (λp=>QH ((zcX hS k).1 p) (by omega)) (by rw[hl];omega)
  exact zbl (zaS (zav (zab (zad rfl) (zab (zad rfl) zai)) rfl hlo) (Qa rfl) rfl) (zaW ⟨by omega,_,rfl⟩)
 case hend=>
  rintro Z ⟨_,x3,rfl⟩;refine zat (zaD (zad rfl) ?_);rw[za7,show ((n:Int)-0).toNat=n by omega]
theorem zrx{xs:List D}{i j:Nat}(hij:i<=j)(hj:j<=xs.length):DL.cutD xs (some (i:Int)) (some (j:Int))=(xs.take j).drop i:=by
 unfold DL.cutD HT.sIx;dsimp only;rw[QA (by omega),QA (by omega),Qz,Qz,Nat.min_eq_left hj,Nat.min_eq_left (show i<=xs.length by omega),List.drop_take]
theorem zfD{w:List Stp}(hl:w.length<=1000):∃d,F_bc [.list (w.map stpD)]=some d/\∃r,d=.list (r.map stpD)/\((zmV w/\r=[]) ∨ ∃i j,ziS w i j/\r=(w.take (j+1)).drop i):=by
 refine zeI (Z:=[some (.pub (.list (w.map stpD))),none,none,none]) rfl ?_;unfold g_bc;apply zaG;apply zby (λk Z=>(∃x1 x2 x3,Z=[some (.pub (.list (w.map stpD))),x1,x2,x3])/\∀j'<k,∀i' ≤ j',∀s t,w[i']?=some s->w[j']?=some t->s.a≠t.b)
 case h1=>exact zck (zab (zad rfl) zai) zb4
 case h0=>exact ⟨⟨_,_,_,rfl⟩,λj' h=>absurd h (JX _)⟩
 case hst=>
  rintro k d Z hk ⟨⟨x1,x2,x3,rfl⟩,hb⟩;obtain ⟨z,hz,rfl⟩:=zbO hk;rw[Qe] at hz
  cases ht:w[k]? with
  |none=>rw[ht] at hz;cases hz
  |some t=>
  rw[ht] at hz;cases hz;have hkl:k<w.length:=(Qg.mp ht).1;rw[Q4];refine ⟨_,tg_T rfl (tg_C (tg_N (Qa rfl) rfl) (tg_C (tg_N (Qa rfl) rfl) tg_0)),?_⟩;unfold zmi;apply zby (λl Z=>(∃x3,Z=[some (.pub (.list (w.map stpD))),some (.pub (.int (k:Nat))),some (.pub (stpD t)),x3])/\∀i'<l,∀s,w[i']?=some s->s.a≠t.b)
  case h1=>exact zc6 (zab (zap (zad rfl) zag zaN) zai) (zct (by omega) (by omega))
  case h0=>exact ⟨⟨_,rfl⟩,λi' h=>absurd h (JX _)⟩
  case hst=>
   rintro l d Z hl2 ⟨⟨x3,rfl⟩,hc⟩;obtain ⟨rfl,hlt⟩:=zcc hl2;have hlk:l<=k:=by omega
   obtain ⟨s,hs⟩:∃s,w[l]?=some s:=⟨_,Qf (by omega)⟩
   refine ⟨_,tg_N (Qa rfl) rfl,?_⟩;have zl:(0:Int)+(l:Int)=l:=by omega
   rw[zl];unfold zmh;have il:oIx (.list (w.map stpD)) (.int (l:Int))=some (stpD s):=za0 (by rw[Qe,hs];rfl)
   have i0:oIx (stpD s) (.int 0)=some (.int s.a):=za0 (j:=0) rfl;have i1:oIx (stpD t) (.int 1)=some (.int t.b):=za0 (j:=1) rfl;apply za9
   case h1=>exact zap (zap (za6 rfl (zad rfl) il) zag i0) (za6 rfl zag i1) zcl
   case h2=>
    intro hh;have hh:(s.a:Int)=(t.b:Int):=Qa hh
    have hcut:oSlA (.list (w.map stpD)) (some (l:Int)) (some ((k:Int)+1))=some (.list (((w.take (k+1)).drop l).map stpD)):=by
     rw[zcu,show ((k:Int)+1)=((k+1:Nat):Int) by omega,zrx (by omega) (by rw[Qb];omega),List.map_drop,List.map_take]
    refine zaD (zd3 (zad rfl) (zb9 (zad rfl)) (zb9 (zap (zad rfl) zag zaN)) hcut) (zd2 (zd2 (zc8 ⟨_,rfl,_,rfl,.inr ⟨l,k,⟨hlk,hkl,λs' t' e1 e2=>?_,hb⟩,rfl⟩⟩)));rw[hs] at e1;rw[ht] at e2;cases e1;cases e2;omega
   case h3=>
    intro hh;have hh:¬(s.a:Int)=(t.b:Int):=Jl hh;refine zbh (zaW ⟨⟨_,rfl⟩,λi' hi' s' e=>?_⟩);rcases JP.mp hi' with hi'|rfl
    ·exact hc i' hi' s' e
    ·rw[hs] at e;cases e;omega
  case hend=>
   rintro Z ⟨⟨x3,rfl⟩,hc⟩;refine zaW ⟨⟨_,_,_,rfl⟩,λj' hj' i' hi' s' t' e1 e2=>?_⟩;rcases JP.mp hj' with hj'|rfl
   ·exact hb j' hj' i' hi' s' t' e1 e2
   ·rw[ht] at e2
    cases e2;exact hc i' (by rw[za7];omega) s' e1
 case hend=>
  rintro Z ⟨⟨x1,x2,x3,rfl⟩,hb⟩;refine zat (zaD (zbN zai (Qa rfl)) ⟨_,rfl,[],rfl,.inl ⟨λj hj=>hb j (by rw[zaF,Qb];exact hj),rfl⟩⟩)
def zcZ(n:Nat)(s:Stp):Option (Nat×Option Int):=s.w.map λi=>(i,unpl n s.b)
def takD(p:Nat×Option Int):D:=.tuple [.int (p.1:Nat),optD p.2]
def rot(b:Nat)(r:List Stp):List Stp:=r.drop b++r.take b
theorem zjC(b:Nat)(r:List Stp):(rot b r).Perm r:=by
 unfold rot
 have:=List.perm_append_comm (l₁:=r.drop b) (l₂:=r.take b)
 rw[JZ] at this;exact this
theorem zhZ{n:Nat}{r:List Stp}(hl:r.length<=1000):∃b,b<=r.length/\((∃s,r[b]?=some s/\s.a=n)∨(b=0/\∀s∈r,s.a≠n))/\F_bd [.int (n:Nat),.list (r.map stpD)]=some (.list (((rot b r).filterMap (zcZ n)).map takD)):=by
 have key:∃d,F_bd [.int (n:Nat),.list (r.map stpD)]=some d/\∃b,b<=r.length/\((∃s,r[b]?=some s/\s.a=n)∨(b=0/\∀s∈r,s.a≠n))/\d=.list (((rot b r).filterMap (zcZ n)).map takD):=by
  refine zeI (Z:=[some (.pub (.int (n:Nat))),some (.pub (.list (r.map stpD))),none,none,none,none,none,none,none,none]) rfl ?_;unfold g_bd;refine zaq (zaS zag (Qa rfl) rfl) ?_;apply zaG;apply zby (λk Z=>∃(b:Nat)(x3 x4:Option Sl),Z=[some (.pub (.int (n:Nat))),some (.pub (.list (r.map stpD))),some (.pub (.int (b:Nat))),x3,x4,none,none,none,none,none]/\b<=r.length/\((∃s,r[b]?=some s/\s.a=n)∨(b=0/\∀s∈r.take k,s.a≠n)))
  case h1=>exact zck (zab (zad rfl) zai) zb4
  case h0=>exact ⟨0,_,_,rfl,JG _,.inr ⟨rfl,λs h=>by rw[J4] at h;cases h⟩⟩
  case hst=>
   rintro k d Z hk ⟨b,x3,x4,rfl,hbl,hb⟩;obtain ⟨z,hz,rfl⟩:=zbO hk;rw[Qe] at hz
   cases ht:r[k]? with
   |none=>rw[ht] at hz;cases hz
   |some t=>
   rw[ht] at hz;cases hz;have hkl:k<r.length:=(Qg.mp ht).1;rw[Q4];refine ⟨_,tg_T rfl (tg_C (tg_N (Qa rfl) rfl) (tg_C (tg_N (Qa rfl) rfl) tg_0)),?_⟩;unfold zmk;have i0:oIx (stpD t) (.int 0)=some (.int t.a):=za0 (j:=0) rfl;apply za9
   case h1=>exact zap (za6 rfl zag i0) (zad rfl) zcl
   case h2=>
    intro hh;have hh:(t.a:Int)=(n:Int):=Qa hh;exact zbl (zaS (zad rfl) (Qa rfl) rfl) (zaW ⟨k,_,_,rfl,by omega,.inl ⟨t,ht,by omega⟩⟩)
   case h3=>
    intro hh;have hh:¬(t.a:Int)=(n:Int):=Jl hh;refine zbh (zaW ⟨b,_,_,rfl,hbl,?_⟩);rcases hb with hb|⟨hb,hc⟩
    ·exact .inl hb
    ·refine .inr ⟨hb,λs hs=>?_⟩
     rw[JH,ht] at hs;rcases QS.mp hs with hs|hs
     ·exact hc s hs
     ·rw[Q0.mp hs];omega
  case hend=>
   rintro Z ⟨b,x3,x4,rfl,hbl,hb⟩;refine zat ?_
   have hb':(∃s,r[b]?=some s/\s.a=n)∨(b=0/\∀s∈r,s.a≠n):=by
    rw[zaF,Qb,Jz] at hb;exact hb
   refine zaq (zbB (zc5 zai (Qa rfl)) (Qa rfl) rfl) ?_;have c1:oSlA (.list (r.map stpD)) (some (b:Int)) none=some (.list ((r.drop b).map stpD)):=by rw[zcu,zn8 (by rw[Qb];exact hbl),List.map_drop]
   have c2:oSlA (.list (r.map stpD)) none (some (b:Int))=some (.list ((r.take b).map stpD)):=by rw[zcu,zrs (by rw[Qb];exact hbl),List.map_take]
   have c3:oAdd (.list ((r.drop b).map stpD)) (.list ((r.take b).map stpD))=some (.list ((rot b r).map stpD)):=by
    rw[zb3 (by rw[Qb,Qb,Ji,QP];omega)]
    unfold rot;rw[QF]
   apply zaG;apply zby (λk Z=>∃x6 x7 x8 x9,Z=[some (.pub (.int (n:Nat))),some (.pub (.list (r.map stpD))),some (.pub (.int (b:Nat))),x3,x4,some (.own ((((rot b r).take k).filterMap (zcZ n)).map takD)),x6,x7,x8,x9])
   case h1=>exact zaQ (zap (zd3 (zad rfl) (zb9 (zad rfl)) zag c1) (zd3 (zad rfl) zag (zb9 (zad rfl)) c2) c3) zbm
   case h0=>exact ⟨_,_,_,_,rfl⟩
   case hst=>
    rintro k d Z hk ⟨x6,x7,x8,x9,rfl⟩;rw[Qe] at hk
    cases hq:(rot b r)[k]? with
    |none=>rw[hq] at hk;cases hk
    |some s=>
    rw[hq] at hk;cases hk;have hkl:k<(rot b r).length:=(Qg.mp hq).1;have hrl:(rot b r).length=r.length:=(zjC b r).length_eq;have hta:(rot b r).take (k+1)=(rot b r).take k++[s]:=by rw[JH,hq];rfl
    refine ⟨_,tg_T rfl (tg_C (tg_N (Qa rfl) rfl) (tg_C (tg_N (Qa rfl) rfl) (tg_C (tg_N (Qa rfl) rfl) (tg_C (tg_N (Qa rfl) rfl) tg_0)))),?_⟩;unfold zmj
    have hsz:((((rot b r).take k).filterMap (zcZ n)).map takD).length<1000000:=by
     rw[Qb]
     have:=Jd (zcZ n) ((rot b r).take k)
     rw[QP] at this;omega
    cases hw:s.w with
    |none=>
     apply za9
     case h1=>exact zaK (k:=λd=>!isNon d) (x:=askD none) (zad rfl)
     case h2=>intro hh;cases hh
     case h3=>
      intro _;refine zbh (zaW ⟨some (.pub (.int s.a)),some (.pub (.int s.b)),some (.pub (.int s.g)),some (.pub (askD none)),?_⟩);rw[hta,List.filterMap_append]
      have:[s].filterMap (zcZ n)=[]:=by unfold zcZ;rw[Jn,hw];rfl
      rw[this,Jb]
      rfl
    |some i=>
     apply za9
     case h1=>exact zaK (k:=λd=>!isNon d) (x:=askD (some i)) (zad rfl)
     case h3=>intro hh;cases hh
     case h2=>
      intro _
      have htest:∀Z:DEnv,Z[7]?=some (some (.pub (.int (s.b:Int))))->Z[0]?=some (some (.pub (.int (n:Int))))->mIf (zce oEq 7 (dVar 0)) (zah .none) (dVar 7) Z=.ok (optD (unpl n s.b)) Z:=λZ h7 h0=>by
       unfold unpl
       by_cases z:s.b=n
       ·rw[Qn z]
        exact zoK (zbE h7 (zad h0) (by rw[zcl,Q9 (by rw[z])])) zag
       ·rw[QA z]
        exact zly (zbE h7 (zad h0) (by rw[zcl,QQ (by omega)])) (zad h7)
      refine zbl (zd1 rfl (zcd (zab (zad rfl) (zab (htest _ rfl rfl) zai)) (Qa rfl)) rfl hsz rfl) (zaW ⟨some (.pub (.int s.a)),some (.pub (.int s.b)),some (.pub (.int s.g)),some (.pub (askD (some i))),?_⟩);rw[hta,List.filterMap_append]
      have:[s].filterMap (zcZ n)=[(i,unpl n s.b)]:=by unfold zcZ;rw[Jn,hw];rfl
      rw[this,QF]
      rfl
   case hend=>
    rintro Z ⟨x6,x7,x8,x9,rfl⟩;refine zat (zaD (zbD rfl rfl) ⟨_,rfl,b,hbl,hb',?_⟩);rw[Qb,Jz]
 obtain ⟨d,e,b,h1,h2,rfl⟩:=key;exact ⟨b,h1,h2,e⟩
theorem zfE(n:Nat):∀(R:List Stp)(d:LO),(R.filterMap (zcZ n)).foldl (λd p=>d.set p.1 p.2) d=R.foldl (app n) d
 |[],d=>rfl
 |s::R,d=>by
  rw[JJ,Jn];unfold zcZ app
  cases s.w with
  |none=>exact zfE n R d
  |some i=>exact zfE n R (d.set i (unpl n s.b))
theorem zm2{ws:LO}{tk:List (Nat×Option Int)}(h:∀p∈tk,p.1<ws.length):F_av [zaU ws,.list (tk.map takD)]=some (zaU (tk.foldl (λd p=>d.set p.1 p.2) ws)):=by
 refine za3 (Z:=[some (.pub (zaU ws)),some (.pub (.list (tk.map takD))),none,none,none]) rfl ?_;unfold g_av;refine zaq (zbB (zgx rfl (show zeQ [zaU ws]=some (ws.map optD) from rfl)) (Qa rfl) rfl) ?_
 have hlen:∀(R:List (Nat×Option Int))(d:LO),(R.foldl (λd p=>d.set p.1 p.2) d).length=d.length:=λR=>by
  induction R with
  |nil=>intro d;rfl
  |cons p R ih=>intro d;rw[JJ,ih,Q3]
 apply zaG;apply zby (λk Z=>∃x3 x4,Z=[some (.pub (zaU ws)),some (.pub (.list (tk.map takD))),some (.own (((tk.take k).foldl (λd p=>d.set p.1 p.2) ws).map optD)),x3,x4])
 case h1=>exact zaQ (zad rfl) zbm
 case h0=>exact ⟨_,_,rfl⟩
 case hst=>
  rintro k d Z hk ⟨x3,x4,rfl⟩;rw[Qe] at hk
  cases hq:tk[k]? with
  |none=>rw[hq] at hk;cases hk
  |some p=>
  rw[hq] at hk;cases hk;have hpl:=h p (Qp hq);have hta:tk.take (k+1)=tk.take k++[p]:=by rw[JH,hq];rfl
  refine ⟨_,tg_T rfl (tg_C (tg_N (Qa rfl) rfl) (tg_C (tg_N (Qa rfl) rfl) tg_0)),?_⟩;unfold zmm;refine zbl (zfm (zad rfl) rfl (zad rfl) rfl ⟨Int.natCast_nonneg _,by rw[Qb,hlen];omega⟩ rfl) (zaW ⟨some (.pub (.int (p.1:Nat))),some (.pub (optD p.2)),?_⟩)
  rw[hta,List.foldl_append];show [_,_,some (Sl.own ((((tk.take k).foldl (λd p=>d.set p.1 p.2) ws).map optD).set ((p.1:Int)).toNat (optD p.2))),_,_]=[_,_,some (Sl.own ((((tk.take k).foldl (λd p=>d.set p.1 p.2) ws).set p.1 p.2).map optD)),_,_];rw[Qz,List.map_set]
 case hend=>
  rintro Z ⟨x3,x4,rfl⟩;refine zat (zaD (zbD rfl rfl) ?_);rw[Qb,Jz]
  rfl
def zh0(cs:List Int)(f:Int×Int->Int)(qs:LP)(ws:LO):Prop:=∀p,p<cs.length+1->(ent (zaR (cs.length+1) (zdt cs f qs ws) (cs.length+1)) p).2.length≠cs.length+1
structure zoo(cs:List Int)(f:Int×Int->Int)(qs:LP)(ws:LO)(r:List Stp)(b:Nat):Prop where
 rnd:∃x,Path (zdt cs f qs ws) x r x
 nd:(r.map Stp.a).Nodup
 pos:0<gain r
 bl:b<=r.length
 bat:(∃s,r[b]?=some s/\s.a=cs.length)∨(b=0/\∀s∈r,s.a≠cs.length)
def wayR(n b:Nat)(r:List Stp):List (Nat×Option Int):=(rot b r).filterMap (zcZ n)
theorem zc0(s:Stp)(R:List Stp):gain (s::R)=s.g+gain R:=by show gain ([s]++R)=_;rw[zbF,zdB]
theorem zm3{u v:List Stp}(h:u.Perm v):gain u=gain v:=by
 induction h with
 |nil=>rfl
 |cons x _ ih=>rw[zc0,zc0,ih]
 |swap x y l=>rw[zc0,zc0,zc0,zc0];omega
 |trans _ _ ih1 ih2=>rw[ih1,ih2]
theorem zm4{R:List Stp}(h:∀s∈R,s.g=0):gain R=0:=by
 induction R with
 |nil=>rfl
 |cons s R ih=>
  have e:gain (s::R)=s.g+gain R:=by show gain ([s]++R)=_;rw[zbF,zdB]
  rw[e,h s Qm,ih λx hx=>h x (Qk _ hx)]
  rfl
section
variable{cs:List Int}{ls:L3}{ws:LO}{V:Int->Int->Int}{qs:LP}{f:Int×Int->Int}{m:Nat}
theorem zoo.does(hp:zdg cs.length m qs)(hd:zcF cs qs m ws){r:List Stp}{b:Nat}(h:zoo cs f qs ws r b):zcF cs qs m ((wayR cs.length b r).foldl (λd p=>d.set p.1 p.2) ws)/\totF f 0 ((wayR cs.length b r).foldl (λd p=>d.set p.1 p.2) ws)=totF f 0 ws+gain r/\wayR cs.length b r≠[]/\∀p∈wayR cs.length b r,p.1<ws.length:=by
 obtain ⟨x,hx⟩:=h.rnd;have hin:∀s∈r,IsSt cs f qs ws s:=λs hs=>zdD hp hd s (hx.mem s hs);have pr:=zjC b r;have hinR:∀s∈rot b r,IsSt cs f qs ws s:=λs hs=>hin s (pr.mem_iff.mp hs);have ndR:((rot b r).map Stp.a).Nodup:=(pr.map Stp.a).nodup_iff.mpr h.nd;have pbR:((rot b r).map Stp.b).Perm ((rot b r).map Stp.a):=((pr.map Stp.b).trans (zks hx)).trans (pr.map Stp.a).symm;obtain ⟨h1,h2⟩:=zol hp hd hinR ndR pbR;unfold wayR;rw[zfE];refine ⟨h1,by rw[h2,zm3 pr],λz=>?_,λp hpm=>?_⟩
 ·have:gain r=0:=zm4 λs hs=>by
   have hw:zcZ cs.length s=none:=by
    have:=List.filterMap_eq_nil_iff.mp z s (pr.mem_iff.mpr hs)
    exact this
   cases hin s hs with
   |mv _ _ _=>cases hw
   |left _ _=>rfl
   |give _=>rfl
  have:=h.pos
  omega
 ·obtain ⟨s,hs,e⟩:=Jo.mp hpm
  cases hinR s hs with
  |@mv i o o' hw _ _=>
   cases e;exact (Qg.mp hw).1
  |left _ _=>cases e
  |give _=>cases e
theorem zgc(g:Good cs ls)(hm:ws.length=ls.length)(hp:zdg cs.length ws.length qs)(hd:zcF cs qs ws.length ws)(hq1:qs.length<=500):∃d,F_be [zaw cs ls,.list (qs.map (zbV V)),zaU ws]=some d/\((d=.list []/\zh0 cs (uncV V) qs ws) ∨ ∃r b,d=.list ((wayR cs.length b r).map takD)/\zoo cs (uncV V) qs ws r b):=by
 refine zeI (Z:=[some (.pub (zaw cs ls)),some (.pub (.list (qs.map (zbV V)))),some (.pub (zaU ws)),none,none,none]) rfl ?_;unfold g_be;have c6:=g.c6;have l7:=g.l7;have hlc:oLen [.list (cs.map int)]=some (.int cs.length):=by rw[zaM,Qb]
 have hS:∀s∈zdt cs (uncV V) qs ws,s.a<cs.length+1/\s.b<cs.length+1:=λs hs=>(zdD hp hd s hs).lt hp hd;have hwd:=zhY hS (by omega)
 have hsteps:=zeM (V:=V) g hm hp hd (by omega)
 refine zaq (zaS (zaV (zab (za6 rfl zag zfK) zai) hlc) (Qa rfl) rfl) ?_;have hadd:oAdd (.int (cs.length:Int)) (.int 1)=some (.int ((cs.length+1:Nat):Int)):=by rw[zaN];rfl
 apply zaG;apply zby (λk Z=>(∃x4 x5,Z=[some (.pub (zaw cs ls)),some (.pub (.list (qs.map (zbV V)))),some (.pub (zaU ws)),some (.pub (.int cs.length)),x4,x5])/\∀p<k,(ent (zaR (cs.length+1) (zdt cs (uncV V) qs ws) (cs.length+1)) p).2.length≠cs.length+1)
 case h1=>exact zaQ (zav (zab (zap (zad rfl) zag hadd) (zab (zav (zab (zad rfl) (zab (zad rfl) (zab (zad rfl) zai))) rfl hsteps) zai)) rfl hwd) zbm
 case h0=>exact ⟨⟨_,_,rfl⟩,λp h=>absurd h (JX _)⟩
 case hst=>
  rintro k d Z hk ⟨⟨x4,x5,rfl⟩,hb⟩;rw[Qe] at hk
  cases hq:(zaR (cs.length+1) (zdt cs (uncV V) qs ws) (cs.length+1))[k]? with
  |none=>rw[hq] at hk;cases hk
  |some e=>
  rw[hq] at hk;cases hk;have he:ent (zaR (cs.length+1) (zdt cs (uncV V) qs ws) (cs.length+1)) k=e:=by unfold ent;rw[Qr,hq];rfl
  refine ⟨_,tg_T rfl (tg_C (tg_N (Qa rfl) rfl) (tg_C (tg_N (Qa rfl) rfl) tg_0)),?_⟩;unfold zml;have hlw:oLen [.list (e.2.map stpD)]=some (.int e.2.length):=by rw[zaM,Qb]
  apply za9
  case h1=>exact zap (zbc rfl hlw) (zap (zad rfl) zag hadd) zcl
  case h2=>
   intro hh;have hh:((e.2.length:Nat):Int)=((cs.length+1:Nat):Int):=Qa hh;have hlen:e.2.length=cs.length+1:=by omega
   obtain ⟨d,hrw,r,rfl,hr⟩:=zfD (w:=e.2) (by omega)
   have hwk:=zcY hS (cs.length+1) k;rw[he] at hwk;obtain ⟨q,hpath⟩:=hwk.1.path;rcases hr with ⟨hno,rfl⟩|⟨i,j,hra,rfl⟩
   ·exact absurd hno (zok hS hpath (by omega) (Ud _))
   ·have hlr:((e.2.take (j+1)).drop i).length<=1000:=by rw[Ji,QP];omega
    obtain ⟨b,hbl,hbat,hway⟩:=zhZ (n:=cs.length) hlr;have hrg:=zkr hS (Ud _) (p:=k) (by rw[he];exact hlen) (by rw[he];exact hra)
    rw[he] at hrg;obtain ⟨x,hx,hgp⟩:=hrg;exact zaD (zav (zab (zad rfl) (zab (zav (zab (zad rfl) zai) rfl hrw) zai)) rfl hway) (zd2 (zc8 ⟨_,rfl,.inr ⟨_,b,rfl,⟨⟨x,hx⟩,ziT hpath hra,hgp,hbl,hbat⟩⟩⟩))
  case h3=>
   intro hh;have hh:¬((e.2.length:Nat):Int)=((cs.length+1:Nat):Int):=Jl hh;refine zbh (zaW ⟨⟨_,_,rfl⟩,λp hpk=>?_⟩);rcases JP.mp hpk with hpk|rfl
   ·exact hb p hpk
   ·rw[he];omega
 case hend=>
  rintro Z ⟨⟨x4,x5,rfl⟩,hb⟩;refine zat (zaD (zbN zai (Qa rfl)) ⟨_,rfl,.inl ⟨rfl,λp hpn=>hb p ?_⟩⟩);rw[Qb,zcy hS];exact hpn
theorem zm5{M:Int}(hM0:0<=M)(hM:∀q∈qs,f q<=M):∀(ws:LO)(k:Nat),(∀(i:Nat) t,ws[i]?=some (some t)->(((k+i:Nat):Int),t)∈qs)->totF f k ws<=ws.length*M
 |[],k,_=>by show (0:Int)<=((0:Nat):Int)*M;rw[show (((0:Nat)):Int)=0 from rfl,Int.zero_mul];exact QT _
 |o::ws,k,h=>by
  have ih:=zm5 hM0 hM ws (k+1) λi t e=>by
   have:=h (i+1) t (by simpa using e)
   rw[show k+1+i=k+(i+1) by omega]
   exact this
  have h0:hadO f k o<=M:=by
   cases o with
   |none=>exact hM0
   |some t=>exact hM _ (by have:=h 0 t rfl;rw[Ue] at this;exact this)
  rw[QK];show hadO f k o+totF f (k+1) ws<=_;rw[show (((ws.length+1:Nat)):Int)=(ws.length:Int)+1 by omega,Int.add_mul,Int.one_mul]
  omega
theorem zh1(g:Good cs ls)(hm:m=ls.length)(hp:zdg cs.length m qs)(hq1:qs.length<=500){M:Int}(hM0:0<=M)(hM:∀q∈qs,uncV V q<=M):∀(N:Nat)(ws:LO)(d:D),zcF cs qs m ws->((d=.list []/\zh0 cs (uncV V) qs ws) ∨ ∃r b,d=.list ((wayR cs.length b r).map takD)/\zoo cs (uncV V) qs ws r b) ->
  (m*M-totF (uncV V) 0 ws<N)->∃ws',zcF cs qs m ws'/\zh0 cs (uncV V) qs ws'/\zcK (zfu (dVar 3)) zgF N [some (.pub (zaw cs ls)),some (.pub (.list (qs.map (zbV V)))),some (.pub (zaU ws)),some (.pub d)]=.nx [some (.pub (zaw cs ls)),some (.pub (.list (qs.map (zbV V)))),some (.pub (zaU ws')),some (.pub (.list []))]
 |0,ws,d,hd,_,hN=>by
  have:=zm5 hM0 hM ws 0 (λi t e=>by rw[Q4];exact hd.wish i t e)
  rw[hd.len] at this;exact absurd hN (by omega)
 |N+1,ws,d,hd,hg,hN=>by
  rcases hg with ⟨rfl,hst⟩|⟨r,b,rfl,hgr⟩
  ·refine ⟨ws,hd,hst,?_⟩
   unfold zcK;rw[zhB (ds:=[]) (zad rfl)]
   rfl
  ·obtain ⟨h1,h2,h3,h4⟩:=hgr.does hp hd
   generalize hws':(wayR cs.length b r).foldl (λd p=>d.set p.1 p.2) ws=ws' at h1 h2;have hbe:=zm2 h4;rw[hws'] at hbe;obtain ⟨d',hgw,hg'⟩:=zgc (V:=V) (ws:=ws') g (by rw[h1.len,hm]) (by rw[h1.len];exact hp) (by rw[h1.len];exact h1) hq1
   obtain ⟨ws2,k1,k2,k3⟩:=zh1 g hm hp hq1 hM0 hM N ws' d' h1 hg' (by have:=hgr.pos;omega)
   refine ⟨ws2,k1,k2,?_⟩;unfold zcK;rw[zhB (ds:=(wayR cs.length b r).map takD) (zad rfl)]
   have hne:(!((wayR cs.length b r).map takD).isEmpty)=true:=by
    cases hw:wayR cs.length b r with
    |nil=>exact absurd hw h3
    |cons _ _=>rfl
   dsimp only;rw[Qn hne]
   have hb:Ho zgF [some (.pub (zaw cs ls)),some (.pub (.list (qs.map (zbV V)))),some (.pub (zaU ws)),some (.pub (.list ((wayR cs.length b r).map takD)))] (λo=>o=.nx [some (.pub (zaw cs ls)),some (.pub (.list (qs.map (zbV V)))),some (.pub (zaU ws')),some (.pub d')]):=by
    unfold zgF;refine zaq (zaS (zav (zab (zad rfl) (zab (zad rfl) zai)) rfl hbe) (Qa rfl) rfl) ?_;exact zbl (zaS (zav (zab (zad rfl) (zab (zad rfl) (zab (zad rfl) zai))) rfl hgw) (Qa rfl) rfl) rfl
   rw[hb.out];exact k3
theorem zkt(g:Good cs ls)(hp:zdg cs.length ls.length qs)(hq1:qs.length<=500){M:Int}(hM0:0<=M)(hM:∀q∈qs,uncV V q<=M)(hF:ls.length*M<10 ^ 60):∃d,F_bf [zaw cs ls,.list (qs.map (zbV V))]=some d/\∃ws,d=zaU ws/\zcF cs qs ls.length ws/\zh0 cs (uncV V) qs ws:=by
 refine zeI (Z:=[some (.pub (zaw cs ls)),some (.pub (.list (qs.map (zbV V)))),none,none]) rfl ?_;unfold g_bf;have l7:=g.l7;have hll:oLen [.list (ls.map zaC)]=some (.int (ls.length:Nat)):=by rw[zaM,Qb]
 let ws0:LO:=replicate ls.length none
 have hmul:oMul (.list [.none]) (.int (ls.length:Nat))=some (zaU ws0):=by
  rw[zmD (by omega)]
  show _=some (PyData.list ((replicate ls.length none).map optD));rw[List.map_replicate]
  rfl
 have hd0:zcF cs qs ls.length ws0:=⟨by show (replicate _ _).length=_;rw[QI],(λi t h=>by
  have h:(replicate ls.length (none:Option Int))[i]?=some (some t):=h;rw[Qy] at h
  split at h
  ·cases h
  ·cases h),λk c e=>by
  have h0:ws0.count (some (k:Int))=0:=List.count_eq_zero.mpr λh=>by cases (List.mem_replicate.mp h).2
  rw[h0]
  have:=g.c7 c (Qp e)
  show (0:Int)<=c
  omega⟩
 refine zaq (zaS (zap (zbN (zab zag zai) (Qa rfl)) (zaV (zab (za6 rfl zag zeu) zai) hll) hmul) (Qa rfl) rfl) ?_;obtain ⟨d',hgw,hg'⟩:=zgc (V:=V) (ws:=ws0) g hd0.len (by rw[hd0.len];exact hp) (by rw[hd0.len];exact hd0) hq1
 refine zaq (zaS (zav (zab (zad rfl) (zab (zad rfl) (zab (zad rfl) zai))) rfl hgw) (Qa rfl) rfl) ?_
 have h0:∀(n k:Nat),totF (uncV V) k (replicate n none)=0:=λn=>by
  induction n with
  |zero=>intro k;rfl
  |succ n ih=>intro k;rw[Q2];show 0+totF (uncV V) (k+1) (replicate n none)=0;rw[ih];rfl
 have hfu:ls.length*M-totF (uncV V) 0 ws0<(FUEL:Nat):=by
  have e:totF (uncV V) 0 ws0=0:=h0 _ _;have e2:((FUEL:Nat):Int)=10 ^ 60:=by unfold FUEL;rfl
  rw[e,e2];omega
 obtain ⟨ws',k1,k2,k3⟩:=zh1 g rfl hp hq1 hM0 hM FUEL ws0 d' hd0 hg' hfu;refine zaq k3 ?_;exact zaD (zad rfl) ⟨_,rfl,ws',rfl,k1,k2⟩
end
section
variable{cs:List Int}{ls:L3}
end
section
variable{cs:List Int}{ls:L3}{as ps:List Int}
theorem zp1(g:Good cs ls):(allW 0 ls).length<=42:=by rw[(zcC ls 0).length_eq];exact zfx g
end
section
variable{cs:List Int}{ls:L3}{ws:LO}{qs:LP}{V:Int->Int->Int}
def prW(cs:List Int)(f:Int×Int->Int)(qs:LP)(ws:LO)(p:Nat):Int:=(ent (zaR (cs.length+1) (zdt cs f qs ws) (cs.length+1)) p).1
theorem zm6(g:Good cs ls)(hp:zdg cs.length ls.length qs)(hd:zcF cs qs ls.length ws)(hq1:qs.length<=500):F_bg [zaw cs ls,.list (qs.map (zbV V)),zaU ws]=some (.list (((List.range cs.length).map (prW cs (uncV V) qs ws)).map int)):=by
 refine za3 (Z:=[some (.pub (zaw cs ls)),some (.pub (.list (qs.map (zbV V)))),some (.pub (zaU ws)),none,none]) rfl ?_;unfold g_bg;have c6:=g.c6;have hS:∀s∈zdt cs (uncV V) qs ws,s.a<cs.length+1/\s.b<cs.length+1:=λs hs=>(zdD hp hd s hs).lt hp hd;have hlc:oLen [.list (cs.map int)]=some (.int cs.length):=by rw[zaM,Qb]
 have has:F_az [zaw cs ls,.list (qs.map (zbV V)),zaU ws]=some (.list ((zdt cs (uncV V) qs ws).map stpD)):=zeM g hd.len (by rw[hd.len];exact hp) (by rw[hd.len];exact hd) (by omega)
 have hwd:=zhY hS (by omega)
 generalize hT:zaR (cs.length+1) (zdt cs (uncV V) qs ws) (cs.length+1)=T at hwd;have hTl:T.length=cs.length+1:=by rw[←hT];exact zcy hS _
 refine zaq (zaS (zaV (zab (za6 rfl zag zfK) zai) hlc) (Qa rfl) rfl) ?_;refine zaq (zaS (zav (zab (zap (zad rfl) zag zaN) (zab (zav (zab (zad rfl) (zab (zad rfl) (zab (zad rfl) zai))) rfl has) zai)) rfl hwd) (Qa rfl) rfl) ?_
 have hcd:DL.cutD (T.map zcx) none (some (cs.length:Int))=(T.take cs.length).map zcx:=by
  have h2:HT.sIx (T.map zcx).length (T.map zcx).length (some (cs.length:Int))=cs.length:=by
   rw[Qb,hTl];unfold HT.sIx;simp;omega
  unfold DL.cutD;rw[h2,show HT.sIx (T.map zcx).length 0 none=0 from rfl,List.drop_zero,Nat.sub_zero,List.map_take]
 have hcut:oSlA (.list (T.map zcx)) none (some (cs.length:Int))=some (.list ((T.take cs.length).map zcx)):=by
  rw[zcu,hcd]
 have hc:zbG (gT 2 (gNC (gN 5) (gNC (gN 6) (gN0)))) (zah true) (dVar 5) ((T.take cs.length).map zcx) (zaP [some (.pub (zaw cs ls)),some (.pub (.list (qs.map (zbV V)))),some (.pub (zaU ws)),some (.pub (.int cs.length)),some (.pub (.list (T.map zcx)))]++replicate 2 none) []=some ([]++((List.range cs.length).map (prW cs (uncV V) qs ws)).map int):=by
  refine zbv (λZ=>∃x y,Z=[some (.pub (zaw cs ls)),some (.pub (.list (qs.map (zbV V)))),some (.pub (zaU ws)),some (.pub (.int cs.length)),some (.pub (.list (T.map zcx))),x,y]) _ _ _ _ ?_ ?_ ⟨none,none,rfl⟩ ?_
  ·rw[Qb,Qb,Qb,QP,Qu];omega
  ·rintro i d e hd' he Z ⟨x,y,rfl⟩
   rw[Qe,Qe] at he
   have hil:i<cs.length:=by
    have:=(Qg.mp hd').1
    rw[Qb,QP] at this;omega
   rw[QX hil] at he;cases he;rw[Qe,List.getElem?_take_of_lt hil,Qf (by omega)] at hd'
   cases hd'
   have hv:prW cs (uncV V) qs ws i=T[i].1:=by
    unfold prW ent;rw[hT,Qr,Qf (by omega)]
    rfl
   rw[hv];exact ⟨_,tg_T rfl (tg_C (tg_N (Qa rfl) rfl) (tg_C (tg_N (Qa rfl) rfl) tg_0)),rfl,zad rfl,_,_,rfl⟩
  ·rw[QE,Qb,QP];omega
 exact zaD (zaK (zbw (zaQ (zd3 (zad rfl) zag (zb9 (zad rfl)) hcut) zbm) hc)) rfl
theorem zp2{n m:Nat}(hp:zdg n m qs)(hm:m<=1000)(P:Nat->Int):F_bh [.int (m:Nat),.list (qs.map (zbV V)),.list (((List.range n).map P).map int)]=some (.list (((List.range m).map λi:Nat=>zcm (uncV V) P qs (i:Int)).map int)):=by
 refine za3 (Z:=[some (.pub (.int (m:Nat))),some (.pub (.list (qs.map (zbV V)))),some (.pub (.list (((List.range n).map P).map int))),none,none,none,none]) rfl ?_;unfold g_bh;refine zaq (zbB (zlR (n:=m) (zbN (zab zag zai) (Qa rfl)) (zad rfl) hm) (Qa rfl) rfl) ?_;apply zaG;apply zby (λk Z=>∃x4 x5 x6,Z=[some (.pub (.int (m:Nat))),some (.pub (.list (qs.map (zbV V)))),some (.pub (.list (((List.range n).map P).map int))),some (.own (((List.range m).map λi:Nat=>zcm (uncV V) P (qs.take k) (i:Int)).map int)),x4,x5,x6])
 case h1=>exact zaQ (zad rfl) zbm
 case h0=>
  refine ⟨none,none,none,?_⟩
  have e:(replicate m (int 0))=((List.range m).map λi:Nat=>zcm (uncV V) P (qs.take 0) (i:Int)).map int:=by
   rw[Q5];apply List.ext_getElem
   ·rw[QI,Qb,Qu]
   ·intro i h1 h2
    rw[List.getElem_replicate,JT]
    rfl
  rw[←e]
  rfl
 case hst=>
  rintro k d Z hk ⟨x4,x5,x6,rfl⟩;rw[Qe] at hk
  cases hq:qs[k]? with
  |none=>rw[hq] at hk;cases hk
  |some q=>
  rw[hq] at hk;cases hk;have hb:=hp.lo q (Qp hq);obtain ⟨⟨a,ha⟩,⟨t,ht⟩⟩:(∃a:Nat,q.1=a)/\∃t:Nat,q.2=t:=⟨⟨q.1.toNat,by omega⟩,⟨q.2.toNat,by omega⟩⟩
  have ham:a<m:=by omega
  have htn:t<n:=by omega
  refine ⟨_,tg_T rfl (tg_C (tg_N (Qa rfl) rfl) (tg_C (tg_N (Qa rfl) rfl) (tg_C (tg_N (Qa rfl) rfl) tg_0))),?_⟩;unfold zma
  have h1:oIx (.list (((List.range m).map λi:Nat=>zcm (uncV V) P (qs.take k) (i:Int)).map int)) (.int q.1)=some (.int (zcm (uncV V) P (qs.take k) (a:Int))):=by
   rw[ha];exact za0 (by rw[Qe,Qe,QX ham];rfl)
  have h2:oIx (.list (((List.range n).map P).map int)) (.int q.2)=some (.int (P t)):=by
   rw[ht];exact za0 (by rw[Qe,Qe,QX htn];rfl)
  refine zbl (zfm (zaV (zab (zdZ rfl (zad rfl) rfl h1) (zab (zap (zad rfl) (za6 rfl (zad rfl) h2) zbZ) zai)) zlB) rfl (zad rfl) rfl ⟨hb.1,by rw[Qb,Qb,Qu];exact hb.2.1⟩ rfl) (zaW ⟨some (.pub (.int q.1)),some (.pub (.int q.2)),some (.pub (.int (V q.1 q.2))),?_⟩)
  have e:∀i:Nat,zcm (uncV V) P (qs.take (k+1)) (i:Int)=if q.1=(i:Int) then max (zcm (uncV V) P (qs.take k) (i:Int)) (uncV V q-P q.2.toNat) else zcm (uncV V) P (qs.take k) (i:Int):=λi=>by
   unfold zcm;rw[List.take_add_one,hq,List.foldl_append]
   rfl
  have e2:((((List.range m).map λi:Nat=>zcm (uncV V) P (qs.take k) (i:Int)).map int).set q.1.toNat (.int (if V q.1 q.2-P t > zcm (uncV V) P (qs.take k) (a:Int) then V q.1 q.2-P t else zcm (uncV V) P (qs.take k) (a:Int))))=((List.range m).map λi:Nat=>zcm (uncV V) P (qs.take (k+1)) (i:Int)).map int:=by
   apply List.ext_getElem
   ·rw[Q3,Qb,Qb,Qb,Qb]
   ·intro i h1 h2
    have hi:i<m:=by rw[Qb,Qb,Qu] at h2;exact h2
    rw[List.getElem_set,JT,JT,JT,JT,List.getElem_range,e]
    by_cases hia:a=i
    ·subst hia
     rw[Qn (by omega),Qn ha,show q.2.toNat=t by omega]
     congr 1
     show _=max _ (V q.1 q.2-P t)
     split <;> omega
    ·rw[QA (by omega),QA (by omega)]
  rw[←e2]
  rfl
 case hend=>
  rintro Z ⟨x4,x5,x6,rfl⟩;refine zat (zaD (zbD rfl rfl) ?_);rw[Qb,Jz]
abbrev askL(m:Nat)(f:Int×Int->Int)(P:Nat->Int)(qs:LP):List Int:=(List.range m).map λi:Nat=>zcm f P qs (i:Int)
theorem zh2(g:Good cs ls)(hp:zdg cs.length ls.length qs)(hd:zcF cs qs ls.length ws)(hq1:qs.length<=500):F_bi [zaw cs ls,.list (qs.map (zbV V)),zaU ws]=some (papD 1 (askL ls.length (uncV V) (prW cs (uncV V) qs ws) qs) ((List.range cs.length).map (prW cs (uncV V) qs ws))):=by
 refine za3 (Z:=[some (.pub (zaw cs ls)),some (.pub (.list (qs.map (zbV V)))),some (.pub (zaU ws)),none]) rfl ?_;unfold g_bi;have l7:=g.l7;have hll:oLen [.list (ls.map zaC)]=some (.int ls.length):=by rw[zaM,Qb]
 refine zaq (zaS (zav (zab (zad rfl) (zab (zad rfl) (zab (zad rfl) zai))) rfl (zm6 g hp hd hq1)) (Qa rfl) rfl) ?_;exact zaD (zcd (zab zag (zab (zav (zab (zaV (zab (za6 rfl zag zeu) zai) hll) (zab (zad rfl) (zab (zad rfl) zai))) rfl (zp2 hp (by omega) _)) (zab (zad rfl) zai))) (Qa rfl)) rfl
theorem zdE(g:Good cs ls):zdg cs.length ls.length (allW 0 ls) where
 nd:=zew ls 0 λrs hr=>(g.rk rs hr).once
 lo:=λq hq=>by
  have:=zmR g q hq
  exact ⟨this.1.1,this.1.2,this.2.1,this.2.2⟩
theorem zfF{o:Ord}{old:Option LO}{ts:List Int}(g:Good cs ls)(ga:zbK cs.length ls.length old ts):∃ws,F_bj [zaw cs ls,aimD o old ts]=some (.tuple [zaU ws,papD 1 (askL ls.length (uncV (worV ls o old ts)) (prW cs (uncV (worV ls o old ts)) (allW 0 ls) ws) (allW 0 ls)) ((List.range cs.length).map (prW cs (uncV (worV ls o old ts)) (allW 0 ls) ws))])/\zcF cs (allW 0 ls) ls.length ws/\zh0 cs (uncV (worV ls o old ts)) (allW 0 ls) ws:=by
 have hq:=zp1 g;have l7:=g.l7;obtain ⟨d,hb,ws,rfl,hd,hst⟩:=zkt (V:=worV ls o old ts) g (zdE g) (by omega) (M:=18446744073709551616) (by decide) (λq hq=>Int.le_of_lt (zeV g ga hq).2) (by omega)
 refine ⟨ws,?_,hd,hst⟩;refine za3 (Z:=[some (.pub (zaw cs ls)),some (.pub (aimD o old ts)),none,none]) rfl ?_;unfold g_bj;refine zaq (zaS (zav (zab (zad rfl) (zab (zad rfl) zai)) rfl (zgQ g ga)) (Qa rfl) rfl) ?_;refine zaq (zaS (zav (zab (zad rfl) (zab (zad rfl) zai)) rfl hb) (Qa rfl) rfl) ?_;exact zaD (zcd (zab (zad rfl) (zab (zav (zab (zad rfl) (zab (zad rfl) (zab (zad rfl) zai))) rfl (zh2 g (zdE g) hd (by omega))) zai)) (Qa rfl)) rfl
end
section
variable{cs:List Int}{ls:L3}{ws:LO}{o:Ord}{old:Option LO}{ts:List Int}
theorem zfG(g:Good cs ls)(dl:Deal cs ls ws):F_bw [zaw cs ls,zaU ws]=some (.bool true):=by
 refine za3 (Z:=[some (.pub (zaw cs ls)),some (.pub (zaU ws)),none,none]) rfl ?_;unfold g_bw;have l7:=g.l7;have hl:=dl.len;have hll:oLen [.list (ls.map zaC)]=some (.int ls.length):=by rw[zaM,Qb]
 have hul:oLen [zaU ws]=some (.int ws.length):=by unfold zaU;rw[zaM,Qb]
 have hne:oNe (.int ws.length) (.int ls.length)=some false:=by rw[zc9,hl];simp
 apply zaG;apply za9
 case h1=>exact zcp (zbY (zbj (zaK (k:=λd=>PyData.bool (isTy d "list")) (x:=zaU ws) (zad rfl)))) (zap (zbc rfl hul) (zaV (zab (za6 rfl zag zeu) zai) hll) hne)
 case h2=>intro h;cases h
 case h3=>
  intro _;refine zbh (zat ?_);apply zaG;apply zby (λi Z=>∃x2 x3,Z=[some (.pub (zaw cs ls)),some (.pub (zaU ws)),x2,x3])
  case h1=>exact zck (zab (zad rfl) zai) zb4
  case h0=>exact ⟨_,_,rfl⟩
  case hst=>
   rintro i d Z hi ⟨x2,x3,rfl⟩;obtain ⟨z,hz,rfl⟩:=zbO hi;rw[Qe] at hz
   cases hwi:ws[i]? with
   |none=>rw[hwi] at hz;cases hz
   |some o=>
   rw[hwi] at hz;cases hz;have hil:i<ls.length:=by have:=(Qg.mp hwi).1;omega
   have hls:ls[i]?=some ls[i]:=Qf hil;rw[Q4];refine ⟨_,tg_T rfl (tg_C (tg_N (Qa rfl) rfl) (tg_C (tg_N (Qa rfl) rfl) tg_0)),?_⟩;unfold zl8
   cases o with
   |none=>
    apply zaG;apply za9
    case h1=>exact zgv (zaK (k:=λd=>!isNon d) (x:=PyData.none) (zad rfl))
    case h2=>intro h;cases h
    case h3=>
     intro _;refine zbh (zat ?_);apply za9
     case h1=>exact zgv (zaK (k:=λd=>!isNon d) (x:=PyData.none) (zad rfl))
     case h2=>intro h;cases h
     case h3=>exact λ_=>zbh (zaW ⟨_,_,rfl⟩)
   |some t=>
    have htm:=dl.wish i t _ hwi hls;have gr:=g.rk ls[i] (Qp hls);have ht:=gr.flat t htm
    have hfl:(ls[i]).flatten.length<64:=by
     have:=zdy cs.length _ gr.once gr.flat
     have:=g.c6
     omega
    apply zaG;apply za9
    case h1=>exact zgw (zaK (k:=λd=>!isNon d) (x:=int t) (zad rfl)) (zcp (zbY (zbj (zav (zab (zad rfl) zai) rfl (zdc t)))) (zbE rfl (zav (zab (zad rfl) (zab (zad rfl) zai)) rfl (zhH hls hfl)) zkn))
    case h2=>intro h;simp[htm] at h
    case h3=>
     intro _;refine zbh (zat ?_);apply za9
     case h1=>exact zgw (zaK (k:=λd=>!isNon d) (x:=int t) (zad rfl)) (zap (zgr (zad rfl) (zab (zad rfl) zai) zf4) (zap (za6 rfl zag zfK) (zad rfl) (ix_c ht.1 ht.2)) rfl)
     case h2=>
      intro h;have h:=Qa h;obtain ⟨k,rfl⟩:∃k:Nat,t=k:=⟨t.toNat,by omega⟩
      have hc:=dl.cop k (cs.getD k 0) (by rw[Qr,Qf (show k<cs.length by omega)];rfl)
      rw[Qz] at h;omega
     case h3=>exact λ_=>zbh (zaW ⟨_,_,rfl⟩)
  case hend=>
   rintro Z ⟨x2,x3,rfl⟩;exact zat (zaD zag rfl)
theorem zm7(h:zcF cs (allW 0 ls) ls.length ws):Deal cs ls ws where
 len:=h.len
 wish:=λi t rs hw hrs=>by
  obtain ⟨i',rs',h1,h2,h3⟩:=zcw (h.wish i t hw);have h2:(i:Int)=((0+i':Nat):Int):=h2;have hii:i=i':=by omega
  subst hii;rw[hrs] at h1;cases h1;exact h3
 cop:=h.cop
theorem zm8(ls:L3):∀(ws:LO)(l2:L3)(k:Nat),(∀(j:Nat) rs,l2[j]?=some rs->ls.getD (k+j) []=rs)->ws.length=l2.length->totF (uncV (worV ls o old ts)) k ws=sumO (gotW (worW ls o old ts) k l2 ws)
 |[],[],_,_,_=>rfl
 |[],_::_,_,_,h=>by cases h
 |_::_,[],_,_,h=>by cases h
 |x::ws,rs::l2,k,hj,hl=>by
  have ih:=zm8 ls ws l2 (k+1) (λj r h=>by rw[show k+1+j=k+(j+1) by omega];exact hj (j+1) r h) (by simpa using hl)
  show hadO _ k x+totF _ (k+1) ws=sumO (x.map (worW ls o old ts k rs)::gotW _ (k+1) l2 ws);rw[zhM,ih]
  congr 1
  cases x with
  |none=>rfl
  |some t=>
   show worV ls o old ts (k:Int) t=worW ls o old ts k rs t;unfold worV;rw[Qz,show ls.getD k []=rs from hj 0 rs rfl]
theorem zm9{M:Int}(h0:0<=M):∀(w:List Stp),(∀s∈w,s.g<=M)->gain w<=w.length*M
 |[],_=>by show (0:Int)<=0*M;omega
 |s::w,h=>by
  have ih:=zm9 h0 w λx hx=>h x (Qk _ hx);have h1:=h s Qm;show (List.sum (s.g::w.map Stp.g))<=((w.length+1:Nat):Int)*M;rw[Ua,Int.natCast_add,Int.add_mul]
  have:(w.map Stp.g).sum=gain w:=rfl
  omega
theorem zh3(g:Good cs ls)(ga:zbK cs.length ls.length old ts){i:Nat}{x:Option Int}(h:∀t,x=some t->((i:Int),t)∈allW 0 ls):0<=hadO (uncV (worV ls o old ts)) i x/\hadO (uncV (worV ls o old ts)) i x<18446744073709551616:=by
 cases x with
 |none=>exact ⟨QT 0,by show (0:Int)<_;omega⟩
 |some t=>exact zeV g ga (h t rfl)
theorem zp3(g:Good cs ls)(ga:zbK cs.length ls.length old ts)(hd:zcF cs (allW 0 ls) ls.length ws){s:Stp}(h:IsSt cs (uncV (worV ls o old ts)) (allW 0 ls) ws s):s.g<=18446744073709551616:=by
 cases h with
 |@mv i x x' h hne hq=>
  have h1:=zh3 (o:=o) g ga hq;have h2:=zh3 (o:=o) g ga (i:=i) (x:=x) λt e=>hd.wish i t (by rw[h,e])
  show _-_<=_;omega
 |left h hl=>show (0:Int)<=_;omega
 |give h=>show (0:Int)<=_;omega
theorem zna(g:Good cs ls)(ga:zbK cs.length ls.length old ts)(hd:zcF cs (allW 0 ls) ls.length ws)(p:Nat):0<=prW cs (uncV (worV ls o old ts)) (allW 0 ls) ws p/\prW cs (uncV (worV ls o old ts)) (allW 0 ls) ws p<=7*18446744073709551616:=by
 have hp:=zdE g;have hS:∀s∈zdt cs (uncV (worV ls o old ts)) (allW 0 ls) ws,s.a<cs.length+1/\s.b<cs.length+1:=λs hs=>(zdD hp hd s hs).lt hp hd;have c6:=g.c6;constructor
 ·have:=zfC hS (JG (cs.length+1)) p
  rw[zdA hS] at this;exact this
 ·obtain ⟨hw,hg⟩:=zcY hS (cs.length+1) p
  have hlen:=(zcX hS (cs.length+1)).1 p;obtain ⟨q,hpath⟩:=hw.path
  have:=zm9 (M:=18446744073709551616) (by decide) _ λs hs=>zp3 g ga hd (zdD hp hd s (hpath.mem s hs))
  unfold prW;rw[←hg];omega
theorem zh4(g:Good cs ls)(ga:zbK cs.length ls.length old ts){P:Nat->Int}(h0:∀p,0<=P p)(i:Int):∀(qs:LP),(∀q∈qs,q∈allW 0 ls)->∀a:Int,0<=a->a<=18446744073709551616->0<=qs.foldl (λa q=>if q.1=i then max a (uncV (worV ls o old ts) q-P q.2.toNat) else a) a/\qs.foldl (λa q=>if q.1=i then max a (uncV (worV ls o old ts) q-P q.2.toNat) else a) a<=18446744073709551616
 |[],_,a,h1,h2=>⟨h1,h2⟩
 |q::qs,hq,a,h1,h2=>by
  have hb:=zeV (o:=o) g ga (hq q Qm);have hb:uncV (worV ls o old ts) q<18446744073709551616:=hb.2;have hp:=h0 q.2.toNat;rw[JJ];refine zh4 g ga h0 i qs (λx hx=>hq x (Qk _ hx)) _ ?_ ?_ <;> split <;> omega
def Ez(n b:Nat)(d:D):Prop:=d.canLay0=true/\d.leavesShort 80=true/\d.showable=true/\d.depth<=n/\d.bulk<=b/\PyData.strOk d.shown=true
theorem zop(s:String):PyData.strOk (Str.ofString s)=true:=by
 rw[PySem.Str.ofString_eq_toList];unfold PyData.strOk;rw[←Array.all_toList,QW];intro x hx;obtain ⟨c,_,rfl⟩:=Qt.mp hx;have h:=c.valid;refine Q9 ?_;show c.val.toNat<_;rcases h with h|h
 ·have:c.val.toNat<0xd800:=h
  omega
 ·exact h.2
theorem ziW{i:Int}(h:i.natAbs<10 ^ 60):Ez 0 0 (.int i):=by
 have hb:(10:Nat) ^ 60<2 ^ 240:=by decide +kernel
 refine ⟨rfl,?_,?_,by simp[PyData.depth],Nat.le_refl 0,?_⟩
 ·simp only[PyData.leavesShort,decide_eq_true_eq]
  show (Str.ofString (toString i)).length<=80;rw[PySem.ofString_length]
  have:=PySem.int_text_length_le10 (a:=i) (k:=60) (by decide) h
  omega
 ·simp only[PyData.showable,decide_eq_true_eq]
  by_cases z:i.natAbs=0
  ·rw[z];decide
  ·have:=(Nat.log2_lt z).mpr (show i.natAbs<2 ^ 240 by omega)
   omega
 ·exact zop (toString i)
theorem zej{n b n' b':Nat}{d:D}(h:Ez n b d)(h1:n<=n')(h2:b<=b'):Ez n' b' d:=⟨h.1,h.2.1,h.2.2.1,QH h.2.2.2.1 h1,QH h.2.2.2.2.1 h2,h.2.2.2.2.2⟩
theorem zjD{n b m:Nat}{xs:List D}(h:∀x∈xs,Ez n b x)(hm:xs.length<=m):Ez (n+1) (m*(b+1)) (.list xs):=by
 refine ⟨zb1 λx hx=>(h x hx).1,zcD λx hx=>(h x hx).2.1,zcU λx hx=>(h x hx).2.2.1,zet (zb2 λx hx=>(h x hx).2.2.2.1),?_,zdb λx hx=>(h x hx).2.2.2.2.2⟩
 have:=zcV (n:=b) (xs:=xs) λx hx=>(h x hx).2.2.2.2.1
 exact QH this (Nat.mul_le_mul_right _ hm)
theorem znb{n b m:Nat}{xs:List D}(h:∀x∈xs,Ez n b x)(hm:xs.length<=m)(ht:PyData.strOk (PyData.tuple xs).shown=true):Ez (n+1) (m*(b+1)) (.tuple xs):=by
 refine ⟨zb1 λx hx=>(h x hx).1,zcD λx hx=>(h x hx).2.1,zcU λx hx=>(h x hx).2.2.1,?_,?_,ht⟩
 ·have:=zb2 (n:=n) λx hx=>(h x hx).2.2.2.1
  simp only[PyData.depth];omega
 ·have:=zcV (n:=b) (xs:=xs) λx hx=>(h x hx).2.2.2.2.1
  exact QH this (Nat.mul_le_mul_right _ hm)
theorem zjE{m:Nat}{xs:List Int}(h:∀t∈xs,0<=t/\t<=200000000000000000000)(hm:xs.length<=m):Ez 1 m (.list (xs.map int)):=by
 have:=zjD (n:=0) (b:=0) (m:=m) (xs:=xs.map int) (λx hx=>by obtain ⟨t,ht,rfl⟩:=Qt.mp hx;exact ziW (Nat.lt_of_le_of_lt (show t.natAbs<=200000000000000000000 by have:=h t ht;omega) (by decide))) (by rw[Qb];exact hm)
 exact zej this (Qs _) (by omega)
theorem zoq(g:Good cs ls)(dl:Deal cs ls ws):Ez 1 7 (zaU ws):=by
 have l7:=g.l7;have hl:=dl.len;have c6:=g.c6
 have:=zjD (n:=0) (b:=0) (m:=7) (xs:=ws.map optD) (λx hx=>by
  obtain ⟨z,hz,rfl⟩:=Qt.mp hx
  cases z with
  |none=>exact ⟨rfl,rfl,rfl,by show PyData.depth .none<=0;simp[PyData.depth],Nat.le_refl 0,by decide +kernel⟩
  |some t=>
   obtain ⟨i,hi,e⟩:=List.mem_iff_getElem.mp hz;have hil:i<ls.length:=by omega
   have hls:ls[i]?=some ls[i]:=Qf hil
   have:=(g.rk _ (Qp hls)).flat t (dl.wish i t _ (by rw[Qf hi,e]) hls)
   exact ziW (Nat.lt_of_le_of_lt (show t.natAbs<=6 by omega) (by decide))) (by rw[Qb];omega)
 exact zej this (Qs _) (by omega)
theorem mem3{P:D->Prop}{a b c:D}(h1:P a)(h2:P b)(h3:P c):∀x∈[a,b,c],P x:=λx hx=>by
 have hx:x=a∨x=b∨x=c:=by simpa using hx
 rcases hx with rfl|rfl|rfl
 ·exact h1
 ·exact h2
 ·exact h3
theorem mem2{P:D->Prop}{a b:D}(h1:P a)(h2:P b):∀x∈[a,b],P x:=λx hx=>by
 have hx:x=a∨x=b:=by simpa using hx
 rcases hx with rfl|rfl
 ·exact h1
 ·exact h2
theorem znc(g:Good cs ls)(dl:Deal cs ls ws){as ps:List Int}(ha:∀t∈as,0<=t/\t<=200000000000000000000)(hp:∀t∈ps,0<=t/\t<=200000000000000000000)(hla:as.length<=7)(hlp:ps.length<=7):Ez 3 1000 (.tuple [zaU ws,papD 1 as ps]):=by
 have e1:=zjE ha hla;have e2:=zjE hp hlp;have e0:Ez 1 7 (.int 1):=zej (ziW (by decide)) (by decide) (by decide)
 have t1:PyData.strOk (papD 1 as ps).shown=true:=by
  show PyData.strOk (("(" : Str)++(_ ++ ", " ++ (_ ++ ", " ++ _)) ++ ")")=true
  exact zaH (zaH (by decide +kernel) (zaH (zaH e0.2.2.2.2.2 (by decide +kernel)) (zaH (zaH e1.2.2.2.2.2 (by decide +kernel)) e2.2.2.2.2.2))) (by decide +kernel)
 have e3:Ez 2 24 (papD 1 as ps):=znb (m:=3) (mem3 e0 e1 e2) (Qs _) t1;have e4:=zej (n':=2) (b':=24) (zoq g dl) (by decide) (by decide)
 refine zej (znb (m:=2) (mem2 e4 e3) (Qs _) ?_) (by decide) (by decide)
 show PyData.strOk (("(" : Str)++(_ ++ ", " ++ _) ++ ")")=true
 exact zaH (zaH (by decide +kernel) (zaH (zaH e4.2.2.2.2.2 (by decide +kernel)) t1)) (by decide +kernel)
theorem zor{n b:Nat}{d:D}(h:Ez n b d)(hn:n<=50)(hb:b<=10000):zfq [d]=some (.str d.shown):=by
 obtain ⟨h1,h2,h3,h4,h5,h6⟩:=h;refine zjj ⟨h1,h3,PyData.hasDict_of_canLay _ h1,by omega,?_⟩
 have:=PyData.shown_le_bulk 80 (by decide) _ h2
 omega
theorem zjF{n:Nat}{xs:List Int}(hl:xs.length=n)(hn:n<=1000):F_bu [.list (xs.map int),.int n]=some (.bool true):=by
 refine za3 (Z:=[some (.pub (.list (xs.map int))),some (.pub (.int n))]) rfl ?_;unfold g_bu;have hne:oNe (.int (xs.map int).length) (.int n)=some false:=by rw[zc9,List.length_map,hl];simp
 apply zaG
 refine za9 (b:=false) (Z1:=[some (.pub (.list (xs.map int))),some (.pub (.int n))]) (zcp (zbY (zbj (zaK (k:=λd=>PyData.bool (isTy d "list")) (x:=PyData.list (xs.map int)) (zad rfl)))) (zap (zbc rfl zaM) (zad rfl) hne)) (λz=>by cases z) λ_=>zbh (zat ?_)
 have hc:zbG (gN 2) (zah true) (dFun 1 F_bt (zae (dVar 2) (mNil))) (xs.map int) (zaP [some (.pub (.list (xs.map int))),some (.pub (.int n))]++replicate 1 none) []=some ([]++(xs.map λ_=>true).map PyData.bool):=by
  refine zbv (λZ=>∃x,Z=[some (.pub (.list (xs.map int))),some (.pub (.int n)),x]) _ _ _ _ (by rw[Qb,Qb,Qb]) ?_ ⟨none,rfl⟩ (by rw[QE,Qb];omega)
  rintro i d e hd he Z ⟨x,rfl⟩;rw[Qe] at hd he;rw[Qe] at he
  cases hx:xs[i]? with
  |none=>rw[hx] at hd;cases hd
  |some t=>
  rw[hx] at hd he;cases hd;cases he;exact ⟨_,tg_N (Qa rfl) rfl,rfl,zav (zab (zad rfl) zai) rfl (zdc t),_,rfl⟩
 refine zaD (zaV (zab (zaK (zbw (zaQ (zad rfl) zbm) hc)) zai) zlD) ?_
 have:xs.all (id ∘ λ_=>true)=true:=QW.mpr λ_ _=>rfl
 rw[List.all_map,this]
theorem zp4{V:Int->Int->Int}{qs:LP}{as ps:List Int}(g:Good cs ls)(hq:∀q∈qs,(0<=q.1/\q.1<ls.length)/\0<=q.2/\q.2<cs.length)(hV:∀q∈qs,0<=V q.1 q.2/\V q.1 q.2<18446744073709551616)(ok:OkP cs.length ls.length V qs 1 as ps):F_bz [zaw cs ls,wtD V qs,papD 1 as ps]=some (.bool true):=by
 refine za3 (Z:=[some (.pub (zaw cs ls)),some (.pub (wtD V qs)),some (.pub (papD 1 as ps)),none,none]) rfl ?_;unfold g_bz;have l1:=g.l1;have c6:=g.c6;have l7:=g.l7;have hal:=ok.la;have hpl:=ok.lp;have i0:oIx (papD 1 as ps) (.int 0)=some (.int 1):=za0 (j:=0) rfl;have i1:oIx (papD 1 as ps) (.int 1)=some (.list (as.map int)):=za0 (j:=1) rfl;have i2:oIx (papD 1 as ps) (.int 2)=some (.list (ps.map int)):=za0 (j:=2) rfl;have hll:oLen [.list (ls.map zaC)]=some (.int ls.length):=by rw[zaM,Qb]
 have hlc:oLen [.list (cs.map int)]=some (.int cs.length):=by rw[zaM,Qb]
 apply zaG
 refine za9 (b:=false) (Z1:=[some (.pub (zaw cs ls)),some (.pub (wtD V qs)),some (.pub (papD 1 as ps)),none,none]) (zcp (zbY (zbj (zaK (k:=λd=>PyData.bool (isTy d "tuple")) (x:=papD 1 as ps) (zad rfl)))) (zap (zbc rfl zgu) zag (by rw[zc9];rfl))) (λz=>by cases z) λ_=>zbh (zat ?_)
 apply zaG;refine za9 (b:=false) (Z1:=[some (.pub (zaw cs ls)),some (.pub (wtD V qs)),some (.pub (papD 1 as ps)),none,none]) (zcp (zbY (zbj (zav (zab (za6 rfl zag i0) zai) rfl (zdc 1)))) (zap (za6 rfl zag i0) zag rfl)) (λz=>by cases z) λ_=>zbh (zat ?_)
 apply zaG;refine za9 (b:=false) (Z1:=[some (.pub (zaw cs ls)),some (.pub (wtD V qs)),some (.pub (papD 1 as ps)),none,none]) (zcp (zbY (zbj (zav (zab (za6 rfl zag i1) (zab (zaV (zab (za6 rfl zag zeu) zai) hll) zai)) rfl (zjF hal (by omega))))) (zbY (zbj (zav (zab (za6 rfl zag i2) (zab (zaV (zab (za6 rfl zag zfK) zai) hlc) zai)) rfl (zjF hpl (by omega)))))) (λz=>by cases z) λ_=>zbh (zat ?_)
 have hadd:oAdd (.list (as.map int)) (.list (ps.map int))=some (.list ((as++ps).map int)):=by
  rw[QF];exact zb3 (by rw[Qb,Qb];omega)
 have hne:0<(as++ps).length:=by rw[Ql];omega
 have hmin:0<=zdJ (as++ps):=by
  rcases QS.mp (zft hne) with h|h
  ·exact ok.aa _ h
  ·exact ok.pp _ h
 have hlt:oIB (λi j=>decide (i<j)) (.int (zdJ (as++ps))) (.int 0)=some false:=by
  show some (decide (zdJ (as++ps)<0))=_;rw[QQ (by omega)]
 apply zaG;refine za9 (b:=false) (Z1:=[some (.pub (zaw cs ls)),some (.pub (wtD V qs)),some (.pub (papD 1 as ps)),none,none]) (zap (zaV (zab (zap (za6 rfl zag i1) (za6 rfl zag i2) hadd) zai) (zn2 hne)) zag hlt) (λz=>by cases z) λ_=>zbh (zat ?_)
 apply zaG;apply zby (λj Z=>∃x y,Z=[some (.pub (zaw cs ls)),some (.pub (wtD V qs)),some (.pub (papD 1 as ps)),x,y])
 case h1=>exact zpY (zad rfl) zpX
 case h0=>exact ⟨none,none,rfl⟩
 case hst=>
  rintro j d Z hj ⟨x,y,rfl⟩;rw[Qe] at hj
  cases hz:qs[j]? with
  |none=>rw[hz] at hj;cases hj
  |some q=>
  rw[hz] at hj;cases hj;have hqm:=Qp hz;have hin:=hq q hqm;have hv:=hV q hqm;have hle:=ok.le q hqm
  have hcmp:oIB (λi j=>decide (i<j)) (.int (as.getD q.1.toNat 0+ps.getD q.2.toNat 0)) (.int (1*V q.1 q.2))=some false:=by
   show some (decide (_<1*V q.1 q.2))=_;rw[QQ (by omega)]
  refine ⟨_,tg_T rfl (tg_C (tg_N (Qa rfl) rfl) (tg_C (tg_N (Qa rfl) rfl) tg_0)),?_⟩;unfold zl9;exact za9 (b:=false) (Z1:=[some (.pub (zaw cs ls)),some (.pub (wtD V qs)),some (.pub (papD 1 as ps)),some (.pub (.int q.1)),some (.pub (.int q.2))]) (zap (zap (zap (za6 rfl zag i1) (zad rfl) (zmS hin.1.1 (by omega))) (zap (za6 rfl zag i2) (zad rfl) (zmS hin.2.1 (by omega))) zaN) (zap (za6 rfl zag i0) (zap (zad rfl) (zcd (zab (zad rfl) (zab (zad rfl) zai)) (Qa rfl)) (zoX hqm)) (zcI (by omega) (by omega))) hcmp) (λz=>by cases z) λ_=>zbh (zaW ⟨_,_,rfl⟩)
 case hend=>
  rintro Z ⟨x,y,rfl⟩;exact zat (zaD zag rfl)
theorem zh5(g:Good cs ls)(ga:zbK cs.length ls.length old ts)(dl:Deal cs ls ws){as ps:List Int}(ok:OkP cs.length ls.length (worV ls o old ts) (allW 0 ls) 1 as ps)(hc:zfz cs as ps=sumO (gotW (worW ls o old ts) 0 ls ws)):F_cc [zaw cs ls,wtD (worV ls o old ts) (allW 0 ls),.tuple [zaU ws,papD 1 as ps]]=some (.bool true):=by
 have l7:=g.l7;have c6:=g.c6
 have hs:F_cb [zaw cs ls,wtD (worV ls o old ts) (allW 0 ls),zaU ws,papD 1 as ps]=some (.bool true):=by
  refine za3 (Z:=[some (.pub (zaw cs ls)),some (.pub (wtD (worV ls o old ts) (allW 0 ls))),some (.pub (zaU ws)),some (.pub (papD 1 as ps))]) rfl ?_;unfold g_cb;have hlet:=zp4 g (zmR g) (λq hq=>zeV (o:=o) g ga hq) ok;have hix:oIx (papD 1 as ps) (.int 0)=some (.int 1):=rfl;have heq:oEq (.int (zfz cs as ps)) (.int (sumO (gotW (worW ls o old ts) 0 ls ws)))=some true:=by rw[zcl,hc];simp
  apply zaG;apply za9
  case h1=>exact zcp (zbY (zbj (zav (zab (zad rfl) (zab (zad rfl) zai)) rfl (zfG g dl)))) (zbY (zbj (zav (zab (zad rfl) (zab (zad rfl) (zab (zad rfl) zai))) rfl hlet)))
  case h2=>intro h;cases h
  case h3=>
   intro _;refine zbh (zat ?_);apply zaG;apply za9
   case h1=>exact zap (za6 rfl zag hix) zag zc9
   case h2=>intro h;simp at h
   case h3=>
    intro _;exact zbh (zat (zaD (zaK (zap (zav (zab (zad rfl) (zab (zad rfl) zai)) rfl (zhR g)) (zav (zab (zad rfl) (zab (zad rfl) zai)) rfl (zkp g dl)) heq)) rfl))
 refine za3 (Z:=[some (.pub (zaw cs ls)),some (.pub (wtD (worV ls o old ts) (allW 0 ls))),some (.pub (.tuple [zaU ws,papD 1 as ps]))]) rfl ?_;unfold g_cc;apply zaG;apply za9
 case h1=>exact zcp (zbY (zbj (zaK (k:=λd=>PyData.bool (isTy d "tuple")) (x:=PyData.tuple [zaU ws,papD 1 as ps]) (zad rfl)))) (zap (zbc rfl zgu) zag zc9)
 case h2=>intro h;simp at h
 case h3=>
  intro _;exact zbh (zat (zaD (zav (zab (zad rfl) (zab (zad rfl) (zab (za6 rfl zag rfl) (zab (za6 rfl zag rfl) zai)))) rfl hs) rfl))
end
theorem zos:∀ns:List Int,ns.length<=63->F_cd [.list (ns.map int)]=some (.bool true):=by
 intro ns hns;refine za3 (Z:=[some (.pub (.list (ns.map int))),none,none,none,none,none,none,none,none]) rfl ?_;unfold g_cd;obtain ⟨r,hr,cs,ls,rfl,g⟩:=ziH (ns:=ns) (by omega) 1
 have l7:=g.l7;have c6:=g.c6;have l1:=g.l1;refine zaq (zaS (zav (zab (zad rfl) (zab zag (zab zag (zab zag (zab zag zai))))) rfl hr) (Qa rfl) rfl) ?_;refine zaq (zaS (zav (zab (zad rfl) zai) rfl (zpT g)) (Qa rfl) rfl) ?_;refine zaq (zbB (zc5 zai (Qa rfl)) (Qa rfl) rfl) ?_;obtain ⟨v0,hv0⟩:=zdr ns 0 (by omega)
 let S0:Option Sl:=some (.pub (.list (ns.map int)))
 let S1:Option Sl:=some (.pub (zaw cs ls))
 apply zaG;apply zby (λi Z=>∃(es:List D)(y4 y5 y6 y7 y8:Option Sl),Z=[S0,S1,S1,some (.own es),y4,y5,y6,y7,y8]/\es.length<=i/\∀e∈es,∃f z,e=.tuple [f,.str z]/\zfq [f]=some (.str z)/\PyData.strOk z=true)
 case h1=>exact zck (zab (zap (zbN (zab (zav (zab (zad rfl) (zab zag zai)) rfl hv0) zai) (Qa rfl)) (zd3 (zad rfl) (zb9 zag) (zb9 zag) zcu) (zmN (by omega))) zai) zb4
 case h0=>exact ⟨[],_,_,_,_,_,rfl,Qs _,λe h=>by cases h⟩
 case hst=>
  rintro i d Z hi ⟨es,y4,y5,y6,y7,y8,rfl,hel,hes⟩
  have hil:i<=1000:=by
   have:=(Qg.mp hi).1
   rw[zaF,QK] at this;unfold DL.cutD at this;rw[QP,Ji,Qb] at this;omega
  obtain ⟨x,hx,rfl⟩:=zbO hi;obtain ⟨c,rfl⟩:=zmM hx;rw[Q4];refine ⟨_,tg_T rfl (tg_C (tg_N (Qa rfl) rfl) (tg_C (tg_N (Qa rfl) rfl) tg_0)),?_⟩;unfold zms;obtain ⟨r,ha,o,old,ts,rfl,ga⟩:=zob g c (5+(i:Int));have hrp:=zoe (o:=o) ga c6 l7;have hrn:oNe (.str (aimD o old ts).shown) (.str (aimD o old ts).shown)=some false:=zmF (ziP ga c6 l7) (by simp[PyData.depth])
  obtain ⟨ws,hbd,hdq,hst⟩:=zfF (o:=o) g ga;have hp:=zdE g;obtain ⟨ok,hcl⟩:=zon hp hdq (zdD hp hdq) (zmZ hp hdq) (V:=prW cs (uncV (worV ls o old ts)) (allW 0 ls) ws) (λ_=>rfl) hst;have dl:=zm7 hdq;rw[zm8 ls ws ls 0 (λj rs h=>by rw[Q4,Qr,h];rfl) dl.len] at hcl
  have hpr:=zna (o:=o) g ga hdq
  have rp:∀t∈(List.range cs.length).map (prW cs (uncV (worV ls o old ts)) (allW 0 ls) ws),0<=t/\t<=200000000000000000000:=λt ht=>by
   obtain ⟨p,_,rfl⟩:=Qt.mp ht
   have:=hpr p
   omega
  have ra:∀t∈askL ls.length (uncV (worV ls o old ts)) (prW cs (uncV (worV ls o old ts)) (allW 0 ls) ws) (allW 0 ls),0<=t/\t<=200000000000000000000:=λt ht=>by
   obtain ⟨p,_,rfl⟩:=Qt.mp ht
   have:=zh4 (o:=o) g ga (λp=>(hpr p).1) (p:Int) (allW 0 ls) (λq h=>h) 0 (QT 0) (by decide)
   unfold zcm;omega
  have la:(askL ls.length (uncV (worV ls o old ts)) (prW cs (uncV (worV ls o old ts)) (allW 0 ls) ws) (allW 0 ls)).length=ls.length:=ok.la;have lp:((List.range cs.length).map (prW cs (uncV (worV ls o old ts)) (allW 0 ls) ws)).length=cs.length:=ok.lp;have ok:OkP cs.length ls.length (worV ls o old ts) (allW 0 ls) 1 (askL ls.length (uncV (worV ls o old ts)) (prW cs (uncV (worV ls o old ts)) (allW 0 ls) ws) (allW 0 ls)) ((List.range cs.length).map (prW cs (uncV (worV ls o old ts)) (allW 0 ls) ws)):=ok;have hcl:zfz cs (askL ls.length (uncV (worV ls o old ts)) (prW cs (uncV (worV ls o old ts)) (allW 0 ls) ws) (allW 0 ls)) ((List.range cs.length).map (prW cs (uncV (worV ls o old ts)) (allW 0 ls) ws))=_:=hcl;generalize askL ls.length (uncV (worV ls o old ts)) (prW cs (uncV (worV ls o old ts)) (allW 0 ls) ws) (allW 0 ls)=as at *;generalize (List.range cs.length).map (prW cs (uncV (worV ls o old ts)) (allW 0 ls) ws)=ps at *;have ez:=znc g dl ra rp (by omega) (by omega)
  have hrf:=zor ez (by decide) (by decide)
  have hix1:oIx (.tuple [zaU ws,papD 1 as ps]) (.int 1)=some (papD 1 as ps):=rfl;have hixa:oIx (papD 1 as ps) (.int 1)=some (.list (as.map int)):=rfl;have hixp:oIx (papD 1 as ps) (.int 2)=some (.list (ps.map int)):=rfl
  have hadd:oAdd (.list (as.map int)) (.list (ps.map int))=some (.list ((as++ps).map int)):=by
   rw[zb3 (by rw[Qb,Qb];omega),QF]
  have hne:0<(as++ps).length:=by rw[Ql];omega
  have hmm:=zdX hne
  have hmr:most (as++ps)<=200000000000000000000:=by
   rcases QS.mp hmm with h|h
   ·exact (ra _ h).2
   ·exact (rp _ h).2
  refine zaq (zaS (zav (zab (zad rfl) (zab (zad rfl) (zab (zap zag (zad rfl) zaN) zai))) rfl ha) (Qa rfl) rfl) ?_;refine zaq (zaS (zaV (zab (zad rfl) zai) hrp) (Qa rfl) rfl) ?_;refine zaq (zaS (zav (zab (zad rfl) (zab (zad rfl) zai)) rfl hbd) (Qa rfl) rfl) ?_;apply zaG;apply za9
  case h1=>exact zcp (zbY (zbj (zav (zab (zad rfl) (zab (zav (zab (zad rfl) (zab (zad rfl) zai)) rfl (zgR g ga)) (zab (zad rfl) zai))) rfl (zh5 g ga dl ok hcl)))) (zap (zaV (zab (zad rfl) zai) hrp) (zad rfl) hrn)
  case h2=>intro h;cases h
  case h3=>
   intro _;refine zbh (zat ?_)
   have hcmp:oIB (λi j=>decide (j<=i)) (.int (most (as++ps))) (.int ((10:Int) ^ (40:Int).toNat))=some false:=by
    show some (decide ((10:Int) ^ (40:Int).toNat<=most (as++ps)))=_;rw[QQ]
    have:(200000000000000000000:Int)<(10:Int) ^ (40:Int).toNat:=by decide +kernel
    omega
   apply zaG;apply za9
   case h1=>exact zap (zaV (zab (zap (zap (za6 rfl zag hix1) zag hixa) (zap (za6 rfl zag hix1) zag hixp) hadd) zai) (zgp hne)) (zap zag zag (zlA ⟨by decide,by decide,by decide⟩)) hcmp
   case h2=>intro h;cases h
   case h3=>
    intro _;refine zbh (zat ?_);refine zbl (zd1 rfl (zcd (zab (zad rfl) (zab (zaV (zab (zad rfl) zai) hrf) zai)) (Qa rfl)) rfl (by omega) rfl) (zaW ⟨es++[.tuple [.tuple [zaU ws,papD 1 as ps],.str (PyData.tuple [zaU ws,papD 1 as ps]).shown]],_,_,_,_,_,rfl,by rw[Ql];show _+1<=_;omega,λe he=>?_⟩)
    rcases QS.mp he with h|h
    ·exact hes e h
    ·exact ⟨_,_,Q0.mp h,hrf,ez.2.2.2.2.2⟩
 case hend=>
  rintro Z ⟨es,y4,y5,y6,y7,y8,rfl,hel,hes⟩;refine zat ?_;apply zaG;apply zby (λ_ Z=>∃(x3:Option Sl)(y4 y5 y6 y7 y8:Option Sl),Z=[S0,S1,S1,x3,y4,y5,y6,y7,y8])
  case h1=>exact zaQ (zbD rfl rfl) zbm
  case h0=>exact ⟨_,_,_,_,_,_,rfl⟩
  case hst=>
   rintro i d Z hi ⟨x3,y4,y5,y6,y7,y8,rfl⟩;obtain ⟨f,z,rfl,hf,hz⟩:=hes d (Qp hi);refine ⟨_,tg_T rfl (tg_C (tg_N (Qa rfl) rfl) (tg_C (tg_N (Qa rfl) rfl) tg_0)),?_⟩;unfold zmr;apply za9
   case h1=>exact zap (zaV (zab (zad rfl) zai) hf) (zad rfl) (zmF hz (by simp[PyData.depth]))
   case h2=>intro h;cases h
   case h3=>exact λ_=>zbh (zaW ⟨_,_,_,_,_,_,rfl⟩)
  case hend=>
   rintro Z ⟨x3,y4,y5,y6,y7,y8,rfl⟩;exact zat (zaD (zaK (zbE rfl (zad rfl) (zpV (zn4 cs ls) (zn5 cs ls)))) rfl)
end W
open PySem PySem.W PyProof.Rows
set_option maxRecDepth 100000 in
set_option maxHeartbeats 0 in
theorem PySem.Challenge.cw_wishdeal_k41_a_best_dealing_holds : PySem.Challenge.rw_wishdeal_k41_a_best_dealing.Holds := by
 w_on;o_law
 refine holds_open (q:=W.q0) (loose:=[]) (Xt:=λs=>xlAt W.q0 [] s&&recOk [] s) (XP:=XL W.q0 []) (Yf:=Hook.obs .none) (Ya:=Hook.val .none) (YP:=Hook.says .none) (N:=5256) (d:=W.d_cd) (kwd:=[])
  W.zrA (Hook.of .none) (Hook.keeps .none) (λs e=>xl_of s (Bool.and_eq_true_iff.mp e).1) XL.keeps (by rfl) (by rfl) (by rfl)
  (λs e=>recFacts_of (Bool.and_eq_true_iff.mp e).2) (by rfl) (by assumption) (by decide +kernel) ⟨rfl,rfl,rfl,rfl,rfl,by decide +kernel⟩ ?hw (W.walk W.zos)
 case hw=>w_witness2

